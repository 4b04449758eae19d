import PyProof.Rows.All
import Wide.All
import OpenK.AllK
import Wide.FinOn
import KE.GoesMore
import KE.KDictZip
import PyProof.ListNew
import PyProof.SeqWrite
import KE.GoesEnum
import HandS.ForMost
import HandS.Zip
import PyProof.ReprRoads
import HandS.Wide
import HandS.IsInst
import HandS.TupAny
import HandS.NoneIn
import HandS.Flow
import HandS.Conv
import HandS.Walk
import HandS.ExcValue
import HandS.Style
import HandS.Dict
import HandS.DictComp
import HandS.Deep
import KE.DataMinMax
import PySem.Challenge.RW_crosslocks_k90_whole_wakings_and_the_way
set_option Elab.async false
set_option linter.all false
set_option maxRecDepth 100000
namespace XL
open PySem PyProof.Rows
section
variable {prog : Program} {w : World} {A : Around} {E : Value → Shared → Prop} {s : Shared} {z TI TO T i1 i2 : Addr}
variable {fp1 fp2 : List Addr} {n1 n2 i : Nat} {P1 P2 : Nat → Value → Prop} {St1 St2 : Nat → Heap → Prop} {a1 a2 : Value} {f : Bool} {oT : Obj}

/-- one more pair while the one given out before is held -/
theorem held_item {Q : Value → Shared → Prop} (S : ZipSep2 z TI TO i1 i2 fp1 fp2)
    (D1 : Draws prog w A i1 fp1 n1 P1 St1) (D2 : Draws prog w A i2 fp2 n2 P2 St2)
    (hz : IsZipHeld s.heap z TI TO T f) (hT : s.heap.get? T = some oT) (hTI : IsTupOf2 s.heap TI (.ref i1) (.ref i2))
    (st1 : St1 i s.heap) (st2 : St2 i s.heap) (l1 : i < n1) (l2 : i < n2)
    (hQ : ∀ x1 x2 h' tk, P1 i x1 → P2 i x2 → IsZipHeld h' z TI TO T true → St1 (i + 1) h' → St2 (i + 1) h' →
      IsTupOf2 h' s.heap.objs.size x1 x2 → h'.objs.size = s.heap.objs.size + 1 →
      (∀ c o, c ≠ z → c ≠ i1 → c ≠ i2 → s.heap.get? c = some o → h'.get? c = some o) →
      Q (.ref s.heap.objs.size) { s with heap := h', toks := tk }) :
    wpAny (model prog w) A (Builtin.«zip.__next__» ⟨[.ref z], []⟩) (fun fin s' => ∃ v, fin = .done (.ret v) ∧ Q v s') E s := by
  obtain ⟨hp, g, d, tk0, os⟩ := s
  show wpAny _ _ (field (.ref z) 2 >>= _) _ _ _
  refine wpAny_bind (wpAny_field hz rfl (x := .bool false) rfl ?_); show wpAny _ _ (field (.ref z) 3 >>= _) _ _ _
  refine wpAny_bind (wpAny_field hz rfl (x := .ref TI) rfl ?_); refine wpAny_bind (wpAny_seqItems hTI rfl ?_)
  show wpAny _ _ (Builtin.SmallTypes.ownedTupleIsFree (.ref z) >>= _) _ _ _
  refine wpAny_bind (wpAny_tupleHeld_zip hz hT fun g0 hz0 hs0 => ?_); simp only [Bool.false_eq_true, if_false]; refine wpAny_bind ?_
  replace hs0 : Heap.SameBut z hp g0 := hs0
  rw [← Array.forIn_toList]; simp only [List.forIn_cons, List.forIn_nil]
  refine wpAny_bind (wpAny_bind (wpAny_holding ?_)); show wpAny _ _ (Builtin.SmallTypes.nextOf (.ref i1) >>= _) _ _ ⟨g0, g, d, tk0, os⟩
  refine wpAny_bind (D1.item i _ _ _ l1 (D1.over st1 hs0 S.zf1) fun x1 p1 tk1 hx1 sn1 hp1 => wpAny_pure ?_)
  replace hp1 : Heap.SameBut i1 g0 p1 := hp1
  refine wpAny_pure ?_
  refine wpAny_bind (wpAny_bind (wpAny_holding ?_)); show wpAny _ _ (Builtin.SmallTypes.nextOf (.ref i2) >>= _) _ _ ⟨p1, g, d, tk1, os⟩
  refine wpAny_bind (D2.item i _ _ _ l2 (D2.over (D2.over st2 hs0 S.zf2) hp1 S.sep1_2) fun x2 p2 tk2 hx2 sn2 hp2 => wpAny_pure ?_)
  replace hp2 : Heap.SameBut i2 p1 p2 := hp2
  refine wpAny_pure (wpAny_pure ?_); show wpAny _ _ (newTuple [x1, x2] >>= _) _ _ _
  refine wpAny_bind (wpAny_newTuple ?_)
  have hsz : p2.objs.size = hp.objs.size := by rw [hp2.1, hp1.1, hs0.1]
  have hz2 : IsZipHeld p2 z TI TO T true := hp2.extBut _ _ S.zi2 (hp1.extBut _ _ S.zi1 hz0)
  have hk : ∀ c o, c ≠ z → c ≠ i1 → c ≠ i2 → hp.get? c = some o → p2.get? c = some o := fun c o c0 c1 c2 e =>
    hp2.extBut _ _ c2 (hp1.extBut _ _ c1 (hs0.extBut _ _ c0 e))
  have j1 : St1 (i + 1) p2 := D1.over sn1 hp2 S.sep2_1
  refine wpAny_pure ⟨_, rfl, ?_⟩; show Q (.ref p2.objs.size) _
  have hpr : IsTupOf2 (p2.push { cls := .type "tuple", data := .seq #[x1, x2] }) p2.objs.size x1 x2 := Heap.get?_push_size _ rfl
  have hz4 : (p2.push { cls := .type "tuple", data := .seq #[x1, x2] }).objs.size = p2.objs.size + 1 := Heap.size_push ..
  rw [hsz] at hpr hz4 ⊢
  exact hQ x1 x2 _ tk2 hx1 hx2 (Heap.get?_push_of_some _ hz2) (D1.frame _ _ _ j1 fun b _ o e => Heap.get?_push_of_some _ e)
    (D2.frame _ _ _ sn2 fun b _ o e => Heap.get?_push_of_some _ e) hpr hz4 fun c o c0 c1 c2 e => Heap.get?_push_of_some _ (hk c o c0 c1 c2 e)

/-- the end while the last pair is held -/
theorem held_end {Q : Fin → Shared → Prop} (S : ZipSep2 z TI TO i1 i2 fp1 fp2)
    (D1 : Draws prog w A i1 fp1 n1 P1 St1) (D2 : Draws prog w A i2 fp2 n2 P2 St2)
    (hz : IsZipHeld s.heap z TI TO T f) (hT : s.heap.get? T = some oT) (hTI : IsTupOf2 s.heap TI (.ref i1) (.ref i2))
    (st1 : St1 i s.heap) (st2 : St2 i s.heap) (e1 : i ≤ n1) (e2 : i ≤ n2) (hend : i = n1 ∨ i = n2)
    (hE : ∀ h' tk e, (∀ c o, c ≠ z → c ≠ i1 → c ≠ i2 → s.heap.get? c = some o → h'.get? c = some o) →
      (∃ o, h'.get? e = some o ∧ o.cls = .type "StopIteration") → E (.ref e) { s with heap := h', toks := tk }) :
    wpAny (model prog w) A (Builtin.«zip.__next__» ⟨[.ref z], []⟩) Q E s := by
  obtain ⟨hp, g, d, tk0, os⟩ := s
  show wpAny _ _ (field (.ref z) 2 >>= _) _ _ _
  refine wpAny_bind (wpAny_field hz rfl (x := .bool false) rfl ?_); show wpAny _ _ (field (.ref z) 3 >>= _) _ _ _
  refine wpAny_bind (wpAny_field hz rfl (x := .ref TI) rfl ?_); refine wpAny_bind (wpAny_seqItems hTI rfl ?_)
  show wpAny _ _ (Builtin.SmallTypes.ownedTupleIsFree (.ref z) >>= _) _ _ _
  refine wpAny_bind (wpAny_tupleHeld_zip hz hT fun g0 hz0 hs0 => ?_); simp only [Bool.false_eq_true, if_false]; refine wpAny_bind ?_
  replace hs0 : Heap.SameBut z hp g0 := hs0
  rw [← Array.forIn_toList]; simp only [List.forIn_cons, List.forIn_nil]
  refine wpAny_bind (wpAny_bind (wpAny_holding ?_)); show wpAny _ _ (Builtin.SmallTypes.nextOf (.ref i1) >>= _) _ _ ⟨g0, g, d, tk0, os⟩
  by_cases l1 : i < n1
  · refine wpAny_bind (D1.item i _ _ _ l1 (D1.over st1 hs0 S.zf1) fun x1 p1 tk1 hx1 sn1 hp1 => wpAny_pure ?_)
    replace hp1 : Heap.SameBut i1 g0 p1 := hp1
    have hi2 : i = n2 := by omega
    refine wpAny_pure ?_
    refine wpAny_bind (wpAny_bind (wpAny_holding ?_)); show wpAny _ _ (Builtin.SmallTypes.nextOf (.ref i2) >>= _) _ _ ⟨p1, g, d, tk1, os⟩
    refine wpAny_bind (D2.done ⟨p1, g, d, tk1, os⟩ _ _ (by rw [← hi2]; exact D2.over (D2.over st2 hs0 S.zf2) hp1 S.sep1_2) fun q e hq he => ?_)
    exact hE q tk1 e (fun c o c0 c1 c2 x => hq _ _ c2 (hp1.extBut _ _ c1 (hs0.extBut _ _ c0 x))) he
  · have hi1 : i = n1 := by omega
    refine wpAny_bind (D1.done ⟨g0, g, d, tk0, os⟩ _ _ (by rw [← hi1]; exact D1.over st1 hs0 S.zf1) fun q e hq he => ?_)
    exact hE q tk0 e (fun c o c0 c1 c2 x => hq _ _ c1 (hs0.extBut _ _ c0 x)) he
end
end XL
namespace XL
open PySem PyProof.Rows
/-- the zip between two nexts: nothing given out yet, or the last pair is held -/
def ZNow (h : Heap) (z TI TO L : Addr) : Prop :=
  (IsZip h z TI TO .none ∧ ∃ a1 a2, IsTupOf2 h TO a1 a2) ∨ ∃ T f oT, IsZipHeld h z TI TO T f ∧ h.get? T = some oT ∧ T ≠ z ∧ T ≠ L
theorem ZNow.typ {s : Shared} {z TI TO L : Addr} (h : ZNow s.heap z TI TO L) : s.TypeIs (.ref z) "zip" := by
  rcases h with ⟨h, _⟩ | ⟨T, f, oT, h, _⟩
  · exact ⟨_, h, rfl⟩
  · exact ⟨_, h, rfl⟩
theorem ZNow.lt {h : Heap} {z TI TO L : Addr} (q : ZNow h z TI TO L) : z < h.objs.size := by
  rcases q with ⟨h, _⟩ | ⟨T, f, oT, h, _⟩
  · exact Heap.lt_size h
  · exact Heap.lt_size h
section
variable {prog : Program} {w : World} {A : Around} {E : Value → Shared → Prop} {s : Shared} {z TI TO L i1 i2 : Addr}
variable {fp1 fp2 : List Addr} {n1 n2 i : Nat} {P1 P2 : Nat → Value → Prop} {St1 St2 : Nat → Heap → Prop}
theorem next_item {Q : Option Value → Shared → Prop} (S : ZipSep2 z TI TO i1 i2 fp1 fp2)
    (D1 : Draws prog w A.in1 i1 fp1 n1 P1 St1) (D2 : Draws prog w A.in1 i2 fp2 n2 P2 St2)
    (hz : ZNow s.heap z TI TO L) (hTI : IsTupOf2 s.heap TI (.ref i1) (.ref i2)) (hL : L < s.heap.objs.size)
    (st1 : St1 i s.heap) (st2 : St2 i s.heap) (l1 : i < n1) (l2 : i < n2)
    (hQ : ∀ x1 x2 h' tk, P1 i x1 → P2 i x2 → ZNow h' z TI TO L → St1 (i + 1) h' → St2 (i + 1) h' →
      IsTupOf2 h' s.heap.objs.size x1 x2 → h'.objs.size = s.heap.objs.size + 1 →
      (∀ c o, c ≠ z → c ≠ TO → c ≠ i1 → c ≠ i2 → s.heap.get? c = some o → h'.get? c = some o) →
      Q (some (.ref s.heap.objs.size)) { s with heap := h', toks := tk }) :
    wpAny (model prog w) A (pyNext (.ref z)) Q E s := by
  have hTy := hz.typ
  have zl : z < s.heap.objs.size := hz.lt
  have zne : s.heap.objs.size ≠ z := Nat.ne_of_gt zl
  have lne : s.heap.objs.size ≠ L := Nat.ne_of_gt hL
  rcases hz with ⟨hz, a1, a2, hTO⟩ | ⟨T, f, oT, hz, hT, hTz, hTL⟩
  · refine wpAny_pyNext_zipD2_item S D1 D2 hz hTI hTO st1 st2 l1 l2 fun x1 x2 h' tk y1 y2 b1 b2 d1 d2 b5 b6 b7 => ?_
    exact hQ x1 x2 h' tk y1 y2 (.inr ⟨s.heap.objs.size, false, _, b1, b5, zne, lne⟩) d1 d2 b5 b6 b7
  · unfold pyNext
    refine wpAny_bind (wpAny_attempt (wpAny_callSpecial?_slot (name := Str.ofString "__next__") hTy F.slot_zip_next
      (wpAny_call_entry F.slot_zip_next hTy F.entry_zip_next (held_item S D1 D2 hz hT hTI st1 st2 l1 l2
        fun x1 x2 h' tk y1 y2 b1 d1 d2 b5 b6 b7 => wpAny_pure ?_) (F.args_zip_next_1 _))))
    have hT' : ∃ o, h'.get? T = some o := by
      by_cases c1 : T = i1
      · rw [c1]; exact D1.live _ _ d1
      · by_cases c2 : T = i2
        · rw [c2]; exact D2.live _ _ d2
        · exact ⟨_, b7 T oT hTz c1 c2 hT⟩
    obtain ⟨o', hT'⟩ := hT'
    exact hQ x1 x2 h' tk y1 y2 (.inr ⟨T, true, o', b1, hT', hTz, hTL⟩) d1 d2 b5 b6 fun c o c0 _ c1 c2 e => b7 c o c0 c1 c2 e
theorem next_end {Q : Option Value → Shared → Prop} (S : ZipSep2 z TI TO i1 i2 fp1 fp2)
    (D1 : Draws prog w A.in1 i1 fp1 n1 P1 St1) (D2 : Draws prog w A.in1 i2 fp2 n2 P2 St2)
    (hz : ZNow s.heap z TI TO L) (hTI : IsTupOf2 s.heap TI (.ref i1) (.ref i2))
    (st1 : St1 i s.heap) (st2 : St2 i s.heap) (e1 : i ≤ n1) (e2 : i ≤ n2) (hend : i = n1 ∨ i = n2)
    (hQ : ∀ h' tk, (∀ c o, c ≠ z → c ≠ TO → c ≠ i1 → c ≠ i2 → s.heap.get? c = some o → h'.get? c = some o) →
      Q none { s with heap := h', toks := tk }) :
    wpAny (model prog w) A (pyNext (.ref z)) Q E s := by
  have hTy := hz.typ
  rcases hz with ⟨hz, a1, a2, hTO⟩ | ⟨T, f, oT, hz, hT, hTz, hTL⟩
  · exact wpAny_pyNext_zipD2_end S D1 D2 hz hTI hTO st1 st2 e1 e2 hend hQ
  · unfold pyNext
    refine wpAny_bind (wpAny_attempt (wpAny_callSpecial?_slot (name := Str.ofString "__next__") hTy F.slot_zip_next
      (wpAny_call_entry F.slot_zip_next hTy F.entry_zip_next (held_end S D1 D2 hz hT hTI st1 st2 e1 e2 hend fun h' tk e hk he => ?_) (F.args_zip_next_1 _))))
    obtain ⟨o, ho, hc⟩ := he
    refine wpAny_bind (wpAny_isInstance (T := "StopIteration") (b := true) ⟨o, ho, hc⟩ isSubtype_stop ?_)
    exact wpAny_pure (hQ _ _ fun c o c0 _ c1 c2 e => hk c o c0 c1 c2 e)
end

/-- the pairs laid so far: at Ts, new, apart from the zip's own cells and the list -/
structure Laid (N L : Nat) (P1 P2 : Nat → Value → Prop) (cells : List Addr) (h : Heap) (Ts : List Addr) : Prop where
  nd : Ts.Nodup
  at_ : ∀ j T, Ts[j]? = some T → N ≤ T ∧ T < h.objs.size ∧ T ≠ L ∧ T ∉ cells ∧ ∃ x y, P1 j x ∧ P2 j y ∧ IsTupOf2 h T x y
theorem Laid.nil {N L : Nat} {P1 P2 : Nat → Value → Prop} {cells : List Addr} {h : Heap} : Laid N L P1 P2 cells h [] := ⟨List.nodup_nil, fun j T e => by simp at e⟩
theorem Laid.over {N L : Nat} {P1 P2 : Nat → Value → Prop} {cells : List Addr} {h h' : Heap} {Ts : List Addr} (q : Laid N L P1 P2 cells h Ts)
    (hs : h.objs.size ≤ h'.objs.size) (hk : ∀ c o, c ∉ cells → c ≠ L → h.get? c = some o → h'.get? c = some o) : Laid N L P1 P2 cells h' Ts :=
  ⟨q.nd, fun j T e => by
    obtain ⟨a, b, c, d, x, y, px, py, t⟩ := q.at_ j T e
    exact ⟨a, Nat.lt_of_lt_of_le b hs, c, d, x, y, px, py, hk _ _ d c t⟩⟩
theorem Laid.push {N L : Nat} {P1 P2 : Nat → Value → Prop} {cells : List Addr} {h h' : Heap} {Ts : List Addr} {x y : Value} (q : Laid N L P1 P2 cells h Ts)
    (hs : h'.objs.size = h.objs.size + 1) (hk : ∀ c o, c ∉ cells → c ≠ L → h.get? c = some o → h'.get? c = some o)
    (hN : N ≤ h.objs.size) (hL : L < h.objs.size) (hc : ∀ c ∈ cells, c < h.objs.size) (px : P1 Ts.length x) (py : P2 Ts.length y) (t : IsTupOf2 h' h.objs.size x y) :
    Laid N L P1 P2 cells h' (Ts ++ [h.objs.size]) := by
  have q' := q.over (h' := h') (by omega) hk
  refine ⟨?_, fun j T e => ?_⟩
  · rw [List.nodup_append]
    refine ⟨q.nd, by simp, fun a ha b hb e => ?_⟩
    simp at hb
    obtain ⟨j, hj⟩ := List.getElem?_of_mem ha
    have := (q.at_ j a hj).2.1
    rw [e, hb] at this
    exact Nat.lt_irrefl _ this
  · by_cases hj : j < Ts.length
    · rw [List.getElem?_append_left hj] at e
      exact q'.at_ j T e
    · rw [List.getElem?_append_right (by omega)] at e
      have hj0 : j - Ts.length = 0 := by
        rcases Nat.eq_zero_or_pos (j - Ts.length) with z | z
        · exact z
        · rw [List.getElem?_eq_none (by simp; omega)] at e
          cases e
      rw [hj0] at e
      have e' : h.objs.size = T := by simpa using e
      subst e'
      have ej : j = Ts.length := by omega
      refine ⟨hN, by rw [hs]; exact Nat.lt_succ_self _, Nat.ne_of_gt hL, fun hm => Nat.lt_irrefl _ (hc _ hm), x, y, ?_, ?_, t⟩
      · rw [ej]; exact px
      · rw [ej]; exact py
section
variable {prog : Program} {w : World} {A : Around} {R : Result → Shared → Prop} {z TI TO i1 i2 : Addr} {N L : Nat}
variable {fp1 fp2 : List Addr} {n1 n2 n : Nat} {P1 P2 : Nat → Value → Prop} {St1 St2 : Nat → Heap → Prop}
theorem loop_zip (S : ZipSep2 z TI TO i1 i2 fp1 fp2) (D1 : Draws prog w A.in1.in1 i1 fp1 n1 P1 St1) (D2 : Draws prog w A.in1.in1 i2 fp2 n2 P2 St2)
    (hn : n = min n1 n2) (hsz : n ≤ sizeLine) (res : Value) (hL1 : L ∉ fp1) (hL2 : L ∉ fp2) (hLz : L ≠ z) (hLTI : L ≠ TI) (hLTO : L ≠ TO) (hNz : N ≤ z) (hNT : N ≤ TO) (hN1 : N ≤ i1) (hN2 : N ≤ i2) (hNL : N ≤ L) :
    ∀ (k : Nat) (s : Shared) (Ts : List Addr) (c : Nat), n - Ts.length = k → Ts.length ≤ n → ZNow s.heap z TI TO L → IsTupOf2 s.heap TI (.ref i1) (.ref i2) → TO < s.heap.objs.size →
      St1 Ts.length s.heap → St2 Ts.length s.heap → N ≤ s.heap.objs.size → s.heap.get? L = some { cls := .type "list", dict := none, data := .seq (Ts.map Value.ref).toArray c, slots := #[] } →
      Laid N L P1 P2 [z, TO, i1, i2] s.heap Ts →
      (∀ h' tk Ts' c', Ts'.length = n → (∀ b o, b < N → s.heap.get? b = some o → h'.get? b = some o) →
        h'.get? L = some { cls := .type "list", dict := none, data := .seq (Ts'.map Value.ref).toArray c', slots := #[] } → Laid N L P1 P2 [z, TO, i1, i2] h' Ts' →
        R (.ok (.ret res)) { s with heap := h', toks := tk }) →
      codeAny (model prog w) A (.builtin "list.extend.loop" ⟨[.ref L, .ref z, res], []⟩) R s := by
  intro k
  have S' := S
  induction k with
  | zero =>
    intro s Ts c hk hle hz hTI hTO st1 st2 hN hLs hld hR
    have hin : Ts.length = n := by omega
    refine codeAny_builtin F.entry_extend_loop ?_
    rw [Around.under_plainId F.plain_extend_loop _]
    show wpAny _ A.in1 (pyNext (.ref z) >>= _) _ _ s
    have hend : Ts.length = n1 ∨ Ts.length = n2 := by omega
    refine wpAny_bind (next_end S D1 D2 hz hTI st1 st2 (by omega) (by omega) hend fun h' tk hk' => ?_)
    have ne : ∀ c, c ∉ [z, TO, i1, i2] → c ≠ z ∧ c ≠ TO ∧ c ≠ i1 ∧ c ≠ i2 := fun c hc => by simpa using hc
    have Li : L ≠ i1 ∧ L ≠ i2 := ⟨fun e => hL1 (e ▸ S.mem1), fun e => hL2 (e ▸ S.mem2)⟩
    refine wpAny_pure (hR h' tk Ts c hin (fun b o hb e => ?_) (hk' L _ hLz hLTO Li.1 Li.2 hLs) ?_)
    · exact hk' b o (Nat.ne_of_lt (Nat.lt_of_lt_of_le hb hNz)) (Nat.ne_of_lt (Nat.lt_of_lt_of_le hb hNT)) (Nat.ne_of_lt (Nat.lt_of_lt_of_le hb hN1)) (Nat.ne_of_lt (Nat.lt_of_lt_of_le hb hN2)) e
    · refine ⟨hld.nd, fun j T e => ?_⟩
      obtain ⟨a, b, c, d, x, y, px, py, t⟩ := hld.at_ j T e
      have t' : IsTupOf2 h' T x y := hk' _ _ (ne T d).1 (ne T d).2.1 (ne T d).2.2.1 (ne T d).2.2.2 t
      exact ⟨a, Heap.lt_size t', c, d, x, y, px, py, t'⟩
  | succ k ih =>
    intro s Ts c hk hle hz hTI hTO st1 st2 hN hLs hld hR
    have hlt1 : Ts.length < n1 := by omega
    have hlt2 : Ts.length < n2 := by omega
    refine codeAny_builtin F.entry_extend_loop ?_
    rw [Around.under_plainId F.plain_extend_loop _]
    show wpAny _ A.in1 (pyNext (.ref z) >>= _) _ _ s
    have hLlt : L < s.heap.objs.size := Heap.lt_size hLs
    refine wpAny_bind (next_item S D1 D2 hz hTI hLlt st1 st2 hlt1 hlt2 fun x1 x2 h' tk px py hz' d1 d2 ht hsz' hk' => ?_)
    have ne : ∀ c, c ∉ [z, TO, i1, i2] → c ≠ z ∧ c ≠ TO ∧ c ≠ i1 ∧ c ≠ i2 := fun c hc => by simpa using hc
    have Li : L ≠ i1 ∧ L ≠ i2 := ⟨fun e => hL1 (e ▸ S.mem1), fun e => hL2 (e ▸ S.mem2)⟩
    have hL' := hk' L _ hLz hLTO Li.1 Li.2 hLs
    have hTI' : IsTupOf2 h' TI (.ref i1) (.ref i2) := hk' TI _ S.TIz S.TITO S.TIi1 S.TIi2 hTI
    have hcells : ∀ b ∈ [z, TO, i1, i2], b < s.heap.objs.size := fun b hb => by
      have hb' : b = z ∨ b = TO ∨ b = i1 ∨ b = i2 := by simpa using hb
      rcases hb' with e | e | e | e
      · rw [e]; exact hz.lt
      · rw [e]; exact hTO
      · rw [e]; obtain ⟨o, q⟩ := D1.live _ _ st1; exact Heap.lt_size q
      · rw [e]; obtain ⟨o, q⟩ := D2.live _ _ st2; exact Heap.lt_size q
    have hld' : Laid N L P1 P2 [z, TO, i1, i2] h' (Ts ++ [s.heap.objs.size]) :=
      hld.push hsz' (fun c o hc _ e => hk' c o (ne c hc).1 (ne c hc).2.1 (ne c hc).2.2.1 (ne c hc).2.2.2 e) hN hLlt hcells px py ht
    show wpAny _ A.in1 (updateSeq L (·.push (Value.ref s.heap.objs.size)) >>= _) _ _ _
    refine wpAny_bind ?_
    have hlen : (Ts ++ [s.heap.objs.size]).length = Ts.length + 1 := by simp
    have hzs : ((Ts.map Value.ref).toArray : Array Value).size = Ts.length := by simp
    refine wpAny_updateSeq hL' rfl (wpAny_pure ⟨plainId_quiet F.plain_extend_loop _, ?_⟩) (by rw [hzs]; omega)
      (by show ((Ts.map Value.ref).toArray.push (Value.ref s.heap.objs.size)).size ≤ sizeLine + 1; rw [Array.size_push, hzs]; omega)
    have hself := Heap.get?_update_self (Obj.mapSeq (·.push (Value.ref s.heap.objs.size))) hL' rfl
    have hoth : ∀ b o, b ≠ L → h'.get? b = some o → (h'.update L (Obj.mapSeq (·.push (Value.ref s.heap.objs.size)))).get? b = some o :=
      fun b o hb e => (Heap.get?_update_other _ _ (Ne.symm hb)).trans e
    have hus : (h'.update L (Obj.mapSeq (·.push (Value.ref s.heap.objs.size)))).objs.size = h'.objs.size := (Heap.SameBut.update ..).1
    obtain ⟨c3, hc3⟩ : ∃ c3, (h'.update L (Obj.mapSeq (·.push (Value.ref s.heap.objs.size)))).get? L = some { cls := .type "list", dict := none, data := .seq ((Ts ++ [s.heap.objs.size]).map Value.ref).toArray c3, slots := #[] } := by
      have eA : ((Ts ++ [s.heap.objs.size]).map Value.ref).toArray = (Ts.map Value.ref).toArray.push (Value.ref s.heap.objs.size) := by simp
      rw [eA, hself]; exact ⟨_, rfl⟩
    refine ih { s with heap := h'.update L (Obj.mapSeq (·.push (Value.ref s.heap.objs.size))), toks := tk } (Ts ++ [s.heap.objs.size]) c3 (by rw [hlen]; omega) (by rw [hlen]; omega) ?_ (hoth TI _ (Ne.symm hLTI) hTI') ?_ ?_ ?_ ?_ ?_ ?_ fun h2 tk2 Ts2 c2 hl2 hk2 hL2' hld2 => ?_
    · rcases hz' with ⟨q, a1, a2, q2⟩ | ⟨T, f, oT, q, q2, q3, q4⟩
      · exact .inl ⟨hoth z _ (Ne.symm hLz) q, a1, a2, hoth TO _ (Ne.symm hLTO) q2⟩
      · exact .inr ⟨T, f, oT, hoth z _ (Ne.symm hLz) q, hoth T _ q4 q2, q3, q4⟩
    · show TO < (h'.update L _).objs.size
      rw [hus, hsz']; exact Nat.lt_succ_of_lt hTO
    · rw [hlen]; exact D1.frame _ _ _ d1 fun b hb o e => hoth b o (fun q => hL1 (q ▸ hb)) e
    · rw [hlen]; exact D2.frame _ _ _ d2 fun b hb o e => hoth b o (fun q => hL2 (q ▸ hb)) e
    · show N ≤ (h'.update L _).objs.size
      rw [hus, hsz']; exact Nat.le_succ_of_le hN
    · exact hc3
    · exact hld'.over (by rw [hus]; exact Nat.le_refl _) fun b o _ hb e => hoth b o hb e
    · refine hR h2 tk2 Ts2 c2 hl2 (fun b o hb e => hk2 b o hb (hoth b o (Nat.ne_of_lt (Nat.lt_of_lt_of_le hb hNL)) ?_)) hL2' hld2
      exact hk' b o (Nat.ne_of_lt (Nat.lt_of_lt_of_le hb hNz)) (Nat.ne_of_lt (Nat.lt_of_lt_of_le hb hNT)) (Nat.ne_of_lt (Nat.lt_of_lt_of_le hb hN1)) (Nat.ne_of_lt (Nat.lt_of_lt_of_le hb hN2)) e
theorem zip_no_len : typeLookup (.type "zip") "__len__" = pure none := am_miss_of_fast (by decide +kernel)
theorem zip_no_hint : typeLookup (.type "zip") "__length_hint__" = pure none := am_miss_of_fast (by decide +kernel)
end
end XL
namespace XL
open PySem PyProof.Rows
section
variable {prog : Program} {w : World} {A : Around} {E : Value → Shared → Prop} {s : Shared}
/-- list(zip(v1, v2)): a new list of new pairs -/
theorem call_list_zip {Q : Value → Shared → Prop} {v1 v2 : Value} {o1 o2 : Obj} {H1 H2 : Heap → Prop} {fp1 fp2 : List Addr} {n1 n2 n : Nat} {P1 P2 : Nat → Value → Prop} {St1 St2 : Nat → Heap → Prop}
    (B1 : Begins v1 o1 H1) (B2 : Begins v2 o2 H2) (h1 : H1 s.heap) (h2 : H2 s.heap) (hf1 : ∀ b ∈ fp1, b < s.heap.objs.size) (hf2 : ∀ b ∈ fp2, b < s.heap.objs.size)
    (D1 : ∀ A', A'.handled = none → Draws prog w A' s.heap.objs.size (s.heap.objs.size :: fp1) n1 P1 St1)
    (D2 : ∀ A', A'.handled = none → Draws prog w A' (s.heap.objs.size + 1) ((s.heap.objs.size + 1) :: fp2) n2 P2 St2)
    (b1 : ∀ h', (∀ b o, s.heap.get? b = some o → h'.get? b = some o) → h'.get? s.heap.objs.size = some o1 → St1 0 h')
    (b2 : ∀ h', (∀ b o, s.heap.get? b = some o → h'.get? b = some o) → h'.get? (s.heap.objs.size + 1) = some o2 → St2 0 h')
    (hA : A.handled = none) (hn : n = min n1 n2) (hz : n ≤ sizeLine)
    (hQ : ∀ (h' : Heap) (tk : Nat) (Ts : List Addr) (c : Nat) (L : Addr), Ts.length = n → (∀ b o, s.heap.get? b = some o → h'.get? b = some o) → s.heap.objs.size ≤ L →
      h'.get? L = some { cls := .type "list", dict := none, data := .seq (Ts.map Value.ref).toArray c, slots := #[] } → Ts.Nodup →
      (∀ j T, Ts[j]? = some T → s.heap.objs.size ≤ T ∧ T ≠ L ∧ ∃ x y, P1 j x ∧ P2 j y ∧ IsTupOf2 h' T x y) → Q (.ref L) { s with heap := h', toks := tk }) :
    wpAny (model prog w) A (call (.type "zip") [v1, v2]) (fun v s1 => wpAny (model prog w) A (call (.type "list") [v]) Q E s1) E s := by
  refine zip_begins2 B1 B2 h1 h2 fun g hz0 hTI hTO e1 e2 hsz hk => ?_
  have hgN : g.objs.size = s.heap.objs.size + 5 := hsz
  generalize hNN : s.heap.objs.size = N at *
  refine callType_codes (Q₁ := fun obj s₁ => obj = .ref g.objs.size ∧ s₁ = { s with heap := g.push { cls := .type "list", data := .seq #[] } }) F.called_list (F.typeCall_list_1 _) F.entry_list_init
    (code_list_new _ ⟨rfl, rfl⟩) fun obj s₁ q₁ => ?_
  obtain ⟨rfl, rfl⟩ := q₁
  have hS : (g.push { cls := .type "list", data := .seq #[] }).get? g.objs.size = some { cls := .type "list", data := .seq #[] } := Heap.get?_push_size _ rfl
  refine ⟨⟨_, hS, rfl⟩, F.args_list_init_2 _ _, ?_⟩
  have SS := zip_sep2 hf1 hf2
  have kp : ∀ b o, g.get? b = some o → (g.push { cls := .type "list", data := .seq #[] }).get? b = some o := fun b o e => Heap.get?_push_of_some _ e
  generalize hG : g.push { cls := .type "list", data := .seq #[] } = G at *
  have hGz : G.objs.size = g.objs.size + 1 := by rw [← hG]; exact Heap.size_push ..
  have hLv : g.objs.size = N + 5 := hgN
  generalize hLL : g.objs.size = L at *
  show wpAny _ _ (do let old ← Builtin.List.listItems (.ref L); Builtin.List.listUpdate (.ref L) (fun _ => #[]); letGo old.toList.reverse; Builtin.List.listExtendWith (.ref L) (.ref (N + 4)) .none) _ _ _
  refine wpAny_bind ?_
  unfold Builtin.List.listItems
  refine wpAny_bind (wpAny_seqItems hS rfl (wpAny_pure ?_))
  show wpAny _ _ (updateSeq L (fun _ => #[]) >>= fun _ => letGo (#[] : Array Value).toList.reverse >>= fun _ => Builtin.List.listExtendWith (.ref L) (.ref (N + 4)) .none) _ _ _
  refine wpAny_bind (wpAny_updateSeq hS rfl ?_)
  have hS₂ := Heap.get?_update_self (Obj.mapSeq (fun _ => (#[] : Array Value))) hS rfl
  have oth : ∀ b o, b ≠ L → G.get? b = some o → (G.update L (Obj.mapSeq (fun _ => (#[] : Array Value)))).get? b = some o :=
    fun b o hb e => (Heap.get?_update_other _ _ (Ne.symm hb)).trans e
  have hG2 : (G.update L (Obj.mapSeq (fun _ => (#[] : Array Value)))).objs.size = G.objs.size := (Heap.SameBut.update ..).1
  generalize hGG : G.update L (Obj.mapSeq (fun _ => (#[] : Array Value))) = G2 at *
  refine wpAny_bind (wpAny_letGo ?_)
  have hNL : N ≤ L := by omega
  have nL : ∀ j : Nat, j < 5 → N + j ≠ L := fun j hj => by omega
  have hz2 : IsZip G2 (N + 4) (N + 2) (N + 3) .none := oth _ _ (nL 4 (by omega)) (kp _ _ hz0)
  have hT2 : IsTupOf2 G2 (N + 2) (.ref N) (.ref (N + 1)) := oth _ _ (nL 2 (by omega)) (kp _ _ hTI)
  have hO2 : IsTupOf2 G2 (N + 3) .none .none := oth _ _ (nL 3 (by omega)) (kp _ _ hTO)
  unfold Builtin.List.listExtendWith
  have hTy : ({ s with heap := G2 } : Shared).TypeIs (.ref (N + 4)) "zip" := ⟨_, hz2, rfl⟩
  refine wpAny_bind (wpAny_typeOf hTy ?_)
  have q1 : Builtin.List.listSameRef (.ref L) (.ref (N + 4)) = false := by simp only [Builtin.List.listSameRef]; exact beq_eq_false_iff_ne.mpr (nL 4 (by omega)).symm
  have q2 : (Value.type "zip" == Value.type "list") = false := by decide
  have q3 : (Value.type "zip" == Value.type "tuple") = false := by decide
  simp only [q1, q2, q3, Bool.or_false, Bool.false_eq_true, if_false]
  refine wpAny_bind (wpAny_pyIter_zip hz2 ?_)
  refine wpAny_bind (wpAny_holding ?_)
  unfold Builtin.List.listLengthHint
  refine wpAny_bind (wpAny_specialOf hTy zip_no_len ?_)
  show wpAny _ _ (specialOf (Value.ref (N + 4)) (Str.ofString "__length_hint__") >>= _) _ _ _
  refine wpAny_bind (wpAny_specialOf hTy zip_no_hint ?_)
  refine wpAny_pure ?_
  show wpAny _ _ (rule "list.extend.makes-room" >>= fun _ => Builtin.List.listTouch (.ref L) >>= fun _ => again (.builtin "list.extend.loop" ⟨[.ref L, .ref (N + 4), .none], []⟩)) _ _ _
  refine wpAny_bind (wpAny_rule ?_)
  refine wpAny_bind ?_
  show wpAny _ _ (updateSeq L (·.push .none) >>= fun _ => updateSeq L (·.pop)) _ _ _
  refine wpAny_bind (wpAny_updateSeq hS₂ rfl ?_)
  have hS₃ := Heap.get?_update_self (Obj.mapSeq (·.push Value.none)) hS₂ rfl
  refine wpAny_updateSeq (hz := by seq_fits) hS₃ rfl ?_
  have hS₄ := Heap.get?_update_self (Obj.mapSeq (·.pop)) hS₃ rfl
  have oth2 : ∀ b o, b ≠ L → G2.get? b = some o → ((G2.update L (Obj.mapSeq (·.push Value.none))).update L (Obj.mapSeq (·.pop))).get? b = some o :=
    fun b o hb e => (Heap.get?_update_other _ _ (Ne.symm hb)).trans ((Heap.get?_update_other _ _ (Ne.symm hb)).trans e)
  have hG3 : ((G2.update L (Obj.mapSeq (·.push Value.none))).update L (Obj.mapSeq (·.pop))).objs.size = G2.objs.size := ((Heap.SameBut.update ..).1).trans ((Heap.SameBut.update ..).1)
  generalize hGGG : (G2.update L (Obj.mapSeq (·.push Value.none))).update L (Obj.mapSeq (·.pop)) = G3 at *
  have old : ∀ b o, s.heap.get? b = some o → G3.get? b = some o := fun b o e => by
    have hb : b < N := by rw [← hNN]; exact Heap.lt_size e
    have hb' : b ≠ L := Nat.ne_of_lt (Nat.lt_of_lt_of_le hb hNL)
    exact oth2 b o hb' (oth b o hb' (kp b o (hk b o e)))
  have at1 : G3.get? N = some o1 := oth2 _ _ (nL 0 (by omega)) (oth _ _ (nL 0 (by omega)) (kp _ _ e1))
  have at2 : G3.get? (N + 1) = some o2 := oth2 _ _ (nL 1 (by omega)) (oth _ _ (nL 1 (by omega)) (kp _ _ e2))
  have hLn1 : L ∉ N :: fp1 := fun hm => by
    rcases List.mem_cons.mp hm with e | hm
    · exact nL 0 (by omega) e.symm
    · exact Nat.lt_irrefl _ (Nat.lt_of_lt_of_le (hf1 _ hm) hNL)
  have hLn2 : L ∉ (N + 1) :: fp2 := fun hm => by
    rcases List.mem_cons.mp hm with e | hm
    · exact nL 1 (by omega) e.symm
    · exact Nat.lt_irrefl _ (Nat.lt_of_lt_of_le (hf2 _ hm) hNL)
  refine wpAny_pure ⟨plainId_quiet F.plain_extend_loop _, loop_zip (A := A.in1) (N := N) (L := L) SS (D1 _ (show A.in1.in1.in1.handled = none from hA)) (D2 _ (show A.in1.in1.in1.handled = none from hA)) hn hz .none hLn1 hLn2 (nL 4 (by omega)).symm (nL 2 (by omega)).symm (nL 3 (by omega)).symm (Nat.le_add_right _ _) (Nat.le_add_right _ _) (Nat.le_refl _) (Nat.le_add_right _ _) (by omega)
    n _ [] _ (by simp) (Nat.zero_le _) (.inl ⟨oth2 _ _ (nL 4 (by omega)) hz2, _, _, oth2 _ _ (nL 3 (by omega)) hO2⟩) (oth2 _ _ (nL 2 (by omega)) hT2) ?_ (b1 G3 old at1) (b2 G3 old at2) ?_ hS₄ .nil fun h' tk Ts c hl hk' hL' hld => ?_⟩
  · show (N + 3 : Nat) < G3.objs.size
    rw [hG3, hG2, hGz]; omega
  · show N ≤ G3.objs.size
    rw [hG3, hG2, hGz]; omega
  · refine ⟨rfl, hQ h' tk Ts c L hl (fun b o e => hk' b o (by rw [← hNN]; exact Heap.lt_size e) (old b o e)) (by omega) hL' hld.nd fun j T e => ?_⟩
    obtain ⟨a, _, b, _, c⟩ := hld.at_ j T e
    exact ⟨a, b, c⟩
end
end XL
namespace XL
open PySem PySem.Spec PyProof.Rows L2
/-- a list or a tuple -/
def Sq2 (K : PySem.W.Frag) (H : Hp) (a : Addr) (xs : List V) : Prop := SqL K H a xs ∨ SqT K H a xs
theorem Same.tup {K : PySem.W.Frag} {H H' : Hp} {a : Addr} {xs : List V} (e : Same H H') (h : SqT K H a xs) : SqT K H' a xs := by
  rcases h with (h | ⟨o, h⟩) | h
  · exact .inl (.inl (e _ _ h))
  · exact .inl (.inr ⟨o, e _ _ h⟩)
  · exact .inr h
theorem Same.sq2 {K : PySem.W.Frag} {H H' : Hp} {a : Addr} {xs : List V} (e : Same H H') (h : Sq2 K H a xs) : Sq2 K H' a xs := h.imp (fun q => e.seq q) (fun q => Same.tup e q)
theorem same_new {H : Hp} {p : Addr} {o : HO} (h : H p = none) : Same H (upd H p o) := fun b x e => by
  rw [upd_ne (ne_of_none e h)]
  exact e
section
variable {X : Cx} {pins : List (Addr × Obj)} {σ : L2.St} {H : Hp} {s : Shared} {a : Addr} {xs : List V}
theorem seq_draws (I : Inv X pins σ H s) (h : Sq2 X.K H a xs) : ∃ (its : List Value) (o : Obj) (B : Heap → Prop) (fp : List Addr), Vals xs its ∧ xs.length ≤ sizeLine ∧ Begins (.ref a) o B ∧ B s.heap ∧
    (∀ b ∈ fp, b < s.heap.objs.size) ∧ ∀ it, s.heap.objs.size ≤ it → ∃ St : Nat → Heap → Prop, (∀ A' : Around, A'.handled = none → Draws X.prog X.w A' it (it :: fp) its.length (fun i v => its[i]? = some v) St) ∧
      ∀ h' : Heap, (∀ b o, s.heap.get? b = some o → h'.get? b = some o) → h'.get? it = some o → St 0 h' := by
  rcases h with h | h
  · obtain ⟨its, rv, p, hz⟩ := I.list h
    have la : a < s.heap.objs.size := p.lt
    refine ⟨its, _, _, [a], rv, hz, begins_list a its.toArray, p.isList, fun b hb => by rw [List.mem_singleton.mp hb]; exact la, fun it hit => ?_⟩
    have hne : a ≠ it := Nat.ne_of_lt (Nat.lt_of_lt_of_le la hit)
    refine ⟨fun i h => h.IsListIter it a i ∧ h.IsList a its.toArray, fun A' hA => ?_, fun h' hk e => ?_⟩
    · have D := Draws.list (prog := X.prog) (w := X.w) hA it a hne its.toArray
      simpa using D
    · exact ⟨⟨_, e, rfl, rfl⟩, p.isList.at fun o q => hk a o q⟩
  · obtain ⟨its, rv, p, hz⟩ := I.tuple h
    have la : a < s.heap.objs.size := by
      obtain ⟨o, e, _⟩ := p
      exact Heap.lt_size e
    have p' : s.heap.IsTuple a its.toArray := p
    refine ⟨its, _, _, [a], rv, hz, begins_tuple a its.toArray, p', fun b hb => by rw [List.mem_singleton.mp hb]; exact la, fun it hit => ?_⟩
    have hne : a ≠ it := Nat.ne_of_lt (Nat.lt_of_lt_of_le la hit)
    refine ⟨fun i h => h.IsTupleIter it a i ∧ h.IsTuple a its.toArray, fun A' hA => ?_, fun h' hk e => ?_⟩
    · have D := Draws.tuple (prog := X.prog) (w := X.w) hA it a hne its.toArray
      simpa using D
    · exact ⟨⟨_, e, rfl, rfl⟩, p'.at fun o q => hk a o q⟩
end
/-- pairs laid at Ts -/
def layP (H : Hp) : List Addr → List V → List V → Hp
  | T :: Ts, x :: xs, y :: ys => upd (layP H Ts xs ys) T (.tup [x, y])
  | _, _, _ => H
theorem layP_off (H : Hp) {c : Addr} : ∀ (Ts : List Addr) (xs ys : List V), c ∉ Ts → layP H Ts xs ys c = H c
  | [], xs, ys, _ => by cases xs <;> cases ys <;> rfl
  | T :: Ts, [], ys, _ => rfl
  | T :: Ts, _ :: _, [], _ => rfl
  | T :: Ts, x :: xs, y :: ys, h => by
    have h1 : c ≠ T := fun e => h (by rw [e]; exact List.mem_cons_self ..)
    show upd (layP H Ts xs ys) T _ c = H c
    rw [upd_ne h1]
    exact layP_off H Ts xs ys fun q => h (List.mem_cons_of_mem _ q)
theorem layP_at (H : Hp) : ∀ (Ts : List Addr) (xs ys : List V) (j : Nat) (T : Addr) (x y : V), Ts.Nodup → Ts[j]? = some T → xs[j]? = some x → ys[j]? = some y → layP H Ts xs ys T = some (.tup [x, y])
  | [], _, _, _, _, _, _, _, h, _, _ => by simp at h
  | T :: Ts, [], _, _, _, _, _, _, _, h, _ => by simp at h
  | T :: Ts, _ :: _, [], _, _, _, _, _, _, _, h => by simp at h
  | T :: Ts, x :: xs, y :: ys, 0, T', x', y', _, h, hx, hy => by
    have e1 : T = T' := Option.some.inj h
    have e2 : x = x' := Option.some.inj hx
    have e3 : y = y' := Option.some.inj hy
    subst e1 e2 e3
    exact upd_same
  | T :: Ts, x :: xs, y :: ys, j + 1, T', x', y', nd, h, hx, hy => by
    have h' : Ts[j]? = some T' := h
    have hne : T' ≠ T := fun e => (List.nodup_cons.mp nd).1 (by rw [← e]; exact List.mem_of_getElem? h')
    show upd (layP H Ts xs ys) T _ T' = _
    rw [upd_ne hne]
    exact layP_at H Ts xs ys j T' x' y' (List.nodup_cons.mp nd).2 h' hx hy
/-- list(zip(e, e2)) -/
def tLZ (K : PySem.W.Frag) (ta : TA) : TE := fun σ H Q => ta σ H fun vs H1 => ∃ a b xs ys, vs = [.ref a, .ref b] ∧ Sq2 K H1 a xs ∧ Sq2 K H1 b ys ∧
  ∀ (L : Addr) (Ts : List Addr) (H2 : Hp), Same H1 H2 → H1 L = none → H2 L = some (.lst (Ts.map V.ref)) → Ts.length = min xs.length ys.length →
    (∀ (j : Nat) (T : Addr), Ts[j]? = some T → ∃ x y, xs[j]? = some x ∧ ys[j]? = some y ∧ H2 T = some (.tup [x, y])) → Q (.ref L) H2
theorem pe_listZip {X : Cx} {e e2 : Expr} {ta : TA} {p p2 pos pos2 : Pos} (hc : X.calm = true) (hg : Gl X "list") (hm : X.mg "list" = none) (hg2 : Gl X "zip") (hm2 : X.mg "zip" = none) (ha : PA X [e, e2] ta)
    (hs : starEach [e, e2] X.env = (false, eval e X.env) :: starEach [e2] X.env := by rfl) (hpl : (backTo pos2 (starEach [e2] X.env)).any (·.1) = false := by rfl)
    (na : starEach [(Expr.Call (.Name "zip" p2) [e, e2] [] pos2)] X.env = (false, eval (.Call (.Name "zip" p2) [e, e2] [] pos2) X.env) :: starEach [] X.env := by rfl) :
    PE X (.Call (.Name "list" p) [.Call (.Name "zip" p2) [e, e2] [] pos2] [] pos) (tLZ X.K ta) := by
  refine ⟨fun pins s σ H Q I h => ?_⟩
  refine Call_ (ld_blt I hg hm boot_list (PyProof.Rows.callWith_type1 (args_cons ?_ na) na))
  obtain ⟨tk0, I0⟩ : ∃ t : Nat, Inv X pins σ H s := ⟨0, I⟩
  refine Call_ (ld_blt I hg2 hm2 PyProof.Rows.boot_zip (PyProof.Rows.callWith_type1 (thn (ha.run pos2 pins s σ H _ I h) fun us s1 ⟨vs, H1, I1, r1, q1⟩ => ?_) hs hpl))
  obtain ⟨a, b, xs, ys, ex, hx, hy, q⟩ := q1
  subst ex
  obtain ⟨u1, u2, rfl, r1, r2⟩ := vals2 r1
  cases (show u1 = Value.ref a from r1)
  cases (show u2 = Value.ref b from r2)
  obtain ⟨its, o1, B1, fp1, rv1, z1, b1, hb1, f1, d1⟩ := seq_draws I1 hx
  obtain ⟨its2, o2, B2, fp2, rv2, z2, b2, hb2, f2, d2⟩ := seq_draws I1 hy
  obtain ⟨St1, D1, s1'⟩ := d1 s1.heap.objs.size (Nat.le_refl _)
  obtain ⟨St2, D2, s2'⟩ := d2 (s1.heap.objs.size + 1) (Nat.le_succ _)
  have l1 := rv1.length
  have l2 := rv2.length
  refine thn (call_list_zip (n := min its.length its2.length) (Q := fun v s2 => ∃ v' H', Inv X pins σ H' s2 ∧ RelV v' v ∧ Q v' H') (E := X.xe) b1 b2 hb1 hb2 f1 f2 D1 D2 s1' s2' (I1.ok.hd hc) rfl (by omega) fun h' tk Ts c L hl hk hLn hL nd hT => ?_) fun v s2 hq => args_nil hq
  have hT' : ∀ (j : Nat) (T : Addr), Ts[j]? = some T → ∃ x y u v, xs[j]? = some x ∧ ys[j]? = some y ∧ RelV x u ∧ RelV y v ∧ s1.heap.objs.size ≤ T ∧ T ≠ L ∧ IsTupOf2 h' T u v := fun j T e => by
    obtain ⟨g1, g2, u, v, pu, pv, t⟩ := hT j T e
    have hj1 : j < xs.length := by
      rw [l1]; exact (List.getElem?_eq_some_iff.mp pu).1
    have hj2 : j < ys.length := by
      rw [l2]; exact (List.getElem?_eq_some_iff.mp pv).1
    obtain ⟨u', eu, ru⟩ := rv1.get (List.getElem?_eq_getElem hj1)
    obtain ⟨v', ev, rv⟩ := rv2.get (List.getElem?_eq_getElem hj2)
    rw [eu] at pu
    rw [ev] at pv
    cases pu
    cases pv
    exact ⟨_, _, _, _, List.getElem?_eq_getElem hj1, List.getElem?_eq_getElem hj2, ru, rv, g1, g2, t⟩
  have hLT : L ∉ Ts := fun hm => by
    obtain ⟨j, e⟩ := List.getElem?_of_mem hm
    obtain ⟨_, _, _, _, _, _, _, _, _, ne, _⟩ := hT' j L e
    exact ne rfl
  have nTs : ∀ c, c < s1.heap.objs.size → c ∉ Ts := fun c hc hm => by
    obtain ⟨j, e⟩ := List.getElem?_of_mem hm
    obtain ⟨_, _, _, _, _, _, _, _, g, _⟩ := hT' j c e
    exact Nat.lt_irrefl _ (Nat.lt_of_lt_of_le hc g)
  have fr : ∀ c, s1.heap.objs.size ≤ c → H1 c = none := fun c hc => I1.hok.fresh hc
  have old : ∀ c o, H1 c = some o → upd (layP H1 Ts xs ys) L (.lst (Ts.map V.ref)) c = some o := fun c o e => by
    have h1 : c ≠ L := fun z => by rw [z, fr L hLn] at e; cases e
    have h2 : c ∉ Ts := fun hm => by
      obtain ⟨j, e'⟩ := List.getElem?_of_mem hm
      obtain ⟨_, _, _, _, _, _, _, _, g, _⟩ := hT' j c e'
      rw [fr c g] at e; cases e
    rw [upd_ne h1, layP_off H1 Ts xs ys h2]; exact e
  have U : Un X.fs [] H1 (upd (layP H1 Ts xs ys) L (.lst (Ts.map V.ref))) s1.heap h' := {
    keep := fun b o e _ _ _ => hk b o e
    slot := fun b o e _ _ _ => ⟨o.slots, hk b o e⟩
    free := fun b o e n _ => by
      have lb := Heap.lt_size e
      rw [upd_ne (Nat.ne_of_lt (Nat.lt_of_lt_of_le lb hLn)), layP_off H1 Ts xs ys (nTs b lb)]; exact n
    there := fun b o e _ => ⟨o, hk b o e⟩
    tups := fun b xs e => old b _ e
    frzs := fun b o u e => old b _ e
    tbls := fun b ps e => ⟨#[], by rw [old b _ e]; simp⟩ }
  have OK : HOk X.prog X.w (upd (layP H1 Ts xs ys) L (.lst (Ts.map V.ref))) h' := fun b o e => by
    by_cases hb : b = L
    · subst hb
      rw [upd_same] at e
      cases e
      refine ⟨by rw [List.length_map, hl]; omega, Ts.map Value.ref, c, ?_, hL⟩
      clear hT hT' hLT nTs old U hL nd hl q
      induction Ts with
      | nil => exact .nil
      | cons T r ih => exact .cons rfl ih
    · rw [upd_ne hb] at e
      by_cases hbT : b ∈ Ts
      · obtain ⟨j, ej⟩ := List.getElem?_of_mem hbT
        obtain ⟨x, y, u, v, ex, ey, ru, rv, g1, g2, t⟩ := hT' j b ej
        rw [layP_at H1 Ts xs ys j b x y nd ej ex ey] at e
        cases e
        exact ⟨by show 2 ≤ sizeLine; decide, [u, v], .cons ru (.cons rv .nil), ⟨_, t, rfl, _, rfl⟩⟩
      · rw [layP_off H1 Ts xs ys hbT] at e
        exact (I1.hok b o e).stay (fun c v _ q => hk c v q) (fun c q => old c _ q) fun c xs q => old c _ q
  refine ⟨.ref L, _, I1.un (t' := tk) U OK, rfl, q L Ts _ (fun c o e => old c o e) (fr L hLn) upd_same (by rw [hl]; omega) fun j T e => ?_⟩
  obtain ⟨x, y, u, v, ex, ey, ru, rv, g1, g2, t⟩ := hT' j T e
  exact ⟨x, y, ex, ey, by rw [upd_ne g2, layP_at H1 Ts xs ys j T x y nd e ex ey]⟩
end XL
namespace XL
open PySem PySem.Spec PyProof.Rows L2
/-- a def that keeps its promise where no repr is under way -/
structure FnG (P : Program) (w : World) (K : PySem.W.Frag) (mg : Str → Option Value) (base : Heap) (k : Nat) (f : Addr) (fd : FuncData) (ps : List Str) (sp : Sp) : Prop where
  len : ∀ vs H Q E, sp vs H Q E → vs.length = ps.length
  run : ∀ (A : Around) (outer : List Env) (s : Shared) (H : Hp) (args : Args) (us : List Value) (vs : List V) (Q : VK) (E : XK),
    A.guards = some [] → Room k A → Env0 P w K mg base A outer s H → BindsTo s fd args (ps.zip us) → Vals vs us → sp vs H Q E →
    codeAny (model P w) A (.call (.ref f) args) (CR CX0 outer P w H s Q E) s
section
variable {P : Program} {w : World} {K : PySem.W.Frag} {mg : Str → Option Value} {base : Heap}
theorem okG {x qual : Str} {st : Stmt} {f : Addr} {fd : FuncData} {N ps : List Str} {k : Nat} {sp : Sp} (F : Fun K x qual st f fd) (S : FnScope N ps (defScope st)) (len : ∀ vs H Q E, sp vs H Q E → vs.length = ps.length)
    (hbody : ∀ (cdv : Value) (A : Around) (outer : List Env) (s : Shared) (H : Hp) (vs : List V) (Q : VK) (E : XK),
      (A.deeper (envOfC qual (defScope st) s.heap.objs.size f cdv)).guards = some [] → Room k (A.deeper (envOfC qual (defScope st) s.heap.objs.size f cdv)) → sp vs H Q E →
      ∃ t, PSs (cxOf CX0 P w K mg base N qual (defScope st) f cdv A outer s H E).nox (defBody st) t ∧ t { nx := fun _ H' => Q .non H', rt := Q } (start N vs) H) : FnG P w K mg base (k + 1) f fd ps sp := by
  obtain ⟨oc, od, kV, doc, pm, an, cdv, ct, osl, rfl, lk, hcd⟩ := F.ex
  refine ⟨len, fun A outer s H args us vs Q E hgd hr e0 hb r hsp => ?_⟩
  have hl := len _ _ _ _ hsp; have KX : K.In s.heap := e0.mod.kin.keeps fun b o e => (e0.bs b o e).1
  have lim : s.heap.NoLimit := e0.mod.nolimit.keeps fun b o e => (e0.bs b o e).1
  have hkind : ∀ y ∈ ps.zip us, (defScope st).names.lookup y.1 = some .local ∨ ((defScope st).names.lookup y.1 = some .cell ∧ ((cellsFrom (s.heap.objs.size + 1) (defScope st).names []).lookup y.1).isSome = true) := fun ⟨n, v⟩ hy => by
    rcases S.par n (List.of_mem_zip hy).1 with q | q
    · exact .inl q
    · exact .inr ⟨q, PySem.W.cellsFrom_some _ _ _ (.inl q)⟩
  refine codeAny_call_function hr.depth (KX _ _ lk) rfl S.co S.gen rfl (PySem.W.codeRec_of KX hcd) (hb _ _ _ _ (wpAny_newFunctionEnv_cells S.kind hkind fun env he s1 x => ?_))
  subst he
  refine ⟨lim.keeps x.toInCall.keep, codeAny_func ?_⟩
  obtain ⟨t, ht, hq⟩ := hbody cdv A outer s H vs Q E hgd (hr.deeper _) hsp
  have I : Inv (cxOf CX0 P w K mg base N qual (defScope st) f cdv A outer s H E) [] (start N vs) H s1 := inv_start S hr.hd e0 hl r x
  refine wpAny_mono (ht.nox.run [] s1 (start N vs) H _ I hq) (fun fl s' hs => ?_) fun e s' hs => hs
  have fin : ∀ {σ' : L2.St} {H' : Hp} {v : V} {u : Value}, Inv (cxOf CX0 P w K mg base N qual (defScope st) f cdv A outer s H E) [] σ' H' s' → RelV v u → Q v H' → CE outer P w H s Q u s' := fun {σ' H' v u} J rv q =>
    ⟨v, H', J.os, J.bare, J.base, J.hok, rv, q⟩
  cases fl with
  | ret u => obtain ⟨v, σ', H', J, rv, q⟩ := hs; exact fin J rv q
  | next => obtain ⟨σ', H', J, q⟩ := hs; exact fin (v := V.non) (u := Value.none) J rfl q
  | brk => obtain ⟨_, _, _, q⟩ := hs; exact False.elim q
  | cont => obtain ⟨_, _, _, q⟩ := hs; exact False.elim q
theorem FnG.of {k : Nat} {f : Addr} {fd : FuncData} {ps : List Str} {sp : Sp} (F : FnOk P w K mg base CX0 k f fd ps sp) : FnG P w K mg base k f fd ps sp :=
  ⟨F.len, fun A outer s H args us vs Q E _ hr e0 hb r h => F.run A outer s H args us vs Q E hr e0 hb r h⟩
end
section
variable {X : Cx} {k : Nat} {f C : Addr} {fd : FuncData} {ps ks : List Str} {sp : Sp} {x m : Str} {p pos apos : Pos} {e o : Expr} {es : List Expr} {ta : TE} {t tk : TA} {kws : List Keyword}
/-- f(e, ..) of such a def -/
theorem pe_callG (hG : X.A.guards = some []) (F : FnG X.prog X.w X.K X.mg X.base k f fd ps sp) (hr : Room k X.A) (hg : Gl X x) (hm : X.mg x = some (.ref f)) (hk : PySem.W.keepIn X.K (.ref f) = true) (hb : Binds X.K fd ps [])
    (ha : PA X (e :: es) t) (hdb : (x == ("__debug__" : Str)) = false := by decide) (he : starEach (e :: es) X.env = (false, eval e X.env) :: starEach es X.env := by rfl)
    (hpl : (backTo pos (starEach es X.env)).any (·.1) = false := by rfl) : PE X (.Call (.Name x p) (e :: es) [] pos) (tCall sp [] E0 t) := by
  refine ⟨fun pins s σ H Q I h => wpAny_Call_Name_kw (ld_glob I hg hm ?_ hdb)⟩
  refine PySem.W.callWith_K (h₀ := X.base) I.ok.mod.kin hk (thn (ha.run pos pins s σ H _ I h) fun us s1 ⟨vs, H1, I1, r, q⟩ => ⟨I1.kIn, ?_⟩) he hpl
  have q' : sp vs H1 Q E0 := by have q2 : sp (vs ++ []) H1 Q E0 := q; rwa [List.append_nil] at q2
  have hl : us.length = ps.length := by rw [← r.length]; exact F.len _ _ _ _ q'
  have hb' : BindsTo s1 fd ⟨us, []⟩ (ps.zip us) := by have b2 := hb s1 us I1.kIn (by rw [List.append_nil]; exact hl); rwa [List.append_nil] at b2
  refine wpAny_call (codeAny_mono (F.run X.A X.stack s1 H1 ⟨us, []⟩ us vs Q E0 hG hr I1.env0 hb' r q') fun r s' hq => ?_)
  cases r with
  | error e => exact False.elim hq
  | ok fl =>
    cases fl with
    | ret u => exact I1.after hq
    | next => exact False.elim hq
    | brk => exact False.elim hq
    | cont => exact False.elim hq
variable {CX : CXT} {E : XK} {g : List Value → List Value → List Value} {gV : List V → List V → List V}
/-- f(k = v, ..), no argument by place -/
theorem pe_callK0 (F : FnOk X.prog X.w X.K X.mg X.base CX k f fd ps sp) (hr : Room k X.A) (hg : Gl X x) (hm : X.mg x = some (.ref f)) (hk : PySem.W.keepIn X.K (.ref f) = true) (hb : KBinds X.K fd ps ks g gV) (hx : Passes CX X E)
    (hkw : PK X kws tk) (hall : (backToKw pos (keywordEach kws X.env)).all (·.1.isSome) = true := by rfl) (hks : (backToKw pos (keywordEach kws X.env)).filterMap (·.1) = ks := by rfl)
    (hdb : (x == ("__debug__" : Str)) = false := by decide)
    (hpl : ((backTo pos (starEach [] X.env)).any (·.1) || (backToKw pos (keywordEach kws X.env)).any (·.1.isNone)) = false := by rfl) :
    PE X (.Call (.Name x p) [] kws pos) (fun σ H Q => tk σ H fun zs H2 => sp (gV [] zs) H2 Q E) := by
  refine ⟨fun pins s σ H Q I h => wpAny_Call_Name_kw (ld_glob I hg hm ?_ hdb)⟩
  refine PySem.W.callWith_KW0 (h₀ := X.base) I.ok.mod.kin hk hall (thn (hkw.run pos pins s σ H _ I h) fun ws s2 ⟨zs, H2, I2, rz, q2⟩ => ⟨I2.kIn, ?_⟩) hpl
  rw [hks]
  exact run_fnk F hr hb hx I2 .nil rz q2
end
/-! ### the head -/
theorem law_callG {P : Program} {w : World} {K : PySem.W.Frag} {mg mb : Str → Option Value} {k : Nat} {fa a : Addr} {fd : FuncData} {x : Str} {sp : Sp} {s₁ : Shared} {vs : List Value} {ns : List Int}
    (KX : K.In s₁.heap) (hns : s₁.heap.Ns mainGlobals mg) (hb : s₁.heap.Ns builtinsNs mb) (hbb : ∀ x : Str, x ≠ "__name__" → mb x = bootBuiltins x) (hlim : s₁.heap.NoLimit) (hg : s₁.gens = #[])
    (ha : s₁.heap.get? a = some { cls := .type "list", data := .seq vs.toArray }) (hi : IntsAre vs ns) (hl : ns.length ≤ sizeLine) (hr : Room k callerA)
    (F : ∀ base : Heap, K.In base → base.Ns mainGlobals mg → FnG P w K mg base k fa fd [x] sp) (hbind : ∀ (s : Shared) (u : Value), BindsTo s fd ⟨[u], []⟩ [(x, u)])
    (hsp : ∀ H : Hp, Only H → SqL K H a (ns.map V.int) → sp [.ref a] H (fun v _ => v = .bl true) fun _ _ _ => False) :
    codeAny (model P w) callerA (.call (.ref fa) ⟨[.ref a], []⟩) (fun r s' => r = .ok (.ret (.bool true)) ∧ OldK s₁.heap s'.heap ∧ s'.os = s₁.os ∧ AllBare s'.gens) s₁ := by
  have rv := vals_ints hi; have lenV := hi.length
  have core : ∀ H : Hp, Only H → SqL K H a (ns.map V.int) → HOk P w H s₁.heap → (∀ b, H b ≠ none → b = a) → (H a ≠ none → K.lookup a = none) → codeAny (model P w) callerA (.call (.ref fa) ⟨[.ref a], []⟩)
      (fun r s' => r = .ok (.ret (.bool true)) ∧ OldK s₁.heap s'.heap ∧ s'.os = s₁.os ∧ AllBare s'.gens) s₁ := by
    intro H hO hS hok hA hK
    have noA : ∀ {b : Addr} {o : Obj} {es : Array DictEntry} {ep : Nat}, s₁.heap.get? b = some o → o.data = .dict es ep → H b = none := by
      intro b o es ep e d
      cases q : H b with
      | none => rfl
      | some u =>
        have e' : b = a := hA b (by rw [q]; simp)
        subst e'; rw [ha] at e; cases e
        exact absurd (show Data.seq vs.toArray _ = Data.dict es ep from d) (by simp)
    have nsK : ∀ {b : Addr} {m : Str → Option Value}, s₁.heap.Ns b m → (hidT s₁.heap H).Ns b m := by
      intro b m hm
      obtain ⟨o, es, ep, e, d, r⟩ := hm
      exact ⟨o, es, ep, hidT_get e (noA e d), d, r⟩
    have hKb : K.In (hidT s₁.heap H) := by
      intro b o e
      refine hidT_get (KX b o e) ?_
      cases q : H b with
      | none => rfl
      | some u =>
        have e' : b = a := hA b (by rw [q]; simp)
        subst e'; rw [hK (by rw [q]; simp)] at e; cases e
    have hM : Mod K mg (hidT s₁.heap H) := by
      obtain ⟨mc, c1, c2⟩ := hlim
      exact ⟨hKb, nsK hns, ⟨mb, nsK hb, hbb⟩, ⟨mc, nsK c1, c2⟩⟩
    have e0 : Env0 P w K mg (hidT s₁.heap H) callerA [] s₁ H := by
      refine ⟨rfl, hM, fun b o e => of_hidT e, Nat.le_of_eq (hidT_size _ _), trivial, fun b hb => ?_, hok, .of_eq hg⟩
      exact absurd (show b ∈ ([] : List Addr) from hb) (by simp)
    refine codeAny_mono ((F _ hKb (nsK hns)).run callerA [] s₁ H ⟨[.ref a], []⟩ [.ref a] [.ref a] _ _ rfl hr e0 (hbind s₁ (.ref a)) (.cons rfl .nil) (hsp H hO hS)) fun r s' h => ?_
    cases r with
    | error e => exact False.elim h
    | ok fl =>
      cases fl with
      | next => exact False.elim h
      | brk => exact False.elim h
      | cont => exact False.elim h
      | ret u =>
        obtain ⟨v, H', os, bare, un, hok', r', q⟩ := h
        have q' : v = .bl true := q
        subst q'
        obtain rfl : u = Value.bool true := r'
        refine ⟨rfl, OldK.of_keep fun b o e => ?_, os, bare⟩
        cases q : H b with
        | none => exact un.keep b o e q (by intro z; exact absurd (show b ∈ ([] : List Addr) from z) (by simp)) (by simp)
        | some u =>
          rcases hO b with z | ⟨ob, xs, z⟩
          · rw [q] at z; cases z
          · have z2 := un.frzs b ob _ z
            obtain ⟨e1, _⟩ := hok b _ z; obtain ⟨e2, _⟩ := hok' b _ z2
            rw [e] at e1; cases e1; exact e2
  cases hk : K.lookup a with
  | some o =>
    have e := KX a o hk
    rw [ha] at e; cases e
    refine core (fun _ => none) (fun _ => .inl rfl) ?_ (fun b u z => nomatch z) (fun b z => absurd rfl z) fun z => absurd rfl z
    exact .inr ⟨_, vs.toArray, _, hk, rfl, rfl, rfl, by rw [List.size_toArray, lenV]; exact hl, by simpa using rv⟩
  | none =>
    refine core (fun b => if b = a then some (.frz { cls := .type "list", data := .seq vs.toArray } (.lst (ns.map V.int))) else none) (fun b => ?_) (.inl (.inr ⟨_, if_pos rfl⟩)) (fun b u z => ?_) (fun b z => ?_) fun _ => hk
    · by_cases hb : b = a
      · exact .inr ⟨_, _, if_pos hb⟩
      · exact .inl (if_neg hb)
    · by_cases hb : b = a
      · have z' := (if_pos hb).symm.trans z
        cases z'; subst hb
        exact ⟨ha, by rw [List.length_map]; exact hl, vs, _, rv, ha⟩
      · have z' := (if_neg hb).symm.trans z
        cases z'
    · by_cases hb : b = a
      · exact hb
      · exact absurd (if_neg hb) z
theorem walkG {l : PySem.W.OpenLaw} {n k : Nat} {q : Program} {loose : List Str} {XP : (Str → Option Value) → Heap → Prop} {YP : World → Heap → Prop} {d : DefRec} {K : Params → PySem.W.Frag} {sp : PySem.W.Frag → Sp} {x : Str}
    (hn : l.most = some n) (hn2 : n ≤ sizeLine) (hdf : d.params.defaults = []) (hr : Room k callerA) (hY : ∀ (w : World) (h : Heap), YP w h → (K w.params).In h)
    (F : ∀ (w : World) (mg : Str → Option Value) (fa : Addr) (h : Heap), (K w.params).In h → h.Ns mainGlobals mg → mg d.name = some (.ref fa) →
      ∃ fd : FuncData, (∀ (s : Shared) (u : Value), BindsTo s fd ⟨[u], []⟩ [(x, u)]) ∧ ∀ base : Heap, (K w.params).In base → base.Ns mainGlobals mg → FnG l.prog w (K w.params) mg base k fa fd [x] (sp (K w.params)))
    (hsp : ∀ (K : PySem.W.Frag) (H : Hp) (a : Addr) (ns : List Int), ns.length ≤ n → Only H → SqL K H a (ns.map V.int) → sp K [.ref a] H (fun v _ => v = .bl true) fun _ _ _ => False) :
    PySem.W.WalkO q loose XP YP l.row.toRowW d [] (fun f vs => PySem.call f vs) := by
  refine Att.attach_call hn hdf fun w s₀ s₁ mg mb fa o pm cd doc a vs ns G Y ho hd hcd hmg hobj hints hlen hg => ?_
  have KX := hY w _ Y
  obtain ⟨fd, hb, hF⟩ := F w mg fa _ KX G.T.g hmg
  exact law_callG KX G.T.g G.T.b G.T.builtins G.T.nolimit hg hobj hints (Nat.le_trans hlen hn2) hr hF hb fun H hO hS => hsp (K w.params) H a ns hlen hO hS
/-! ### repr of data -/
def tRep (K : PySem.W.Frag) (te : TE) : TE := fun σ H Q => te σ H fun x H1 => ∃ a d, x = .ref a ∧ Dp K H1 x d ∧ d.showable = true ∧ d.hasDict = false ∧ d.depth ≤ 50 ∧ d.shown.length ≤ sizeLine ∧ Q (.str d.shown) H1
theorem pe_rep {X : Cx} {k : Nat} {e : Expr} {te : TE} {p pos : Pos} (hG : X.A.guards = some []) (hr : Room k X.A) (hg : Gl X "repr") (hm : X.mg "repr" = none) (hb : bootBuiltins "repr" = some (.builtin "repr")) (ha : PE X e te)
    (he : starEach [e] X.env = (false, eval e X.env) :: starEach [] X.env := by rfl) : PE X (.Call (.Name "repr" p) [e] [] pos) (tRep X.K te) := by
  refine ⟨fun pins s σ H Q I h => wpAny_Call_Name_kw (ld_blt I hg hm hb ?_)⟩
  refine PyProof.Rows.callWith_builtin1 (args_cons (thn (ha.run pins s σ H _ I h) fun u s1 ⟨v, H1, I1, r1, q1⟩ => args_nil ?_) he) he rfl
  obtain ⟨a, d, ex, hd, hs, hno, hdp, hz, q⟩ := q1
  subst ex
  obtain ⟨as, rd⟩ := Dp.reads I1 d _ u hd r1
  cases (show u = Value.ref a from r1)
  have hu := hr.un
  refine repr_of_reads' rd hs (fun z => absurd z (by rw [hno]; decide)) hG (by omega) (fun b o e => e) (fun h' u tk hk => ?_) hz
  exact ⟨.str d.shown, H1, I1.kept hk, ⟨_, rfl⟩, q⟩
end XL
namespace XL
open PySem PySem.Spec PyProof.Rows L2
def topS (i : Nat) : Stmt := PySem.Challenge.pw_crosslocks_k90_whole_wakings_and_the_way.main.body.getD i (.Pass ⟨0, 0, 0, 0⟩)
abbrev sTake : Stmt := topS 20
abbrev sOf : Stmt := topS 22
theorem atI_int {α : Type} {xs : List α} {i : Int} {v : α} (h0 : 0 ≤ i) (h : xs[i.toNat]? = some v) : atI xs i = some v := by
  have q := atI_nat h
  rwa [show ((i.toNat : Nat) : Int) = i by omega] at q
/-! ### the box: a list of three numbers -/
def Bx (H : Hp) (b : Addr) : Prop := ∃ x y z : Int, H b = some (.lst [.int x, .int y, .int z])
/-- all that was tracked but the box is as it was, the box is a box -/
structure Dr (b : Addr) (H H' : Hp) : Prop where
  box : Bx H' b
  same : ∀ a o, a ≠ b → H a = some o → H' a = some o
theorem Dr.refl {b : Addr} {H : Hp} (h : Bx H b) : Dr b H H := ⟨h, fun _ _ _ e => e⟩
theorem Dr.trans {b : Addr} {H H1 H2 : Hp} (p : Dr b H H1) (q : Dr b H1 H2) : Dr b H H2 := ⟨q.box, fun a o n e => q.same a o n (p.same a o n e)⟩
theorem Dr.new {b p : Addr} {H : Hp} {o : HO} (h : Bx H b) (n : H p = none) : Dr b H (upd H p o) := by
  obtain ⟨x, y, z, e⟩ := h
  exact ⟨⟨x, y, z, same_new n b _ e⟩, fun a o _ e => same_new n a o e⟩
theorem Dr.put {b : Addr} {H : Hp} {x y z : Int} : Dr b H (upd H b (.lst [.int x, .int y, .int z])) := ⟨⟨x, y, z, upd_same⟩, fun a o n e => by rw [upd_ne n]; exact e⟩
theorem Dr.of {b : Addr} {H H' : Hp} (h : Bx H b) (s : Same H H') : Dr b H H' := by
  obtain ⟨x, y, z, e⟩ := h
  exact ⟨⟨x, y, z, s _ _ e⟩, fun a o _ e => s a o e⟩
section
variable {P : Program} {w : World} {K : PySem.W.Frag} {mg : Str → Option Value} {base : Heap}
/-! ### _law_take -/
theorem scTake : FnScope ["_law_box_here", "_law_size", "_law_found", "_law_blend"] ["_law_box_here", "_law_size"] (defScope sTake) := ⟨rfl, rfl, rfl, by decide +kernel, rfl, by decide +kernel, by decide +kernel⟩
def spTake : Sp := fun vs H Q _ => ∃ (b : Addr) (n : Int), vs = [.ref b, .int n] ∧ Bx H b ∧ 0 < n ∧ n < 10000000000000 ∧ ∀ (v : Int) (H' : Hp), 0 ≤ v → v < n → Dr b H H' → Q (.int v) H'
theorem fmod_lt {a n : Int} (h : 0 < n) : 0 ≤ a.fmod n ∧ a.fmod n < n := by
  rw [Int.fmod_eq_emod_of_nonneg _ (Int.le_of_lt h)]
  exact ⟨Int.emod_nonneg _ (by omega), Int.emod_lt_of_pos _ h⟩
theorem div_log {n : Int} (h0 : 0 < n) (h1 : n < 10000000000000) : n.natAbs.log2 < 9000 := by
  have : n.natAbs.log2 < 44 := (Nat.log2_lt (by omega)).mpr (Nat.lt_trans (m := 10000000000000) (by omega) (by decide))
  omega
theorem ok_take {f : Addr} {fd : FuncData} {k : Nat} (F : Fun K "_law_take" "_law_take" sTake f fd) : FnOk P w K mg base CX0 (k + 1) f fd ["_law_box_here", "_law_size"] spTake := by
  refine F.ok scTake (fun vs H Q E h => ?_) (fun cdv A outer s H vs Q E hr h => ?_)
  · obtain ⟨b, n, rfl, _⟩ := h
    rfl
  obtain ⟨b, n, rfl, ⟨x, y, z, eb⟩, h0, h1, q⟩ := h
  refine ⟨_, pss_cons (ps_if (pt_cmpR op_gt (pe_ix ix_list (pv 0) pe_int (fun _ _ => rfl)) pe_int (nomark _))
      (pss_cons (ps_set (i := 2) scTake.nd rfl (.inl rfl) (pe_op op_modN (pe_ix ix_list (pv 0) pe_int (fun _ _ => rfl)) (pv 1)))
      (pss_cons (ps_asg (pe_op op_fdivW (pe_ix ix_list (pv 0) pe_int (fun _ _ => rfl)) (pv 1)) (pg_sub (pv 0) pe_int set_list))
      (pss_one (ps_ret (pv 2))))) pss_nil)
    (pss_cons (ps_asg (pe_op op_add (pe_ix ix_list (pv 0) pe_int (fun _ _ => rfl)) pe_int) (pg_sub (pv 0) pe_int set_list))
    (pss_cons (ps_set (i := 3) scTake.nd rfl (.inl rfl) (pe_op op_modN (pe_op op_add (pe_ix ix_list (pv 0) pe_int (fun _ _ => rfl)) (pe_op op_mul pe_int (pe_ix ix_list (pv 0) pe_int (fun _ _ => rfl)))) pe_int))
    (pss_cons (ps_set (i := 3) scTake.nd rfl (.inl rfl) (pe_op op_modN (pe_op op_add (pe_op op_add (pe_op op_mul (pv 3) (pv 3)) (pe_op op_mul pe_int (pe_ix ix_list (pv 0) pe_int (fun _ _ => rfl)))) pe_int) pe_int))
    (pss_cons (ps_set (i := 3) scTake.nd rfl (.inl rfl) (pe_op op_modN (pe_op op_add (pe_op op_mul (pv 3) (pe_op op_add (pe_op op_fdivN (pv 3) pe_int) pe_int)) (pe_ix ix_list (pv 0) pe_int (fun _ _ => rfl))) pe_int))
    (pss_one (ps_ret (pe_op op_modN (pe_op op_fdivN (pv 3) pe_int) (pv 1)))))))), ?_⟩
  have sq : SqL K H b [.int x, .int y, .int z] := SqL.of eb
  -- box[0] > 0
  refine ⟨_, rfl, b, _, _, _, rfl, rfl, sq, rfl, _, _, rfl, rfl, _, rfl, ite2 (fun c => ?_) (fun c => ?_)⟩
  · refine ⟨_, rfl, b, _, _, _, rfl, rfl, sq, rfl, _, rfl, _, _, rfl, rfl, by omega, ?_⟩
    refine ⟨_, rfl, b, _, _, _, rfl, rfl, sq, rfl, _, rfl, _, _, rfl, rfl, ⟨h0, div_log h0 h1⟩, ?_⟩
    refine ⟨_, rfl, b, _, _, 0, rfl, rfl, eb, rfl, ?_⟩
    refine ⟨_, rfl, ?_⟩
    exact q _ _ (fmod_lt h0).1 (fmod_lt h0).2 Dr.put
  · refine ⟨_, rfl, b, _, _, _, rfl, rfl, sq, rfl, _, _, rfl, rfl, ?_⟩
    refine ⟨_, rfl, b, _, _, 2, rfl, rfl, eb, rfl, ?_⟩
    have sq2 : SqL K (upd H b (.lst [.int x, .int y, .int (z + 1)])) b [.int x, .int y, .int (z + 1)] := SqL.of upd_same
    refine ⟨_, rfl, b, _, _, _, rfl, rfl, sq2, rfl, _, rfl, b, _, _, _, rfl, rfl, sq2, rfl, _, _, rfl, rfl, .inl ⟨by decide, by decide⟩, _, _, rfl, rfl, _, _, rfl, rfl, (by show (2305843009213693951 : Int) ≠ 0; decide), ?_⟩
    have m1 := fmod_lt (a := y + 1442695040888963407 * (z + 1)) (n := 2305843009213693951) (by decide)
    refine ⟨_, rfl, _, rfl, _, _, rfl, rfl, .inl ⟨by omega, by omega⟩, _, rfl, b, _, _, _, rfl, rfl, sq2, rfl, _, _, rfl, rfl, .inl ⟨by decide, by decide⟩, _, _, rfl, rfl, _, _, rfl, rfl, _, _, rfl, rfl, (by show (2305843009213693921 : Int) ≠ 0; decide), ?_⟩
    have m2 := fmod_lt (a := (y + 1442695040888963407 * (z + 1)).fmod 2305843009213693951 * (y + 1442695040888963407 * (z + 1)).fmod 2305843009213693951 + 39373 * (z + 1) + 7) (n := 2305843009213693921) (by decide)
    refine ⟨_, rfl, _, rfl, _, _, rfl, rfl, ⟨by decide, by decide⟩, _, _, rfl, rfl, _, _, rfl, rfl, .inl ⟨by omega, by omega⟩, _, rfl, b, _, _, _, rfl, rfl, sq2, rfl, _, _, rfl, rfl, _, _, rfl, rfl, (by show (2305843009213693907 : Int) ≠ 0; decide), ?_⟩
    refine ⟨_, rfl, _, _, rfl, rfl, ⟨by decide, by decide⟩, _, rfl, _, _, rfl, rfl, by omega, ?_⟩
    exact q _ _ (fmod_lt h0).1 (fmod_lt h0).2 Dr.put
/-! ### _law_of -/
theorem scOf : FnScope ["_law_box_here", "_law_some"] ["_law_box_here", "_law_some"] (defScope sOf) := ⟨rfl, rfl, rfl, by decide +kernel, rfl, by decide +kernel, by decide +kernel⟩
def spOf (K : PySem.W.Frag) : Sp := fun vs H Q _ => ∃ (b l : Addr) (xs : List V), vs = [.ref b, .ref l] ∧ Bx H b ∧ l ≠ b ∧ SqL K H l xs ∧ xs ≠ [] ∧ xs.length < 1000 ∧ ∀ (j : Nat) (v : V) (H' : Hp), xs[j]? = some v → Dr b H H' → Q v H'
theorem Dr.sqL {b a : Addr} {H H' : Hp} {xs : List V} (d : Dr b H H') (n : a ≠ b) (h : SqL K H a xs) : SqL K H' a xs := by
  rcases h with (h | ⟨o, h⟩) | h
  · exact .inl (.inl (d.same _ _ n h))
  · exact .inl (.inr ⟨o, d.same _ _ n h⟩)
  · exact .inr h
theorem Dr.sqT {b a : Addr} {H H' : Hp} {xs : List V} (d : Dr b H H') (n : a ≠ b) (h : SqT K H a xs) : SqT K H' a xs := by
  rcases h with (h | ⟨o, h⟩) | h
  · exact .inl (.inl (d.same _ _ n h))
  · exact .inl (.inr ⟨o, d.same _ _ n h⟩)
  · exact .inr h
theorem ok_of {f ft : Addr} {fd fdt : FuncData} {k : Nat} (F : Fun K "_law_of" "_law_of" sOf f fd) (FT : Fun K "_law_take" "_law_take" sTake ft fdt) (bT : Binds K fdt ["_law_box_here", "_law_size"] []) (gT : mg "_law_take" = some (.ref ft)) (ml : mg "len" = none) :
    FnOk P w K mg base CX0 (k + 1 + 1) f fd ["_law_box_here", "_law_some"] (spOf K) := by
  refine F.ok scOf (fun vs H Q E h => ?_) (fun cdv A outer s H vs Q E hr h => ?_)
  · obtain ⟨b, l, xs, rfl, _⟩ := h
    rfl
  obtain ⟨b, l, xs, rfl, hb, hlb, hl, hne, hz, q⟩ := h
  refine ⟨_, pss_one (ps_ret (pe_ix ix_list (pv 1) (pe_call (ok_take (k := k) FT) hr rfl gT FT.kp bT .nil pass0 (pa_cons (pv 0) (pa_cons (pe_callB call_len_seq rfl ml PySem.boot_len (pa_cons (pv 1) pa_nil)) pa_nil))) (fun _ _ => rfl))), ?_⟩
  have hpos : 0 < xs.length := List.length_pos_iff.mpr hne
  refine ⟨_, rfl, _, rfl, _, rfl, l, xs, rfl, .inl hl, b, _, rfl, hb, by omega, by omega, fun v H' v0 v1 d => ?_⟩
  have hj : v.toNat < xs.length := by omega
  have ha : atI xs v = some xs[v.toNat] := atI_int v0 (List.getElem?_eq_getElem hj)
  refine ⟨l, xs, v, _, rfl, rfl, d.sqL hlb hl, ha, ?_⟩
  exact q v.toNat _ _ (List.getElem?_eq_getElem hj) d
end
end XL
namespace XL
open PySem PySem.Spec PyProof.Rows L2
section
variable {K : PySem.W.Frag} {H H' : Hp}
/-! ### data stays -/
mutual
theorem Dp.same (s : Same H H') : ∀ {v : V} (d : PyData), Dp K H v d → Dp K H' v d
  | _, .none, h => by cases h; exact .non
  | _, .bool b, h => by cases h; exact .bl b
  | _, .int i, h => by cases h; exact .int i
  | _, .str x, h => by cases h; exact .str x
  | _, .list ds, h => by
    cases h with
    | lst hs ha => exact .lst (s.seq hs) (DpAll.same s ds ha)
  | _, .tuple ds, h => by
    cases h with
    | tup hs ha => exact .tup (Same.tup s hs) (DpAll.same s ds ha)
  | _, .dict _, h => by cases h
theorem DpAll.same (s : Same H H') : ∀ {vs : List V} (ds : List PyData), DpAll K H vs ds → DpAll K H' vs ds
  | _, [], h => by cases h; exact .nil
  | _, d :: ds, h => by
    cases h with
    | cons h1 h2 => exact .cons (Dp.same s d h1) (DpAll.same s ds h2)
end
theorem DpAll.length : ∀ {vs : List V} {ds : List PyData}, DpAll K H vs ds → vs.length = ds.length
  | _, _, .nil => rfl
  | _, _, .cons _ h => by rw [List.length_cons, List.length_cons, DpAll.length h]
theorem DpAll.get : ∀ {vs : List V} {ds : List PyData} {i : Nat} {v : V}, DpAll K H vs ds → vs[i]? = some v → ∃ d, ds[i]? = some d ∧ Dp K H v d
  | _, _, i, v, .nil, h => by simp at h
  | _, _, 0, v, .cons a _, h => by cases h; exact ⟨_, rfl, a⟩
  | _, _, i + 1, v, .cons _ r, h => DpAll.get r (i := i) h
theorem DpAll.get' : ∀ {vs : List V} {ds : List PyData} {i : Nat} {d : PyData}, DpAll K H vs ds → ds[i]? = some d → ∃ v, vs[i]? = some v ∧ Dp K H v d
  | _, _, i, v, .nil, h => by simp at h
  | _, _, 0, v, .cons a _, h => by cases h; exact ⟨_, rfl, a⟩
  | _, _, i + 1, v, .cons _ r, h => DpAll.get' r (i := i) h
theorem DpAll.app : ∀ {vs ws : List V} {ds es : List PyData}, DpAll K H vs ds → DpAll K H ws es → DpAll K H (vs ++ ws) (ds ++ es)
  | _, _, _, _, .nil, h => h
  | _, _, _, _, .cons a r, h => .cons a (DpAll.app r h)
theorem DpAll.snoc {vs : List V} {v : V} {ds : List PyData} {d : PyData} (a : DpAll K H vs ds) (h : Dp K H v d) : DpAll K H (vs ++ [v]) (ds ++ [d]) := DpAll.app a (.cons h .nil)
/-! ### kinds -/
def isSeq : PyData → Bool
  | .list _ => true
  | .tuple _ => true
  | _ => false
def tyD : PyData → Value
  | .none => .type "NoneType"
  | .bool _ => .type "bool"
  | .int _ => .type "int"
  | .str _ => .type "str"
  | .list _ => .type "list"
  | .tuple _ => .type "tuple"
  | .dict _ => .type "dict"
theorem tyx_of {v : V} {d : PyData} (h : Dp K H v d) : TyX K H v (tyD d) := by
  cases h with
  | non => exact .base .non
  | bl b => exact .base (.bl b)
  | int i => exact .base (.int i)
  | str x => exact .base (.str x)
  | lst hs _ =>
    rcases hs with (hs | ⟨o, hs⟩) | ⟨o, its, n, hk, hc, _⟩
    · exact .base (.lst hs)
    · exact .base (.frz hs)
    · exact .kList hk hc
  | tup hs _ =>
    rcases hs with (hs | ⟨o, hs⟩) | ⟨o, its, n, hk, hc, _⟩
    · exact .base (.tup hs)
    · exact .fTuple hs
    · exact .kTuple hk hc
theorem kit1 {t : String} {u : String} {b : Bool} (h : kitB t u = some b) : PySem.W.kitOne K (.type t) (.type u) = some b := kit_ty h
theorem kit2 {t u v : String} {a b : Bool} (h : kitB t u = some a) (h2 : kitB t v = some b) : PySem.W.kitAny K (.type t) [.type u, .type v] = some (a || b) := by
  refine kitAny_cons (kit_ty h) (fun e => ?_) (fun e => ?_)
  · subst e
    refine kitAny_cons (kit_ty h2) (fun e => ?_) (fun e => ?_)
    · subst e; rfl
    · subst e; rfl
  · subst e; rfl
theorem seq_kit (d : PyData) (h : ∀ kvs, d ≠ .dict kvs) : PySem.W.kitAny K (tyD d) [.type "list", .type "tuple"] = some (isSeq d) := by
  cases d with
  | none => exact kit2 (a := false) (b := false) (by decide +kernel) (by decide +kernel)
  | bool b => exact kit2 (a := false) (b := false) (by decide +kernel) (by decide +kernel)
  | int i => exact kit2 (a := false) (b := false) (by decide +kernel) (by decide +kernel)
  | str x => exact kit2 (a := false) (b := false) (by decide +kernel) (by decide +kernel)
  | list ds => exact kit2 (a := true) (b := false) (by decide +kernel) (by decide +kernel)
  | tuple ds => exact kit2 (a := false) (b := true) (by decide +kernel) (by decide +kernel)
  | dict kvs => exact absurd rfl (h kvs)
theorem Dp.nodict {v : V} {d : PyData} (h : Dp K H v d) : ∀ kvs, d ≠ .dict kvs := fun kvs e => by subst e; cases h
end
/-! ### data of bounded depth and width -/
def okD : Nat → PyData → Prop
  | 0, _ => False
  | n + 1, .list ds => ds.length ≤ 1000 ∧ ∀ d ∈ ds, okD n d
  | n + 1, .tuple ds => ds.length ≤ 1000 ∧ ∀ d ∈ ds, okD n d
  | _ + 1, _ => True
mutual
/-- lists as tuples -/
def tupD : PyData → PyData
  | .list ds => .tuple (tupDs ds)
  | .tuple ds => .tuple (tupDs ds)
  | .none => .none
  | .bool b => .bool b
  | .int i => .int i
  | .str x => .str x
  | .dict k => .dict k
def tupDs : List PyData → List PyData
  | [] => []
  | d :: ds => tupD d :: tupDs ds
end
mutual
/-- tuples as lists -/
def lstD : PyData → PyData
  | .list ds => .list (lstDs ds)
  | .tuple ds => .list (lstDs ds)
  | .none => .none
  | .bool b => .bool b
  | .int i => .int i
  | .str x => .str x
  | .dict k => .dict k
def lstDs : List PyData → List PyData
  | [] => []
  | d :: ds => lstD d :: lstDs ds
end
theorem tupDs_eq : ∀ ds : List PyData, tupDs ds = ds.map tupD
  | [] => rfl
  | d :: ds => by rw [tupDs, tupDs_eq ds]; rfl
theorem lstDs_eq : ∀ ds : List PyData, lstDs ds = ds.map lstD
  | [] => rfl
  | d :: ds => by rw [lstDs, lstDs_eq ds]; rfl
def itemsD : PyData → List PyData
  | .list ds => ds
  | .tuple ds => ds
  | _ => []
theorem seq_of {K : PySem.W.Frag} {H : Hp} {v : V} {d : PyData} (h : Dp K H v d) (hs : isSeq d = true) : ∃ a xs, v = .ref a ∧ Sq2 K H a xs ∧ DpAll K H xs (itemsD d) := by
  cases h with
  | lst h1 h2 => exact ⟨_, _, rfl, .inl h1, h2⟩
  | tup h1 h2 => exact ⟨_, _, rfl, .inr h1, h2⟩
  | _ => simp [isSeq] at hs
theorem okD_items {n : Nat} {d : PyData} (h : okD (n + 1) d) (hs : isSeq d = true) : (∀ e ∈ itemsD d, okD n e) ∧ (itemsD d).length ≤ 1000 := by
  cases d with
  | list ds => exact ⟨h.2, h.1⟩
  | tuple ds => exact ⟨h.2, h.1⟩
  | _ => simp [isSeq] at hs
theorem small {n : Nat} (h : n ≤ 1000) : n ≤ sizeLine := Nat.le_of_lt (small1000 h)
end XL
namespace XL
open PySem PySem.Spec PyProof.Rows L2
/-! ### a list that is hidden while an expression is evaluated -/
theorem same_delH {H : Hp} {D : Addr} {o : HO} : Same (delH H D) (upd H D o) := fun b x e => by
  by_cases hb : b = D
  · rw [hb, delH_same] at e; cases e
  · rw [delH_ne hb] at e; rw [upd_ne hb]; exact e
theorem delH_none {H : Hp} {D : Addr} (h : H D = none) : delH H D = H := by
  funext b
  by_cases hb : b = D
  · rw [hb, delH_same, h]
  · rw [delH_ne hb]
theorem delH_upd {H : Hp} {D : Addr} {o : HO} (h : H D = none) : delH (upd H D o) D = H := delH_new h
theorem upd_upd {H : Hp} {D : Addr} {o o' : HO} : upd (upd H D o) D o' = upd H D o' := by
  funext b
  by_cases hb : b = D
  · rw [hb, upd_same, upd_same]
  · rw [upd_ne hb, upd_ne hb, upd_ne hb]
theorem upd_comm {H : Hp} {D T : Addr} {o o' : HO} (h : T ≠ D) : upd (upd H D o) T o' = upd (upd H T o') D o := by
  funext b
  by_cases hb : b = D
  · rw [hb, upd_same, upd_ne (fun e => h e.symm), upd_same]
  · by_cases hT : b = T
    · rw [hT, upd_same, upd_ne h, upd_same]
    · rw [upd_ne hT, upd_ne hb, upd_ne hb, upd_ne hT]
section
variable {X : Cx} {pins : List (Addr × Obj)} {σ : L2.St} {H : Hp} {s s' : Shared} {D : Addr} {xs : List V}
theorem Inv.hide (I : Inv X pins σ H s) (hD : H D = some (.lst xs)) : ∃ (its : List Value) (n : Nat), Vals xs its ∧ xs.length ≤ sizeLine ∧
    Inv X ((D, { cls := .type "list", dict := none, data := .seq its.toArray n, slots := #[] }) :: pins) σ (delH H D) s := by
  obtain ⟨hz, its, n, rv, ho⟩ := (show ObjOk X.prog X.w H s.heap D (.lst xs) from I.hok D _ hD)
  have ne : ∀ {b : Addr}, H b = none → b ≠ D := fun {b} h e => by rw [e, hD] at h; cases h
  have hN : ∀ {b : Addr}, H b = none → delH H D b = none := fun {b} h => by rw [delH_ne (ne h)]; exact h
  refine ⟨its, n, rv, hz, ⟨I.ok, I.os, I.bare, ⟨I.base.keep, I.base.slot, fun b o e n hx => hN (I.base.free b o e n hx), I.base.there, fun b ys e => ?_, fun b o u e => ?_, fun b ps e => ?_⟩, I.loc, I.cell, hN I.free, fun x c e => hN (I.freeC x c e), fun p hp => ?_, fun b o e => ?_, I.len⟩⟩
  · have q := I.base.tups b ys e
    rw [delH_ne (fun z => by rw [z, hD] at q; cases q)]; exact q
  · have q := I.base.frzs b o u e
    rw [delH_ne (fun z => by rw [z, hD] at q; cases q)]; exact q
  · obtain ⟨m, q⟩ := I.base.tbls b ps e
    exact ⟨m, by rw [delH_ne (fun z => by rw [z, hD] at q; cases q)]; exact q⟩
  · rcases List.mem_append.mp hp with hp | hp
    · obtain ⟨a1, a2, a3⟩ := I.pin p (List.mem_append_left _ hp)
      exact ⟨a1, hN a2, a3⟩
    · rcases List.mem_cons.mp hp with e | hp
      · subst e
        refine ⟨ho, delH_same, fun e => ?_, fun hf => ?_, fun v e => nomatch e⟩
        · have := I.free; rw [show X.env.locals = D from e.symm, hD] at this; cases this
        · obtain ⟨_, o, q, _⟩ := I.ok.funs.mem hf
          have := I.base.free D o q (I.ok.frf D hf) fun z => I.ok.exfs D z hf
          rw [hD] at this; cases this
      · obtain ⟨a1, a2, a3⟩ := I.pin p (List.mem_append_right _ hp)
        exact ⟨a1, hN a2, a3⟩
  · have hb : b ≠ D := fun z => by rw [z, delH_same] at e; cases e
    rw [delH_ne hb] at e
    refine (I.hok b o e).stay (fun c v _ q => q) (fun c q => ?_) fun c ys q => ?_
    · rw [delH_ne (fun z => by rw [z, hD] at q; cases q)]; exact q
    · rw [delH_ne (fun z => by rw [z, hD] at q; cases q)]; exact q
theorem Inv.unhide {H' : Hp} {its : List Value} {n : Nat} (I : Inv X pins σ H s) (hD : H D = some (.lst xs)) (rv : Vals xs its) (hz : xs.length ≤ sizeLine)
    (J : Inv X ((D, { cls := .type "list", dict := none, data := .seq its.toArray n, slots := #[] }) :: pins) σ H' s') : H' D = none ∧ Inv X pins σ (upd H' D (.lst xs)) s' := by
  obtain ⟨ho, hn, _, _, _⟩ := J.pin (D, _) (List.mem_append_right _ (List.mem_cons_self ..))
  have hn' : H' D = none := hn
  have ne : ∀ {b : Addr}, H b = none → b ≠ D := fun {b} h e => by rw [e, hD] at h; cases h
  refine ⟨hn', ⟨J.ok, J.os, J.bare, ⟨J.base.keep, J.base.slot, fun b o e n hx => ?_, J.base.there, fun b ys e => ?_, fun b o u e => ?_, fun b ps e => ?_⟩, J.loc, J.cell, ?_, fun x c e => ?_, fun p hp => ?_, fun b o e => ?_, J.len⟩⟩
  · rw [upd_ne (ne (I.base.free b o e n hx))]; exact J.base.free b o e n hx
  · have q := J.base.tups b ys e
    rw [upd_ne (fun z => by rw [z, hn'] at q; cases q)]; exact q
  · have q := J.base.frzs b o u e
    rw [upd_ne (fun z => by rw [z, hn'] at q; cases q)]; exact q
  · obtain ⟨m, q⟩ := J.base.tbls b ps e
    exact ⟨m, by rw [upd_ne (fun z => by rw [z, hn'] at q; cases q)]; exact q⟩
  · rw [upd_ne (ne I.free)]; exact J.free
  · rw [upd_ne (ne (I.freeC x c e))]; exact J.freeC x c e
  · obtain ⟨_, a0, _⟩ := I.pin p hp
    have hp' : p ∈ X.pn ++ ((D, ({ cls := .type "list", dict := none, data := .seq its.toArray n, slots := #[] } : Obj)) :: pins) := by
      rcases List.mem_append.mp hp with h | h
      · exact List.mem_append_left _ h
      · exact List.mem_append_right _ (List.mem_cons_of_mem _ h)
    obtain ⟨a1, a2, a3⟩ := J.pin p hp'
    exact ⟨a1, by rw [upd_ne (ne a0)]; exact a2, a3⟩
  · by_cases hb : b = D
    · subst hb
      rw [upd_same] at e
      cases e
      exact ⟨hz, its, n, rv, ho⟩
    · rw [upd_ne hb] at e
      refine (J.hok b o e).stay (fun c v _ q => q) (fun c q => ?_) fun c ys q => ?_
      · rw [upd_ne (fun z => by rw [z, hn'] at q; cases q)]; exact q
      · rw [upd_ne (fun z => by rw [z, hn'] at q; cases q)]; exact q
end
/-- e, evaluated while the list at D is hidden -/
def tHide (t : TE) : TE := fun σ H Q => ∃ D xs, H D = some (.lst xs) ∧ t σ (delH H D) fun v H' => H' D = none → Q v (upd H' D (.lst xs))
theorem pe_hide {X : Cx} {e : Expr} {t : TE} (h : PE X e t) : PE X e (tHide t) := by
  refine ⟨fun pins s σ H Q I q => ?_⟩
  obtain ⟨D, xs, hD, q⟩ := q
  obtain ⟨its, n, rv, hz, J⟩ := Inv.hide I hD
  refine thn (h.run _ s σ _ _ J q) fun u s' hu => ?_
  obtain ⟨v, H', J', r, q'⟩ := hu
  obtain ⟨hn, I'⟩ := Inv.unhide I hD rv hz J'
  exact ⟨v, _, I', r, q' hn⟩
theorem wipe_none {σ : L2.St} {i : Nat} : ∀ {vs : List Nat}, i ∈ vs → (wipe σ vs).set i none = wipe σ vs
  | [], h => by simp at h
  | v :: vs, h => by
    show ((wipe σ vs).set v none).set i none = (wipe σ vs).set v none
    by_cases e : i = v
    · rw [e, List.set_set]
    · have h' : i ∈ vs := by rcases List.mem_cons.mp h with q | q; exact absurd q e; exact q
      rw [List.set_comm _ _ (fun q => e q.symm), wipe_none h']
theorem wipe_put {σ : L2.St} {i : Nat} {x : Option V} : ∀ {vs : List Nat}, i ∉ vs → wipe (σ.set i x) vs = (wipe σ vs).set i x
  | [], _ => rfl
  | v :: vs, h => by
    show (wipe (σ.set i x) vs).set v none = ((wipe σ vs).set v none).set i x
    rw [wipe_put (fun q => h (List.mem_cons_of_mem _ q)), List.set_comm _ _ (fun q => h (by rw [q]; exact List.mem_cons_self ..))]
theorem w1 {σ σ' : L2.St} {i : Nat} {x : Option V} {vs : List Nat} (h : i ∈ vs) (e : wipe σ' vs = wipe σ vs) : wipe (σ'.set i x) vs = wipe σ vs := by
  have key : ∀ {vs : List Nat}, i ∈ vs → wipe (σ'.set i x) vs = wipe σ' vs := by
    intro vs h
    induction vs with
    | nil => simp at h
    | cons v vs ih =>
      show (wipe (σ'.set i x) vs).set v none = (wipe σ' vs).set v none
      by_cases hm : i ∈ vs
      · rw [ih hm]
      · have ev : i = v := by rcases List.mem_cons.mp h with q | q; exact q; exact absurd q hm
        rw [wipe_put hm, ← ev, List.set_set]
  rw [key h, e]
theorem w0 {σ : L2.St} {vs : List Nat} : wipe (wipe σ vs) vs = wipe σ vs := by
  have key : ∀ ws : List Nat, (∀ i ∈ ws, i ∈ vs) → wipe (wipe σ vs) ws = wipe σ vs := by
    intro ws
    induction ws with
    | nil => intro _; rfl
    | cons w ws ih =>
      intro h
      show (wipe (wipe σ vs) ws).set w none = wipe σ vs
      rw [ih (fun i hi => h i (List.mem_cons_of_mem _ hi)), wipe_none (h w (List.mem_cons_self ..))]
  exact key vs fun i h => h
/-- a comprehension that makes one value a turn -/
theorem lc_map {J : It} {n : Nat} {G : Hp → Prop} {Y : Nat → Hp → V → Hp → Prop} (w : Walk J n G Y) (Rl : Hp → Hp → Prop) (tr : ∀ {A B C}, Rl A B → Rl B C → Rl A C)
    (R : Nat → V → Hp → Prop) (st : ∀ i y A B, Rl A B → R i y A → R i y B) {g : TG} {t : TE} {vs : List Nat} {σ : L2.St} {H1 : Hp} {Qd : Addr → Hp → Prop} (hz : n < sizeLine)
    (rf : Rl H1 H1) (hG : ∀ F D acc, Rl H1 F → F D = none → G (upd F D (.lst acc)))
    (hs : ∀ i x D acc F H', i < n → H1 D = none → Rl H1 F → F D = none → Y i (upd F D (.lst acc)) x H' → ∀ B : L2.St → Hp → Prop, (∀ σ2 Fm, wipe σ2 vs = wipe σ vs → Fm D = none →
      (∀ Qt : VK, (∀ y F', Rl F F' → R i y F' → Qt y F') → t σ2 Fm Qt) → B σ2 (upd Fm D (.lst acc))) → g x (wipe σ vs) H' B)
    (hd : ∀ D ys F, H1 D = none → Rl H1 F → F D = none → ys.length = n → (∀ (i : Nat) y, ys[i]? = some y → R i y F) → Qd D (upd F D (.lst ys))) :
    ∀ D, H1 D = none → ∃ W : Nat → Nat → Hp → Prop, (∃ m, W 0 m (upd H1 D (.lst []))) ∧ ∀ i m H, W i m H →
      (J.stop i H ∧ Qd D H) ∨ (J.go i H ∧ ∃ Nx : Hp → Prop, (∀ H', Nx H' → ∃ m', m' < m ∧ W (i + 1) m' H') ∧ ∀ x H', J.yld i H x H' → g x (wipe σ vs) H' fun σ2 H2 => wipe σ2 vs = wipe σ vs ∧ tYes σ2 H2 fun b H3 =>
        if b = true then tHide t σ2 H3 fun y H4 => ∃ acc, H4 D = some (.lst acc) ∧ acc.length < sizeLine ∧ Nx (upd H4 D (.lst (acc ++ [y]))) else Nx H3) := by
  intro D nD
  refine lc_it w (fun i H => ∃ ys F, H = upd F D (.lst ys) ∧ F D = none ∧ Rl H1 F ∧ ys.length = i ∧ ∀ (j : Nat) y, ys[j]? = some y → R j y F) ⟨[], H1, rfl, nD, rf, rfl, fun j y e => by simp at e⟩ ?_ ?_ ?_
  · rintro i H _ ⟨ys, F, rfl, nF, rl, _, _⟩
    exact hG F D ys rl nF
  · rintro i x H H' hi ⟨ys, F, rfl, nF, rl, hl, hR⟩ hy
    refine hs i x D ys F H' hi nD rl nF hy _ fun σ2 Fm hw nm ht => ⟨hw, ?_⟩
    unfold tYes; dsimp only
    rw [if_pos rfl]
    refine ⟨D, ys, upd_same, ?_⟩
    rw [delH_upd nm]
    refine ht _ fun y F' rl' r nF' => ⟨ys, upd_same, by omega, ys ++ [y], F', upd_upd, nF', tr rl rl', by rw [List.length_append, hl]; rfl, fun j z e => ?_⟩
    by_cases hj : j < ys.length
    · rw [List.getElem?_append_left hj] at e
      exact st j z F F' rl' (hR j z e)
    · rw [List.getElem?_append_right (by omega)] at e
      have hj0 : j - ys.length = 0 := by
        rcases Nat.eq_zero_or_pos (j - ys.length) with q | q
        · exact q
        · rw [List.getElem?_eq_none (by simp; omega)] at e; cases e
      rw [hj0] at e
      have e' : y = z := by simpa using e
      have ej : j = i := by omega
      rw [← e', ej]; exact r
  · rintro H ⟨ys, F, rfl, nF, rl, hl, hR⟩
    exact hd D ys F nD rl nF hl hR
/-! ### what is walked: a list or a tuple -/
def iSeq (K : PySem.W.Frag) (tl : TE) : TI := fun σ H R => tl σ H fun x H1 => ∃ a xs, x = .ref a ∧ Sq2 K H1 a xs ∧ ∀ J, Walk J xs.length (fun H => (¬ SqT K H1 a xs → SqL K H1 a xs → SqL K H a xs) ∧ (SqT K H1 a xs → SqT K H a xs)) (YAt xs) → R J H1
theorem pi_seq {X : Cx} {tg l : Expr} {tl : TE} (hl : PE X l tl) : PI X tg l (iSeq X.K tl) := by
  refine ⟨fun pins s σ H R I h => ?_⟩
  refine thn (hl.run pins s σ H _ I h) fun v s1 ⟨x, H1, I1, r1, q1⟩ => ?_
  obtain ⟨a, xs, e, hq, q⟩ := q1
  subst e
  cases r1
  have fp : ∀ b ∈ [s1.heap.objs.size], FpOk X pins H1 b := fun b hb => by
    have e : b = s1.heap.objs.size := by simpa using hb
    subst e
    exact I1.fpOk (Nat.le_refl _) (I1.hok.fresh (Nat.le_refl _))
  by_cases hT : SqT X.K H1 a xs
  rotate_left
  · have hq : SqL X.K H1 a xs := hq.resolve_right hT
    obtain ⟨its, rv, p, hz⟩ := I1.list hq
    refine wpAny_pyIter_list p.isList ⟨s1.heap.objs.size, [s1.heap.objs.size], _, _, H1, rfl, I1.kept (t' := s1.toks) fun b o e => Heap.get?_push_of_some _ e, turn_list a _, ⟨_, Heap.get?_push_size _ rfl, rfl, rfl⟩, fp, q (Itl X.K a) ?_⟩
    exact (walk_list (K := X.K) (a := a) (xs := xs)).mono (fun H g => g.1 hT hq) fun i H x H' _ _ y => y
  · obtain ⟨its, rv, p, hz⟩ := I1.tuple hT
    refine wpAny_pyIter_tuple (show s1.heap.IsTuple a its.toArray from p) ⟨s1.heap.objs.size, [s1.heap.objs.size], _, _, H1, rfl, I1.kept (t' := s1.toks) fun b o e => Heap.get?_push_of_some _ e, turn_tuple a _, ⟨_, Heap.get?_push_size _ rfl, rfl, rfl⟩, fp, q (Itt X.K a) ?_⟩
    exact (walk_tup (K := X.K) (a := a) (xs := xs)).mono (fun H g => g.2 hT) fun i H x H' _ _ y => y
/-- a, b, .. = a list or a tuple -/
def gAny (K : PySem.W.Frag) (n : Nat) (t : TGs) : TG := fun v σ H Q => ∃ a xs, v = .ref a ∧ Sq2 K H a xs ∧ xs.length = n ∧ t xs σ H Q
theorem pg_any {X : Cx} {es : List Expr} {k : Nat} {pos : Pos} {t : TGs} {n : Nat} (hc : X.calm = true) (h : PGs X es t)
    (hn : (assignEach es X.env).length = n := by rfl) (hst : (assignEach es X.env).findIdx? (·.1) = none := by rfl) : PG X (.Tuple es k pos) (gAny X.K n t) := by
  refine ⟨fun pins s σ H v u Q I r hw => ?_⟩
  obtain ⟨a, xs, e, hq, hl, hw⟩ := hw
  rcases hq with hq | hq
  · exact (pg_unl hc h hn hst).run pins s σ H v u Q I r ⟨a, xs, e, hq, hl, hw⟩
  · exact (pg_tup hc h hn hst).run pins s σ H v u Q I r ⟨a, xs, e, hq, hl, hw⟩
end XL
namespace XL
open PySem PySem.Spec PyProof.Rows L2
/-! ### data without lists: it stands while tuples stand -/
structure Tp (H H' : Hp) : Prop where
  t : ∀ a xs, H a = some (.tup xs) → H' a = some (.tup xs)
  f : ∀ a o xs, H a = some (.frz o (.tup xs)) → H' a = some (.frz o (.tup xs))
theorem Tp.of {H H' : Hp} (s : Same H H') : Tp H H' := ⟨fun a xs e => s _ _ e, fun a o xs e => s _ _ e⟩
theorem Tp.trans {A B C : Hp} (p : Tp A B) (q : Tp B C) : Tp A C := ⟨fun a xs e => q.t _ _ (p.t _ _ e), fun a o xs e => q.f _ _ _ (p.f _ _ _ e)⟩
theorem Tp.upd {H : Hp} {a : Addr} {xs : List V} {o : HO} (h : H a = some (.lst xs)) : Tp H (upd H a o) :=
  ⟨fun b ys e => by rw [upd_ne (fun z => by rw [z, h] at e; cases e)]; exact e, fun b o' ys e => by rw [upd_ne (fun z => by rw [z, h] at e; cases e)]; exact e⟩
theorem Tp.sqT {K : PySem.W.Frag} {H H' : Hp} {a : Addr} {xs : List V} (p : Tp H H') (h : SqT K H a xs) : SqT K H' a xs := by
  rcases h with (h | ⟨o, h⟩) | h
  · exact .inl (.inl (p.t _ _ h))
  · exact .inl (.inr ⟨o, p.f _ _ _ h⟩)
  · exact .inr h
mutual
def noL : PyData → Bool
  | .list _ => false
  | .tuple ds => noLs ds
  | _ => true
def noLs : List PyData → Bool
  | [] => true
  | d :: ds => noL d && noLs ds
end
section
variable {K : PySem.W.Frag} {H H' : Hp}
mutual
theorem Dp.tp (p : Tp H H') : ∀ {v : V} (d : PyData), noL d = true → Dp K H v d → Dp K H' v d
  | _, .none, _, h => by cases h; exact .non
  | _, .bool b, _, h => by cases h; exact .bl b
  | _, .int i, _, h => by cases h; exact .int i
  | _, .str x, _, h => by cases h; exact .str x
  | _, .list ds, n, h => by simp [noL] at n
  | _, .tuple ds, n, h => by
    cases h with
    | tup hs ha => exact .tup (p.sqT hs) (DpAll.tp p ds (by simpa [noL] using n) ha)
  | _, .dict _, _, h => by cases h
theorem DpAll.tp (p : Tp H H') : ∀ {vs : List V} (ds : List PyData), noLs ds = true → DpAll K H vs ds → DpAll K H' vs ds
  | _, [], _, h => by cases h; exact .nil
  | _, d :: ds, n, h => by
    cases h with
    | cons h1 h2 =>
      rw [noLs, Bool.and_eq_true] at n
      exact .cons (Dp.tp p d n.1 h1) (DpAll.tp p ds n.2 h2)
end
end
/-! ### canals as data -/
abbrev Lk := Int × Int × Int × Int
def lkD (l : Lk) : PyData := .tuple [.int l.1, .int l.2.1, .int l.2.2.1, .int l.2.2.2]
structure Cn where
  r : Int
  b : Int
  ls : List Lk
def cnD (c : Cn) : PyData := .tuple [.int c.r, .int c.b, .tuple (c.ls.map lkD)]
structure okLk (r b : Int) (l : Lk) : Prop where
  a0 : 0 ≤ l.1
  a1 : l.1 < r
  c0 : 0 ≤ l.2.1
  c1 : l.2.1 < r
  x0 : 0 ≤ l.2.2.1
  x1 : l.2.2.1 < b
  y0 : 0 ≤ l.2.2.2
  y1 : l.2.2.2 < b
structure okCn (wide utmost : Nat) (c : Cn) : Prop where
  r1 : 1 ≤ c.r
  r2 : c.r ≤ wide
  b1 : 1 ≤ c.b
  b2 : c.b ≤ wide
  n : c.ls.length ≤ utmost
  l : ∀ l ∈ c.ls, okLk c.r c.b l
theorem noLs_lk : ∀ ls : List Lk, noLs (ls.map lkD) = true
  | [] => rfl
  | l :: ls => by rw [List.map_cons, noLs, noLs_lk ls]; rfl
theorem noL_cn (c : Cn) : noL (cnD c) = true := by
  show noLs [.int c.r, .int c.b, .tuple (c.ls.map lkD)] = true
  simp [noLs, noL, noLs_lk]
theorem lk_lay (l : Lk) : (lkD l).canLay0 = true := by simp [lkD, PyData.canLay0, PyData.canLayAll0]
theorem lk_depth (l : Lk) : (lkD l).depth = 1 := by simp [lkD, PyData.depth, PyData.depthAll]
theorem lks_lay : ∀ ls : List Lk, PyData.canLayAll0 (ls.map lkD) = true
  | [] => by simp [PyData.canLayAll0]
  | l :: ls => by simp [PyData.canLayAll0, lk_lay l, lks_lay ls]
theorem lks_depth : ∀ ls : List Lk, PyData.depthAll (ls.map lkD) ≤ 1
  | [] => by simp [PyData.depthAll]
  | l :: ls => by
    have h1 := lks_depth ls; have h2 := lk_depth l
    simp only [List.map_cons, PyData.depthAll]; omega
theorem lks_shaped (ls : List Lk) : SeqAt.shaped (.list (ls.map lkD)) = true := by
  have h1 := lks_depth ls
  have h2 : PyData.depth (.list (ls.map lkD)) ≤ 64 := by simp only [PyData.depth]; omega
  show (PyData.canLay0 (.list (ls.map lkD)) && decide (PyData.depth (.list (ls.map lkD)) ≤ 64)) = true
  rw [Bool.and_eq_true]; exact ⟨by simp only [PyData.canLay0]; exact lks_lay ls, decide_eq_true h2⟩
theorem nil_shaped : SeqAt.shaped (.list []) = true := lks_shaped []
theorem eqv_nil (ls : List Lk) : PyData.eqv (.list (ls.map lkD)) (.list []) = ls.isEmpty := by
  cases ls with
  | nil => simp [PyData.eqv, PyData.eqvAll]
  | cons l ls => simp [PyData.eqv, PyData.eqvAll]
end XL
namespace PySem
namespace XEn
open Sem (wp)
set_option maxHeartbeats 1000000 in
theorem meets_new1 {v : Value} {o : Obj} {H : Heap → Prop} (B : Begins v o H) :
    Meets (Builtin.«enumerate.__new__» ⟨[.type "enumerate", v], []⟩) (fun _ R s => H s.heap ∧
      R (.ok (.ret (.ref (s.heap.push o).objs.size))) { s with heap := (s.heap.push o).push { cls := .type "enumerate", data := .fields #[.none, .bool false, .ref s.heap.objs.size, rawInt 0, .none, .none] } }) :=
  .of_wp fun prog w A R s h => by
    obtain ⟨hp, g, d, tk, os⟩ := s; obtain ⟨h1, h⟩ := h
    have hsub := sub_enumerate
    have q1 : ∀ {A' : Around} {E : Value → Shared → Prop} {Q : Value → Shared → Prop}, Q (.ref hp.objs.size) ⟨hp.push o, g, d, tk, os⟩ → wpAny (model prog w) A' (pyIter v) Q E ⟨hp, g, d, tk, os⟩ :=
      fun q => B.iter prog w _ _ ⟨hp, g, d, tk, os⟩ _ h1 q
    wp_walk using q1
    refine wpAny_stack_any fun st => wpAny_pure ?_
    split
    · rename_i c _ _ _ _ _
      cases (c == Value.type "enumerate")
      · wp_walk using q1
        exact ⟨_, rfl, h⟩
      · wp_walk using q1
        exact ⟨_, rfl, h⟩
    · wp_walk using q1
      exact ⟨_, rfl, h⟩
section
variable {prog : Program} {w : World} {A : Around} {E : Value → Shared → Prop} {s : Shared}
theorem begins1 {v : Value} {o : Obj} {H : Heap → Prop} {Q : Value → Shared → Prop} (B : Begins v o H) (h1 : H s.heap)
    (h : ∀ h', IsEnum h' (s.heap.objs.size + 1) s.heap.objs.size 0 .none → h'.get? s.heap.objs.size = some o → h'.objs.size = s.heap.objs.size + 2 →
      (∀ b o, s.heap.get? b = some o → h'.get? b = some o) → Q (.ref (s.heap.objs.size + 1)) { s with heap := h' }) :
    wpAny (model prog w) A (call (.type "enumerate") [v]) Q E s := by
  refine callType_new F.called_enumerate (by decide) (F.typeCall_enumerate_1 _) (F.newCall_enumerate_1 _) (fun obj => F.args_object_init_2 obj _) F.entry_enumerate_new
    (meets_new1 B) ⟨h1, ?_⟩
  have hz : (s.heap.push o).objs.size = s.heap.objs.size + 1 := Heap.size_push ..
  show _ ∧ _
  rw [hz]
  have he : IsEnum ((s.heap.push o).push { cls := .type "enumerate", data := .fields #[.none, .bool false, .ref s.heap.objs.size, rawInt 0, .none, .none] }) (s.heap.objs.size + 1) s.heap.objs.size 0 .none := by
    have := Heap.get?_push_size (s.heap.push o) (o := { cls := .type "enumerate", data := .fields #[.none, .bool false, .ref s.heap.objs.size, rawInt 0, .none, .none] }) rfl
    rw [hz] at this; exact this
  refine ⟨⟨_, he, rfl⟩, h _ he (Heap.get?_push_of_some _ (Heap.get?_push_size _ B.free)) (by rw [Heap.size_push, hz]) fun b o x => Heap.get?_push_of_some _ (Heap.get?_push_of_some _ x)⟩
end
end XEn
end PySem
namespace XL
open PySem PySem.Spec PyProof.Rows L2
/-! ### enumerate(tuple) -/
def IteT (K : PySem.W.Frag) (a : Addr) : It :=
  ⟨fun i H => ∃ (xs : List V) (x : V), SqT K H a xs ∧ xs[i]? = some x, fun i H v H' => ∃ T x, v = .ref T ∧ H T = none ∧ H' = upd H T (.tup [.int (i : Nat), x]) ∧ ∀ xs, SqT K H a xs → xs[i]? = some x, fun i H => ∃ xs : List V, SqT K H a xs ∧ xs.length = i⟩
theorem tup_ne {h : Heap} {it a : Addr} {i : Nat} {its : Array Value} (h1 : h.IsTupleIter it a i) (h2 : h.IsTuple a its) : a ≠ it := fun z => by
  obtain ⟨o, e, c, d⟩ := h1
  obtain ⟨o', e', c', _⟩ := h2
  rw [z, e] at e'
  cases e'
  rw [c] at c'
  exact absurd c' (by decide)
theorem turn_enumT {P : Program} {w : World} {K : PySem.W.Frag} {elts : List Expr} {kk : Nat} {tpos : Pos} (a e it : Addr) :
    Turn P w K (.Tuple elts kk tpos) (IteT K a) [e, it] e (fun i h => (∃ old, IsEnum h e it ((i : Nat) : Int) old) ∧ h.IsTupleIter it a i ∧ e ≠ it) where
  mem := by simp
  obj := fun i h st b hb => by
    obtain ⟨⟨old, he⟩, ⟨o, ho, hc, hd⟩, _⟩ := st
    have e' : b = e ∨ b = it := by simpa using hb
    rcases e' with z | z
    · rw [z]; exact ⟨_, he, fun v q => nomatch q⟩
    · rw [z]; exact ⟨o, ho, fun v q => by rw [hd] at q; cases q⟩
  keep := fun i h h' st k => let ⟨⟨old, he⟩, hi, hne⟩ := st; ⟨⟨old, k e (by simp) _ he⟩, hi.at fun o q => k it (by simp) o q, hne⟩
  item := by
    intro X hP hw hK hc i pins s σ H E I hf st hg
    subst hP hw hK
    obtain ⟨⟨old, he⟩, hit, hne⟩ := st
    obtain ⟨xs, x, hq, hx⟩ := hg
    obtain ⟨its, rv, p, hz⟩ := I.tuple hq
    have p' : s.heap.IsTuple a its.toArray := p
    obtain ⟨u, hu, ru⟩ := rv.get hx
    have hel : e < s.heap.objs.size := Heap.lt_size he
    have hil : it < s.heap.objs.size := by obtain ⟨_, q, _⟩ := hit; exact Heap.lt_size q
    have hai := tup_ne hit p'
    have hae : e ∉ [it, a] := by
      intro z
      have z' : e = it ∨ e = a := by simpa using z
      rcases z' with z | z
      · exact hne z
      · obtain ⟨o', e', c', _⟩ := p'
        rw [← z, he] at e'
        cases e'
        exact absurd (show Value.type "enumerate" = Value.type "tuple" from c') (by decide)
    have hi : i < its.toArray.size := by
      rw [List.size_toArray]
      rcases Nat.lt_or_ge i its.length with q | q
      · exact q
      · rw [List.getElem?_eq_none q] at hu; cases hu
    refine wpAny_pyNext_enum_itemD (Draws.tuple (A := X.A.in1) (I.ok.hd hc) it a hai its.toArray) he ⟨hit, p'⟩ hi hne hae fun u' h' tk hu' ho hit' hT hsz hk => ?_
    have eu : u' = u := by
      have h1 : its.toArray[i]? = some u' := hu'
      rw [List.getElem?_toArray, hu] at h1
      exact (Option.some.inj h1).symm
    subst eu
    refine ⟨_, rfl, wpAny_letOwnedTupleGo_enum (s := { s with heap := h', toks := tk + 1 }) ho fun h'' he' sb => ?_⟩
    have hT2 : h''.get? s.heap.objs.size = some { cls := .type "tuple", data := .seq #[.int i tk, u'] } := (sb.2 _ (Nat.ne_of_gt hel)).trans hT
    have new : ObjOk X.prog X.w (upd H s.heap.objs.size (.tup [.int (i : Nat), x])) h'' s.heap.objs.size (.tup [.int (i : Nat), x]) :=
      ⟨by show 2 ≤ sizeLine; decide, [.int i tk, u'], .cons ⟨_, rfl⟩ (.cons ru .nil), ⟨_, hT2, rfl, _, rfl⟩⟩
    have I1 : Inv X pins σ (upd H s.heap.objs.size (.tup [.int (i : Nat), x])) { s with heap := h'', toks := tk + 1 } :=
      I.turnedNew (ch := [e, it]) (fun b ob hb q => (sb.2 b (fun z => hb (by simp [z]))).trans (hk b ob (fun z => hb (by simp [z])) (fun z => hb (by simp [z])) q)) hf (Nat.le_refl _) new
    refine ⟨.ref s.heap.objs.size, _, I1, rfl, ⟨_, x, rfl, I.hok.fresh (Nat.le_refl _), rfl, fun ys hy => by rw [I.tuple_inj hy hq]; exact hx⟩, ⟨⟨u', ?_⟩, hit'.1.at fun o q => (sb.2 it (Ne.symm hne)).trans q, hne⟩, fun b hb => ?_⟩
    · have e1 : ((i + 1 : Nat) : Int) = (i : Int) + 1 := by omega
      rw [e1]; exact he'
    · have hb' : b < s.heap.objs.size := by
        have e' : b = e ∨ b = it := by simpa using hb
        rcases e' with z | z
        · rw [z]; exact hel
        · rw [z]; exact hil
      rw [upd_ne (Nat.ne_of_lt hb')]
      exact (hf b hb).1
  done := by
    intro X hP hw hK hc i pins s σ H E I hf st hg
    subst hP hw hK
    obtain ⟨⟨old, he⟩, hit, hne⟩ := st
    obtain ⟨xs, hq, hx⟩ := hg
    obtain ⟨its, rv, p, hz⟩ := I.tuple hq
    have p' : s.heap.IsTuple a its.toArray := p
    obtain ⟨f0, f1, f2, f3, f4, f5⟩ := hf it (by simp)
    have hl := rv.length
    have hn : i = its.toArray.size := by rw [List.size_toArray]; omega
    subst hn
    exact wpAny_pyNext_enum_endD (Draws.tuple (A := X.A.in1) (I.ok.hd hc) it a (tup_ne hit p') its.toArray) he ⟨hit, p'⟩ fun h' eb => ⟨rfl, I.turned (t' := s.toks) (fun b o hb q => eb b o hb q) f0 f1 f3 f4 f5⟩
  self := fun A i s Q E st h => let ⟨⟨_, he⟩, _⟩ := st; wpAny_pyIter_enum he h
theorem walk_enumT {K : PySem.W.Frag} {a : Addr} {xs : List V} : Walk (IteT K a) xs.length (fun H => SqT K H a xs) (YPair (fun i => some (.int (i : Nat))) (fun i => xs[i]?)) := by
  refine ⟨fun i _ hi q => ⟨xs, xs[i], q, by simp [hi]⟩, fun _ q => ⟨xs, q, rfl⟩, fun i H v H' _ q y => ?_⟩
  obtain ⟨T, x, h1, h2, h3, h4⟩ := y
  exact ⟨T, .int (i : Nat), x, h1, h2, h3, rfl, h4 xs q⟩
def iEnumT (K : PySem.W.Frag) (ta : TA) : TI := fun σ H R => ta σ H fun vs H1 => ∃ a xs, vs = [.ref a] ∧ SqT K H1 a xs ∧ R (IteT K a) H1
theorem pi_enumT {X : Cx} {e : Expr} {ta : TA} {p pos tpos : Pos} {elts : List Expr} {kk : Nat} (hg : Gl X "enumerate") (hm : X.mg "enumerate" = none) (ha : PA X [e] ta) (hs : starEach [e] X.env = [(false, eval e X.env)] := by rfl) :
    PI X (.Tuple elts kk tpos) (.Call (.Name "enumerate" p) [e] [] pos) (iEnumT X.K ta) := by
  refine ⟨fun pins s σ H R I h => ?_⟩
  refine Call_ (ld_blt I hg hm boot_enumerate (PyProof.Rows.callWith_type1 (thn (ha.run pos pins s σ H _ I h) fun us s1 ⟨vs, H1, I1, r1, q1⟩ => ?_) hs rfl))
  obtain ⟨a, xs, ex, hq, q⟩ := q1
  subst ex
  cases r1 with
  | cons r rr =>
    cases rr
    cases r
    obtain ⟨its, rv, p', hz⟩ := I1.tuple hq
    refine PySem.XEn.begins1 (begins_tuple a its.toArray) (show s1.heap.IsTuple a its.toArray from p') fun h' he hit hsz hk => wpAny_pyIter_enum he ?_
    have I2 : Inv X pins σ H1 { s1 with heap := h' } := I1.kept (t' := s1.toks) hk
    refine ⟨s1.heap.objs.size + 1, [s1.heap.objs.size + 1, s1.heap.objs.size], _, _, H1, rfl, I2, turn_enumT a (s1.heap.objs.size + 1) s1.heap.objs.size, ⟨⟨.none, he⟩, ⟨_, hit, rfl, rfl⟩, Nat.succ_ne_self _⟩, fun b hb => ?_, q⟩
    have e' : b = s1.heap.objs.size + 1 ∨ b = s1.heap.objs.size := by simpa using hb
    have hle : s1.heap.objs.size ≤ b := by
      rcases e' with z | z
      · rw [z]; exact Nat.le_add_right _ _
      · rw [z]; exact Nat.le_refl _
    exact I1.fpOk hle (I1.hok.fresh hle)
end XL
namespace XL
open PySem PySem.Spec PyProof.Rows L2
/-! ### small words that all laws want -/
theorem at_s {T : L2.St → Hp → Prop} {σ σ' : L2.St} {H : Hp} (e : σ = σ') (h : T σ' H) : T σ H := e ▸ h
theorem at_g {i : Nat} {x : V} {σ σ' : L2.St} {H : Hp} {N : L2.St → Hp → Prop} (e : σ.set i (some x) = σ') (h : N σ' H) : gName i x σ H N := by
  subst e; exact h
/-- a heap by what is known of it -/
theorem at_h {T : L2.St → Hp → Prop} {σ : L2.St} {H : Hp} (Pf : Hp → Prop) (hp : Pf H) (h : ∀ G, Pf G → T σ G) : T σ H := h H hp
structure Fns (P : Program) (w : World) (K : PySem.W.Frag) (mg : Str → Option Value) (base : Heap) (n : Nat) (name : Str) (ps : List Str) (sp : Sp) (f : Addr) (fd : FuncData) : Prop where
  ok : FnOk P w K mg base CX0 n f fd ps sp
  g : mg name = some (.ref f)
  k : PySem.W.keepIn K (.ref f) = true
  b : Binds K fd ps []
theorem pe_fn {X : Cx} {n : Nat} {name : Str} {ps : List Str} {sp : Sp} {f : Addr} {fd : FuncData} {p pos : Pos} {e : Expr} {es : List Expr} {t : TA} (F : Fns X.prog X.w X.K X.mg X.base n name ps sp f fd) (hr : Room n X.A) (hg : Gl X name) (ha : PA X (e :: es) t)
    (hdb : (name == ("__debug__" : Str)) = false := by decide) (he : starEach (e :: es) X.env = (false, eval e X.env) :: starEach es X.env := by rfl) (hpl : (backTo pos (starEach es X.env)).any (·.1) = false := by rfl) (hx : Passes CX0 X E0 := by exact pass0) :
    PE X (.Call (.Name name p) (e :: es) [] pos) (tCall sp [] E0 t) := pe_call F.ok hr hg F.g F.k F.b .nil hx ha hdb he hpl
theorem room65 {k : Nat} {A : Around} (r : Room k A) : A.units + 65 < cLine := by have := r.un; omega
/-- an item of a list or a tuple -/
def rIxA (K : PySem.W.Frag) : R2 := fun x y H Q => ∃ p xs i v, x = .ref p ∧ y = .int i ∧ Sq2 K H p xs ∧ atI xs i = some v ∧ Q v H
theorem ix_any {X : Cx} : IxR X (rIxA X.K) := by
  intro value slice pins s σ H x y v u Q I rx ry h hs
  obtain ⟨p, xs, i, z, e1, e2, hq, he, q⟩ := h
  rcases hq with hq | hq
  · exact ix_list value slice pins s σ H x y v u Q I rx ry ⟨p, xs, i, z, e1, e2, hq, he, q⟩ hs
  · exact ix_tup value slice pins s σ H x y v u Q I rx ry ⟨p, xs, i, z, e1, e2, hq, he, q⟩ hs
/-! ### built-ins over lists and tuples, their relations by name (within comprehensions they are given by hand) -/
def rLenA (K : PySem.W.Frag) : List V → Hp → VK → Prop := fun xs H Q => ∃ p ys, xs = [.ref p] ∧ (SqL K H p ys ∨ SqT K H p ys) ∧ Q (.int ys.length) H
theorem call_lenA {X : Cx} : CallR X (.builtin "len") (rLenA X.K) := call_len_seq
def rLstA (K : PySem.W.Frag) : List V → Hp → VK → Prop := fun xs H Q => ∃ p ys, xs = [.ref p] ∧ (SqL K H p ys ∨ SqT K H p ys) ∧ ∀ l, H l = none → Q (.ref l) (upd H l (.lst ys))
theorem call_listA {X : Cx} : CallR X (.type "list") (rLstA X.K) := call_list_of
def rTupA (K : PySem.W.Frag) : List V → Hp → VK → Prop := fun xs H Q => ∃ p ys, xs = [.ref p] ∧ ((SqL K H p ys ∧ ∀ l, H l = none → Q (.ref l) (upd H l (.tup ys))) ∨ SqT K H p ys ∧ Q (.ref p) H)
theorem call_tupleA {X : Cx} : CallR X (.type "tuple") (rTupA X.K) := call_tuple_of
/-- a comprehension, by an invariant over all that was made so far -/
theorem lc_acc {J : It} {n : Nat} {G : Hp → Prop} {Y : Nat → Hp → V → Hp → Prop} (w : Walk J n G Y) (Iv : Nat → List V → Hp → Prop) {g : TG} {t : TE} {vs : List Nat} {σ : L2.St} {H1 : Hp} {Qd : Addr → Hp → Prop} (hz : n < sizeLine)
    (h0 : Iv 0 [] H1) (hG : ∀ i F D acc, Iv i acc F → F D = none → G (upd F D (.lst acc)))
    (hs : ∀ i x D acc F H', i < n → H1 D = none → Iv i acc F → F D = none → Y i (upd F D (.lst acc)) x H' → ∀ B : L2.St → Hp → Prop, (∀ σ2 Fm, wipe σ2 vs = wipe σ vs → Fm D = none →
      (∀ Qt : VK, (∀ y F', Iv (i + 1) (acc ++ [y]) F' → Qt y F') → t σ2 Fm Qt) → B σ2 (upd Fm D (.lst acc))) → g x (wipe σ vs) H' B)
    (hd : ∀ D ys F, H1 D = none → Iv n ys F → F D = none → ys.length = n → Qd D (upd F D (.lst ys))) :
    ∀ D, H1 D = none → ∃ W : Nat → Nat → Hp → Prop, (∃ m, W 0 m (upd H1 D (.lst []))) ∧ ∀ i m H, W i m H →
      (J.stop i H ∧ Qd D H) ∨ (J.go i H ∧ ∃ Nx : Hp → Prop, (∀ H', Nx H' → ∃ m', m' < m ∧ W (i + 1) m' H') ∧ ∀ x H', J.yld i H x H' → g x (wipe σ vs) H' fun σ2 H2 => wipe σ2 vs = wipe σ vs ∧ tYes σ2 H2 fun b H3 =>
        if b = true then tHide t σ2 H3 fun y H4 => ∃ acc, H4 D = some (.lst acc) ∧ acc.length < sizeLine ∧ Nx (upd H4 D (.lst (acc ++ [y]))) else Nx H3) := by
  intro D nD
  refine lc_it w (fun i H => ∃ ys F, H = upd F D (.lst ys) ∧ F D = none ∧ Iv i ys F ∧ ys.length = i) ⟨[], H1, rfl, nD, h0, rfl⟩ ?_ ?_ ?_
  · rintro i H _ ⟨ys, F, rfl, nF, iv, _⟩
    exact hG i F D ys iv nF
  · rintro i x H H' hi ⟨ys, F, rfl, nF, iv, hl⟩ hy
    refine hs i x D ys F H' hi nD iv nF hy _ fun σ2 Fm hw nm ht => ⟨hw, ?_⟩
    unfold tYes; dsimp only
    rw [if_pos rfl]
    refine ⟨D, ys, upd_same, ?_⟩
    rw [delH_upd nm]
    exact ht _ fun y F' iv' nF' => ⟨ys, upd_same, by omega, ys ++ [y], F', upd_upd, nF', iv', by rw [List.length_append, hl]; rfl⟩
  · rintro H ⟨ys, F, rfl, nF, iv, hl⟩
    exact hd D ys F nD iv nF hl
/-! ### calls by keywords alone: one, two in their order or turned -/
def g1 : List α → List α → List α
  | [], [x] => [x]
  | _, _ => []
def g2 : List α → List α → List α
  | [], [x, y] => [y, x]
  | _, _ => []
section
variable {K : PySem.W.Frag}
theorem kb1 {x qual p : Str} {st : Stmt} {f : Addr} {fd : FuncData} (F : Fun K x qual st f fd)
    (h : ∀ (kV doc pm : Value) (an : Option Addr) (cdv ct v : Value), bindArgs (PySem.W.fnOf x qual (defArgs st) (defBody st) (defScope st) .none kV doc pm an cdv ct) ⟨[], [(p, v)]⟩ = pure [(p, v)]) : KBinds K fd [p] [p] g1 g1 := by
  obtain ⟨oc, od, kV, doc, pm, an, cdv, ct, osl, rfl, lk, hcd⟩ := F.ex
  refine ⟨fun s us ws _ hl => ?_, fun {vs us zs ws} r1 r2 => ?_⟩
  · match us, ws, hl with
    | [], [v], _ => exact .of_eq (h kV doc pm an cdv ct v)
  · cases r1 with
    | nil =>
      cases r2 with
      | nil => exact .nil
      | cons a r =>
        cases r with
        | nil => exact .cons a .nil
        | cons _ _ => exact .nil
    | cons _ _ => exact .nil
theorem kb2 {x qual p q : Str} {st : Stmt} {f : Addr} {fd : FuncData} (F : Fun K x qual st f fd)
    (h : ∀ (kV doc pm : Value) (an : Option Addr) (cdv ct v u : Value), bindArgs (PySem.W.fnOf x qual (defArgs st) (defBody st) (defScope st) .none kV doc pm an cdv ct) ⟨[], [(q, v), (p, u)]⟩ = pure [(p, u), (q, v)]) : KBinds K fd [p, q] [q, p] g2 g2 := by
  obtain ⟨oc, od, kV, doc, pm, an, cdv, ct, osl, rfl, lk, hcd⟩ := F.ex
  refine ⟨fun s us ws _ hl => ?_, fun {vs us zs ws} r1 r2 => ?_⟩
  · match us, ws, hl with
    | [], [v, u], _ => exact .of_eq (h kV doc pm an cdv ct v u)
  · cases r1 with
    | nil =>
      cases r2 with
      | nil => exact .nil
      | cons a r =>
        cases r with
        | nil => exact .nil
        | cons a2 r =>
          cases r with
          | nil => exact .cons a2 (.cons a .nil)
          | cons _ _ => exact .nil
    | cons _ _ => exact .nil
/-- three, turned -/
def g3r {α : Type} : List α → List α → List α
  | [], [x, y, z] => [z, y, x]
  | _, _ => []
theorem kb3r {x qual p q r : Str} {st : Stmt} {f : Addr} {fd : FuncData} (F : Fun K x qual st f fd)
    (h : ∀ (kV doc pm : Value) (an : Option Addr) (cdv ct v u z : Value), bindArgs (PySem.W.fnOf x qual (defArgs st) (defBody st) (defScope st) .none kV doc pm an cdv ct) ⟨[], [(r, v), (q, u), (p, z)]⟩ = pure [(p, z), (q, u), (r, v)]) : KBinds K fd [p, q, r] [r, q, p] g3r g3r := by
  obtain ⟨oc, od, kV, doc, pm, an, cdv, ct, osl, rfl, lk, hcd⟩ := F.ex
  refine ⟨fun s us ws _ hl => ?_, fun {vs us zs ws} r1 r2 => ?_⟩
  · match us, ws, hl with
    | [], [v, u, z], _ => exact .of_eq (h kV doc pm an cdv ct v u z)
  · cases r1 with
    | nil =>
      cases r2 with
      | nil => exact .nil
      | cons a r =>
        cases r with
        | nil => exact .nil
        | cons a2 r =>
          cases r with
          | nil => exact .nil
          | cons a3 r =>
            cases r with
            | nil => exact .cons a3 (.cons a2 (.cons a .nil))
            | cons _ _ => exact .nil
    | cons _ _ => exact .nil
end
end XL
namespace XL
open PySem PySem.Spec PyProof.Rows L2
/-! ### a comprehension over zip of two: both lists, or both tuples -/
theorem walk_zipT {K : PySem.W.Frag} {a b : Addr} {xs ys : List V} {n : Nat} (hn : n = min xs.length ys.length) : Walk (RZ.ItzT K a b) n (fun H => SqT K H a xs ∧ SqT K H b ys) (YPair (fun i => xs[i]?) (fun i => ys[i]?)) := by
  subst hn
  refine ⟨fun i _ hi q => ?_, fun _ q => ⟨xs, ys, q.1, q.2, by omega⟩, fun i H v H' _ q y => ?_⟩
  · have h1 : i < xs.length := by omega
    have h2 : i < ys.length := by omega
    exact ⟨xs, ys, xs[i], ys[i], q.1, q.2, by simp [h1], by simp [h2]⟩
  · obtain ⟨T, x, z, h1, h2, h3, h4, h5⟩ := y
    exact ⟨T, x, z, h1, h2, h3, h4 xs q.1, h5 ys q.2⟩
def iZ2 (K : PySem.W.Frag) (ta : TA) : TI := fun σ H R => ta σ H fun vs H1 => ∃ a b xs ys, vs = [.ref a, .ref b] ∧ ((SqL K H1 a xs ∧ SqL K H1 b ys) ∨ (SqT K H1 a xs ∧ SqT K H1 b ys)) ∧
  ∀ J, Walk J (min xs.length ys.length) (fun H => Same H1 H) (YPair (fun i => xs[i]?) (fun i => ys[i]?)) → R J H1
theorem pi_z2 {X : Cx} {e e2 : Expr} {ta : TA} {p pos tpos : Pos} {elts : List Expr} {kk : Nat} (hg : Gl X "zip") (hm : X.mg "zip" = none) (ha : PA X [e, e2] ta)
    (hs : starEach [e, e2] X.env = (false, eval e X.env) :: starEach [e2] X.env := by rfl) (hpl : (backTo pos (starEach [e2] X.env)).any (·.1) = false := by rfl) :
    PI X (.Tuple elts kk tpos) (.Call (.Name "zip" p) [e, e2] [] pos) (iZ2 X.K ta) := by
  refine ⟨fun pins s σ H R I h => ?_⟩
  refine Call_ (ld_blt I hg hm PyProof.Rows.boot_zip (PyProof.Rows.callWith_type1 (thn (ha.run pos pins s σ H _ I h) fun us s1 ⟨vs, H1, I1, r1, q1⟩ => ?_) hs hpl))
  obtain ⟨a, b, xs, ys, ex, q1, q⟩ := q1
  subst ex
  cases r1 with
  | cons r rr =>
    cases rr with
    | cons r' rr =>
      cases rr
      cases r
      cases r'
      have fresh5 : ∀ c, c ∈ [s1.heap.objs.size + 4, s1.heap.objs.size + 2, s1.heap.objs.size + 3, s1.heap.objs.size, s1.heap.objs.size + 1] → FpOk X pins H1 c := fun c hcm => by
        have e' : c = s1.heap.objs.size + 4 ∨ c = s1.heap.objs.size + 2 ∨ c = s1.heap.objs.size + 3 ∨ c = s1.heap.objs.size ∨ c = s1.heap.objs.size + 1 := by simpa using hcm
        have hle : s1.heap.objs.size ≤ c := by
          rcases e' with z | z | z | z | z
          · rw [z]; exact Nat.le_add_right _ _
          · rw [z]; exact Nat.le_add_right _ _
          · rw [z]; exact Nat.le_add_right _ _
          · rw [z]; exact Nat.le_refl _
          · rw [z]; exact Nat.le_add_right _ _
        exact I1.fpOk hle (I1.hok.fresh hle)
      rcases q1 with ⟨hqx, hqy⟩ | ⟨hqx, hqy⟩
      · obtain ⟨its, rv, p1, _⟩ := I1.list hqx
        obtain ⟨its2, rv2, p2, _⟩ := I1.list hqy
        refine call_zip_2 p1.isList p2.isList fun h' hz hTI hTO h1 h2 hsz hk => wpAny_pyIter_zip hz ?_
        have I2 : Inv X pins σ H1 { s1 with heap := h' } := I1.kept (t' := s1.toks) hk
        exact ⟨s1.heap.objs.size + 4, [s1.heap.objs.size + 4, s1.heap.objs.size + 2, s1.heap.objs.size + 3, s1.heap.objs.size, s1.heap.objs.size + 1], _, _, H1, rfl, I2, turn_zip (PySem.W.ktu_apart s1.heap.objs.size a b p1.lt p2.lt), ⟨hz, hTI, ⟨_, _, hTO⟩, h1, h2⟩, fresh5, q _ ((walk_zip rfl).mono (fun H s => ⟨s.seq hqx, s.seq hqy⟩) fun _ _ _ _ _ _ y => y)⟩
      · obtain ⟨its, rv, p1, _⟩ := I1.tuple hqx
        obtain ⟨its2, rv2, p2, _⟩ := I1.tuple hqy
        obtain ⟨o1, ho1, _⟩ := id p1
        obtain ⟨o2, ho2, _⟩ := id p2
        refine RZ.call_zipT (show s1.heap.IsTuple a its.toArray from p1) (show s1.heap.IsTuple b its2.toArray from p2) fun h' hz hTI hTO h1 h2 hsz hk => wpAny_pyIter_zip hz ?_
        have I2 : Inv X pins σ H1 { s1 with heap := h' } := I1.kept (t' := s1.toks) hk
        exact ⟨s1.heap.objs.size + 4, [s1.heap.objs.size + 4, s1.heap.objs.size + 2, s1.heap.objs.size + 3, s1.heap.objs.size, s1.heap.objs.size + 1], _, _, H1, rfl, I2, RZ.turn_zipT (PySem.W.ktu_apart s1.heap.objs.size a b (Heap.lt_size ho1) (Heap.lt_size ho2)), ⟨hz, hTI, ⟨_, _, hTO⟩, h1, h2⟩, fresh5, q _ ((walk_zipT rfl).mono (fun H s => ⟨Same.tup s hqx, Same.tup s hqy⟩) fun _ _ _ _ _ _ y => y)⟩
/-! ### zip of three lists -/
def YTrip (xs ys zs : Nat → Option V) : Nat → Hp → V → Hp → Prop := fun i H v H' => ∃ T x y z, v = .ref T ∧ H T = none ∧ H' = upd H T (.tup [x, y, z]) ∧ xs i = some x ∧ ys i = some y ∧ zs i = some z
def Itz3 (K : PySem.W.Frag) (a b c : Addr) : It :=
  ⟨fun i H => ∃ (xs ys zs : List V) (x y z : V), SqL K H a xs ∧ SqL K H b ys ∧ SqL K H c zs ∧ xs[i]? = some x ∧ ys[i]? = some y ∧ zs[i]? = some z,
    fun i H v H' => ∃ T x y z, v = .ref T ∧ H T = none ∧ H' = upd H T (.tup [x, y, z]) ∧ (∀ xs, SqL K H a xs → xs[i]? = some x) ∧ (∀ ys, SqL K H b ys → ys[i]? = some y) ∧ ∀ zs, SqL K H c zs → zs[i]? = some z,
    fun i H => ∃ xs ys zs : List V, SqL K H a xs ∧ SqL K H b ys ∧ SqL K H c zs ∧ i ≤ xs.length ∧ i ≤ ys.length ∧ i ≤ zs.length ∧ (i = xs.length ∨ i = ys.length ∨ i = zs.length)⟩
theorem turn_zip3 {P : Program} {w : World} {K : PySem.W.Frag} {elts : List Expr} {kk : Nat} {tpos : Pos} {a b c z TI TO i1 i2 i3 : Addr} (S : ZipSep3 z TI TO i1 i2 i3 [i1, a] [i2, b] [i3, c]) (na : a ≠ i1) (nb : b ≠ i2) (nc : c ≠ i3) :
    Turn P w K (.Tuple elts kk tpos) (Itz3 K a b c) [z, TI, TO, i1, i2, i3] z (fun i h => IsZip h z TI TO .none ∧ IsTupOf3 h TI (.ref i1) (.ref i2) (.ref i3) ∧ (∃ x y u, IsTupOf3 h TO x y u) ∧ h.IsListIter i1 a i ∧ h.IsListIter i2 b i ∧ h.IsListIter i3 c i) where
  mem := by simp
  obj := fun i h st c hc => by
    obtain ⟨hz, hTI, ⟨x, y, u, hTO⟩, ⟨o1, e1, _, d1⟩, ⟨o2, e2, _, d2⟩, ⟨o3, e3, _, d3⟩⟩ := st
    have e' : c = z ∨ c = TI ∨ c = TO ∨ c = i1 ∨ c = i2 ∨ c = i3 := by simpa using hc
    rcases e' with q | q | q | q | q | q
    · rw [q]; exact ⟨_, hz, fun v q => nomatch q⟩
    · rw [q]; exact ⟨_, hTI, fun v q => nomatch q⟩
    · rw [q]; exact ⟨_, hTO, fun v q => nomatch q⟩
    · rw [q]; exact ⟨o1, e1, fun v q => by rw [d1] at q; cases q⟩
    · rw [q]; exact ⟨o2, e2, fun v q => by rw [d2] at q; cases q⟩
    · rw [q]; exact ⟨o3, e3, fun v q => by rw [d3] at q; cases q⟩
  keep := fun i h h' st k => by
    obtain ⟨hz, hTI, ⟨x, y, u, hTO⟩, h1, h2, h3⟩ := st
    exact ⟨k z (by simp) _ hz, k TI (by simp) _ hTI, ⟨x, y, u, k TO (by simp) _ hTO⟩, h1.at fun o q => k i1 (by simp) o q, h2.at fun o q => k i2 (by simp) o q, h3.at fun o q => k i3 (by simp) o q⟩
  item := by
    intro X hP hw hK hc i pins s σ H E I hf st hg
    subst hP hw hK
    obtain ⟨hz, hTI, ⟨x0, y0, u0, hTO⟩, h1, h2, h3⟩ := st
    obtain ⟨xs, ys, zs, x, y, z', hqx, hqy, hqz, hx, hy, hzz⟩ := hg
    obtain ⟨its, rv, p, _⟩ := I.list hqx
    obtain ⟨its2, rv2, p2, _⟩ := I.list hqy
    obtain ⟨its3, rv3, p3, _⟩ := I.list hqz
    obtain ⟨u, hu, ru⟩ := rv.get hx
    obtain ⟨u2, hu2, ru2⟩ := rv2.get hy
    obtain ⟨u3, hu3, ru3⟩ := rv3.get hzz
    have hzl : z < s.heap.objs.size := Heap.lt_size hz
    have lt : ∀ {l : List Value} {v : Value}, l[i]? = some v → i < l.toArray.size := fun {l v} e => by rw [List.size_toArray]; exact (List.getElem?_eq_some_iff.mp e).1
    refine wpAny_pyNext_zipD3_item S (Draws.list (A := X.A.in1) (I.ok.hd hc) i1 a na its.toArray) (Draws.list (A := X.A.in1) (I.ok.hd hc) i2 b nb its2.toArray) (Draws.list (A := X.A.in1) (I.ok.hd hc) i3 c nc its3.toArray) hz hTI hTO ⟨h1, p.isList⟩ ⟨h2, p2.isList⟩ ⟨h3, p3.isList⟩ (lt hu) (lt hu2) (lt hu3) fun v1 v2 v3 h' tk y1 y2 y3 zh TO' d1 d2 d3 hT hsz hk => ?_
    have ev : ∀ {l : List Value} {v v' : Value}, l.toArray[i]? = some v' → l[i]? = some v → v' = v := fun {l v v'} e1 e2 => by
      rw [List.getElem?_toArray, e2] at e1; exact (Option.some.inj e1).symm
    obtain rfl := ev y1 hu
    obtain rfl := ev y2 hu2
    obtain rfl := ev y3 hu3
    refine ⟨_, rfl, wpAny_letOwnedTupleGo_zip (s := { s with heap := h', toks := tk }) zh fun h'' z'' sb => ?_⟩
    have hT2 : h''.get? s.heap.objs.size = some { cls := .type "tuple", data := .seq #[v1, v2, v3] } := (sb.2 _ (Nat.ne_of_gt hzl)).trans hT
    have new : ObjOk X.prog X.w (upd H s.heap.objs.size (.tup [x, y, z'])) h'' s.heap.objs.size (.tup [x, y, z']) :=
      ⟨by show 3 ≤ sizeLine; decide, [v1, v2, v3], .cons ru (.cons ru2 (.cons ru3 .nil)), ⟨_, hT2, rfl, _, rfl⟩⟩
    have I1 : Inv X pins σ (upd H s.heap.objs.size (.tup [x, y, z'])) { s with heap := h'', toks := tk } :=
      I.turnedNew (ch := [z, TI, TO, i1, i2, i3]) (fun c o hb q => (sb.2 c (fun q' => hb (by simp [q']))).trans (hk c o (fun q' => hb (by simp [q'])) (fun q' => hb (by simp [q'])) (fun q' => hb (by simp [q'])) (fun q' => hb (by simp [q'])) (fun q' => hb (by simp [q'])) q)) hf (Nat.le_refl _) new
    refine ⟨.ref s.heap.objs.size, _, I1, rfl, ⟨_, x, y, z', rfl, I.hok.fresh (Nat.le_refl _), rfl, fun l hl => by rw [I.list_inj hl hqx]; exact hx, fun l hl => by rw [I.list_inj hl hqy]; exact hy, fun l hl => by rw [I.list_inj hl hqz]; exact hzz⟩, ⟨z'', ?_, ⟨v1, v2, v3, ?_⟩, ?_, ?_, ?_⟩, fun c hcm => ?_⟩
    · exact (sb.2 _ S.TIz).trans (hk _ _ S.TIz S.TITO S.TIi1 S.TIi2 S.TIi3 hTI)
    · exact (sb.2 _ S.TOz).trans TO'
    · exact d1.1.at fun o q => (sb.2 _ (Ne.symm S.zi1)).trans q
    · exact d2.1.at fun o q => (sb.2 _ (Ne.symm S.zi2)).trans q
    · exact d3.1.at fun o q => (sb.2 _ (Ne.symm S.zi3)).trans q
    · have hlt : c < s.heap.objs.size := by
        have e' : c = z ∨ c = TI ∨ c = TO ∨ c = i1 ∨ c = i2 ∨ c = i3 := by simpa using hcm
        rcases e' with q | q | q | q | q | q
        · rw [q]; exact hzl
        · rw [q]; exact Heap.lt_size hTI
        · rw [q]; exact Heap.lt_size hTO
        · rw [q]; obtain ⟨_, e1, _⟩ := h1; exact Heap.lt_size e1
        · rw [q]; obtain ⟨_, e2, _⟩ := h2; exact Heap.lt_size e2
        · rw [q]; obtain ⟨_, e3, _⟩ := h3; exact Heap.lt_size e3
      rw [upd_ne (Nat.ne_of_lt hlt)]
      exact (hf c hcm).1
  done := by
    intro X hP hw hK hc i pins s σ H E I hf st hg
    subst hP hw hK
    obtain ⟨hz, hTI, ⟨x0, y0, u0, hTO⟩, h1, h2, h3⟩ := st
    obtain ⟨xs, ys, zs, hqx, hqy, hqz, e1, e2, e3, hend⟩ := hg
    obtain ⟨its, rv, p, _⟩ := I.list hqx
    obtain ⟨its2, rv2, p2, _⟩ := I.list hqy
    obtain ⟨its3, rv3, p3, _⟩ := I.list hqz
    have l1 := rv.length
    have l2 := rv2.length
    have l3 := rv3.length
    exact wpAny_pyNext_zipD3_end S (Draws.list (A := X.A.in1) (I.ok.hd hc) i1 a na its.toArray) (Draws.list (A := X.A.in1) (I.ok.hd hc) i2 b nb its2.toArray) (Draws.list (A := X.A.in1) (I.ok.hd hc) i3 c nc its3.toArray) hz hTI hTO ⟨h1, p.isList⟩ ⟨h2, p2.isList⟩ ⟨h3, p3.isList⟩ (by rw [List.size_toArray]; omega) (by rw [List.size_toArray]; omega) (by rw [List.size_toArray]; omega) (by rw [List.size_toArray, List.size_toArray, List.size_toArray]; omega)
      fun h' tk hk => ⟨rfl, I.turnedL (t' := tk) (ch := [z, TI, TO, i1, i2, i3]) (fun c o hb q =>
      hk c o (fun q' => hb (by simp [q'])) (fun q' => hb (by simp [q'])) (fun q' => hb (by simp [q'])) (fun q' => hb (by simp [q'])) (fun q' => hb (by simp [q'])) q) hf⟩
  self := fun A i s Q E st h => wpAny_pyIter_zip st.1 h
theorem walk_zip3 {K : PySem.W.Frag} {a b c : Addr} {xs ys zs : List V} {n : Nat} (hn : n = min (min xs.length ys.length) zs.length) : Walk (Itz3 K a b c) n (fun H => SqL K H a xs ∧ SqL K H b ys ∧ SqL K H c zs) (YTrip (fun i => xs[i]?) (fun i => ys[i]?) (fun i => zs[i]?)) := by
  subst hn
  refine ⟨fun i _ hi q => ?_, fun _ q => ⟨xs, ys, zs, q.1, q.2.1, q.2.2, by omega, by omega, by omega, by omega⟩, fun i H v H' _ q y => ?_⟩
  · have h1 : i < xs.length := by omega
    have h2 : i < ys.length := by omega
    have h3 : i < zs.length := by omega
    exact ⟨xs, ys, zs, xs[i], ys[i], zs[i], q.1, q.2.1, q.2.2, by simp [h1], by simp [h2], by simp [h3]⟩
  · obtain ⟨T, x, y, z, h1, h2, h3, h4, h5, h6⟩ := y
    exact ⟨T, x, y, z, h1, h2, h3, h4 xs q.1, h5 ys q.2.1, h6 zs q.2.2⟩
def iZ3 (K : PySem.W.Frag) (ta : TA) : TI := fun σ H R => ta σ H fun vs H1 => ∃ a b c xs ys zs, vs = [.ref a, .ref b, .ref c] ∧ SqL K H1 a xs ∧ SqL K H1 b ys ∧ SqL K H1 c zs ∧
  ∀ J, Walk J (min (min xs.length ys.length) zs.length) (fun H => Same H1 H) (YTrip (fun i => xs[i]?) (fun i => ys[i]?) (fun i => zs[i]?)) → R J H1
theorem pi_z3 {X : Cx} {e e2 e3 : Expr} {ta : TA} {p pos tpos : Pos} {elts : List Expr} {kk : Nat} (hg : Gl X "zip") (hm : X.mg "zip" = none) (ha : PA X [e, e2, e3] ta)
    (hs : starEach [e, e2, e3] X.env = (false, eval e X.env) :: starEach [e2, e3] X.env := by rfl) (hpl : (backTo pos (starEach [e2, e3] X.env)).any (·.1) = false := by rfl) :
    PI X (.Tuple elts kk tpos) (.Call (.Name "zip" p) [e, e2, e3] [] pos) (iZ3 X.K ta) := by
  refine ⟨fun pins s σ H R I h => ?_⟩
  refine Call_ (ld_blt I hg hm PyProof.Rows.boot_zip (PyProof.Rows.callWith_type1 (thn (ha.run pos pins s σ H _ I h) fun us s1 ⟨vs, H1, I1, r1, q1⟩ => ?_) hs hpl))
  obtain ⟨a, b, c, xs, ys, zs, ex, hqx, hqy, hqz, q⟩ := q1
  subst ex
  cases r1 with
  | cons r rr =>
    cases rr with
    | cons r' rr =>
      cases rr with
      | cons r'' rr =>
        cases rr
        cases r
        cases r'
        cases r''
        obtain ⟨its, rv, p1, _⟩ := I1.list hqx
        obtain ⟨its2, rv2, p2, _⟩ := I1.list hqy
        obtain ⟨its3, rv3, p3, _⟩ := I1.list hqz
        have la : a < s1.heap.objs.size := p1.lt
        have lb : b < s1.heap.objs.size := p2.lt
        have lc : c < s1.heap.objs.size := p3.lt
        have S := zip_sep3 (N := s1.heap.objs.size) (fp1 := [a]) (fp2 := [b]) (fp3 := [c]) (fun x hx => by rw [List.mem_singleton.mp hx]; exact la) (fun x hx => by rw [List.mem_singleton.mp hx]; exact lb) (fun x hx => by rw [List.mem_singleton.mp hx]; exact lc)
        refine zip_begins3 (begins_list a its.toArray) (begins_list b its2.toArray) (begins_list c its3.toArray) p1.isList p2.isList p3.isList fun h' hz hTI hTO h1 h2 h3 hsz hk => wpAny_pyIter_zip hz ?_
        have I2 : Inv X pins σ H1 { s1 with heap := h' } := I1.kept (t' := s1.toks) hk
        refine ⟨s1.heap.objs.size + 5, [s1.heap.objs.size + 5, s1.heap.objs.size + 3, s1.heap.objs.size + 4, s1.heap.objs.size, s1.heap.objs.size + 1, s1.heap.objs.size + 2], _, _, H1, rfl, I2, turn_zip3 S (Nat.ne_of_lt la) (Nat.ne_of_lt (Nat.lt_succ_of_lt lb)) (Nat.ne_of_lt (Nat.lt_succ_of_lt (Nat.lt_succ_of_lt lc))), ⟨hz, hTI, ⟨_, _, _, hTO⟩, ⟨_, h1, rfl, rfl⟩, ⟨_, h2, rfl, rfl⟩, ⟨_, h3, rfl, rfl⟩⟩, fun x hcm => ?_, q _ ((walk_zip3 rfl).mono (fun H s => ⟨s.seq hqx, s.seq hqy, s.seq hqz⟩) fun _ _ _ _ _ _ y => y)⟩
        have e' : x = s1.heap.objs.size + 5 ∨ x = s1.heap.objs.size + 3 ∨ x = s1.heap.objs.size + 4 ∨ x = s1.heap.objs.size ∨ x = s1.heap.objs.size + 1 ∨ x = s1.heap.objs.size + 2 := by simpa using hcm
        have hle : s1.heap.objs.size ≤ x := by
          rcases e' with z | z | z | z | z | z
          · rw [z]; exact Nat.le_add_right _ _
          · rw [z]; exact Nat.le_add_right _ _
          · rw [z]; exact Nat.le_add_right _ _
          · rw [z]; exact Nat.le_refl _
          · rw [z]; exact Nat.le_add_right _ _
          · rw [z]; exact Nat.le_add_right _ _
        exact I1.fpOk hle (I1.hok.fresh hle)
end XL
namespace XL
open PySem PySem.Spec PyProof.Rows L2
theorem boot_isinstance : bootBuiltins "isinstance" = some (.builtin "isinstance") := by decide +kernel
section
variable {P : Program} {w : World} {K : PySem.W.Frag} {mg : Str → Option Value} {base : Heap}
theorem no_fn {f : Addr} {fd : FuncData} {ps : List Str} {sp : Sp} (no : ∀ vs H Q E, ¬ sp vs H Q E) : FnOk P w K mg base CX0 0 f fd ps sp :=
  ⟨fun vs H Q E h => absurd h (no vs H Q E), fun A outer s H args us vs Q E _ _ _ _ h => absurd h (no vs H Q E)⟩
/-- the values of a list of data, mapped -/
theorem dpall_of {F : Hp} {f : PyData → PyData} : ∀ {ys : List V} {ds : List PyData}, ys.length = ds.length → (∀ (i : Nat) y, ys[i]? = some y → ∃ d, ds[i]? = some d ∧ Dp K F y (f d)) → DpAll K F ys (ds.map f)
  | [], [], _, _ => .nil
  | [], _ :: _, h, _ => by simp at h
  | _ :: _, [], h, _ => by simp at h
  | y :: ys, d :: ds, h, hi => by
    obtain ⟨d', e, p⟩ := hi 0 y rfl
    have e' : d = d' := by simpa using e
    subst e'
    exact .cons p (dpall_of (by simpa using h) fun i z q => by
      have := hi (i + 1) z (by simpa using q)
      simpa using this)
/-! ### _law_lists -/
end
theorem boot_all : bootBuiltins "all" = some (.builtin "all") := by decide +kernel
theorem boot_bool' : bootBuiltins "bool" = some (.type "bool") := by decide +kernel
theorem boot_str' : bootBuiltins "str" = some (.type "str") := by decide +kernel
theorem boot_int' : bootBuiltins "int" = some (.type "int") := by decide +kernel
section
variable {P : Program} {w : World} {K : PySem.W.Frag} {mg : Str → Option Value} {base : Heap}
def isBS : PyData → Bool
  | .bool _ => true
  | .str _ => true
  | _ => false
def isB : PyData → Bool
  | .bool _ => true
  | _ => false
theorem kitf {a b : String} (h : kitB a b = some false) : PySem.W.kitOne K (.type a) (.type b) = some false := kit_ty h
theorem kitt {a b : String} (h : kitB a b = some true) : PySem.W.kitOne K (.type a) (.type b) = some true := kit_ty h
theorem kit_list (d : PyData) : ∃ b, PySem.W.kitOne K (tyD d) (.type "list") = some b := by cases d <;> first | exact ⟨false, kitf (by decide +kernel)⟩ | exact ⟨true, kitt (by decide +kernel)⟩
theorem kit_tuple (d : PyData) : ∃ b, PySem.W.kitOne K (tyD d) (.type "tuple") = some b := by cases d <;> first | exact ⟨false, kitf (by decide +kernel)⟩ | exact ⟨true, kitt (by decide +kernel)⟩
theorem kit_bool (d : PyData) : PySem.W.kitOne K (tyD d) (.type "bool") = some (isB d) := by cases d <;> first | exact kitf (by decide +kernel) | exact kitt (by decide +kernel)
theorem kit_int (i : Int) : PySem.W.kitOne K (tyD (.int i)) (.type "int") = some true := kitt (by decide +kernel)
theorem bs_kit (d : PyData) : PySem.W.kitAny K (tyD d) [.type "bool", .type "str"] = some (isBS d) := by
  cases d with
  | none => exact kit2 (a := false) (b := false) (by decide +kernel) (by decide +kernel)
  | bool b => exact kit2 (a := true) (b := false) (by decide +kernel) (by decide +kernel)
  | int i => exact kit2 (a := false) (b := false) (by decide +kernel) (by decide +kernel)
  | str x => exact kit2 (a := false) (b := true) (by decide +kernel) (by decide +kernel)
  | list ds => exact kit2 (a := false) (b := false) (by decide +kernel) (by decide +kernel)
  | tuple ds => exact kit2 (a := false) (b := false) (by decide +kernel) (by decide +kernel)
  | dict kvs => exact kit2 (a := false) (b := false) (by decide +kernel) (by decide +kernel)
theorem all_true : ∀ n : Nat, (List.replicate n true).all id = true
  | 0 => rfl
  | n + 1 => by rw [List.replicate_succ, List.all_cons, all_true n]; rfl
theorem eq_true_map : ∀ (ys : List V), (∀ (i : Nat) y, ys[i]? = some y → y = .bl true) → ys = (List.replicate ys.length true).map V.bl
  | [], _ => rfl
  | y :: ys, h => by
    have h0 := h 0 y rfl
    have r := eq_true_map ys fun i z e => h (i + 1) z (by simpa using e)
    rw [List.length_cons, List.replicate_succ, List.map_cons, ← r, h0]
theorem seq2_of {H : Hp} {v u : V} {d : PyData} (hv : Dp K H v d) (hu : Dp K H u d) (h : isSeq d = true) : ∃ a xs a2 xs2, v = .ref a ∧ u = .ref a2 ∧ ((SqL K H a xs ∧ SqL K H a2 xs2) ∨ (SqT K H a xs ∧ SqT K H a2 xs2)) ∧ DpAll K H xs (itemsD d) ∧ DpAll K H xs2 (itemsD d) := by
  cases d with
  | list ds => cases hv with
    | lst h1 h2 => cases hu with
      | lst h3 h4 => exact ⟨_, _, _, _, rfl, rfl, .inl ⟨h1, h3⟩, h2, h4⟩
  | tuple ds => cases hv with
    | tup h1 h2 => cases hu with
      | tup h3 h4 => exact ⟨_, _, _, _, rfl, rfl, .inr ⟨h1, h3⟩, h2, h4⟩
  | none => simp [isSeq] at h
  | bool b => simp [isSeq] at h
  | int b => simp [isSeq] at h
  | str b => simp [isSeq] at h
  | dict b => simp [isSeq] at h
end
end XL
namespace XL
open PySem PySem.Spec PyProof.Rows L2
abbrev sCells : Stmt := topS 21
abbrev sBox : Stmt := topS 19
theorem boot_enumerate' : bootBuiltins "enumerate" = some (.type "enumerate") := by decide +kernel
theorem boot_abs' : bootBuiltins "abs" = some (.builtin "abs") := by decide +kernel
section
variable {P : Program} {w : World} {K : PySem.W.Frag} {mg : Str → Option Value} {base : Heap}
theorem cut_ints (ns : List Int) (lo hi : Option Int) : cutV (ns.map V.int) lo hi = ((ns.drop (HT.sIx ns.length 0 lo)).take (HT.sIx ns.length ns.length hi - HT.sIx ns.length 0 lo)).map V.int := by
  unfold cutV
  rw [List.length_map, List.map_take, List.map_drop]
theorem set_ints : ∀ (zs : List Int) (j : Nat) (v : Int), (zs.map V.int).set j (.int v) = (zs.set j v).map V.int
  | [], _, _ => rfl
  | z :: zs, 0, v => rfl
  | z :: zs, j + 1, v => by
    show .int z :: (zs.map V.int).set j (.int v) = .int z :: (zs.set j v).map V.int
    rw [set_ints zs j v]
/-! ### _law_cells -/
theorem scCells : FnScope ["_law_script", "_law_utmost", "_law_cells_here", "_law_k", "_law_cell"] ["_law_script", "_law_utmost"] (defScope sCells) := ⟨rfl, rfl, rfl, by decide +kernel, rfl, by decide +kernel, by decide +kernel⟩
def spCells (K : PySem.W.Frag) : Sp := fun vs H Q _ => ∃ (a : Addr) (ns : List Int) (m : Nat), vs = [.ref a, .int m] ∧ SqL K H a (ns.map V.int) ∧ ns.length ≤ 63 ∧ 1 ≤ m ∧ m ≤ 5 ∧
  ∀ (p : Addr) (zs : List Int) (H' : Hp), Same H H' → H p = none → H' p = some (.lst (zs.map V.int)) → 1 ≤ zs.length → zs.length ≤ m → Q (.ref p) H'
theorem ok_cells {f : Addr} {fd : FuncData} {k : Nat} (F : Fun K "_law_cells" "_law_cells" sCells f fd) (ml : mg "list" = none) (me : mg "enumerate" = none) : FnOk P w K mg base CX0 (k + 1) f fd ["_law_script", "_law_utmost"] (spCells K) := by
  refine F.ok scCells (fun vs H Q E h => ?_) (fun cdv A outer s H vs Q E hr h => ?_)
  · obtain ⟨a, ns, m, rfl, _⟩ := h
    rfl
  obtain ⟨a, ns, m, rfl, ha, hn, m1, m2, q⟩ := h
  have tail : ∃ t, PSs (cxOf CX0 P w K mg base ["_law_script", "_law_utmost", "_law_cells_here", "_law_k", "_law_cell"] "_law_cells" (defScope sCells) f cdv A outer s H E).nox ((defBody sCells).drop 1) t ∧
      ∀ (c : Addr) (zs : List Int) (H2 : Hp), Same H H2 → H c = none → H2 c = some (.lst (zs.map V.int)) → 1 ≤ zs.length → zs.length ≤ m → (m < ns.length → zs.length = m) →
        t { nx := fun _ H' => Q .non H', rt := Q } [some (.ref a), some (.int m), some (.ref c), none, none] H2 := by
    refine ⟨_, pss_cons (ps_for PassesOwn.never rfl (pi_enum (by rfl) me (pa_cons (pe_slice sl_list (pv 0) (po_some (pv 1)) (po_some pe_int)) pa_nil)) (pg_tup rfl (pgs_cons (pg_name (i := 3) scCells.nd rfl (.inl rfl)) (pgs_cons (pg_name (i := 4) scCells.nd rfl (.inl rfl)) pgs_nil)))
        (pss_one (ps_asg (pe_op op_add (pe_ix ix_list (pv 2) (pe_op op_modN (pv 3) (pv 1)) (fun _ _ => rfl)) (pe_op op_mul (pv 4) (pe_op op_add (pv 3) pe_int))) (pg_sub (pv 2) (pe_op op_modN (pv 3) (pv 1)) set_list))))
      (pss_one (ps_ret (pv 2))), fun c zs H2 s2 nc ec z1 z2 z3 => ?_⟩
    refine ⟨_, rfl, _, rfl, (m : Int), rfl, 63, rfl, a, _, rfl, s2.seq ha, fun p np => ?_⟩
    rw [cut_ints]
    generalize hes : ((ns.drop (HT.sIx ns.length 0 (some (m : Int)))).take (HT.sIx ns.length ns.length (some 63) - HT.sIx ns.length 0 (some (m : Int)))) = es
    have hel : 0 < es.length → m < ns.length := fun h => by
      rw [← hes, List.length_take, List.length_drop, HT.sIx_nat] at h
      omega
    have hel2 : es.length ≤ 63 := by
      rw [← hes, List.length_take, List.length_drop]
      omega
    have s3 : Same H (upd H2 p (.lst (es.map V.int))) := s2.trans (same_new np)
    have cp : c ≠ p := ne_of_none ec np
    refine ⟨p, es.map V.int, rfl, SqL.of upd_same, for_it (walk_enum (xs := es.map V.int)) (fun i σ H3 => ∃ (ws : List Int) (y3 y4 : Option V), σ = [some (.ref a), some (.int m), some (.ref c), y3, y4] ∧ Same H H3 ∧ H3 p = some (.lst (es.map V.int)) ∧ H3 c = some (.lst (ws.map V.int)) ∧ ws.length = zs.length)
      ⟨zs, none, none, rfl, s3, upd_same, by rw [upd_ne cp]; exact ec, rfl⟩ (fun i σ H3 _ h => ?_) (fun i x σ H3 H4 hi h hy => ?_) (fun σ H3 h => ?_)⟩
    · obtain ⟨_, _, _, _, _, e, _⟩ := h
      exact SqL.of e
    · obtain ⟨ws, y3, y4, rfl, sm, ep, ew, wl⟩ := h
      obtain ⟨T, x1, x2, rfl, nT, rfl, e1, e2⟩ := hy
      have hi' : i < es.length := by rw [List.length_map] at hi; exact hi
      have e1' : x1 = .int (i : Nat) := (Option.some.inj e1).symm
      have e2' : x2 = .int es[i] := by
        have e3 : (es.map V.int)[i]? = some x2 := e2
        rw [List.getElem?_map, List.getElem?_eq_getElem hi'] at e3
        exact (Option.some.inj e3).symm
      subst e1' e2'
      have sT : Same H3 (upd H3 T (.tup [.int (i : Nat), .int es[i]])) := same_new nT
      have wm : ws.length = m := by rw [wl]; exact z3 (hel (by omega))
      have fm := fmod_lt (a := (i : Int)) (n := (m : Int)) (by omega)
      have hj : ((i : Int).fmod (m : Int)).toNat < ws.length := by omega
      refine ⟨T, _, rfl, .inl (.inl upd_same), rfl, _, _, rfl, _, _, rfl, rfl, ?_⟩
      have ewT := sT _ _ ew
      have aw : atI (ws.map V.int) ((i : Int).fmod (m : Int)) = some (.int ws[((i : Int).fmod (m : Int)).toNat]) := atI_int fm.1 (by rw [List.getElem?_map, List.getElem?_eq_getElem hj]; rfl)
      refine ⟨_, rfl, _, rfl, _, rfl, _, _, rfl, rfl, by omega, c, _, _, _, rfl, rfl, SqL.of ewT, aw, _, rfl, _, rfl, _, _, rfl, rfl, _, _, rfl, rfl, .inr ⟨by omega, by omega⟩, _, _, rfl, rfl, ?_⟩
      refine ⟨_, rfl, _, rfl, _, rfl, _, _, rfl, rfl, by omega, c, _, _, ((i : Int).fmod (m : Int)).toNat, rfl, rfl, ewT, ?_, ?_⟩
      · unfold ixN
        rw [if_pos fm.1, if_pos (by rw [List.length_map]; omega)]
      · refine ⟨_, _, _, rfl, fun b o e => ?_, ?_, by rw [set_ints, upd_same], by rw [List.length_set]; exact wl⟩
        · rw [upd_ne (ne_of_none e nc)]; exact sT _ _ (sm _ _ e)
        · rw [upd_ne cp.symm]; exact sT _ _ ep
    · obtain ⟨ws, y3, y4, rfl, sm, ep, ew, wl⟩ := h
      exact ⟨_, rfl, q c ws H3 sm nc ew (by omega) (by omega)⟩
  obtain ⟨t, ht, hgo⟩ := tail
  refine ⟨_, pss_cons (ps_set (i := 2) scCells.nd rfl (.inl rfl) (pe_orT (pe_callTy call_list_of rfl ml boot_list (pa_cons (pe_slice sl_list (pv 0) po_none (po_some (pv 1))) pa_nil)) (pe_one (pe_lst (pa_cons pe_int pa_nil))))) ht, ?_⟩
  -- list(script[:utmost])
  refine ⟨_, rfl, _, rfl, (m : Int), rfl, a, _, rfl, ha, fun p np => ?_⟩
  have s1 : Same H (upd H p (.lst (cutV (ns.map V.int) none (some (m : Int))))) := same_new np
  refine ⟨p, _, rfl, .inl (SqL.of upd_same), fun c nc => ?_⟩
  have e0 : cutV (ns.map V.int) none (some (m : Int)) = (ns.take m).map V.int := by
    rw [cut_ints, HT.sIx_none, HT.sIx_nat, List.drop_zero, Nat.sub_zero]
    congr 1
    rcases Nat.le_total m ns.length with h | h
    · rw [Nat.min_eq_left h]
    · rw [Nat.min_eq_right h, List.take_of_length_le (Nat.le_refl _), List.take_of_length_le h]
  rw [e0] at nc s1 ⊢
  have s2 := s1.trans (same_new nc (o := .lst ((ns.take m).map V.int)))
  refine ⟨!((ns.take m).map V.int).isEmpty, .inl ⟨_, SqL.of upd_same, rfl⟩, ?_⟩
  cases hns : ns with
  | nil =>
    have em : ((([] : List Int).take m).map V.int) = [] := by rw [List.take_nil]; rfl
    rw [em]
    refine iteF ⟨(by show 1 ≤ sizeLine; decide), fun c2 nc2 => ?_⟩
    subst hns
    rw [em] at s2
    exact hgo c2 [0] _ (s2.trans (same_new nc2)) (s2.free nc2) upd_same (Nat.le_refl _) m1 (fun h => by simp at h)
  | cons n0 r =>
    obtain ⟨m', rfl⟩ : ∃ m', m = m' + 1 := ⟨m - 1, by omega⟩
    rw [← hns]
    have e1 : (ns.take (m' + 1)).map V.int ≠ [] := by rw [hns]; simp
    have e2 : (!((ns.take (m' + 1)).map V.int).isEmpty) = true := by
      cases h : (ns.take (m' + 1)).map V.int with
      | nil => exact absurd h e1
      | cons _ _ => rfl
    rw [e2]
    have hl : (ns.take (m' + 1)).length = min (m' + 1) ns.length := List.length_take
    have hn1 : 1 ≤ ns.length := by rw [hns]; simp
    exact iteT (hgo c (ns.take (m' + 1)) _ s2 (s1.free nc) upd_same (by omega) (by omega) (fun h => by omega))
/-! ### _law_box -/
theorem b01 (b : Bool) : -2 ^ 64 < (if b = true then (1 : Int) else 0) ∧ (if b = true then (1 : Int) else 0) < 2 ^ 64 := by cases b <;> decide
theorem scBox : FnScope ["_law_cells_here", "_law_k", "_law_cell"] ["_law_cells_here", "_law_k"] (defScope sBox) := ⟨rfl, rfl, rfl, by decide +kernel, rfl, by decide +kernel, by decide +kernel⟩
def spBox (K : PySem.W.Frag) : Sp := fun vs H Q _ => ∃ (a : Addr) (zs : List Int) (k : Nat), vs = [.ref a, .int k] ∧ SqL K H a (zs.map V.int) ∧ k < zs.length ∧
  ∀ (b : Addr) (x y : Int), H b = none → Q (.ref b) (upd H b (.lst [.int x, .int y, .int 0]))
theorem ok_box {f : Addr} {fd : FuncData} {k : Nat} (F : Fun K "_law_box" "_law_box" sBox f fd) (ma : mg "abs" = none) (mi : mg "int" = none) : FnOk P w K mg base CX0 (k + 1) f fd ["_law_cells_here", "_law_k"] (spBox K) := by
  refine F.ok scBox (fun vs H Q E h => ?_) (fun cdv A outer s H vs Q E hr h => ?_)
  · obtain ⟨a, zs, k, rfl, _⟩ := h
    rfl
  obtain ⟨a, zs, k, rfl, ha, hk, q⟩ := h
  refine ⟨_, pss_cons (ps_set (i := 2) scBox.nd rfl (.inl rfl) (pe_ix ix_list (pv 0) (pv 1) (fun _ _ => rfl)))
    (pss_one (ps_ret (pe_lst (pa_cons (pe_op op_mul (pe_callB call_abs rfl ma boot_abs' (pa_cons (pv 2) pa_nil)) (pe_callTy call_int1 rfl mi boot_int' (pa_cons (pe_cmpR op_ge (pe_callB call_abs rfl ma boot_abs' (pa_cons (pv 2) pa_nil)) (pe_op op_pow pe_int pe_int) (nomark _)) pa_nil)))
      (pa_cons (pe_op op_add (pe_op op_add (pe_op op_modN (pv 2) pe_int) (pe_op op_mul pe_int (pv 1))) pe_int) (pa_cons pe_int pa_nil)))))), ?_⟩
  have hx : atI (zs.map V.int) ((k : Nat) : Int) = some (.int zs[k]) := atI_nat (by rw [List.getElem?_map, List.getElem?_eq_getElem hk]; rfl)
  refine ⟨_, rfl, _, rfl, a, _, _, _, rfl, rfl, ha, hx, ?_⟩
  refine ⟨_, rfl, _, rfl, _, rfl, _, rfl, _, _, rfl, rfl, ⟨by decide, by decide, by decide⟩, _, _, rfl, rfl, .inr ⟨_, rfl, _, _, rfl, rfl, .inr ?_, ?_⟩⟩
  · exact b01 _
  · refine ⟨_, rfl, _, _, rfl, rfl, (by show (2305843009213693951 : Int) ≠ 0; decide), _, rfl, _, _, rfl, rfl, .inl ⟨by decide, by decide⟩, _, _, rfl, rfl, _, _, rfl, rfl, (by show 3 ≤ sizeLine; decide), fun b nb => ?_⟩
    exact q b _ _ nb
end
end XL
namespace XL
open PySem PySem.Spec PyProof.Rows L2
abbrev sCanal : Stmt := topS 23
theorem boot_range' : bootBuiltins "range" = some (.type "range") := by decide +kernel
section
variable {P : Program} {w : World} {K : PySem.W.Frag} {mg : Str → Option Value} {base : Heap}
theorem Dr.tp {b : Addr} {H H' : Hp} (h : Bx H b) (d : Dr b H H') : Tp H H' := by
  obtain ⟨x, y, z, e⟩ := h
  exact ⟨fun a xs q => d.same a _ (fun c => by rw [c, e] at q; cases q) q, fun a o xs q => d.same a _ (fun c => by rw [c, e] at q; cases q) q⟩
theorem Bx.ne {b p : Addr} {H : Hp} (h : Bx H b) (n : H p = none) : p ≠ b := fun e => by
  obtain ⟨x, y, z, q⟩ := h
  rw [e, q] at n; cases n
/-- a step besides the box: a new object, or one of ours written -/
theorem Dr.wr {b p : Addr} {H : Hp} {o : HO} (h : Bx H b) (n : p ≠ b) (hs : H p = none) : Dr b H (upd H p o) := Dr.new h hs
abbrev nCanal : List Str := ["_law_box_here", "_law_wide", "_law_utmost", "_law_sizes", "_law_mode", "_law_gates", "_law_k", "_law_ends", "_law_part", "_law_size"]
theorem scCanal : FnScope nCanal ["_law_box_here", "_law_wide", "_law_utmost"] (defScope sCanal) := ⟨rfl, rfl, rfl, by decide +kernel, rfl, by decide +kernel, by decide +kernel⟩
def spCanal (K : PySem.W.Frag) : Sp := fun vs H Q _ => ∃ (b : Addr) (wide utmost : Nat), vs = [.ref b, .int wide, .int utmost] ∧ Bx H b ∧ 1 ≤ wide ∧ wide ≤ 100 ∧ utmost ≤ 100 ∧
  ∀ (c : Cn) (v : V) (H' : Hp), okCn wide utmost c → Dr b H H' → Dp K H' v (cnD c) → Q v H'
/-- the four ends of a gate -/
def endsV (l : Lk) : List V := [.int l.1, .int l.2.1, .int l.2.2.1, .int l.2.2.2]
theorem dp_lk {H : Hp} {a : Addr} {l : Lk} (h : SqT K H a (endsV l)) : Dp K H (.ref a) (lkD l) := .tup h (.cons (.int _) (.cons (.int _) (.cons (.int _) (.cons (.int _) .nil))))
/-- between two turns: b the box, z the sizes, g the gates -/
structure Gt (K : PySem.W.Frag) (b z g : Addr) (s0 s1 : Int) (n : Nat) (H0 H : Hp) (vs : List V) (ls : List Lk) : Prop where
  box : Bx H b
  old : ∀ a o, a ≠ b → H0 a = some o → H a = some o
  ez : H z = some (.lst [.int s0, .int s1])
  eg : H g = some (.lst vs)
  dp : DpAll K H vs (ls.map lkD)
  len : ls.length = n
  ok : ∀ l ∈ ls, okLk s0 s1 l
theorem Gt.draw {b z g : Addr} {s0 s1 : Int} {n : Nat} {H0 H H' : Hp} {vs : List V} {ls : List Lk} (q : Gt K b z g s0 s1 n H0 H vs ls) (hz : z ≠ b) (hg : g ≠ b) (d : Dr b H H') : Gt K b z g s0 s1 n H0 H' vs ls :=
  ⟨d.box, fun a o na e => d.same a o na (q.old a o na e), d.same _ _ hz q.ez, d.same _ _ hg q.eg, DpAll.tp (d.tp q.box) _ (noLs_lk ls) q.dp, q.len, q.ok⟩
theorem Gt.new {b z g p : Addr} {s0 s1 : Int} {n : Nat} {H0 H : Hp} {vs : List V} {ls : List Lk} {o : HO} (q : Gt K b z g s0 s1 n H0 H vs ls) (hz : z ≠ b) (hg : g ≠ b) (np : H p = none) : Gt K b z g s0 s1 n H0 (upd H p o) vs ls := q.draw hz hg (Dr.new q.box np)
def fbody : Stmt → List Stmt
  | .For _ _ b _ _ => b
  | _ => []
abbrev slC (b : Addr) (wide utmost : Nat) (z : Addr) (kind : Int) (g : Addr) (y6 y7 y8 y9 : Option V) : L2.St := [some (.ref b), some (.int wide), some (.int utmost), some (.ref z), some (.int kind), some (.ref g), y6, y7, y8, y9]
theorem ok_canal {f ft fo : Addr} {fd fdt fdo : FuncData} {k : Nat} (F : Fun K "_law_canal" "_law_canal" sCanal f fd) (FT : Fun K "_law_take" "_law_take" sTake ft fdt) (bT : Binds K fdt ["_law_box_here", "_law_size"] []) (gT : mg "_law_take" = some (.ref ft))
    (FO : Fun K "_law_of" "_law_of" sOf fo fdo) (bO : Binds K fdo ["_law_box_here", "_law_some"] []) (gO : mg "_law_of" = some (.ref fo)) (me : mg "len" = none) (ml : mg "list" = none) (mt : mg "tuple" = none) (mr : mg "range" = none) :
    FnOk P w K mg base CX0 (k + 1 + 1 + 1) f fd ["_law_box_here", "_law_wide", "_law_utmost"] (spCanal K) := by
  have GT : FnOk P w K mg base CX0 (k + 1) ft fdt ["_law_box_here", "_law_size"] spTake := ok_take FT
  have GO : FnOk P w K mg base CX0 (k + 1 + 1) fo fdo ["_law_box_here", "_law_some"] (spOf K) := ok_of FO FT bT gT me
  refine F.ok scCanal (fun vs H Q E h => ?_) (fun cdv A outer s H vs Q E hr h => ?_)
  · obtain ⟨b, wide, utmost, rfl, _⟩ := h
    rfl
  obtain ⟨b, wide, utmost, rfl, hb, w1, w2, u2, q⟩ := h
  have hr1 : Room (k + 1) _ := hr.mono (Nat.le_succ _)
  -- one turn behind the choice of the ends
  have tail : ∃ t, PSs (cxOf CX0 P w K mg base nCanal "_law_canal" (defScope sCanal) f cdv A outer s H E).nox ((fbody ((defBody sCanal).getD 2 (.Pass ⟨0, 0, 0, 0⟩))).drop 1) t ∧
      ∀ (D : Ends) (z g e : Addr) (kind s0 s1 : Int) (i : Nat) (y6 y8 y9 : Option V) (l : Lk) (vs : List V) (ls : List Lk) (H3 : Hp), z ≠ b → g ≠ b → z ≠ g → e ≠ g → H z = none → H g = none → Gt K b z g s0 s1 i H H3 vs ls → i ≤ 200 → H3 e = some (.lst (endsV l)) → okLk s0 s1 l →
        (∀ vs' H4, Gt K b z g s0 s1 (i + 1) H H4 vs' (ls ++ [l]) → D.nx (slC b wide utmost z kind g y6 (some (.ref e)) y8 y9) H4) → t D (slC b wide utmost z kind g y6 (some (.ref e)) y8 y9) H3 := by
    refine ⟨_, pss_one (ps_expr (pe_bm PySem.F.plainAttrs_list PySem.F.slot_list_append PySem.F.type_list_append mt_append (pv 5) (pa_cons (pe_callTy call_tuple_of rfl mt boot_tuple (pa_cons (pv 7) pa_nil)) pa_nil))), ?_⟩
    intro D z g e kind s0 s1 i y6 y8 y9 l vs ls H3 hzb hgb hzg heg nz ng hG hi he hl hnx
    refine ⟨_, rfl, .inl ⟨rfl, _, SqL.of hG.eg⟩, _, rfl, e, _, rfl, .inl ⟨SqL.of he, fun t nt => ?_⟩⟩
    have G1 := hG.new hzb hgb (o := .tup (endsV l)) nt
    have lv : vs.length = i := by rw [DpAll.length hG.dp, List.length_map, hG.len]
    refine ⟨g, _, _, rfl, rfl, G1.eg, ?_, hnx _ _ ⟨?_, ?_, ?_, upd_same, ?_, ?_, ?_⟩⟩
    · rw [lv]; exact small1000 (by omega)
    · obtain ⟨x, y, w, e⟩ := G1.box
      exact ⟨x, y, w, by rw [upd_ne (fun q => hgb q.symm)]; exact e⟩
    · intro a o na e
      rw [upd_ne (ne_of_none e ng)]; exact G1.old a o na e
    · rw [upd_ne hzg]; exact G1.ez
    · rw [List.map_append]
      have tp : Tp _ (upd (upd H3 t (.tup (endsV l))) g (.lst (vs ++ [.ref t]))) := Tp.upd G1.eg
      exact DpAll.app (DpAll.tp tp _ (noLs_lk ls) G1.dp) (.cons (dp_lk (.inl (.inl (tp.t _ _ upd_same)))) .nil)
    · rw [List.length_append, hG.len]; rfl
    · intro l' h
      rcases List.mem_append.mp h with h | h
      · exact hG.ok l' h
      · rw [List.mem_singleton.mp h]; exact hl
  obtain ⟨t, ht, hgo⟩ := tail
  refine ⟨_, pss_cons (ps_par rfl scCanal.nd (i := 3) (j := 4) rfl rfl (by decide) rfl rfl
      (pa_cons (pe_lc (own := [("_law_part", 8)]) (g := gName 8) (tt := tYes) rfl scCanal.nd (pi_range1 rfl mr (pa_cons pe_int pa_nil)) (blkOk_by (own := [("_law_part", 8)]) (N := nCanal) (sc := defScope sCanal) (by decide +kernel))
          (fun _ _ _ _ _ => pg_name (i := 8) scCanal.nd rfl (Or.inl rfl)) (fun _ _ _ _ _ => pts_nil) (fun _ _ _ _ _ => pe_hide (pe_op op_add pe_int (pe_call GT hr1 rfl gT FT.kp bT .nil pass0 (pa_cons (pv 0) (pa_cons (pv 1) pa_nil))))))
        (pa_cons (pe_call GT hr1 rfl gT FT.kp bT .nil pass0 (pa_cons (pv 0) (pa_cons pe_int pa_nil))) pa_nil)) rfl)
    (pss_cons (ps_set (i := 5) scCanal.nd rfl (.inl rfl) (pe_lst pa_nil))
    (pss_cons (ps_for PassesOwn.never rfl (pi_range1 rfl mr (pa_cons (pe_call GT hr1 rfl gT FT.kp bT .nil pass0 (pa_cons (pv 0) (pa_cons (pe_op op_add (pv 2) pe_int) pa_nil))) pa_nil)) (pg_name (i := 6) scCanal.nd rfl (.inl rfl))
      (pss_cons (ps_if (PW.pt (pw_and (pt_cmpR op_eq (pv 4) pe_int (nomark _)) (pw_and1 (pt_cmpR (op_neD hr.units) (pv 5) (pe_lst pa_nil) (nomark _)))))
          (pss_one (ps_set (i := 7) scCanal.nd rfl (.inl rfl) (pe_op op_cat (pe_slice sl_list (pe_callTy call_list_of rfl ml boot_list (pa_cons (pe_ix ix_list (pv 5) (pe_un un_neg pe_int) (fun _ _ => rfl)) pa_nil)) po_none (po_some pe_int))
            (pe_lst (pa_cons (pe_call GT hr1 rfl gT FT.kp bT .nil pass0 (pa_cons (pv 0) (pa_cons (pe_ix ix_list (pv 3) pe_int (fun _ _ => rfl)) pa_nil))) (pa_cons (pe_call GT hr1 rfl gT FT.kp bT .nil pass0 (pa_cons (pv 0) (pa_cons (pe_ix ix_list (pv 3) pe_int (fun _ _ => rfl)) pa_nil))) pa_nil))))))
          (pss_one (ps_if (pt_cmpR op_eq (pv 4) pe_int (nomark _))
            (pss_one (ps_set (i := 7) scCanal.nd rfl (.inl rfl) (pe_lst (pa_cons (pe_op op_modN (pv 6) (pe_ix ix_list (pv 3) pe_int (fun _ _ => rfl))) (pa_cons (pe_op op_modN (pe_op op_add (pv 6) pe_int) (pe_ix ix_list (pv 3) pe_int (fun _ _ => rfl)))
              (pa_cons (pe_call GT hr1 rfl gT FT.kp bT .nil pass0 (pa_cons (pv 0) (pa_cons (pe_ix ix_list (pv 3) pe_int (fun _ _ => rfl)) pa_nil))) (pa_cons (pe_call GT hr1 rfl gT FT.kp bT .nil pass0 (pa_cons (pv 0) (pa_cons (pe_ix ix_list (pv 3) pe_int (fun _ _ => rfl)) pa_nil))) pa_nil)))))))
            (pss_one (ps_if (PW.pt (pw_and (pt_cmpR op_eq (pv 4) pe_int (nomark _)) (pw_and1 (pt_cmpR (op_neD hr.units) (pv 5) (pe_lst pa_nil) (nomark _)))))
              (pss_cons (ps_set (i := 7) scCanal.nd rfl (.inl rfl) (pe_callTy call_list_of rfl ml boot_list (pa_cons (pe_call GO hr rfl gO FO.kp bO .nil pass0 (pa_cons (pv 0) (pa_cons (pv 5) pa_nil))) pa_nil)))
                (pss_one (ps_asg pe_int (pg_sub (pv 7) (pe_call GT hr1 rfl gT FT.kp bT .nil pass0 (pa_cons (pv 0) (pa_cons pe_int pa_nil))) set_list))))
              (pss_one (ps_setLc (i := 7) (own := [("_law_size", 9)]) (g := gName 9) (tt := tYes) rfl scCanal.nd rfl rfl (sw_true rfl rfl rfl (by decide +kernel)) (pi_seq (pe_tup (pa_cons (pe_ix ix_list (pv 3) pe_int (fun _ _ => rfl)) (pa_cons (pe_ix ix_list (pv 3) pe_int (fun _ _ => rfl)) (pa_cons (pe_ix ix_list (pv 3) pe_int (fun _ _ => rfl)) (pa_cons (pe_ix ix_list (pv 3) pe_int (fun _ _ => rfl)) pa_nil))))))
                (blkOk_by (own := [("_law_size", 9)]) (N := nCanal) (sc := defScope sCanal) (by decide +kernel)) (fun _ _ _ _ _ => pg_name (i := 9) scCanal.nd rfl (Or.inl rfl)) (fun _ _ _ _ _ => pts_nil)
                (fun _ _ _ _ _ => pe_hide (pe_call GT hr1 rfl gT FT.kp bT .nil pass0 (pa_cons (pv 0) (pa_cons (pv 9) pa_nil)))))))))))
        ht))
    (pss_one (ps_ret (pe_tup (pa_cons (pe_ix ix_list (pv 3) pe_int (fun _ _ => rfl)) (pa_cons (pe_ix ix_list (pv 3) pe_int (fun _ _ => rfl)) (pa_cons (pe_callTy call_tuple_of rfl mt boot_tuple (pa_cons (pv 5) pa_nil)) pa_nil)))))))), ?_⟩
  refine ⟨2, rfl, by decide, by decide, lc_map walk_range (Dr b) (fun a b => a.trans b) (fun i y F => ∃ x : Int, y = .int x ∧ 1 ≤ x ∧ x ≤ wide) (fun i y A B _ p => p) (by decide) (Dr.refl hb) (fun _ _ _ _ _ => trivial) (fun i x D acc F H' hi nD dF nF hy B hB => ?_) (fun z ys F nz dF nF hl hR => ?_)⟩
  · obtain ⟨rfl, rfl⟩ := hy
    refine hB _ F rfl nF fun Qt hq => ?_
    refine ⟨_, rfl, _, rfl, b, _, rfl, dF.box, by omega, by omega, fun v F' v0 v1 d => ⟨_, _, rfl, rfl, hq _ _ d ⟨_, rfl, by omega, by omega⟩⟩⟩
  have hys : ∃ s0 s1 : Int, ys = [.int s0, .int s1] ∧ 1 ≤ s0 ∧ s0 ≤ wide ∧ 1 ≤ s1 ∧ s1 ≤ wide := by
    match ys, hl with
    | [y0, y1], _ =>
      obtain ⟨s0, rfl, a1, a2⟩ := hR 0 y0 rfl
      obtain ⟨s1, rfl, c1, c2⟩ := hR 1 y1 rfl
      exact ⟨s0, s1, rfl, a1, a2, c1, c2⟩
  obtain ⟨s0, s1, rfl, a1, a2, c1, c2⟩ := hys
  have hzb : z ≠ b := hb.ne nz
  have d1 : Dr b H (upd F z (.lst [.int s0, .int s1])) := dF.trans (Dr.new dF.box nF)
  refine ⟨_, rfl, b, 5, rfl, d1.box, by decide, by decide, fun kind H2 k0 k1 d2 => ?_⟩
  refine ⟨_, _, rfl, ?_⟩
  -- gates = []
  refine ⟨(by show 0 ≤ sizeLine; decide), fun g ng => ?_⟩
  have d12 := d1.trans d2
  have ez2 : H2 z = some (.lst [.int s0, .int s1]) := d2.same z _ hzb upd_same
  have hgb : g ≠ b := d2.box.ne ng
  have hzg : z ≠ g := ne_of_none ez2 ng
  have ngH : H g = none := by
    cases e : H g with
    | none => rfl
    | some o => rw [d12.same g o hgb e] at ng; cases ng
  have d3 : Dr b H (upd H2 g (.lst [])) := d12.trans (Dr.new d2.box ng)
  -- the number of gates
  refine ⟨_, rfl, _, rfl, _, _, rfl, rfl, b, _, rfl, d3.box, by omega, by omega, fun n H3 n0 n1 d4 => ?_⟩
  have d34 := d3.trans d4
  have G0 : Gt K b z g s0 s1 0 H H3 [] [] := ⟨d34.box, fun a o na e => d34.same a o na e, d4.same z _ hzb (by rw [upd_ne hzg]; exact ez2), d4.same g _ hgb upd_same, .nil, rfl, fun l h => by simp at h⟩
  refine ⟨n, rfl, by omega, by omega, for_it walk_range (fun i σ H4 => ∃ y6 y7 y8 y9 vs ls, σ = slC b wide utmost z kind g y6 y7 y8 y9 ∧ Gt K b z g s0 s1 i H H4 vs ls) ⟨none, none, none, none, [], [], rfl, G0⟩ (fun _ _ _ _ _ => trivial) (fun i x σ H4 H5 hi h hy => ?_) (fun σ H4 h => ?_)⟩
  · obtain ⟨y6, y7, y8, y9, vs, ls, rfl, hG⟩ := h
    obtain ⟨rfl, rfl⟩ := hy
    have hi2 : i ≤ 200 := by omega
    -- what is left, by the ends that were chosen
    have fin : ∀ (D : Ends) (e : Addr) (l : Lk) (y8 y9 : Option V) (H6 : Hp) (vs : List V) (ls : List Lk), D.nx = (fun σ H4 => ∃ y6 y7 y8 y9 vs ls, σ = slC b wide utmost z kind g y6 y7 y8 y9 ∧ Gt K b z g s0 s1 (i + 1) H H4 vs ls) →
        Gt K b z g s0 s1 i H H6 vs ls → e ≠ g → H6 e = some (.lst (endsV l)) → okLk s0 s1 l → t D (slC b wide utmost z kind g (some (.int (0 + i))) (some (.ref e)) y8 y9) H6 := by
      intro D e l y8 y9 H6 vs ls hD hG heg he hl
      refine hgo D z g e kind s0 s1 i _ y8 y9 l vs ls H6 hzb hgb hzg heg nz ngH hG hi2 he hl fun vs' H7 hG7 => ?_
      rw [hD]
      exact ⟨_, _, _, _, vs', _, rfl, hG7⟩
    -- two draws by the blues' size
    have draw1 : ∀ (H6 : Hp) (vs : List V) (ls : List Lk) (Q' : V → Hp → Prop), Gt K b z g s0 s1 i H H6 vs ls → (∀ (x : Int) (H7 : Hp), 0 ≤ x → x < s1 → Gt K b z g s0 s1 i H H7 vs ls → Dr b H6 H7 → Q' (.int x) H7) →
        spTake ([.ref b, .int s1] ++ []) H6 Q' E0 := by
      intro H6 vs ls Q' hG h
      exact ⟨b, s1, rfl, hG.box, by omega, by omega, fun v H7 v0 v1 d => h v H7 v0 v1 (hG.draw hzb hgb d) d⟩
    -- kind == 1 and gates != []
    have neq : ∀ (H6 : Hp) (vs : List V) (ls : List Lk) (p : Addr) (Q' : Bool → Hp → Prop), Gt K b z g s0 s1 i H H6 vs ls → H6 p = none → (∀ H7, Gt K b z g s0 s1 i H H7 vs ls → Q' (!ls.isEmpty) H7) →
        rNeD K (.ref g) (.ref p) (upd H6 p (.lst [])) (fun v H7 => ∃ k, v = .bl k ∧ Q' k H7) := by
      intro H6 vs ls p Q' hG np h
      have G7 := hG.new hzb hgb (o := .lst []) np
      refine ⟨.list (ls.map lkD), .list [], .lst (SqL.of G7.eg) G7.dp, .lst (SqL.of upd_same) .nil, lks_shaped ls, nil_shaped, _, rfl, ?_⟩
      rw [eqv_nil]
      exact h _ G7
    have fst : ∀ {xs : List V} {l : Lk} {a : Addr} {H6 : Hp}, Dp K H6 (.ref a) (lkD l) → SqT K H6 a (endsV l) := by
      intro xs l a H6 h
      cases h with
      | tup hs ha =>
        cases ha with
        | cons p1 ha => cases p1; cases ha with
          | cons p2 ha => cases p2; cases ha with
            | cons p3 ha => cases p3; cases ha with
              | cons p4 ha => cases p4; cases ha; exact hs
    have lkref : ∀ {v : V} {l : Lk} {H6 : Hp}, Dp K H6 v (lkD l) → ∃ a, v = .ref a ∧ SqT K H6 a (endsV l) := by
      intro v l H6 h
      have h' := h
      cases h with
      | tup hs ha => exact ⟨_, rfl, fst (xs := []) h'⟩
    refine ⟨_, rfl, rfl, _, rfl, ?_⟩
    by_cases hk1 : kind = 1
    · subst hk1
      refine iteT ⟨_, rfl, (by show 0 ≤ sizeLine; decide), fun p np => neq _ vs ls p _ hG np fun H6 G6 => ?_⟩
      cases ls with
      | nil =>
        refine iteF ⟨_, rfl, rfl, _, rfl, iteF ⟨_, rfl, rfl, _, rfl, iteF ?_⟩⟩
        refine ⟨_, rfl, z, _, _, _, rfl, rfl, SqL.of G6.ez, rfl, _, rfl, z, _, _, _, rfl, rfl, SqL.of G6.ez, rfl, _, rfl, z, _, _, _, rfl, rfl, SqL.of G6.ez, rfl, _, rfl, z, _, _, _, rfl, rfl, SqL.of G6.ez, rfl, (by show 4 ≤ sizeLine; decide), fun p np => ?_⟩
        have G8 := G6.new hzb hgb (o := .tup [.int s0, .int s0, .int s1, .int s1]) np
        have hpb : p ≠ b := G6.box.ne np
        refine ⟨p, [.int s0, .int s0, .int s1, .int s1], rfl, .inr (.inl (.inl upd_same)), fun J wk => lc_map wk (Dr b) (fun a b => a.trans b) (fun j y F => ∃ x : Int, y = .int x ∧ 0 ≤ x ∧ ∀ sz : Int, [s0, s0, s1, s1][j]? = some sz → x < sz) (fun j y A B _ p => p) (by show 4 < sizeLine; decide) (Dr.refl G8.box) (fun F D acc dF nF => ?_) (fun j x D acc F H' hj nD dF nF hy B hB => ?_) (fun D ys F nD dF nF hl hR => ?_)⟩
        · exact ⟨fun _ h => (same_new nF).seq (dF.sqL hpb h), fun h => Same.tup (same_new nF) (dF.sqT hpb h)⟩
        · obtain ⟨rfl, hx⟩ := hy
          have hx' : ∃ sz : Int, x = .int sz ∧ [s0, s0, s1, s1][j]? = some sz ∧ 1 ≤ sz ∧ sz ≤ wide := by
            match j, hj, hx with
            | 0, _, hx => exact ⟨s0, (Option.some.inj hx).symm, rfl, a1, a2⟩
            | 1, _, hx => exact ⟨s0, (Option.some.inj hx).symm, rfl, a1, a2⟩
            | 2, _, hx => exact ⟨s1, (Option.some.inj hx).symm, rfl, c1, c2⟩
            | 3, _, hx => exact ⟨s1, (Option.some.inj hx).symm, rfl, c1, c2⟩
          obtain ⟨sz, rfl, hsz, z1, z2⟩ := hx'
          refine hB _ F rfl nF fun Qt hq => ?_
          exact ⟨_, rfl, _, rfl, b, sz, rfl, dF.box, by omega, by omega, fun v F' v0 v1 d => hq _ _ d ⟨v, rfl, v0, fun sz' e => by rw [hsz] at e; cases e; exact v1⟩⟩
        · have hys : ∃ l : Lk, ys = endsV l ∧ okLk s0 s1 l := by
            match ys, hl with
            | [y0, y1, y2, y3], _ =>
              obtain ⟨x0, rfl, p0, q0⟩ := hR 0 _ rfl
              obtain ⟨x1, rfl, p1, q1⟩ := hR 1 _ rfl
              obtain ⟨x2, rfl, p2, q2⟩ := hR 2 _ rfl
              obtain ⟨x3, rfl, p3, q3⟩ := hR 3 _ rfl
              exact ⟨(x0, x1, x2, x3), rfl, ⟨p0, q0 _ rfl, p1, q1 _ rfl, p2, q2 _ rfl, p3, q3 _ rfl⟩⟩
          obtain ⟨l, rfl, okl⟩ := hys
          have G9 := (G8.draw hzb hgb dF).new hzb hgb (o := .lst (endsV l)) nF
          exact fin _ D l _ _ _ _ _ rfl G9 (fun e => by rw [e, G8.eg] at nD; cases nD) upd_same okl
      | cons l0 lr =>
        refine iteT ?_
        obtain ⟨vs', v', rfl⟩ : ∃ vs' v', vs = vs' ++ [v'] := by
          have hv : vs ≠ [] := fun e => by have := DpAll.length G6.dp; rw [e] at this; simp at this
          exact ⟨vs.dropLast, vs.getLast hv, (List.dropLast_concat_getLast hv).symm⟩
        have hvl : (vs' ++ [v']).length = (l0 :: lr).length := by rw [DpAll.length G6.dp, List.length_map]
        obtain ⟨d, ed, pd⟩ := DpAll.get G6.dp (i := vs'.length) (v := v') (by rw [List.getElem?_append_right (Nat.le_refl _), Nat.sub_self]; rfl)
        rw [List.getElem?_map] at ed
        cases el : (l0 :: lr)[vs'.length]? with
        | none => rw [el] at ed; cases ed
        | some l =>
          rw [el] at ed
          cases ed
          have okl := G6.ok l (List.mem_of_getElem? el)
          obtain ⟨a, rfl, ha⟩ := lkref pd
          refine ⟨_, rfl, 1, rfl, g, _, _, _, rfl, rfl, SqL.of G6.eg, atI_last _ _, a, _, rfl, .inr ha, fun c nc => ?_⟩
          have G7 := G6.new hzb hgb (o := .lst (endsV l)) nc
          refine ⟨2, rfl, c, _, rfl, SqL.of upd_same, fun c2 nc2 => ?_⟩
          have G8 := G7.new hzb hgb (o := .lst [.int l.1, .int l.2.1]) nc2
          have hc2b : c2 ≠ b := G7.box.ne nc2
          refine ⟨_, rfl, _, rfl, z, _, _, _, rfl, rfl, SqL.of G8.ez, rfl, b, s1, rfl, G8.box, by omega, by omega, fun x H7 x0 x1 dd1 => ?_⟩
          have G9 := G8.draw hzb hgb dd1
          refine ⟨_, rfl, _, rfl, z, _, _, _, rfl, rfl, SqL.of G9.ez, rfl, b, s1, rfl, G9.box, by omega, by omega, fun y H8 y0 y1 dd2 => ?_⟩
          have G10 := G9.draw hzb hgb dd2
          refine ⟨(by show 2 ≤ sizeLine; decide), fun c3 nc3 => ?_⟩
          have G11 := G10.new hzb hgb (o := .lst [.int x, .int y]) nc3
          have ec2 : H8 c2 = some (.lst [.int l.1, .int l.2.1]) := dd2.same _ _ hc2b (dd1.same _ _ hc2b upd_same)
          refine ⟨c2, c3, [.int l.1, .int l.2.1], [.int x, .int y], rfl, rfl, by rw [upd_ne (ne_of_none ec2 nc3)]; exact ec2, upd_same, (by show 2 + 2 ≤ sizeLine; decide), fun c4 nc4 => ?_⟩
          have G12 := G11.new hzb hgb (o := .lst (endsV (l.1, l.2.1, x, y))) nc4
          exact fin _ c4 (l.1, l.2.1, x, y) _ _ _ _ _ rfl G12 (fun e => by rw [e, G11.eg] at nc4; cases nc4) upd_same ⟨okl.a0, okl.a1, okl.c0, okl.c1, x0, x1, y0, y1⟩
    · have e1 : decide (V.int kind = V.int 1) = false := decide_eq_false fun e => hk1 (V.int.inj e)
      rw [e1]
      refine iteF (iteF ⟨_, rfl, rfl, _, rfl, ?_⟩)
      by_cases hk2 : kind = 2
      · subst hk2
        have f1 := fmod_lt (a := 0 + (i : Int)) (n := s0) (by omega)
        have f2 := fmod_lt (a := 0 + (i : Int) + 1) (n := s0) (by omega)
        refine iteT ⟨_, rfl, _, rfl, z, _, _, _, rfl, rfl, SqL.of hG.ez, rfl, _, _, rfl, rfl, by omega, _, rfl, _, _, rfl, rfl, _, rfl, z, _, _, _, rfl, rfl, SqL.of hG.ez, rfl, _, _, rfl, rfl, by omega, ?_⟩
        refine ⟨_, rfl, _, rfl, z, _, _, _, rfl, rfl, SqL.of hG.ez, rfl, b, s1, rfl, hG.box, by omega, by omega, fun x H7 x0 x1 dd1 => ?_⟩
        have G9 := hG.draw hzb hgb dd1
        refine ⟨_, rfl, _, rfl, z, _, _, _, rfl, rfl, SqL.of G9.ez, rfl, b, s1, rfl, G9.box, by omega, by omega, fun y H8 y0 y1 dd2 => ?_⟩
        have G10 := G9.draw hzb hgb dd2
        refine ⟨(by show 4 ≤ sizeLine; decide), fun c3 nc3 => ?_⟩
        have G11 := G10.new hzb hgb (o := .lst (endsV ((0 + (i : Int)).fmod s0, (0 + (i : Int) + 1).fmod s0, x, y))) nc3
        exact fin _ c3 ((0 + (i : Int)).fmod s0, (0 + (i : Int) + 1).fmod s0, x, y) _ _ _ _ _ rfl G11 (fun e => by rw [e, G10.eg] at nc3; cases nc3) upd_same ⟨f1.1, f1.2, f2.1, f2.2, x0, x1, y0, y1⟩
      · have e2 : decide (V.int kind = V.int 2) = false := decide_eq_false fun e => hk2 (V.int.inj e)
        rw [e2]
        refine iteF ⟨_, rfl, rfl, _, rfl, ?_⟩
        by_cases hk3 : kind = 3
        · subst hk3
          refine iteT ⟨_, rfl, (by show 0 ≤ sizeLine; decide), fun p np => neq _ vs ls p _ hG np fun H6 G6 => ?_⟩
          cases ls with
          | nil =>
            refine iteF ?_
            refine ⟨_, rfl, z, _, _, _, rfl, rfl, SqL.of G6.ez, rfl, _, rfl, z, _, _, _, rfl, rfl, SqL.of G6.ez, rfl, _, rfl, z, _, _, _, rfl, rfl, SqL.of G6.ez, rfl, _, rfl, z, _, _, _, rfl, rfl, SqL.of G6.ez, rfl, (by show 4 ≤ sizeLine; decide), fun p np => ?_⟩
            have G8 := G6.new hzb hgb (o := .tup [.int s0, .int s0, .int s1, .int s1]) np
            have hpb : p ≠ b := G6.box.ne np
            refine ⟨p, [.int s0, .int s0, .int s1, .int s1], rfl, .inr (.inl (.inl upd_same)), fun J wk => lc_map wk (Dr b) (fun a b => a.trans b) (fun j y F => ∃ x : Int, y = .int x ∧ 0 ≤ x ∧ ∀ sz : Int, [s0, s0, s1, s1][j]? = some sz → x < sz) (fun j y A B _ p => p) (by show 4 < sizeLine; decide) (Dr.refl G8.box) (fun F D acc dF nF => ?_) (fun j x D acc F H' hj nD dF nF hy B hB => ?_) (fun D ys F nD dF nF hl hR => ?_)⟩
            · exact ⟨fun _ h => (same_new nF).seq (dF.sqL hpb h), fun h => Same.tup (same_new nF) (dF.sqT hpb h)⟩
            · obtain ⟨rfl, hx⟩ := hy
              have hx' : ∃ sz : Int, x = .int sz ∧ [s0, s0, s1, s1][j]? = some sz ∧ 1 ≤ sz ∧ sz ≤ wide := by
                match j, hj, hx with
                | 0, _, hx => exact ⟨s0, (Option.some.inj hx).symm, rfl, a1, a2⟩
                | 1, _, hx => exact ⟨s0, (Option.some.inj hx).symm, rfl, a1, a2⟩
                | 2, _, hx => exact ⟨s1, (Option.some.inj hx).symm, rfl, c1, c2⟩
                | 3, _, hx => exact ⟨s1, (Option.some.inj hx).symm, rfl, c1, c2⟩
              obtain ⟨sz, rfl, hsz, z1, z2⟩ := hx'
              refine hB _ F rfl nF fun Qt hq => ?_
              exact ⟨_, rfl, _, rfl, b, sz, rfl, dF.box, by omega, by omega, fun v F' v0 v1 d => hq _ _ d ⟨v, rfl, v0, fun sz' e => by rw [hsz] at e; cases e; exact v1⟩⟩
            · have hys : ∃ l : Lk, ys = endsV l ∧ okLk s0 s1 l := by
                match ys, hl with
                | [y0, y1, y2, y3], _ =>
                  obtain ⟨x0, rfl, p0, q0⟩ := hR 0 _ rfl
                  obtain ⟨x1, rfl, p1, q1⟩ := hR 1 _ rfl
                  obtain ⟨x2, rfl, p2, q2⟩ := hR 2 _ rfl
                  obtain ⟨x3, rfl, p3, q3⟩ := hR 3 _ rfl
                  exact ⟨(x0, x1, x2, x3), rfl, ⟨p0, q0 _ rfl, p1, q1 _ rfl, p2, q2 _ rfl, p3, q3 _ rfl⟩⟩
              obtain ⟨l, rfl, okl⟩ := hys
              have G9 := (G8.draw hzb hgb dF).new hzb hgb (o := .lst (endsV l)) nF
              exact fin _ D l _ _ _ _ _ rfl G9 (fun e => by rw [e, G8.eg] at nD; cases nD) upd_same okl
          | cons l0 lr =>
            refine iteT ?_
            have hv : vs ≠ [] := fun e => by have := DpAll.length G6.dp; rw [e] at this; simp at this
            have hvl : vs.length ≤ 200 := by rw [DpAll.length G6.dp, List.length_map, G6.len]; exact hi2
            refine ⟨_, rfl, _, rfl, b, g, vs, rfl, G6.box, hgb, SqL.of G6.eg, hv, by omega, fun j v H7 ej dd => ?_⟩
            have G7 := G6.draw hzb hgb dd
            obtain ⟨d, ed, pd⟩ := DpAll.get G7.dp ej
            rw [List.getElem?_map] at ed
            cases el : (l0 :: lr)[j]? with
            | none => rw [el] at ed; cases ed
            | some l =>
              rw [el] at ed
              cases ed
              have okl := G7.ok l (List.mem_of_getElem? el)
              obtain ⟨a, rfl, ha⟩ := lkref pd
              refine ⟨a, _, rfl, .inr ha, fun c nc => ?_⟩
              have G8 := G7.new hzb hgb (o := .lst (endsV l)) nc
              have hcb : c ≠ b := G7.box.ne nc
              have hcg : c ≠ g := fun e => by rw [e, G7.eg] at nc; cases nc
              have hcz : c ≠ z := fun e => by rw [e, G7.ez] at nc; cases nc
              refine ⟨_, rfl, _, rfl, b, 4, rfl, G8.box, by decide, by decide, fun j2 H9 j0 j1 dd2 => ?_⟩
              have G9 := G8.draw hzb hgb dd2
              have ec : H9 c = some (.lst (endsV l)) := dd2.same c _ hcb upd_same
              refine ⟨c, _, _, j2.toNat, rfl, rfl, ec, ?_, ?_⟩
              · unfold ixN
                rw [if_pos j0, if_pos (by show j2 < 4; exact j1)]
              · have G10 : Gt K b z g s0 s1 i H (upd H9 c (.lst ((endsV l).set j2.toNat (.int 0)))) vs (l0 :: lr) := by
                  refine ⟨?_, fun a o na e => ?_, ?_, ?_, DpAll.tp (Tp.upd ec) _ (noLs_lk _) G9.dp, G9.len, G9.ok⟩
                  · obtain ⟨x, y, w, e⟩ := G9.box
                    exact ⟨x, y, w, by rw [upd_ne (fun q => hcb q.symm)]; exact e⟩
                  · by_cases hac : a = c
                    · exfalso
                      rw [hac] at e
                      rw [G7.old c o hcb e] at nc; cases nc
                    · rw [upd_ne hac]; exact G9.old a o na e
                  · rw [upd_ne (fun q => hcz q.symm)]; exact G9.ez
                  · rw [upd_ne (fun q => hcg q.symm)]; exact G9.eg
                have hset : ∃ l2 : Lk, (endsV l).set j2.toNat (.int 0) = endsV l2 ∧ okLk s0 s1 l2 := by
                  have hj : j2.toNat = 0 ∨ j2.toNat = 1 ∨ j2.toNat = 2 ∨ j2.toNat = 3 := by omega
                  rcases hj with e | e | e | e <;> rw [e]
                  · exact ⟨(0, l.2.1, l.2.2.1, l.2.2.2), rfl, ⟨Int.le_refl 0, by show 0 < s0; omega, okl.c0, okl.c1, okl.x0, okl.x1, okl.y0, okl.y1⟩⟩
                  · exact ⟨(l.1, 0, l.2.2.1, l.2.2.2), rfl, ⟨okl.a0, okl.a1, Int.le_refl 0, by show 0 < s0; omega, okl.x0, okl.x1, okl.y0, okl.y1⟩⟩
                  · exact ⟨(l.1, l.2.1, 0, l.2.2.2), rfl, ⟨okl.a0, okl.a1, okl.c0, okl.c1, Int.le_refl 0, by show 0 < s1; omega, okl.y0, okl.y1⟩⟩
                  · exact ⟨(l.1, l.2.1, l.2.2.1, 0), rfl, ⟨okl.a0, okl.a1, okl.c0, okl.c1, okl.x0, okl.x1, Int.le_refl 0, by show 0 < s1; omega⟩⟩
                obtain ⟨l2, el2, ok2⟩ := hset
                rw [el2] at G10 ⊢
                exact fin _ c l2 _ _ _ _ _ rfl G10 hcg upd_same ok2
        · have e3 : decide (V.int kind = V.int 3) = false := decide_eq_false fun e => hk3 (V.int.inj e)
          rw [e3]
          refine iteF (iteF ?_)
          refine ⟨_, rfl, z, _, _, _, rfl, rfl, SqL.of hG.ez, rfl, _, rfl, z, _, _, _, rfl, rfl, SqL.of hG.ez, rfl, _, rfl, z, _, _, _, rfl, rfl, SqL.of hG.ez, rfl, _, rfl, z, _, _, _, rfl, rfl, SqL.of hG.ez, rfl, (by show 4 ≤ sizeLine; decide), fun p np => ?_⟩
          have G8 := hG.new hzb hgb (o := .tup [.int s0, .int s0, .int s1, .int s1]) np
          have hpb : p ≠ b := hG.box.ne np
          refine ⟨p, [.int s0, .int s0, .int s1, .int s1], rfl, .inr (.inl (.inl upd_same)), fun J wk => lc_map wk (Dr b) (fun a b => a.trans b) (fun j y F => ∃ x : Int, y = .int x ∧ 0 ≤ x ∧ ∀ sz : Int, [s0, s0, s1, s1][j]? = some sz → x < sz) (fun j y A B _ p => p) (by show 4 < sizeLine; decide) (Dr.refl G8.box) (fun F D acc dF nF => ?_) (fun j x D acc F H' hj nD dF nF hy B hB => ?_) (fun D ys F nD dF nF hl hR => ?_)⟩
          · exact ⟨fun _ h => (same_new nF).seq (dF.sqL hpb h), fun h => Same.tup (same_new nF) (dF.sqT hpb h)⟩
          · obtain ⟨rfl, hx⟩ := hy
            have hx' : ∃ sz : Int, x = .int sz ∧ [s0, s0, s1, s1][j]? = some sz ∧ 1 ≤ sz ∧ sz ≤ wide := by
              match j, hj, hx with
              | 0, _, hx => exact ⟨s0, (Option.some.inj hx).symm, rfl, a1, a2⟩
              | 1, _, hx => exact ⟨s0, (Option.some.inj hx).symm, rfl, a1, a2⟩
              | 2, _, hx => exact ⟨s1, (Option.some.inj hx).symm, rfl, c1, c2⟩
              | 3, _, hx => exact ⟨s1, (Option.some.inj hx).symm, rfl, c1, c2⟩
            obtain ⟨sz, rfl, hsz, z1, z2⟩ := hx'
            refine hB _ F rfl nF fun Qt hq => ?_
            exact ⟨_, rfl, _, rfl, b, sz, rfl, dF.box, by omega, by omega, fun v F' v0 v1 d => hq _ _ d ⟨v, rfl, v0, fun sz' e => by rw [hsz] at e; cases e; exact v1⟩⟩
          · have hys : ∃ l : Lk, ys = endsV l ∧ okLk s0 s1 l := by
              match ys, hl with
              | [y0, y1, y2, y3], _ =>
                obtain ⟨x0, rfl, p0, q0⟩ := hR 0 _ rfl
                obtain ⟨x1, rfl, p1, q1⟩ := hR 1 _ rfl
                obtain ⟨x2, rfl, p2, q2⟩ := hR 2 _ rfl
                obtain ⟨x3, rfl, p3, q3⟩ := hR 3 _ rfl
                exact ⟨(x0, x1, x2, x3), rfl, ⟨p0, q0 _ rfl, p1, q1 _ rfl, p2, q2 _ rfl, p3, q3 _ rfl⟩⟩
            obtain ⟨l, rfl, okl⟩ := hys
            have G9 := (G8.draw hzb hgb dF).new hzb hgb (o := .lst (endsV l)) nF
            exact fin _ D l _ _ _ _ _ rfl G9 (fun e => by rw [e, G8.eg] at nD; cases nD) upd_same okl
  · obtain ⟨y6, y7, y8, y9, vs, ls, rfl, hG⟩ := h
    refine ⟨_, rfl, z, _, _, _, rfl, rfl, SqL.of hG.ez, rfl, _, rfl, z, _, _, _, rfl, rfl, SqL.of hG.ez, rfl, _, rfl, g, _, rfl, .inl ⟨SqL.of hG.eg, fun t nt => ?_⟩⟩
    refine ⟨(by show 3 ≤ sizeLine; decide), fun r nr => ?_⟩
    have s1' : Same H4 (upd H4 t (.tup vs)) := same_new nt
    have s2' : Same _ (upd (upd H4 t (.tup vs)) r (.tup [.int s0, .int s1, .ref t])) := same_new nr
    refine q ⟨s0, s1, ls⟩ _ _ ⟨a1, a2, c1, c2, by rw [hG.len]; omega, hG.ok⟩ (Dr.trans (b := b) (H1 := H4) ⟨hG.box, hG.old⟩ (Dr.of hG.box (s1'.trans s2'))) ?_
    exact .tup (.inl (.inl upd_same)) (.cons (.int _) (.cons (.int _) (.cons (.tup (.inl (.inl (s2' _ _ upd_same))) (DpAll.same (s1'.trans s2') _ hG.dp)) .nil)))
end
end XL
namespace XL
open PySem PySem.Spec PyProof.Rows L2
structure Sn where
  rs : List Int
  bs : List Int
  ls : List Int
def intsD (zs : List Int) : List PyData := zs.map PyData.int
def snD (s : Sn) : PyData := .tuple [.tuple (intsD s.rs), .tuple (intsD s.bs), .tuple (intsD s.ls)]
structure okSn (c : Cn) (most : Int) (s : Sn) : Prop where
  r : (s.rs.length : Int) = c.r
  b : (s.bs.length : Int) = c.b
  n : s.ls.length = c.ls.length
  r0 : ∀ x ∈ s.rs, 0 ≤ x ∧ x ≤ most
  b0 : ∀ x ∈ s.bs, 0 ≤ x ∧ x ≤ most
  l0 : ∀ x ∈ s.ls, x = 0 ∨ x = 1
theorem noLs_ints : ∀ zs : List Int, noLs (intsD zs) = true
  | [] => rfl
  | z :: zs => by show noLs (.int z :: intsD zs) = true; rw [noLs, noLs_ints zs]; rfl
theorem noL_sn (s : Sn) : noL (snD s) = true := by
  show noLs [.tuple (intsD s.rs), .tuple (intsD s.bs), .tuple (intsD s.ls)] = true
  simp [noLs, noL, noLs_ints]
section
variable {P : Program} {w : World} {K : PySem.W.Frag} {mg : Str → Option Value} {base : Heap}
theorem dp_ints {H : Hp} : ∀ zs : List Int, DpAll K H (zs.map V.int) (intsD zs)
  | [] => .nil
  | z :: zs => .cons (.int z) (dp_ints zs)
theorem dp_tints {H : Hp} {a : Addr} {zs : List Int} (h : SqT K H a (zs.map V.int)) : Dp K H (.ref a) (.tuple (intsD zs)) := .tup h (dp_ints zs)
theorem ints_of : ∀ {ys : List V}, (∀ (i : Nat) y, ys[i]? = some y → ∃ x : Int, y = .int x) → ∃ zs : List Int, ys = zs.map V.int
  | [], _ => ⟨[], rfl⟩
  | y :: ys, h => by
    obtain ⟨x, rfl⟩ := h 0 y rfl
    obtain ⟨zs, rfl⟩ := ints_of (ys := ys) fun i z e => h (i + 1) z (by simpa using e)
    exact ⟨x :: zs, rfl⟩
theorem cn_of {H : Hp} {v : V} {c : Cn} (h : Dp K H v (cnD c)) : ∃ a g vs, v = .ref a ∧ SqT K H a [.int c.r, .int c.b, .ref g] ∧ SqT K H g vs ∧ DpAll K H vs (c.ls.map lkD) := by
  cases h with
  | tup hs ha =>
    cases ha with
    | cons p1 ha => cases p1; cases ha with
      | cons p2 ha => cases p2; cases ha with
        | cons p3 ha =>
          cases ha
          cases p3 with
          | tup hg hl => exact ⟨_, _, _, rfl, hs, hg, hl⟩
end
end XL
namespace XL
open PySem PySem.Spec PyProof.Rows L2
section
variable {prog : Program} {w : World} {A : Around} {E : Value → Shared → Prop} {s : Shared}
theorem applied_rev2 {sl : Addr} {vs : Value} {Q : Int × Int × Nat → Shared → Prop} (hs : s.heap.IsSliceOf sl .none .none vs) (ps : IsPart vs (some (-1))) (h : Q (1, -1, 2) s) :
    wpAny (model prog w) A (Builtin.Slice.sliceApplied (.ref sl) (pure ((2 : Nat) : Int))) Q E s := by
  obtain ⟨os, hos, hcs, hds⟩ := id hs
  unfold Builtin.Slice.sliceApplied Builtin.Slice.sliceFields
  refine wpAny_bind (wpAny_bind (wpAny_field hos hds (x := .none) rfl (wpAny_bind (wpAny_field hos hds (x := .none) rfl (wpAny_bind (wpAny_field hos hds (x := vs) rfl (wpAny_pure ?_)))))))
  refine wpAny_bind (HT.slicePart_ ps ?_)
  show wpAny _ _ (if ((-1 : Int) == 0) = true then _ else _) _ _ s
  rw [if_neg (by decide)]
  refine wpAny_bind (HT.slicePart_ .none (wpAny_bind (HT.slicePart_ .none (wpAny_bind (wpAny_pure ?_)))))
  show wpAny _ _ (match Builtin.Slice.sliceAdjust none none (-1) ((2 : Nat) : Int) with | (lo, hi) => pure (lo, (-1 : Int), Builtin.Slice.slicePlaces lo hi (-1))) _ _ s
  have e : Builtin.Slice.sliceAdjust none none (-1) ((2 : Nat) : Int) = (1, -1) := by decide
  rw [e]
  have e2 : Builtin.Slice.slicePlaces 1 (-1) (-1) = 2 := by decide
  show wpAny _ _ (pure ((1 : Int), (-1 : Int), Builtin.Slice.slicePlaces 1 (-1) (-1))) _ _ s
  rw [e2]
  exact wpAny_pure h
theorem getItem_rev2 {t sl : Addr} {u1 u2 vs : Value} {Q : Value → Shared → Prop} (ht : IsTup s.heap t #[u1, u2]) (hs : s.heap.IsSliceOf sl .none .none vs) (ps : IsPart vs (some (-1)))
    (h : Q (.ref s.heap.objs.size) { s with heap := s.heap.push { cls := .type "tuple", data := .seq #[u2, u1] } }) : wpAny (model prog w) A (getItem (.ref t) (.ref sl)) Q E s := by
  have fits : sizeOk (.seq #[u2, u1]) := by show 2 ≤ sizeLine; decide
  obtain ⟨os, hos, hcs, hds⟩ := id hs
  have hTs : s.TypeIs (.ref sl) "slice" := ⟨os, hos, hcs⟩
  unfold getItem
  try with_reducible refine wpAny_holding ?_
  first | refine wpAny_bind (wpAny_pure ?_) | skip
  refine wpAny_bind (wpAny_sequenceKey ht.typeIs (by decide) ?_)
  refine wpAny_bind (wpAny_callSpecial?_slot (name := Str.ofString "__getitem__") ht.typeIs PyProof.Rows.slot_tuple_getitem (wpAny_call_entry PyProof.Rows.slot_tuple_getitem ht.typeIs entry_tuple_getitem ?_ (args_tuple_getitem _ _)))
  show wpAny _ _ (Builtin.Tuple.tupleItemsOf (.ref t) >>= _) _ _ s
  refine wpAny_bind (tupleItemsOf_ ht ?_)
  refine wpAny_bind (wpAny_typeOf hTs ?_)
  rw [if_pos (by decide)]
  refine wpAny_bind (applied_rev2 hs ps ?_)
  show wpAny _ _ (if ((1 : Int) == 0 && (-1 : Int) == 1 && (2 : Nat) == 2) = true then _ else _) _ _ s
  rw [if_neg (by decide)]
  have e : ((List.range 2).filterMap fun (m : Nat) => (#[u1, u2] : Array Value)[((1 : Int) + (m : Int) * (-1)).toNat]?).toArray = #[u2, u1] := by rfl
  rw [e]
  first
    | exact wpAny_bind (m := Builtin.Tuple.tupleExact _) (wpAny_newObj_type (wpAny_pure ⟨_, rfl, wpAny_pure h⟩) fits)
    | exact wpAny_bind (m := Builtin.Tuple.tupleExact _) (wpAny_newObj_type (wpAny_bind (wpAny_pure (wpAny_pure ⟨_, rfl, wpAny_pure h⟩))) fits)
    | exact wpAny_bind (wpAny_bind (m := Builtin.Tuple.tupleExact _) (wpAny_newObj_type (wpAny_pure (wpAny_pure ⟨_, rfl, wpAny_pure h⟩)) fits))
    | exact wpAny_bind (wpAny_bind (m := Builtin.Tuple.tupleExact _) (wpAny_newObj_type (wpAny_pure ⟨_, rfl, wpAny_pure h⟩) fits))
end
section
variable {X : Cx}
/-- t[::-1] of a pair -/
def tRev2 (K : PySem.W.Frag) (te : TE) : TE := fun σ H Q => te σ H fun x H1 => ∃ a y z, x = .ref a ∧ SqT K H1 a [y, z] ∧ ∀ p, H1 p = none → Q (.ref p) (upd H1 p (.tup [z, y]))
theorem pe_rev2 {e : Expr} {te : TE} {k : Nat} {p1 p2 p3 pos : Pos} (he : PE X e te) : PE X (.Subscript e (.Slice none none (some (.UnaryOp .USub (.Constant (.int 1) k p1) p2)) p3) pos) (tRev2 X.K te) := by
  refine ⟨fun pins s σ H Q I h => ?_⟩
  refine Subscript_ (thn (he.run pins s σ H _ I h) fun v s1 ⟨x, H1, I1, r1, q1⟩ => ?_)
  obtain ⟨a, y, z, ex, hx, q⟩ := q1
  subst ex
  cases r1
  have hst : PO X (some (.UnaryOp .USub (.Constant (.int 1) k p1) p2)) (tPart (tUn (rU fun i => .int (-i)) (tC (.int 1)))) := po_some (pe_un un_neg pe_int)
  refine wpAny_Slice (thn (po_none.run pins s1 σ H1 (fun o H2 => o = none ∧ H2 = H1) I1 ⟨rfl, rfl⟩) fun vl s2 ⟨l, H2, I2, pl, el, e2⟩ => ?_)
  subst el e2
  refine thn (po_none.run pins s2 σ H2 (fun o H3 => o = none ∧ H3 = H2) I2 ⟨rfl, rfl⟩) fun vu s3 ⟨u, H3, I3, pu, eu, e3⟩ => ?_
  subst eu e3
  refine thn (hst.run pins s3 σ H3 (fun o H4 => o = some (-1) ∧ H4 = H3) I3 ⟨1, rfl, -1, rfl, rfl, rfl⟩) fun vs s4 ⟨o, H4, I4, ps, eo, e4⟩ => ?_
  subst eo e4
  cases pl
  cases pu
  have I5 : Inv X pins σ H4 { s4 with heap := s4.heap.push { cls := .type "slice", data := .fields #[.none, .none, vs] } } := I4.kept (t' := s4.toks) fun b ob q => Heap.get?_push_of_some _ q
  obtain ⟨its, r, ht, hz⟩ := I5.tuple hx
  obtain ⟨w1, w2, rfl, q1, q2⟩ := vals2 r
  show wpAny (model X.prog X.w) X.A (subscriptTail e (.Slice none none (some (.UnaryOp .USub (.Constant (.int 1) k p1) p2)) p3) (.ref a) (.ref s4.heap.objs.size)) (EP X pins σ Q) X.xe { s4 with heap := s4.heap.push { cls := .type "slice", data := .fields #[.none, .none, vs] } }
  refine tail_any (ops := [.ref a, .ref s4.heap.objs.size]) ht.typeIs (PyProof.Rows.slot_tuple_getitem.lookup) ?_ (by with_unfolding_all rfl)
  refine getItem_rev2 (u1 := w1) (u2 := w2) ht (Heap.IsSliceOf.new _ .none .none vs) ps ?_
  refine ⟨.ref _, _, I5.laid (t' := s4.toks) (o := .tup [z, y]) (fun b ob q => Heap.get?_push_of_some _ q) (Nat.le_refl _) ?_, rfl, q _ (I5.hok.fresh (Nat.le_refl _))⟩
  exact ⟨by show 2 ≤ sizeLine; decide, [w2, w1], .cons q2 (.cons q1 .nil), IsTup.new _ _⟩
/-- xs[i], for xs[i] op= e -/
def rGetL (K : PySem.W.Frag) : V → V → Hp → VK → Prop := fun o y H Q => ∃ p xs i v, o = .ref p ∧ y = .int i ∧ SqL K H p xs ∧ 0 ≤ i ∧ xs[i.toNat]? = some v ∧ Q v H
theorem get_list : PGet X (rGetL X.K) := by
  intro pins s σ H o y ov iv Q I ro ry h
  obtain ⟨p, xs, i, v, rfl, rfl, hq, h0, he, q⟩ := h
  cases ro
  obtain ⟨t, rfl⟩ := ry
  obtain ⟨its, r, pl, hz⟩ := I.list hq
  obtain ⟨u, eu, ru⟩ := r.get he
  have hl : i.toNat < xs.length := (List.getElem?_eq_some_iff.mp he).1
  have hn := line63
  exact wpAny_getItem_list pl.isList h0 (by omega) (by simpa using eu) ⟨v, H, I, ru, q⟩
end
end XL
namespace XL
open PySem PySem.Spec PyProof.Rows L2
abbrev sEnds : Stmt := topS 4
abbrev sFT : Stmt := topS 8
section
variable {P : Program} {w : World} {K : PySem.W.Frag} {mg : Str → Option Value} {base : Heap}
/-- a canal of tuples or of lists -/
structure CnAny (K : PySem.W.Frag) (H : Hp) (v : V) (c : Cn) : Prop where
  ex : ∃ a g vs, v = .ref a ∧ Sq2 K H a [.int c.r, .int c.b, .ref g] ∧ Sq2 K H g vs ∧ vs.length = c.ls.length ∧ ∀ (i : Nat) u, vs[i]? = some u → ∃ l t, c.ls[i]? = some l ∧ u = .ref t ∧ Sq2 K H t (endsV l)
theorem ends_of {H : Hp} {v : V} {l : Lk} (h : Dp K H v (lkD l)) : ∃ a, v = .ref a ∧ SqT K H a (endsV l) := by
  cases h with
  | tup hs ha =>
    cases ha with
    | cons p1 ha => cases p1; cases ha with
      | cons p2 ha => cases p2; cases ha with
        | cons p3 ha => cases p3; cases ha with
          | cons p4 ha => cases p4; cases ha; exact ⟨_, rfl, hs⟩
theorem ends_of' {H : Hp} {v : V} {l : Lk} (h : Dp K H v (lstD (lkD l))) : ∃ a, v = .ref a ∧ SqL K H a (endsV l) := by
  have e : lstD (lkD l) = .list [.int l.1, .int l.2.1, .int l.2.2.1, .int l.2.2.2] := rfl
  rw [e] at h
  cases h with
  | lst hs ha =>
    cases ha with
    | cons p1 ha => cases p1; cases ha with
      | cons p2 ha => cases p2; cases ha with
        | cons p3 ha => cases p3; cases ha with
          | cons p4 ha => cases p4; cases ha; exact ⟨_, rfl, hs⟩
theorem cnAny_t {H : Hp} {v : V} {c : Cn} (h : Dp K H v (cnD c)) : CnAny K H v c := by
  obtain ⟨a, g, vs, e, ha, hg, hl⟩ := cn_of h
  refine ⟨a, g, vs, e, .inr ha, .inr hg, by rw [DpAll.length hl, List.length_map], fun i u hu => ?_⟩
  obtain ⟨d, ed, pd⟩ := DpAll.get hl hu
  rw [List.getElem?_map] at ed
  cases el : c.ls[i]? with
  | none => rw [el] at ed; cases ed
  | some l =>
    rw [el] at ed
    cases ed
    obtain ⟨t, et, ht⟩ := ends_of pd
    exact ⟨l, t, rfl, et, .inr ht⟩
theorem cnAny_l {H : Hp} {v : V} {c : Cn} (h : Dp K H v (lstD (cnD c))) : CnAny K H v c := by
  have e : lstD (cnD c) = .list [.int c.r, .int c.b, .list ((c.ls.map lkD).map lstD)] := by
    show PyData.list [.int c.r, .int c.b, .list (lstDs (c.ls.map lkD))] = _
    rw [lstDs_eq]
  rw [e] at h
  cases h with
  | lst hs ha =>
    cases ha with
    | cons p1 ha => cases p1; cases ha with
      | cons p2 ha => cases p2; cases ha with
        | cons p3 ha =>
          cases ha
          cases p3 with
          | lst hg hl =>
            refine ⟨_, _, _, rfl, .inl hs, .inl hg, by rw [DpAll.length hl, List.length_map, List.length_map], fun i u hu => ?_⟩
            obtain ⟨d, ed, pd⟩ := DpAll.get hl hu
            rw [List.map_map, List.getElem?_map] at ed
            cases el : c.ls[i]? with
            | none => rw [el] at ed; cases ed
            | some l =>
              rw [el] at ed
              cases ed
              obtain ⟨t, et, ht⟩ := ends_of' pd
              exact ⟨l, t, rfl, et, .inl ht⟩
theorem CnAny.same {H H' : Hp} {v : V} {c : Cn} (h : CnAny K H v c) (s : Same H H') : CnAny K H' v c := by
  obtain ⟨a, g, vs, e, ha, hg, hl, hv⟩ := h.ex
  refine ⟨a, g, vs, e, Same.sq2 s ha, Same.sq2 s hg, hl, fun i u hu => ?_⟩
  obtain ⟨l, t, h1, h2, h3⟩ := hv i u hu
  exact ⟨l, t, h1, h2, Same.sq2 s h3⟩
/-! ### waters, basins, ends -/
def isRed (w : Str) : Bool := decide (V.str w = V.str "red")
def basW (r : Bool) (c : Cn) : Int := if r = true then c.r else c.b
def endW (r : Bool) (l : Lk) : Int × Int := if r = true then (l.1, l.2.1) else (l.2.2.1, l.2.2.2)
def wS (r : Bool) : Str := if r = true then "red" else "blue"
theorem isRed_wS (r : Bool) : isRed (wS r) = r := by cases r <;> decide +kernel
abbrev nEnds : List Str := ["lock", "water", "a", "c", "x", "y"]
theorem scEnds : FnScope nEnds ["lock", "water"] (defScope sEnds) := ⟨rfl, rfl, rfl, by decide +kernel, rfl, by decide +kernel, by decide +kernel⟩
def prV (p : Int × Int) : List V := [.int p.1, .int p.2]
def spEnds (K : PySem.W.Frag) : Sp := fun vs H Q _ => ∃ (t : Addr) (w : Str) (l : Lk), vs = [.ref t, .str w] ∧ Sq2 K H t (endsV l) ∧ ∀ p, H p = none → Q (.ref p) (upd H p (.tup (prV (endW (isRed w) l))))
theorem ok_ends {f : Addr} {fd : FuncData} {k : Nat} {tR : Tok} (F : Fun K "ends_of" "ends_of" sEnds f fd) (gRED : mg "RED" = some (.str "red" tR)) : FnOk P w K mg base CX0 (k + 1) f fd ["lock", "water"] (spEnds K) := by
  refine F.ok scEnds (fun vs H Q E h => ?_) (fun cdv A outer s H vs Q E hr h => ?_)
  · obtain ⟨v, w, c, rfl, _⟩ := h
    rfl
  obtain ⟨t, w, l, rfl, ht, q⟩ := h
  refine ⟨_, (pss_cons (ps_asg (pv 0) (pg_any rfl (pgs_cons (pg_name (i := 2) scEnds.nd rfl (.inl rfl)) (pgs_cons (pg_name (i := 3) scEnds.nd rfl (.inl rfl)) (pgs_cons (pg_name (i := 4) scEnds.nd rfl (.inl rfl)) (pgs_cons (pg_name (i := 5) scEnds.nd rfl (.inl rfl)) pgs_nil))))))
    (pss_one (ps_ret (pe_ifExp (pt_cmpR op_eq (pv 1) (pe_glob (v := .str "red") rfl gRED ⟨_, rfl⟩) (nomark _)) (pe_tup (pa_cons (pv 2) (pa_cons (pv 3) pa_nil))) (pe_tup (pa_cons (pv 4) (pa_cons (pv 5) pa_nil))))))), ?_⟩
  refine ⟨_, rfl, t, _, rfl, ht, rfl, _, _, rfl, _, _, rfl, _, _, rfl, _, _, rfl, rfl, ?_⟩
  refine at_s (σ' := [some (.ref t), some (.str w), some (.int l.1), some (.int l.2.1), some (.int l.2.2.1), some (.int l.2.2.2)]) rfl ?_
  refine ⟨_, rfl, rfl, _, rfl, ite2 (fun e => ?_) (fun e => ?_)⟩
  · refine ⟨_, rfl, _, rfl, (by show 2 ≤ sizeLine; decide), fun p np => ?_⟩
    have q' := q p np
    have e2 : isRed w = true := e
    rw [e2] at q'; exact q'
  · refine ⟨_, rfl, _, rfl, (by show 2 ≤ sizeLine; decide), fun p np => ?_⟩
    have q' := q p np
    have e2 : isRed w = false := by cases z : isRed w; rfl; exact absurd z e
    rw [e2] at q'; exact q'
/-! ### standings of tuples or of lists -/
structure SnAny (K : PySem.W.Frag) (H : Hp) (v : V) (s : Sn) : Prop where
  ex : ∃ a ar ab al, v = .ref a ∧ Sq2 K H a [.ref ar, .ref ab, .ref al] ∧ Sq2 K H ar (s.rs.map V.int) ∧ Sq2 K H ab (s.bs.map V.int) ∧ Sq2 K H al (s.ls.map V.int)
theorem SnAny.same {H H' : Hp} {v : V} {s : Sn} (h : SnAny K H v s) (e : Same H H') : SnAny K H' v s := by
  obtain ⟨a, ar, ab, al, e1, h1, h2, h3, h4⟩ := h.ex
  exact ⟨a, ar, ab, al, e1, Same.sq2 e h1, Same.sq2 e h2, Same.sq2 e h3, Same.sq2 e h4⟩
theorem ints_inv {H : Hp} : ∀ {vs : List V} {zs : List Int}, DpAll K H vs (intsD zs) → vs = zs.map V.int
  | _, [], h => by cases h; rfl
  | _, z :: zs, h => by
    cases h with
    | cons p r => cases p; rw [ints_inv r]; rfl
theorem snAny_t {H : Hp} {v : V} {s : Sn} (h : Dp K H v (snD s)) : SnAny K H v s := by
  cases h with
  | tup hs ha =>
    cases ha with
    | cons p1 ha => cases ha with
      | cons p2 ha => cases ha with
        | cons p3 ha =>
          cases ha
          cases p1 with
          | tup a1 b1 => cases p2 with
            | tup a2 b2 => cases p3 with
              | tup a3 b3 =>
                rw [ints_inv b1] at a1; rw [ints_inv b2] at a2; rw [ints_inv b3] at a3
                exact ⟨_, _, _, _, rfl, .inr hs, .inr a1, .inr a2, .inr a3⟩
theorem map_li : ∀ zs : List Int, (intsD zs).map lstD = intsD zs
  | [] => rfl
  | z :: zs => by show lstD (.int z) :: (intsD zs).map lstD = _; rw [map_li zs]; rfl
theorem snAny_l {H : Hp} {v : V} {s : Sn} (h : Dp K H v (lstD (snD s))) : SnAny K H v s := by
  have e : lstD (snD s) = .list [.list (intsD s.rs), .list (intsD s.bs), .list (intsD s.ls)] := by
    show PyData.list [.list (lstDs (intsD s.rs)), .list (lstDs (intsD s.bs)), .list (lstDs (intsD s.ls))] = _
    rw [lstDs_eq, lstDs_eq, lstDs_eq, map_li, map_li, map_li]
  rw [e] at h
  cases h with
  | lst hs ha =>
    cases ha with
    | cons p1 ha => cases ha with
      | cons p2 ha => cases ha with
        | cons p3 ha =>
          cases ha
          cases p1 with
          | lst a1 b1 => cases p2 with
            | lst a2 b2 => cases p3 with
              | lst a3 b3 =>
                rw [ints_inv b1] at a1; rw [ints_inv b2] at a2; rw [ints_inv b3] at a3
                exact ⟨_, _, _, _, rfl, .inl hs, .inl a1, .inl a2, .inl a3⟩
/-! ### goings -/
def gt (zs : List Int) (j : Int) : Int := zs.getD j.toNat 0
theorem gt_get {zs : List Int} {j : Int} (h0 : 0 ≤ j) (h1 : j < zs.length) : zs[j.toNat]? = some (gt zs j) := by
  unfold gt
  rw [List.getD_eq_getElem?_getD, List.getElem?_eq_getElem (show j.toNat < zs.length by omega)]; rfl
theorem gt_at {zs : List Int} {j : Int} (h0 : 0 ≤ j) (h1 : j < zs.length) : atI (zs.map V.int) j = some (.int (gt zs j)) := atI_int h0 (by rw [List.getElem?_map, gt_get h0 h1]; rfl)
def lk0 : Lk := (0, 0, 0, 0)
def lkAt (c : Cn) (i : Nat) : Lk := c.ls.getD i lk0
theorem lkAt_get {c : Cn} {i : Nat} (h : i < c.ls.length) : c.ls[i]? = some (lkAt c i) := by
  unfold lkAt
  rw [List.getD_eq_getElem?_getD, List.getElem?_eq_getElem h]; rfl
def boatsW (r : Bool) (s : Sn) : List Int := if r = true then s.rs else s.bs
/-- from and to -/
def fromTo (c : Cn) (s : Sn) (i : Nat) (r : Bool) : Int × Int := if gt s.ls i = 0 then endW r (lkAt c i) else ((endW r (lkAt c i)).2, (endW r (lkAt c i)).1)
def hasB (c : Cn) (s : Sn) (i : Nat) (r : Bool) : Bool := decide (gt (boatsW r s) (fromTo c s i r).1 > 0)
def mov (zs : List Int) (p : Int × Int) : List Int :=
  let b1 := zs.set p.1.toNat (gt zs p.1 - 1)
  b1.set p.2.toNat (gt b1 p.2 + 1)
def flip1 (zs : List Int) (i : Nat) : List Int := zs.set i (1 - gt zs i)
def goneS (c : Cn) (s : Sn) (i : Nat) (r : Bool) : Sn :=
  if r = true then ⟨mov s.rs (fromTo c s i r), s.bs, flip1 s.ls i⟩ else ⟨s.rs, mov s.bs (fromTo c s i r), flip1 s.ls i⟩
theorem mov_len (zs : List Int) (p : Int × Int) : (mov zs p).length = zs.length := by unfold mov; rw [List.length_set, List.length_set]
theorem flip_len (zs : List Int) (i : Nat) : (flip1 zs i).length = zs.length := by unfold flip1; rw [List.length_set]
theorem mem_set_or {α : Type} {l : List α} {i : Nat} {a x : α} (h : x ∈ l.set i a) : x ∈ l ∨ x = a := by
  rcases List.mem_or_eq_of_mem_set h with q | q
  · exact .inl q
  · exact .inr q
theorem gt_mem {zs : List Int} {j : Int} (h0 : 0 ≤ j) (h1 : j < zs.length) : gt zs j ∈ zs := List.mem_of_getElem? (gt_get h0 h1)
theorem mov_bd {zs : List Int} {p : Int × Int} {B : Int} (h0 : 0 ≤ p.1) (h1 : p.1 < zs.length) (h2 : 0 ≤ p.2) (h3 : p.2 < zs.length) (hb : ∀ x ∈ zs, 0 ≤ x ∧ x ≤ B) (hp : gt zs p.1 > 0) : ∀ x ∈ mov zs p, 0 ≤ x ∧ x ≤ B + 1 := by
  intro x hx
  have k1 : ∀ y ∈ zs.set p.1.toNat (gt zs p.1 - 1), 0 ≤ y ∧ y ≤ B := fun y hy => by
    rcases mem_set_or hy with q | q
    · exact hb y q
    · have := hb _ (gt_mem h0 h1); omega
  unfold mov at hx
  rcases mem_set_or hx with q | q
  · have := k1 x q; omega
  · have := k1 _ (gt_mem (zs := zs.set p.1.toNat (gt zs p.1 - 1)) (j := p.2) h2 (by rw [List.length_set]; exact h3)); omega
theorem endW_ok {c : Cn} {W U : Nat} (ok : okCn W U c) {i : Nat} (hi : i < c.ls.length) (r : Bool) : (0 ≤ (endW r (lkAt c i)).1 ∧ (endW r (lkAt c i)).1 < basW r c) ∧ (0 ≤ (endW r (lkAt c i)).2 ∧ (endW r (lkAt c i)).2 < basW r c) := by
  have o := ok.l _ (List.mem_of_getElem? (lkAt_get hi))
  cases r with
  | true => exact ⟨⟨o.a0, o.a1⟩, o.c0, o.c1⟩
  | false => exact ⟨⟨o.x0, o.x1⟩, o.y0, o.y1⟩
theorem fromTo_ok {c : Cn} {W U : Nat} (ok : okCn W U c) {s : Sn} {i : Nat} (hi : i < c.ls.length) (r : Bool) : (0 ≤ (fromTo c s i r).1 ∧ (fromTo c s i r).1 < basW r c) ∧ (0 ≤ (fromTo c s i r).2 ∧ (fromTo c s i r).2 < basW r c) := by
  have h := endW_ok ok hi r
  unfold fromTo
  split
  · exact h
  · exact ⟨h.2, h.1⟩
theorem boats_len {c : Cn} {B : Int} {s : Sn} (ok : okSn c B s) (r : Bool) : ((boatsW r s).length : Int) = basW r c := by
  cases r with
  | true => exact ok.r
  | false => exact ok.b
theorem goneS_ok {c : Cn} {W U : Nat} {B : Int} {s : Sn} (okc : okCn W U c) (ok : okSn c B s) {i : Nat} (hi : i < c.ls.length) (r : Bool) (h : hasB c s i r = true) : okSn c (B + 1) (goneS c s i r) := by
  have f := fromTo_ok okc (s := s) hi r
  have hp : gt (boatsW r s) (fromTo c s i r).1 > 0 := of_decide_eq_true h
  have hl := boats_len ok r
  have fl : ∀ x ∈ flip1 s.ls i, x = 0 ∨ x = 1 := fun x hx => by
    unfold flip1 at hx
    rcases mem_set_or hx with q | q
    · exact ok.l0 x q
    · have hm := gt_mem (zs := s.ls) (j := (i : Int)) (by omega) (by rw [ok.n]; omega)
      rcases ok.l0 _ hm with z | z <;> omega
  have up : ∀ {zs : List Int}, (∀ x ∈ zs, 0 ≤ x ∧ x ≤ B) → ∀ x ∈ zs, 0 ≤ x ∧ x ≤ B + 1 := fun h x hx => by have := h x hx; omega
  cases r with
  | true => exact ⟨by show ((mov s.rs _).length : Int) = _; rw [mov_len]; exact ok.r, ok.b, by show (flip1 s.ls i).length = _; rw [flip_len]; exact ok.n, mov_bd f.1.1 (by rw [show (s.rs.length : Int) = basW true c from hl]; exact f.1.2) f.2.1 (by rw [show (s.rs.length : Int) = basW true c from hl]; exact f.2.2) ok.r0 hp, up ok.b0, fl⟩
  | false => exact ⟨ok.r, by show ((mov s.bs _).length : Int) = _; rw [mov_len]; exact ok.b, by show (flip1 s.ls i).length = _; rw [flip_len]; exact ok.n, up ok.r0, mov_bd f.1.1 (by rw [show (s.bs.length : Int) = basW false c from hl]; exact f.1.2) f.2.1 (by rw [show (s.bs.length : Int) = basW false c from hl]; exact f.2.2) ok.b0 hp, fl⟩
/-- the goings that may be, lock by lock, red ahead of blue -/
abbrev Mv := Nat × Bool
def mvV (m : Mv) : List V := [.int m.1, .str (wS m.2)]
def mvD (m : Mv) : PyData := .tuple [.int m.1, .str (wS m.2)]
def mayL (c : Cn) (s : Sn) (i : Nat) : List Mv := [true, false].filterMap fun r => if hasB c s i r = true then some (i, r) else none
def may (c : Cn) (s : Sn) (n : Nat) : List Mv := (List.range n).flatMap (mayL c s)
theorem may_succ (c : Cn) (s : Sn) (n : Nat) : may c s (n + 1) = may c s n ++ mayL c s n := by
  unfold may
  rw [List.range_succ, List.flatMap_append]
  simp
theorem mayL_eq (c : Cn) (s : Sn) (i : Nat) : mayL c s i = (if hasB c s i true = true then [(i, true)] else []) ++ (if hasB c s i false = true then [(i, false)] else []) := by
  unfold mayL
  by_cases h1 : hasB c s i true = true <;> by_cases h2 : hasB c s i false = true <;> simp [h1, h2]
theorem mem_may {c : Cn} {s : Sn} {m : Mv} : ∀ {n : Nat}, m ∈ may c s n ↔ m.1 < n ∧ hasB c s m.1 m.2 = true
  | 0 => by simp [may]
  | n + 1 => by
    rw [may_succ, List.mem_append, mem_may (n := n), mayL_eq]
    obtain ⟨i, r⟩ := m
    constructor
    · rintro (h | h)
      · exact ⟨by have := h.1; omega, h.2⟩
      · rcases List.mem_append.mp h with h | h
        · by_cases h1 : hasB c s n true = true
          · rw [if_pos h1] at h
            have e : (i, r) = (n, true) := by simpa using h
            cases e; exact ⟨Nat.lt_succ_self _, h1⟩
          · rw [if_neg h1] at h; simp at h
        · by_cases h1 : hasB c s n false = true
          · rw [if_pos h1] at h
            have e : (i, r) = (n, false) := by simpa using h
            cases e; exact ⟨Nat.lt_succ_self _, h1⟩
          · rw [if_neg h1] at h; simp at h
    · intro ⟨h1, h2⟩
      by_cases e : i = n
      · refine .inr ?_
        have e' : i = n := e
        subst e'
        have h2' : hasB c s i r = true := h2
        cases r with
        | true => rw [if_pos h2']; exact List.mem_append_left _ (by simp)
        | false => rw [if_pos h2']; exact List.mem_append_right _ (by simp)
      · exact .inl ⟨by have : i < n + 1 := h1; show i < n; omega, h2⟩
theorem may_len (c : Cn) (s : Sn) : ∀ n : Nat, (may c s n).length ≤ 2 * n
  | 0 => by simp [may]
  | n + 1 => by
    have h := may_len c s n
    rw [may_succ, List.length_append, mayL_eq, List.length_append]
    have h1 : (if hasB c s n true = true then [(n, true)] else ([] : List Mv)).length ≤ 1 := by split <;> simp
    have h2 : (if hasB c s n false = true then [(n, false)] else ([] : List Mv)).length ≤ 1 := by split <;> simp
    omega
/-! ### from_and_to, has_boat, may_go -/
abbrev nFT : List Str := ["canal", "standing", "lock", "water", "start", "end"]
theorem scFT : FnScope nFT ["canal", "standing", "lock", "water"] (defScope sFT) := ⟨rfl, rfl, rfl, by decide +kernel, rfl, by decide +kernel, by decide +kernel⟩
def spFT (K : PySem.W.Frag) : Sp := fun vs H Q _ => ∃ (v u : V) (i : Nat) (r : Bool) (c : Cn) (s : Sn), vs = [v, u, .int i, .str (wS r)] ∧ CnAny K H v c ∧ SnAny K H u s ∧ i < c.ls.length ∧ i < s.ls.length ∧ ∀ p H', Same H H' → H p = none → H' p = some (.tup (prV (fromTo c s i r))) → Q (.ref p) H'
theorem ok_ft {f fe : Addr} {fd fde : FuncData} {k : Nat} (F : Fun K "from_and_to" "from_and_to" sFT f fd) (En : Fns P w K mg base k "ends_of" ["lock", "water"] (spEnds K) fe fde) : FnOk P w K mg base CX0 (k + 1) f fd ["canal", "standing", "lock", "water"] (spFT K) := by
  refine F.ok scFT (fun vs H Q E h => ?_) (fun cdv A outer s H vs Q E hr h => ?_)
  · obtain ⟨v, u, i, r, c, s, rfl, _⟩ := h
    rfl
  obtain ⟨v, u, i, r, c, s, rfl, hc, hs, hi, hi2, q⟩ := h
  obtain ⟨a, g, vs, rfl, ha, hg, hl, hv⟩ := hc.ex
  obtain ⟨b, br, bb, bl, rfl, hb, hbr, hbb, hbl⟩ := hs.ex
  refine ⟨_, (pss_cons (ps_asg (pe_fn En hr rfl (pa_cons (pe_ix (r := rIxA K) ix_any (pe_ix (r := rIxA K) ix_any (pv 0) pe_int (fun _ _ => rfl)) (pv 2) (fun _ _ => rfl)) (pa_cons (pv 3) pa_nil))) (pg_any rfl (pgs_cons (pg_name (i := 4) scFT.nd rfl (.inl rfl)) (pgs_cons (pg_name (i := 5) scFT.nd rfl (.inl rfl)) pgs_nil))))
    (pss_one (ps_ret (pe_ifExp (pt_cmpR op_eq (pe_ix (r := rIxA K) ix_any (pe_ix (r := rIxA K) ix_any (pv 1) pe_int (fun _ _ => rfl)) (pv 2) (fun _ _ => rfl)) pe_int (nomark _)) (pe_tup (pa_cons (pv 4) (pa_cons (pv 5) pa_nil))) (pe_tup (pa_cons (pv 5) (pa_cons (pv 4) pa_nil))))))), ?_⟩
  have hvi : i < vs.length := by rw [hl]; exact hi
  obtain ⟨l, t, el, et, ht⟩ := hv i _ (List.getElem?_eq_getElem hvi)
  have el' : l = lkAt c i := by rw [lkAt_get hi] at el; exact (Option.some.inj el).symm
  subst el'
  refine ⟨_, rfl, a, _, _, _, rfl, rfl, ha, rfl, _, rfl, g, _, _, _, rfl, rfl, hg, atI_nat (List.getElem?_eq_getElem hvi), _, rfl, t, wS r, lkAt c i, by rw [et]; rfl, ht, fun p np => ?_⟩
  rw [isRed_wS]
  have s1 : Same H (upd H p (.tup (prV (endW r (lkAt c i))))) := same_new np
  refine ⟨p, _, rfl, .inr (.inl (.inl upd_same)), rfl, _, _, rfl, _, _, rfl, rfl, ?_⟩
  refine at_s (σ' := [some (.ref a), some (.ref b), some (.int i), some (.str (wS r)), some (.int (endW r (lkAt c i)).1), some (.int (endW r (lkAt c i)).2)]) rfl ?_
  refine ⟨_, rfl, b, _, _, _, rfl, rfl, Same.sq2 s1 hb, rfl, _, rfl, bl, _, _, _, rfl, rfl, Same.sq2 s1 hbl, gt_at (by omega) (by omega), rfl, _, rfl, ite2 (fun e => ?_) (fun e => ?_)⟩
  · refine ⟨_, rfl, _, rfl, (by show 2 ≤ sizeLine; decide), fun p2 np2 => ?_⟩
    have e' : gt s.ls (i : Int) = 0 := V.int.inj (of_decide_eq_true e)
    refine q p2 _ (s1.trans (same_new np2)) (s1.free np2) ?_
    rw [upd_same]; unfold fromTo; rw [if_pos e']; rfl
  · refine ⟨_, rfl, _, rfl, (by show 2 ≤ sizeLine; decide), fun p2 np2 => ?_⟩
    have e' : ¬ gt s.ls (i : Int) = 0 := fun z => e (decide_eq_true (by rw [z]))
    refine q p2 _ (s1.trans (same_new np2)) (s1.free np2) ?_
    rw [upd_same]; unfold fromTo; rw [if_neg e']; rfl
/-- a list of goings, tuples all -/
structure MvAt (H : Hp) (a : Addr) (ms : List Mv) (us : List V) : Prop where
  e : H a = some (.lst us)
  l : us.length = ms.length
  d : ∀ (j : Nat) u, us[j]? = some u → ∃ t m, u = .ref t ∧ ms[j]? = some m ∧ H t = some (.tup (mvV m))
theorem MvAt.dp {H : Hp} {a : Addr} : ∀ {ms : List Mv} {us : List V}, us.length = ms.length → (∀ (j : Nat) u, us[j]? = some u → ∃ t m, u = .ref t ∧ ms[j]? = some m ∧ H t = some (.tup (mvV m))) → DpAll K H us (ms.map mvD)
  | [], [], _, _ => .nil
  | [], _ :: _, h, _ => by simp at h
  | _ :: _, [], h, _ => by simp at h
  | m :: ms, u :: us, h, hd => by
    obtain ⟨t, m', e, em, et⟩ := hd 0 u rfl
    have e' : m = m' := by simpa using em
    subst e'
    rw [e]
    exact .cons (.tup (.inl (.inl et)) (.cons (.int _) (.cons (.str _) .nil))) (MvAt.dp (a := a) (by simpa using h) fun j u q => by simpa using hd (j + 1) u (by simpa using q))
theorem MvAt.snoc {H H' : Hp} {a t : Addr} {ms : List Mv} {us : List V} {m : Mv} (h : MvAt H a ms us) (hk : ∀ (b : Addr) xs, H b = some (.tup xs) → H' b = some (.tup xs)) (et : H' t = some (.tup (mvV m))) (ea : H' a = some (.lst (us ++ [.ref t]))) : MvAt H' a (ms ++ [m]) (us ++ [.ref t]) := by
  refine ⟨ea, by rw [List.length_append, List.length_append, h.l]; rfl, fun j u hu => ?_⟩
  by_cases hj : j < us.length
  · rw [List.getElem?_append_left hj] at hu
    obtain ⟨t', m', e1, e2, e3⟩ := h.d j u hu
    exact ⟨t', m', e1, by rw [List.getElem?_append_left (by rw [← h.l]; exact hj)]; exact e2, hk _ _ e3⟩
  · rw [List.getElem?_append_right (by omega)] at hu
    have hj0 : j - us.length = 0 := by
      rcases Nat.eq_zero_or_pos (j - us.length) with q | q
      · exact q
      · rw [List.getElem?_eq_none (by simp; omega)] at hu; cases hu
    rw [hj0] at hu
    have e : V.ref t = u := by simpa using hu
    refine ⟨t, m, e.symm, ?_, et⟩
    rw [List.getElem?_append_right (by rw [← h.l]; omega), ← h.l, hj0]; rfl
end
end XL
namespace XL
open PySem PySem.Spec PyProof.Rows L2
theorem set_at {zs : List Int} {j x : Int} (h0 : 0 ≤ j) (h1 : j < zs.length) : ixN (zs.map V.int).length j = some j.toNat := by
  unfold ixN
  rw [if_pos h0, if_pos (by rw [List.length_map]; omega)]
end XL
namespace XL
open PySem PySem.Spec PyProof.Rows L2
abbrev sLF : Stmt := topS 24
abbrev sSt : Stmt := topS 25
abbrev sBe : Stmt := topS 26
theorem dp_ints' {K : PySem.W.Frag} {H : Hp} : ∀ zs : List Int, DpAll K H (zs.map V.int) (intsD zs)
  | [] => .nil
  | z :: zs => .cons (.int z) (dp_ints' zs)
section
variable {P : Program} {w : World} {K : PySem.W.Frag} {mg : Str → Option Value} {base : Heap}
/-! ### the law's own: from and to -/
abbrev nLF : List Str := ["_law_ship_way", "_law_lying", "_law_hop", "_law_gate", "_law_hue", "_law_ends"]
theorem scLF : FnScope nLF ["_law_ship_way", "_law_lying", "_law_hop"] (defScope sLF) := ⟨rfl, rfl, rfl, by decide +kernel, rfl, by decide +kernel, by decide +kernel⟩
def spLF (K : PySem.W.Frag) : Sp := fun vs H Q _ => ∃ (v u : V) (m : Addr) (i : Nat) (r : Bool) (c : Cn) (s : Sn), vs = [v, u, .ref m] ∧ Dp K H v (cnD c) ∧ SnAny K H u s ∧ Sq2 K H m (mvV (i, r)) ∧ i < c.ls.length ∧ i < s.ls.length ∧ ∀ p H', Same H H' → H p = none → H' p = some (.tup (prV (fromTo c s i r))) → Q (.ref p) H'
theorem ok_lf {f : Addr} {fd : FuncData} {k : Nat} (F : Fun K "_law_from_to" "_law_from_to" sLF f fd) : FnOk P w K mg base CX0 (k + 1) f fd ["_law_ship_way", "_law_lying", "_law_hop"] (spLF K) := by
  refine F.ok scLF (fun vs H Q E h => ?_) (fun cdv A outer s H vs Q E hr h => ?_)
  · obtain ⟨v, u, m, i, r, c, s, rfl, _⟩ := h
    rfl
  obtain ⟨v, u, m, i, r, c, s, rfl, hc, hs, hm, hi, hi2, q⟩ := h
  obtain ⟨a, g, vs, rfl, ha, hg, hl⟩ := cn_of hc
  obtain ⟨b, br, bb, bl, rfl, hb, hbr, hbb, hbl⟩ := hs.ex
  refine ⟨_, (pss_cons (ps_asg (pv 2) (pg_any rfl (pgs_cons (pg_name (i := 3) scLF.nd rfl (.inl rfl)) (pgs_cons (pg_name (i := 4) scLF.nd rfl (.inl rfl)) pgs_nil))))
    (pss_cons (ps_set (i := 5) scLF.nd rfl (.inl rfl) (pe_ifExp (pt_cmpR op_eq (pv 4) pe_str (nomark _)) (pe_slice sl_tup (pe_ix (r := rIxA K) ix_any (pe_ix (r := rIxA K) ix_any (pv 0) pe_int (fun _ _ => rfl)) (pv 3) (fun _ _ => rfl)) po_none (po_some pe_int)) (pe_slice sl_tup (pe_ix (r := rIxA K) ix_any (pe_ix (r := rIxA K) ix_any (pv 0) pe_int (fun _ _ => rfl)) (pv 3) (fun _ _ => rfl)) (po_some pe_int) po_none)))
    (pss_one (ps_ret (pe_ifExp (pt_cmpR op_eq (pe_ix (r := rIxA K) ix_any (pe_ix (r := rIxA K) ix_any (pv 1) pe_int (fun _ _ => rfl)) (pv 3) (fun _ _ => rfl)) pe_int (nomark _)) (pv 5) (pe_rev2 (pv 5))))))), ?_⟩
  have hvl : vs.length = c.ls.length := by rw [DpAll.length hl, List.length_map]
  have hvi : i < vs.length := by omega
  obtain ⟨d, ed, pd⟩ := DpAll.get hl (List.getElem?_eq_getElem hvi)
  rw [List.getElem?_map, lkAt_get hi] at ed
  cases ed
  obtain ⟨t, et, ht⟩ := ends_of pd
  refine ⟨_, rfl, m, _, rfl, hm, rfl, _, _, rfl, _, _, rfl, rfl, ?_⟩
  refine at_s (σ' := [some (.ref a), some (.ref b), some (.ref m), some (.int i), some (.str (wS r)), none]) rfl ?_
  have fin : ∀ (p : Addr), H p = none → gt s.ls (i : Int) = 0 → Q (.ref p) (upd H p (.tup (prV (endW r (lkAt c i))))) := fun p np e => by
    refine q p _ (same_new np) np ?_
    rw [upd_same]; unfold fromTo; rw [if_pos e]
  have fin2 : ∀ (p p2 : Addr), H p = none → ¬ gt s.ls (i : Int) = 0 → upd H p (.tup (prV (endW r (lkAt c i)))) p2 = none → Q (.ref p2) (upd (upd H p (.tup (prV (endW r (lkAt c i))))) p2 (.tup [.int (endW r (lkAt c i)).2, .int (endW r (lkAt c i)).1])) := fun p p2 np e np2 => by
    refine q p2 _ ((same_new np).trans (same_new np2)) ((same_new np).free np2) ?_
    rw [upd_same]; unfold fromTo; rw [if_neg e]; rfl
  refine ⟨_, rfl, rfl, _, rfl, ite2 (fun e => ?_) (fun e => ?_)⟩
  · have er : r = true := by rw [← isRed_wS r]; exact e
    subst er
    refine ⟨_, rfl, a, _, _, _, rfl, rfl, .inr ha, rfl, _, rfl, g, _, _, _, rfl, rfl, .inr hg, atI_nat (List.getElem?_eq_getElem hvi), 2, rfl, ?_⟩
    rw [et]
    refine ⟨t, _, rfl, ht, (fun z => absurd (show HT.sIx 4 4 (some 2) = 4 from z.2) (by decide)), fun p np => ?_⟩
    refine at_g (σ' := [some (.ref a), some (.ref b), some (.ref m), some (.int i), some (.str (wS true)), some (.ref p)]) rfl ?_
    have s1 : Same H (upd H p (.tup (prV (endW true (lkAt c i))))) := same_new np
    refine ⟨_, rfl, b, _, _, _, rfl, rfl, Same.sq2 s1 hb, rfl, _, rfl, bl, _, _, _, rfl, rfl, Same.sq2 s1 hbl, gt_at (by omega) (by omega), rfl, _, rfl, ite2 (fun e2 => ?_) (fun e2 => ?_)⟩
    · exact ⟨_, rfl, fin p np (V.int.inj (of_decide_eq_true e2))⟩
    · exact ⟨_, rfl, p, _, _, rfl, .inl (.inl upd_same), fun p2 np2 => fin2 p p2 np (fun z => e2 (decide_eq_true (by rw [z]))) np2⟩
  · have er : r = false := by
      cases r with
      | false => rfl
      | true => exact absurd (isRed_wS true) e
    subst er
    refine ⟨_, rfl, a, _, _, _, rfl, rfl, .inr ha, rfl, _, rfl, g, _, _, _, rfl, rfl, .inr hg, atI_nat (List.getElem?_eq_getElem hvi), 2, rfl, ?_⟩
    rw [et]
    refine ⟨t, _, rfl, ht, (fun z => absurd (show HT.sIx 4 0 (some 2) = 0 from z.1) (by decide)), fun p np => ?_⟩
    refine at_g (σ' := [some (.ref a), some (.ref b), some (.ref m), some (.int i), some (.str (wS false)), some (.ref p)]) rfl ?_
    have s1 : Same H (upd H p (.tup (prV (endW false (lkAt c i))))) := same_new np
    refine ⟨_, rfl, b, _, _, _, rfl, rfl, Same.sq2 s1 hb, rfl, _, rfl, bl, _, _, _, rfl, rfl, Same.sq2 s1 hbl, gt_at (by omega) (by omega), rfl, _, rfl, ite2 (fun e2 => ?_) (fun e2 => ?_)⟩
    · exact ⟨_, rfl, fin p np (V.int.inj (of_decide_eq_true e2))⟩
    · exact ⟨_, rfl, p, _, _, rfl, .inl (.inl upd_same), fun p2 np2 => fin2 p p2 np (fun z => e2 (decide_eq_true (by rw [z]))) np2⟩
/-! ### steps -/
abbrev nSt : List Str := ["_law_ship_way", "_law_lying", "_law_found", "_law_gate", "_law_k", "_law_hue"]
theorem scSt : FnScope nSt ["_law_ship_way", "_law_lying"] (defScope sSt) := ⟨rfl, rfl, rfl, by decide +kernel, rfl, by decide +kernel, by decide +kernel⟩
def spSt (K : PySem.W.Frag) : Sp := fun vs H Q _ => ∃ (v u : V) (c : Cn) (s : Sn) (B : Int), vs = [v, u] ∧ Dp K H v (cnD c) ∧ SnAny K H u s ∧ okCn 100 100 c ∧ okSn c B s ∧ ∀ p us H', Same H H' → H p = none → MvAt H' p (may c s c.ls.length) us → Q (.ref p) H'
theorem ok_st {f fe : Addr} {fd fde : FuncData} {k : Nat} (F : Fun K "_law_steps" "_law_steps" sSt f fd) (LF : Fns P w K mg base k "_law_from_to" ["_law_ship_way", "_law_lying", "_law_hop"] (spLF K) fe fde) (m_range : mg "range" = none) (m_len : mg "len" = none) (m_enumerate : mg "enumerate" = none) : FnOk P w K mg base CX0 (k + 1) f fd ["_law_ship_way", "_law_lying"] (spSt K) := by
  refine F.ok scSt (fun vs H Q E h => ?_) (fun cdv A outer s H vs Q E hr h => ?_)
  · obtain ⟨v, u, c, s, B, rfl, _⟩ := h
    rfl
  obtain ⟨v, u, c, s, B, rfl, hc, hs, okc, oks, q⟩ := h
  obtain ⟨a, g, vs, rfl, ha, hg, hl⟩ := cn_of hc
  have hvl : vs.length = c.ls.length := by rw [DpAll.length hl, List.length_map]
  refine ⟨_, (pss_cons (ps_set (i := 2) scSt.nd rfl (.inl rfl) (pe_lst pa_nil))
    (pss_cons (ps_for PassesOwn.never rfl (pi_range1 rfl m_range (pa_cons (pe_callB (r := rLenA K) call_lenA rfl m_len PySem.boot_len (pa_cons (pe_ix (r := rIxA K) ix_any (pv 0) pe_int (fun _ _ => rfl)) pa_nil)) pa_nil)) (pg_name (i := 3) scSt.nd rfl (.inl rfl))
    (pss_one (ps_for PassesOwn.never rfl (pi_enumT rfl m_enumerate (pa_cons (pe_tup (pa_cons pe_str (pa_cons pe_str pa_nil))) pa_nil)) (pg_any rfl (pgs_cons (pg_name (i := 4) scSt.nd rfl (.inl rfl)) (pgs_cons (pg_name (i := 5) scSt.nd rfl (.inl rfl)) pgs_nil)))
    (pss_one (ps_if (pt_cmpR op_gt (pe_ix (r := rIxA K) ix_any (pe_ix (r := rIxA K) ix_any (pv 1) (pv 4) (fun _ _ => rfl)) (pe_ix (r := rIxA K) ix_any (pe_fn LF hr rfl (pa_cons (pv 0) (pa_cons (pv 1) (pa_cons (pe_tup (pa_cons (pv 3) (pa_cons (pv 5) pa_nil))) pa_nil)))) pe_int (fun _ _ => rfl)) (fun _ _ => rfl)) pe_int (nomark _)) (pss_one (ps_expr (pe_bm PySem.F.plainAttrs_list PySem.F.slot_list_append PySem.F.type_list_append mt_append (pv 2) (pa_cons (pe_tup (pa_cons (pv 3) (pa_cons (pv 5) pa_nil))) pa_nil)))) pss_nil)))))
    (pss_one (ps_ret (pv 2))))), ?_⟩
  refine ⟨(by show 0 ≤ sizeLine; decide), fun tl ntl => ?_⟩
  have s1 : Same H (upd H tl (.lst [])) := same_new ntl
  refine at_g (σ' := [some (.ref a), some u, some (.ref tl), none, none, none]) rfl ?_
  have hnl : c.ls.length ≤ 100 := okc.n
  refine ⟨_, rfl, a, _, _, _, rfl, rfl, .inr (Same.tup s1 ha), rfl, g, vs, rfl, .inr (Same.tup s1 hg), _, rfl, by omega, by omega, for_it walk_range (fun i σ H3 => ∃ (us : List V) (y3 y4 y5 : Option V), σ = [some (.ref a), some u, some (.ref tl), y3, y4, y5] ∧ Same H H3 ∧ MvAt H3 tl (may c s i) us) ⟨[], none, none, none, rfl, s1, upd_same, rfl, fun j u h => by simp at h⟩ (fun _ _ _ _ _ => trivial) (fun i x σ H3 H4 hi h hy => ?_) (fun σ H3 h => ?_)⟩
  · obtain ⟨us, y3, y4, y5, rfl, sm, M⟩ := h
    obtain ⟨rfl, rfl⟩ := hy
    have hi2 : i < c.ls.length := by omega
    refine at_g (σ' := [some (.ref a), some u, some (.ref tl), some (.int (0 + i)), y4, y5]) rfl ?_
    rw [Int.zero_add]
    refine ⟨(by show 2 ≤ sizeLine; decide), fun tp ntp => ?_⟩
    have stp : Same H4 (upd H4 tp (.tup [.str "red", .str "blue"])) := same_new ntp
    have etp : (upd H4 tp (.tup [.str "red", .str "blue"])) tp = some (.tup [.str "red", .str "blue"]) := upd_same
    refine ⟨tp, [.str "red", .str "blue"], rfl, .inl (.inl etp), for_it (walk_enumT (xs := [.str "red", .str "blue"])) (fun j σ H5 => ∃ (us : List V) (y4 y5 : Option V), σ = [some (.ref a), some u, some (.ref tl), some (.int (i : Nat)), y4, y5] ∧ Same H H5 ∧ H5 tp = some (.tup [.str "red", .str "blue"]) ∧ MvAt H5 tl (may c s i ++ ([true, false].take j).filterMap fun r => if hasB c s i r = true then some (i, r) else none) us)
      ⟨us, y4, y5, rfl, sm.trans stp, etp, ?_⟩ (fun j σ H5 _ h => ?_) (fun j x σ H5 H6 hj h hy => ?_) (fun σ H5 h => ?_)⟩
    · rw [show ([true, false].take 0).filterMap (fun r => if hasB c s i r = true then some (i, r) else none) = [] from rfl, List.append_nil]
      exact ⟨stp _ _ M.e, M.l, fun j u hu => by
        obtain ⟨t, m, e1, e2, e3⟩ := M.d j u hu
        exact ⟨t, m, e1, e2, stp _ _ e3⟩⟩
    · obtain ⟨_, _, _, _, s5, e5, _⟩ := h
      exact .inl (.inl e5)
    · obtain ⟨us, y4, y5, rfl, s5, e5, M5⟩ := h
      obtain ⟨T, x1, x2, rfl, nT, rfl, q1, q2⟩ := hy
      have e1' : x1 = .int (j : Nat) := (Option.some.inj q1).symm
      subst e1'
      obtain ⟨r, rfl, er, hix⟩ : ∃ r : Bool, x2 = .str (wS r) ∧ [true, false][j]? = some r ∧ ∀ zr zb zl : V, [zr, zb, zl][j]? = some (if r = true then zr else zb) := by
        match j, hj, q2 with
        | 0, _, hx => exact ⟨true, (Option.some.inj hx).symm, rfl, fun _ _ _ => rfl⟩
        | 1, _, hx => exact ⟨false, (Option.some.inj hx).symm, rfl, fun _ _ _ => rfl⟩
      have etk : ([true, false].take (j + 1)) = [true, false].take j ++ [r] := by rw [List.take_succ, er]; rfl
      have sT : Same H5 (upd H5 T (.tup [.int (j : Nat), .str (wS r)])) := same_new nT
      refine ⟨T, _, rfl, .inr (.inl (.inl upd_same)), rfl, _, _, rfl, _, _, rfl, rfl, ?_⟩
      refine at_s (σ' := [some (.ref a), some u, some (.ref tl), some (.int (i : Nat)), some (.int (j : Nat)), some (.str (wS r))]) rfl ?_
      have s6 := s5.trans sT
      generalize upd H5 T (.tup [.int (j : Nat), .str (wS r)]) = H6 at sT s6
      obtain ⟨b, br, bb, bl, eu, hb, hbr, hbb, hbl⟩ := (hs.same s6).ex
      subst eu
      refine ⟨_, rfl, _, rfl, b, _, _, _, rfl, rfl, hb, atI_nat (hix _ _ _), _, rfl, _, rfl, _, rfl, _, rfl, (by show 2 ≤ sizeLine; decide), fun t nt => ?_⟩
      have st : Same H6 (upd H6 t (.tup (mvV (i, r)))) := same_new nt
      refine ⟨.ref a, .ref b, t, i, r, c, s, rfl, Dp.same (s6.trans st) _ hc, hs.same (s6.trans st), .inr (.inl (.inl upd_same)), hi2, by rw [oks.n]; exact hi2, fun p H7 s7 np ep => ?_⟩
      have s67 := st.trans s7
      have f := fromTo_ok okc (s := s) hi2 r
      have hlb := boats_len oks r
      have g1 : atI ((boatsW r s).map V.int) (fromTo c s i r).1 = some (.int (gt (boatsW r s) (fromTo c s i r).1)) := gt_at f.1.1 (by rw [hlb]; exact f.1.2)
      have hbt : Sq2 K H7 (if r = true then br else bb) ((boatsW r s).map V.int) := by
        cases r with
        | true => exact Same.sq2 s67 hbr
        | false => exact Same.sq2 s67 hbb
      refine ⟨p, _, _, _, rfl, rfl, .inr (.inl (.inl ep)), rfl, if r = true then br else bb, _, _, _, by cases r <;> rfl, rfl, hbt, g1, _, _, rfl, rfl, _, rfl, ?_⟩
      have s57 := sT.trans s67
      have M7 : MvAt H7 tl (may c s i ++ ([true, false].take j).filterMap fun r => if hasB c s i r = true then some (i, r) else none) us := ⟨s57 _ _ M5.e, M5.l, fun j u hu => by
        obtain ⟨t, m, e1, e2, e3⟩ := M5.d j u hu
        exact ⟨t, m, e1, e2, s57 _ _ e3⟩⟩
      show (if hasB c s i r = true then _ else _)
      cases hb' : hasB c s i r with
      | false =>
        refine iteF ⟨us, _, _, rfl, s5.trans s57, s57 _ _ e5, ?_⟩
        rw [etk, List.filterMap_append]
        have e0 : [r].filterMap (fun r => if hasB c s i r = true then some (i, r) else none) = [] := by simp [hb']
        rw [e0, List.append_nil]; exact M7
      | true =>
        refine iteT ⟨_, rfl, .inl ⟨rfl, _, SqL.of M7.e⟩, _, rfl, _, rfl, (by show 2 ≤ sizeLine; decide), fun t nt => ?_⟩
        have st : Same H7 (upd H7 t (.tup (mvV (i, r)))) := same_new nt
        have hul : us.length ≤ 1000 := by
          rw [M7.l, List.length_append]
          have h1 := may_len c s i
          have h2 : (([true, false].take j).filterMap fun r => if hasB c s i r = true then some (i, r) else none).length ≤ ([true, false].take j).length := List.length_filterMap_le _ _
          have h3 : ([true, false].take j).length ≤ 2 := by rw [List.length_take]; exact Nat.min_le_right _ _
          omega
        refine ⟨tl, us, _, rfl, rfl, st _ _ M7.e, small1000 hul, ?_⟩
        have htl : ∀ {b : Addr} {xs : List V}, H7 b = some (.tup xs) → upd (upd H7 t (.tup (mvV (i, r)))) tl (.lst (us ++ [.ref t])) b = some (.tup xs) := fun {b xs} e => by
          rw [upd_ne (fun z => by rw [z, M7.e] at e; cases e)]; exact st _ _ e
        have ttl : t ≠ tl := fun z => by rw [z, M7.e] at nt; cases nt
        refine ⟨us ++ [.ref t], _, _, rfl, fun b o e => ?_, htl (s57 _ _ e5), ?_⟩
        · rw [upd_ne (ne_of_none e ntl)]; exact st _ _ (s57 _ _ (s5 _ _ e))
        · rw [etk, List.filterMap_append]
          have e0 : [r].filterMap (fun r => if hasB c s i r = true then some (i, r) else none) = [(i, r)] := by simp [hb']
          rw [e0, ← List.append_assoc]
          exact M7.snoc (fun b xs e => htl e) (by rw [upd_ne ttl, upd_same]; rfl) upd_same
    · obtain ⟨us, y4, y5, rfl, s5, e5, M5⟩ := h
      refine ⟨us, _, _, _, rfl, s5, ?_⟩
      rw [may_succ]; exact M5
  · obtain ⟨us, y3, y4, y5, rfl, sm, M⟩ := h
    have en : ((vs.length : Int)).toNat = c.ls.length := by omega
    rw [en] at M
    exact ⟨_, rfl, q tl us H3 sm ntl M⟩
end
end XL
namespace XL
open PySem PySem.Spec PyProof.Rows L2
def trip (s : Sn) : List (List Int) := [s.rs, s.bs, s.ls]
def blI (r : Bool) : Int := if r = true then 0 else 1
theorem blI_eq (r : Bool) : (if decide (V.str (wS r) = V.str "blue") = true then (1 : Int) else 0) = blI r := by cases r <;> decide +kernel
/-! ### lists of our own, one by one -/
structure Own (H1 F : Hp) (zss : List (List Int)) (ls : List Addr) : Prop where
  nd : ls.Nodup
  at_ : ∀ (q : Nat) l, ls[q]? = some l → H1 l = none ∧ F l = some (.lst ((zss.getD q []).map V.int))
theorem Own.snoc {H1 F : Hp} {zss : List (List Int)} {ls : List Addr} {l : Addr} (h : Own H1 F zss ls) (s : Same H1 F) (nl : F l = none) : Own H1 (upd F l (.lst ((zss.getD ls.length []).map V.int))) zss (ls ++ [l]) := by
  have ne : ∀ x ∈ ls, x ≠ l := fun x hx z => by
    obtain ⟨q, hq⟩ := List.getElem?_of_mem hx
    have := (h.at_ q x hq).2
    rw [z, nl] at this; cases this
  refine ⟨List.nodup_append.mpr ⟨h.nd, by simp, fun x hx y hy e => ne x hx (by rw [e]; simpa using hy)⟩, fun q x hx => ?_⟩
  by_cases hq : q < ls.length
  · rw [List.getElem?_append_left hq] at hx
    obtain ⟨a, b⟩ := h.at_ q x hx
    exact ⟨a, by rw [upd_ne (ne x (List.mem_of_getElem? hx))]; exact b⟩
  · rw [List.getElem?_append_right (by omega)] at hx
    have hq0 : q - ls.length = 0 := by
      rcases Nat.eq_zero_or_pos (q - ls.length) with z | z
      · exact z
      · rw [List.getElem?_eq_none (by simp; omega)] at hx; cases hx
    rw [hq0] at hx
    have e : l = x := by simpa using hx
    have eq : q = ls.length := by omega
    subst e eq
    exact ⟨s.free nl, upd_same⟩
section
variable {P : Program} {w : World} {K : PySem.W.Frag} {mg : Str → Option Value} {base : Heap}
abbrev nBe : List Str := ["_law_ship_way", "_law_lying", "_law_hop", "_law_first", "_law_last", "_law_parts", "_law_k", "_law_part"]
theorem scBe : FnScope nBe ["_law_ship_way", "_law_lying", "_law_hop"] (defScope sBe) := ⟨rfl, rfl, rfl, by decide +kernel, rfl, by decide +kernel, by decide +kernel⟩
def spBe (K : PySem.W.Frag) : Sp := fun vs H Q _ => ∃ (v u : V) (m : Addr) (i : Nat) (r : Bool) (c : Cn) (s : Sn) (B : Int), vs = [v, u, .ref m] ∧ Dp K H v (cnD c) ∧ SnAny K H u s ∧ Sq2 K H m (mvV (i, r)) ∧ i < c.ls.length ∧ okCn 100 100 c ∧ okSn c B s ∧ ∀ v' H', Same H H' → Dp K H' v' (snD (goneS c s i r)) → Q v' H'
theorem ok_be {f fe : Addr} {fd fde : FuncData} {k : Nat} (F : Fun K "_law_behind" "_law_behind" sBe f fd) (LF : Fns P w K mg base k "_law_from_to" ["_law_ship_way", "_law_lying", "_law_hop"] (spLF K) fe fde) (m_list : mg "list" = none) (m_int : mg "int" = none) (m_tuple : mg "tuple" = none) : FnOk P w K mg base CX0 (k + 1) f fd ["_law_ship_way", "_law_lying", "_law_hop"] (spBe K) := by
  refine F.ok scBe (fun vs H Q E h => ?_) (fun cdv A outer s H vs Q E hr h => ?_)
  · obtain ⟨v, u, m, i, r, c, s, B, rfl, _⟩ := h
    rfl
  obtain ⟨v, u, m, i, r, c, s, B, rfl, hc, hs, hm, hi, okc, oks, q⟩ := h
  refine ⟨_, (pss_cons (ps_asg (pe_fn LF hr rfl (pa_cons (pv 0) (pa_cons (pv 1) (pa_cons (pv 2) pa_nil)))) (pg_any rfl (pgs_cons (pg_name (i := 3) scBe.nd rfl (.inl rfl)) (pgs_cons (pg_name (i := 4) scBe.nd rfl (.inl rfl)) pgs_nil))))
    (pss_cons (ps_par (i := 5) (j := 6) rfl scBe.nd rfl rfl (by decide) rfl rfl (pa_cons (pe_lc (own := [("_law_part", 7)]) (g := gName 7) (tt := tYes) rfl scBe.nd (pi_seq (pv 1)) (blkOk_by (own := [("_law_part", 7)]) (N := nBe) (sc := defScope sBe) (by decide +kernel)) (fun _ _ _ _ _ => (pg_name (i := 7) scBe.nd rfl (.inl rfl))) (fun _ _ _ _ _ => pts_nil) (fun _ _ _ _ _ => pe_hide (pe_callTy (r := rLstA K) call_listA rfl m_list boot_list (pa_cons (pv 7) pa_nil)))) (pa_cons (pe_callTy call_int1 rfl m_int boot_int' (pa_cons (pe_cmpR op_eq (pe_ix (r := rIxA K) ix_any (pv 2) pe_int (fun _ _ => rfl)) pe_str (nomark _)) pa_nil)) pa_nil)) rfl)
    (pss_cons (ps_asg (pe_op op_sub (pe_ix (r := rIxA K) ix_any (pe_ix (r := rIxA K) ix_any (pv 5) (pv 6) (fun _ _ => rfl)) (pv 3) (fun _ _ => rfl)) pe_int) (pg_sub (pe_ix (r := rIxA K) ix_any (pv 5) (pv 6) (fun _ _ => rfl)) (pv 3) set_list))
    (pss_cons (ps_asg (pe_op op_add (pe_ix (r := rIxA K) ix_any (pe_ix (r := rIxA K) ix_any (pv 5) (pv 6) (fun _ _ => rfl)) (pv 4) (fun _ _ => rfl)) pe_int) (pg_sub (pe_ix (r := rIxA K) ix_any (pv 5) (pv 6) (fun _ _ => rfl)) (pv 4) set_list))
    (pss_cons (ps_asg (pe_op op_sub pe_int (pe_ix (r := rIxA K) ix_any (pe_ix (r := rIxA K) ix_any (pv 5) pe_int (fun _ _ => rfl)) (pe_ix (r := rIxA K) ix_any (pv 2) pe_int (fun _ _ => rfl)) (fun _ _ => rfl))) (pg_sub (pe_ix (r := rIxA K) ix_any (pv 5) pe_int (fun _ _ => rfl)) (pe_ix (r := rIxA K) ix_any (pv 2) pe_int (fun _ _ => rfl)) set_list))
    (pss_one (ps_ret (pe_callTy (r := rTupA K) call_tupleA rfl m_tuple boot_tuple (pa_cons (pe_lc (own := [("_law_part", 7)]) (g := gName 7) (tt := tYes) rfl scBe.nd (pi_seq (pv 5)) (blkOk_by (own := [("_law_part", 7)]) (N := nBe) (sc := defScope sBe) (by decide +kernel)) (fun _ _ _ _ _ => (pg_name (i := 7) scBe.nd rfl (.inl rfl))) (fun _ _ _ _ _ => pts_nil) (fun _ _ _ _ _ => pe_hide (pe_callTy (r := rTupA K) call_tupleA rfl m_tuple boot_tuple (pa_cons (pv 7) pa_nil)))) pa_nil))))))))), ?_⟩
  refine ⟨_, rfl, _, rfl, _, rfl, v, u, m, i, r, c, s, rfl, hc, hs, hm, hi, by rw [oks.n]; exact hi, fun p H1 s1 np ep => ?_⟩
  refine ⟨p, _, rfl, .inr (.inl (.inl ep)), rfl, _, _, rfl, _, _, rfl, rfl, ?_⟩
  refine at_s (σ' := [some v, some u, some (.ref m), some (.int (fromTo c s i r).1), some (.int (fromTo c s i r).2), none, none, none]) rfl ?_
  obtain ⟨b, br, bb, bl, rfl, hb, hbr, hbb, hbl⟩ := (hs.same s1).ex
  have hpart : ∀ (j : Nat) (x : V), [V.ref br, V.ref bb, V.ref bl][j]? = some x → ∃ z, x = .ref z ∧ Sq2 K H1 z (((trip s).getD j []).map V.int) := by
    intro j x hx
    match j, hx with
    | 0, hx => exact ⟨br, (Option.some.inj hx).symm, hbr⟩
    | 1, hx => exact ⟨bb, (Option.some.inj hx).symm, hbb⟩
    | 2, hx => exact ⟨bl, (Option.some.inj hx).symm, hbl⟩
    | j + 3, hx => simp at hx
  refine ⟨_, rfl, b, _, rfl, hb, fun J wk => lc_acc wk (fun j acc F => Same H1 F ∧ ∃ ls : List Addr, acc = ls.map V.ref ∧ ls.length = j ∧ Own H1 F (trip s) ls) (by show 3 < sizeLine; decide) ⟨Same.refl _, [], rfl, rfl, ⟨List.Pairwise.nil, fun q l h => by simp at h⟩⟩ (fun j F D acc iv nF => ?_) (fun j x D acc F H' hj nD iv nF hy B hB => ?_) (fun D ys F nD iv nF hyl => ?_)⟩
  · have sD : Same _ (upd F D (.lst acc)) := iv.1.trans (same_new nF)
    exact ⟨fun _ z => sD.seq z, fun z => Same.tup sD z⟩
  · obtain ⟨rfl, hx⟩ := hy
    obtain ⟨sF, ls, rfl, ll, ow⟩ := iv
    obtain ⟨z, rfl, hz⟩ := hpart j x hx
    refine hB _ F rfl nF fun Qt hq => ?_
    refine ⟨_, rfl, z, _, rfl, Same.sq2 sF hz, fun l nl => hq _ _ ⟨sF.trans (same_new nl), ls ++ [l], by rw [List.map_append]; rfl, by rw [List.length_append, ll]; rfl, ?_⟩⟩
    have := ow.snoc sF nl
    rw [ll] at this; exact this
  obtain ⟨sF, ls, rfl, ll, ow⟩ := iv
  obtain ⟨l0, l1, l2, rfl⟩ : ∃ l0 l1 l2, ls = [l0, l1, l2] := by
    match ls, ll with
    | [l0, l1, l2], _ => exact ⟨l0, l1, l2, rfl⟩
  obtain ⟨n0, f0⟩ := ow.at_ 0 l0 rfl
  obtain ⟨n1, f1⟩ := ow.at_ 1 l1 rfl
  obtain ⟨n2, f2⟩ := ow.at_ 2 l2 rfl
  have d01 : l0 ≠ l1 := fun z => by have := ow.nd; rw [z] at this; simp at this
  have d02 : l0 ≠ l2 := fun z => by have := ow.nd; rw [z] at this; simp at this
  have d12 : l1 ≠ l2 := fun z => by have := ow.nd; rw [z] at this; simp at this
  have f0' : F l0 = some (.lst (s.rs.map V.int)) := f0
  have f1' : F l1 = some (.lst (s.bs.map V.int)) := f1
  have f2' : F l2 = some (.lst (s.ls.map V.int)) := f2
  have sD : Same F (upd F D (.lst ([l0, l1, l2].map V.ref))) := same_new nF
  have g0 := sD _ _ f0'
  have g1 := sD _ _ f1'
  have g2 := sD _ _ f2'
  have eD : (upd F D (.lst ([l0, l1, l2].map V.ref))) D = some (.lst [.ref l0, .ref l1, .ref l2]) := upd_same
  have h0D : l0 ≠ D := ne_of_none f0' nF
  have h1D : l1 ≠ D := ne_of_none f1' nF
  have h2D : l2 ≠ D := ne_of_none f2' nF
  have s1D := sF.trans sD
  have hmD : Sq2 K (upd F D (.lst ([l0, l1, l2].map V.ref))) m (mvV (i, r)) := Same.sq2 (s1.trans s1D) hm
  generalize upd F D (.lst ([l0, l1, l2].map V.ref)) = H2 at sD g0 g1 g2 eD s1D hmD
  -- k
  refine ⟨_, rfl, m, _, _, _, rfl, rfl, hmD, rfl, rfl, .inr ⟨_, rfl, ?_⟩⟩
  rw [blI_eq]
  refine ⟨_, _, rfl, ?_⟩
  refine at_s (σ' := [some v, some (.ref b), some (.ref m), some (.int (fromTo c s i r).1), some (.int (fromTo c s i r).2), some (.ref D), some (.int (blI r)), none]) rfl ?_
  have fo := fromTo_ok okc (s := s) hi r
  have hlb := boats_len oks r
  have s3i : (i : Int) < s.ls.length := by rw [oks.n]; omega
  obtain ⟨lw, hlw, ew, hwD, hw2, hnw⟩ : ∃ lw, atI [V.ref l0, V.ref l1, V.ref l2] (blI r) = some (.ref lw) ∧ H2 lw = some (.lst ((boatsW r s).map V.int)) ∧ lw ≠ D ∧ lw ≠ l2 ∧ H1 lw = none := by
    cases r with
    | true => exact ⟨l0, rfl, g0, h0D, d02, n0⟩
    | false => exact ⟨l1, rfl, g1, h1D, d12, n1⟩
  have L1 : (fromTo c s i r).1 < ((boatsW r s).length : Int) := by rw [hlb]; exact fo.1.2
  have L2 : (fromTo c s i r).2 < ((boatsW r s).length : Int) := by rw [hlb]; exact fo.2.2
  refine ⟨_, rfl, _, rfl, D, _, _, _, rfl, rfl, .inl (SqL.of eD), hlw, _, rfl, lw, _, _, _, rfl, rfl, .inl (SqL.of ew), gt_at fo.1.1 L1, _, _, rfl, rfl, ?_⟩
  refine ⟨_, rfl, _, rfl, D, _, _, _, rfl, rfl, .inl (SqL.of eD), hlw, _, rfl, lw, _, _, _, rfl, rfl, ew, set_at (x := 0) fo.1.1 L1, ?_⟩
  rw [set_ints]
  have L2' : (fromTo c s i r).2 < (((boatsW r s).set (fromTo c s i r).1.toNat (gt (boatsW r s) (fromTo c s i r).1 - 1)).length : Int) := by rw [List.length_set]; exact L2
  have eD2 : upd H2 lw (.lst (((boatsW r s).set (fromTo c s i r).1.toNat (gt (boatsW r s) (fromTo c s i r).1 - 1)).map V.int)) D = some (.lst [.ref l0, .ref l1, .ref l2]) := by rw [upd_ne (Ne.symm hwD)]; exact eD
  refine ⟨_, rfl, _, rfl, D, _, _, _, rfl, rfl, .inl (SqL.of eD2), hlw, _, rfl, lw, _, _, _, rfl, rfl, .inl (SqL.of upd_same), gt_at fo.2.1 L2', _, _, rfl, rfl, ?_⟩
  refine ⟨_, rfl, _, rfl, D, _, _, _, rfl, rfl, .inl (SqL.of eD2), hlw, _, rfl, lw, _, _, _, rfl, rfl, upd_same, set_at (x := 0) fo.2.1 L2', ?_⟩
  rw [set_ints, upd_upd, show ((boatsW r s).set (fromTo c s i r).1.toNat (gt (boatsW r s) (fromTo c s i r).1 - 1)).set (fromTo c s i r).2.toNat (gt ((boatsW r s).set (fromTo c s i r).1.toNat (gt (boatsW r s) (fromTo c s i r).1 - 1)) (fromTo c s i r).2 + 1) = mov (boatsW r s) (fromTo c s i r) from rfl]
  have eD3 : upd H2 lw (.lst ((mov (boatsW r s) (fromTo c s i r)).map V.int)) D = some (.lst [.ref l0, .ref l1, .ref l2]) := by rw [upd_ne (Ne.symm hwD)]; exact eD
  have e23 : upd H2 lw (.lst ((mov (boatsW r s) (fromTo c s i r)).map V.int)) l2 = some (.lst (s.ls.map V.int)) := by rw [upd_ne (Ne.symm hw2)]; exact g2
  have hm3 : Sq2 K (upd H2 lw (.lst ((mov (boatsW r s) (fromTo c s i r)).map V.int))) m (mvV (i, r)) := Same.sq2 (fun c' o e => by rw [upd_ne (ne_of_none e hnw)]; exact s1D _ _ e) (Same.sq2 s1 hm)
  refine ⟨_, rfl, D, _, _, _, rfl, rfl, .inl (SqL.of eD3), rfl, _, rfl, m, _, _, _, rfl, rfl, hm3, rfl, l2, _, _, _, rfl, rfl, .inl (SqL.of e23), gt_at (by omega) s3i, _, _, rfl, rfl, ?_⟩
  refine ⟨_, rfl, D, _, _, _, rfl, rfl, .inl (SqL.of eD3), rfl, _, rfl, m, _, _, _, rfl, rfl, hm3, rfl, l2, _, _, _, rfl, rfl, e23, set_at (x := 0) (by omega) s3i, ?_⟩
  rw [set_ints]
  -- three lists behind it
  have S4 : Same H1 (upd (upd H2 lw (.lst ((mov (boatsW r s) (fromTo c s i r)).map V.int))) l2 (.lst ((flip1 s.ls i).map V.int))) := fun c' o e => by
    rw [upd_ne (ne_of_none e n2), upd_ne (ne_of_none e hnw)]; exact s1D _ _ e
  have hl4 : ∀ (j : Nat) (x : V), [V.ref l0, V.ref l1, V.ref l2][j]? = some x → ∃ z, x = .ref z ∧ (upd (upd H2 lw (.lst ((mov (boatsW r s) (fromTo c s i r)).map V.int))) l2 (.lst ((flip1 s.ls i).map V.int))) z = some (.lst (((trip (goneS c s i r)).getD j []).map V.int)) := by
    intro j x hx
    cases r with
    | true =>
      have ew0 : lw = l0 := by have := Option.some.inj hlw; exact (V.ref.inj this).symm
      subst ew0
      match j, hx with
      | 0, hx => exact ⟨lw, (Option.some.inj hx).symm, by rw [upd_ne d02, upd_same]; rfl⟩
      | 1, hx => exact ⟨l1, (Option.some.inj hx).symm, by rw [upd_ne d12, upd_ne (Ne.symm d01)]; exact g1⟩
      | 2, hx => exact ⟨l2, (Option.some.inj hx).symm, upd_same⟩
      | j + 3, hx => simp at hx
    | false =>
      have ew0 : lw = l1 := by have := Option.some.inj hlw; exact (V.ref.inj this).symm
      subst ew0
      match j, hx with
      | 0, hx => exact ⟨l0, (Option.some.inj hx).symm, by rw [upd_ne d02, upd_ne d01]; exact g0⟩
      | 1, hx => exact ⟨lw, (Option.some.inj hx).symm, by rw [upd_ne d12, upd_same]; rfl⟩
      | 2, hx => exact ⟨l2, (Option.some.inj hx).symm, upd_same⟩
      | j + 3, hx => simp at hx
  have eD4 : upd (upd H2 lw (.lst ((mov (boatsW r s) (fromTo c s i r)).map V.int))) l2 (.lst ((flip1 s.ls i).map V.int)) D = some (.lst [.ref l0, .ref l1, .ref l2]) := by rw [upd_ne (Ne.symm h2D)]; exact eD3
  have hfl : s.ls.set ((i : Nat) : Int).toNat (1 - gt s.ls ((i : Nat) : Int)) = flip1 s.ls i := by unfold flip1; rw [show ((i : Nat) : Int).toNat = i by omega]
  rw [hfl]
  generalize upd (upd H2 lw (.lst ((mov (boatsW r s) (fromTo c s i r)).map V.int))) l2 (.lst ((flip1 s.ls i).map V.int)) = H4 at S4 hl4 eD4
  refine ⟨_, rfl, D, _, rfl, .inl (SqL.of eD4), fun J wk => lc_map wk Same (fun a b => a.trans b) (fun j y F => ∃ zs, (trip (goneS c s i r))[j]? = some zs ∧ Dp K F y (.tuple (intsD zs))) (fun j y A B s ⟨zs, e, p⟩ => ⟨zs, e, Dp.same s _ p⟩) (by show 3 < sizeLine; decide) (Same.refl _) (fun F D acc sF nF => ?_) (fun j x D acc F H' hj nD sF nF hy B hB => ?_) (fun D2 ys F nD sF nF hyl hR => ?_)⟩
  · have sD : Same _ (upd F D (.lst acc)) := sF.trans (same_new nF)
    exact ⟨fun _ z => sD.seq z, fun z => Same.tup sD z⟩
  · obtain ⟨rfl, hx⟩ := hy
    obtain ⟨z, rfl, hz⟩ := hl4 j x hx
    refine hB _ F rfl nF fun Qt hq => ?_
    have htr : (trip (goneS c s i r))[j]? = some ((trip (goneS c s i r)).getD j []) := by
      have : j < (trip (goneS c s i r)).length := hj
      rw [List.getD_eq_getElem?_getD, List.getElem?_eq_getElem this]; rfl
    exact ⟨_, rfl, z, _, rfl, .inl ⟨SqL.of (sF _ _ hz), fun p np => hq _ _ (same_new np) ⟨_, htr, .tup (.inl (.inl upd_same)) (dp_ints' _)⟩⟩⟩
  · obtain ⟨y0, y1, y2, rfl⟩ : ∃ y0 y1 y2, ys = [y0, y1, y2] := by
      match ys, hyl with
      | [y0, y1, y2], _ => exact ⟨y0, y1, y2, rfl⟩
    obtain ⟨z0, e0, p0⟩ := hR 0 y0 rfl
    obtain ⟨z1, e1, p1⟩ := hR 1 y1 rfl
    obtain ⟨z2, e2, p2⟩ := hR 2 y2 rfl
    cases (show some (goneS c s i r).rs = some z0 from e0)
    cases (show some (goneS c s i r).bs = some z1 from e1)
    cases (show some (goneS c s i r).ls = some z2 from e2)
    have sa : Same F (upd F D2 (.lst [y0, y1, y2])) := same_new nF
    refine ⟨D2, _, rfl, .inl ⟨SqL.of upd_same, fun t nt => ?_⟩⟩
    have sb : Same _ (upd (upd F D2 (.lst [y0, y1, y2])) t (.tup [y0, y1, y2])) := same_new nt
    have sab := sa.trans sb
    exact q _ _ (s1.trans (S4.trans (sF.trans sab))) (.tup (.inl (.inl upd_same)) (.cons (Dp.same sab _ p0) (.cons (Dp.same sab _ p1) (.cons (Dp.same sab _ p2) .nil))))
end
end XL
namespace XL
open PySem PySem.Spec PyProof.Rows L2
/-! ### rows of goings -/
def goM (c : Cn) (s : Sn) (m : Mv) : Sn := goneS c s m.1 m.2
def runS (c : Cn) (s : Sn) (ms : List Mv) : Sn := ms.foldl (goM c) s
def okRun (c : Cn) : Sn → List Mv → Prop
  | _, [] => True
  | s, m :: ms => (m.1 < c.ls.length ∧ hasB c s m.1 m.2 = true) ∧ okRun c (goM c s m) ms
theorem runS_snoc (c : Cn) (s : Sn) (ms : List Mv) (m : Mv) : runS c s (ms ++ [m]) = goM c (runS c s ms) m := by unfold runS; rw [List.foldl_append]; rfl
theorem okRun_snoc {c : Cn} {m : Mv} : ∀ {s : Sn} {ms : List Mv}, okRun c s ms → m.1 < c.ls.length → hasB c (runS c s ms) m.1 m.2 = true → okRun c s (ms ++ [m])
  | s, [], _, h1, h2 => ⟨⟨h1, h2⟩, trivial⟩
  | s, m' :: ms, h, h1, h2 => ⟨h.1, okRun_snoc (s := goM c s m') (ms := ms) h.2 h1 h2⟩
theorem runS_ok {c : Cn} {W U : Nat} (okc : okCn W U c) : ∀ {ms : List Mv} {s : Sn} {B : Int}, okSn c B s → okRun c s ms → okSn c (B + ms.length) (runS c s ms)
  | [], s, B, h, _ => by
    show okSn c (B + ((0 : Nat) : Int)) s
    rw [show B + ((0 : Nat) : Int) = B by omega]; exact h
  | m :: ms, s, B, h, r => by
    have h2 := runS_ok okc (ms := ms) (goneS_ok okc h r.1.1 m.2 r.1.2) r.2
    rw [List.length_cons, show B + ((ms.length + 1 : Nat) : Int) = B + 1 + (ms.length : Int) by omega]
    exact h2
def bump (zs : List Int) (i : Nat) (x : Int) : List Int := zs.set i (gt zs i + x)
theorem bump_len (zs : List Int) (i : Nat) (x : Int) : (bump zs i x).length = zs.length := by unfold bump; rw [List.length_set]
abbrev Nt := List Int × List Int
/-- one going in the book -/
def note (s : Sn) (p : Nt) (m : Mv) : Nt := if m.2 = true then (bump p.1 m.1 (1 - 2 * gt s.ls m.1), p.2) else (p.1, bump p.2 m.1 (1 - 2 * gt s.ls m.1))
def book (c : Cn) (s : Sn) (p : Nt) (ms : List Mv) : Sn × Nt := ms.foldl (fun q m => (goM c q.1 m, note q.1 q.2 m)) (s, p)
theorem book_snoc (c : Cn) (s : Sn) (p : Nt) (ms : List Mv) (m : Mv) : book c s p (ms ++ [m]) = (goM c (book c s p ms).1 m, note (book c s p ms).1 (book c s p ms).2 m) := by unfold book; rw [List.foldl_append]; rfl
theorem book_run (c : Cn) : ∀ (ms : List Mv) (s : Sn) (p : Nt), (book c s p ms).1 = runS c s ms
  | [], _, _ => rfl
  | m :: ms, s, p => by
    show (book c (goM c s m) (note s p m) ms).1 = runS c (goM c s m) ms
    exact book_run c ms _ _
def zer (n : Nat) : List Int := List.replicate n 0
theorem rep_zero : ∀ n : Nat, (List.replicate n [V.int 0]).flatten = (zer n).map V.int
  | 0 => rfl
  | n + 1 => by
    rw [List.replicate_succ, List.flatten_cons, rep_zero n]
    show V.int 0 :: (zer n).map V.int = (zer (n + 1)).map V.int
    unfold zer
    rw [List.replicate_succ]; rfl
theorem note_len (s : Sn) (p : Nt) (m : Mv) : (note s p m).1.length = p.1.length ∧ (note s p m).2.length = p.2.length := by
  unfold note
  split
  · exact ⟨bump_len _ _ _, rfl⟩
  · exact ⟨rfl, bump_len _ _ _⟩
theorem book_len (c : Cn) : ∀ (ms : List Mv) (s : Sn) (p : Nt), (book c s p ms).2.1.length = p.1.length ∧ (book c s p ms).2.2.length = p.2.length
  | [], _, _ => ⟨rfl, rfl⟩
  | m :: ms, s, p => by
    have h := book_len c ms (goM c s m) (note s p m)
    have h2 := note_len s p m
    show (book c (goM c s m) (note s p m) ms).2.1.length = _ ∧ (book c (goM c s m) (note s p m) ms).2.2.length = _
    exact ⟨h.1.trans h2.1, h.2.trans h2.2⟩
/-! ### goings as data -/
theorem wS_ok (r : Bool) : PyData.strOk (wS r) = true := by cases r <;> decide +kernel
theorem mv_lay (m : Mv) : (mvD m).canLay0 = true := by simp [mvD, PyData.canLay0, PyData.canLayAll0, wS_ok]
theorem mv_depth (m : Mv) : (mvD m).depth = 1 := by simp [mvD, PyData.depth, PyData.depthAll]
theorem mvs_lay : ∀ ms : List Mv, PyData.canLayAll0 (ms.map mvD) = true
  | [] => by simp [PyData.canLayAll0]
  | m :: ms => by simp [PyData.canLayAll0, mv_lay m, mvs_lay ms]
theorem mvs_depth : ∀ ms : List Mv, PyData.depthAll (ms.map mvD) ≤ 1
  | [] => by simp [PyData.depthAll]
  | m :: ms => by
    have h1 := mvs_depth ms; have h2 := mv_depth m
    simp only [List.map_cons, PyData.depthAll]; omega
theorem mvs_shaped (ms : List Mv) : SeqAt.shaped (.list (ms.map mvD)) = true := by
  have h1 := mvs_depth ms
  have h2 : PyData.depth (.list (ms.map mvD)) ≤ 64 := by simp only [PyData.depth]; omega
  show (PyData.canLay0 (.list (ms.map mvD)) && decide (PyData.depth (.list (ms.map mvD)) ≤ 64)) = true
  rw [Bool.and_eq_true]; exact ⟨by simp only [PyData.canLay0]; exact mvs_lay ms, decide_eq_true h2⟩
theorem mv_shaped (m : Mv) : SeqAt.shaped (mvD m) = true := by
  show (PyData.canLay0 (mvD m) && decide (PyData.depth (mvD m) ≤ 64)) = true
  rw [mv_lay, mv_depth]; rfl
theorem mvs_nil (ms : List Mv) : PyData.eqv (.list (ms.map mvD)) (.list []) = ms.isEmpty := by
  cases ms with
  | nil => simp [PyData.eqv, PyData.eqvAll]
  | cons l ls => simp [PyData.eqv, PyData.eqvAll]
section
variable {P : Program} {w : World} {K : PySem.W.Frag} {mg : Str → Option Value} {base : Heap}
theorem MvAt.move {H H' : Hp} {a : Addr} {ms : List Mv} {us : List V} (h : MvAt H a ms us) (ea : H' a = some (.lst us)) (t : Tp H H') : MvAt H' a ms us := ⟨ea, h.l, fun j u hu => by
  obtain ⟨x, m, e1, e2, e3⟩ := h.d j u hu
  exact ⟨x, m, e1, e2, t.t _ _ e3⟩⟩
end
end XL
namespace XL
open PySem PySem.Spec PyProof.Rows L2
/-! ### going back -/
theorem gt_set_self {zs : List Int} {j x : Int} (h0 : 0 ≤ j) (h1 : j < zs.length) : gt (zs.set j.toNat x) j = x := by
  unfold gt
  rw [List.getD_eq_getElem?_getD, List.getElem?_set_self (by omega)]; rfl
theorem gt_set_ne {zs : List Int} {i j x : Int} (h : i.toNat ≠ j.toNat) : gt (zs.set i.toNat x) j = gt zs j := by
  unfold gt
  rw [List.getD_eq_getElem?_getD, List.getElem?_set_ne h, List.getD_eq_getElem?_getD]
theorem set_gt {zs : List Int} {j : Int} (h0 : 0 ≤ j) (h1 : j < zs.length) : zs.set j.toNat (gt zs j) = zs := by
  have h := gt_get h0 h1
  rw [List.getElem?_eq_some_iff] at h
  obtain ⟨hl, e⟩ := h
  rw [← e]
  exact List.set_getElem_self hl
theorem mov_back {zs : List Int} {p : Int × Int} (h0 : 0 ≤ p.1) (h1 : p.1 < zs.length) (h2 : 0 ≤ p.2) (h3 : p.2 < zs.length) : mov (mov zs p) (p.2, p.1) = zs := by
  have hb : (zs.set p.1.toNat (gt zs p.1 - 1)).length = zs.length := List.length_set ..
  unfold mov
  dsimp only
  rw [gt_set_self h2 (by rw [hb]; exact h3), List.set_set, show gt (zs.set p.1.toNat (gt zs p.1 - 1)) p.2 + 1 - 1 = gt (zs.set p.1.toNat (gt zs p.1 - 1)) p.2 by omega, set_gt h2 (by rw [hb]; exact h3), gt_set_self h0 h1, List.set_set, show gt zs p.1 - 1 + 1 = gt zs p.1 by omega, set_gt h0 h1]
theorem flip_gt {zs : List Int} {i : Nat} (h : i < zs.length) : gt (flip1 zs i) (i : Int) = 1 - gt zs i := by
  have := gt_set_self (zs := zs) (j := (i : Int)) (x := 1 - gt zs i) (by omega) (by omega)
  rw [show ((i : Int)).toNat = i by omega] at this
  exact this
theorem flip_flip {zs : List Int} {i : Nat} (h : i < zs.length) : flip1 (flip1 zs i) i = zs := by
  have e := flip_gt h
  show (flip1 zs i).set i (1 - gt (flip1 zs i) (i : Int)) = zs
  rw [e]
  unfold flip1
  rw [List.set_set, show 1 - (1 - gt zs (i : Int)) = gt zs (i : Int) by omega]
  have := set_gt (zs := zs) (j := (i : Int)) (by omega) (by omega)
  rw [show ((i : Int)).toNat = i by omega] at this
  exact this
theorem goneS_ls (c : Cn) (s : Sn) (i : Nat) (r : Bool) : (goneS c s i r).ls = flip1 s.ls i := by unfold goneS; split <;> rfl
theorem goneS_boats (c : Cn) (s : Sn) (i : Nat) (r : Bool) : boatsW r (goneS c s i r) = mov (boatsW r s) (fromTo c s i r) := by cases r <;> rfl
theorem fromTo_back {c : Cn} {B : Int} {s : Sn} (ok : okSn c B s) {i : Nat} (hi : i < c.ls.length) (r : Bool) : fromTo c (goneS c s i r) i r = ((fromTo c s i r).2, (fromTo c s i r).1) := by
  have hl : i < s.ls.length := by rw [ok.n]; exact hi
  unfold fromTo
  rw [goneS_ls, flip_gt hl]
  rcases ok.l0 _ (gt_mem (zs := s.ls) (j := (i : Int)) (by omega) (by omega)) with e | e
  · rw [e, if_pos rfl, if_neg (by decide)]
  · rw [e, if_neg (by decide : ¬ (1 : Int) = 0), if_pos (by decide)]
theorem go_back {c : Cn} {W U : Nat} {B : Int} {s : Sn} (okc : okCn W U c) (ok : okSn c B s) {i : Nat} (hi : i < c.ls.length) (r : Bool) (h : hasB c s i r = true) : hasB c (goneS c s i r) i r = true ∧ goneS c (goneS c s i r) i r = s := by
  have f := fromTo_ok okc (s := s) hi r
  have hl := boats_len ok r
  have hls : i < s.ls.length := by rw [ok.n]; exact hi
  have eb := fromTo_back ok hi r
  have hp : gt (boatsW r s) (fromTo c s i r).1 > 0 := of_decide_eq_true h
  have h1 : (fromTo c s i r).1 < ((boatsW r s).length : Int) := by rw [hl]; exact f.1.2
  have h3 : (fromTo c s i r).2 < ((boatsW r s).length : Int) := by rw [hl]; exact f.2.2
  have nn : ∀ x ∈ boatsW r s, 0 ≤ x := fun x hx => by
    cases r with
    | true => exact (ok.r0 x hx).1
    | false => exact (ok.b0 x hx).1
  constructor
  · unfold hasB
    rw [goneS_boats, eb]
    refine decide_eq_true ?_
    show gt (mov (boatsW r s) (fromTo c s i r)) (fromTo c s i r).2 > 0
    have e : gt (mov (boatsW r s) (fromTo c s i r)) (fromTo c s i r).2 = gt ((boatsW r s).set (fromTo c s i r).1.toNat (gt (boatsW r s) (fromTo c s i r).1 - 1)) (fromTo c s i r).2 + 1 := gt_set_self f.2.1 (by rw [List.length_set]; exact h3)
    rw [e]
    have hm := gt_mem (zs := (boatsW r s).set (fromTo c s i r).1.toNat (gt (boatsW r s) (fromTo c s i r).1 - 1)) (j := (fromTo c s i r).2) f.2.1 (by rw [List.length_set]; exact h3)
    rcases mem_set_or hm with q | q
    · have := nn _ q; omega
    · omega
  · have em := mov_back (zs := boatsW r s) (p := fromTo c s i r) f.1.1 h1 f.2.1 h3
    have ef := flip_flip hls
    have e1 : goneS c (goneS c s i r) i r = (if r = true then ⟨mov (boatsW r (goneS c s i r)) (fromTo c (goneS c s i r) i r), (goneS c s i r).bs, flip1 (goneS c s i r).ls i⟩ else ⟨(goneS c s i r).rs, mov (boatsW r (goneS c s i r)) (fromTo c (goneS c s i r) i r), flip1 (goneS c s i r).ls i⟩) := by cases r <;> rfl
    rw [e1, goneS_boats, eb, em, goneS_ls, ef]
    cases r <;> rfl
theorem run_back {c : Cn} {W U : Nat} (okc : okCn W U c) : ∀ {ms : List Mv} {s : Sn} {B : Int}, okSn c B s → okRun c s ms → okRun c (runS c s ms) ms.reverse ∧ runS c (runS c s ms) ms.reverse = s
  | [], s, B, _, _ => ⟨trivial, rfl⟩
  | m :: ms, s, B, ok, h => by
    obtain ⟨a, b⟩ := run_back okc (ms := ms) (goneS_ok okc ok h.1.1 m.2 h.1.2) h.2
    obtain ⟨x, y⟩ := go_back okc ok h.1.1 m.2 h.1.2
    have e : runS c s (m :: ms) = runS c (goM c s m) ms := rfl
    rw [e, List.reverse_cons]
    refine ⟨okRun_snoc a h.1.1 ?_, ?_⟩
    · rw [show runS c (runS c (goM c s m) ms) ms.reverse = goM c s m from b]; exact x
    · rw [runS_snoc, show runS c (runS c (goM c s m) ms) ms.reverse = goM c s m from b]; exact y
/-! ### books by sums -/
def dl (s : Sn) (m : Mv) (i : Nat) (r : Bool) : Int := if m = (i, r) then 1 - 2 * gt s.ls i else 0
def tot (c : Cn) (i : Nat) (r : Bool) : Sn → List Mv → Int
  | _, [] => 0
  | s, m :: ms => dl s m i r + tot c i r (goM c s m) ms
theorem tot_snoc (c : Cn) (i : Nat) (r : Bool) (m : Mv) : ∀ (ms : List Mv) (s : Sn), tot c i r s (ms ++ [m]) = tot c i r s ms + dl (runS c s ms) m i r
  | [], s => by show dl s m i r + 0 = 0 + dl s m i r; omega
  | m' :: ms, s => by
    show dl s m' i r + tot c i r (goM c s m') (ms ++ [m]) = dl s m' i r + tot c i r (goM c s m') ms + dl (runS c (goM c s m') ms) m i r
    rw [tot_snoc c i r m ms]; omega
theorem tot_back {c : Cn} {W U : Nat} (okc : okCn W U c) (i : Nat) (r : Bool) : ∀ {ms : List Mv} {s : Sn} {B : Int}, okSn c B s → okRun c s ms → tot c i r (runS c s ms) ms.reverse = 0 - tot c i r s ms
  | [], s, B, _, _ => rfl
  | m :: ms, s, B, ok, h => by
    have ok1 := goneS_ok okc ok h.1.1 m.2 h.1.2
    have ih := tot_back okc i r (ms := ms) (s := goM c s m) ok1 h.2
    have bk := (run_back okc (ms := ms) (s := goM c s m) ok1 h.2).2
    have e : runS c s (m :: ms) = runS c (goM c s m) ms := rfl
    rw [e, List.reverse_cons, tot_snoc, ih, bk]
    show _ = 0 - (dl s m i r + tot c i r (goM c s m) ms)
    have hd : dl (goM c s m) m i r = 0 - dl s m i r := by
      unfold dl
      by_cases em : m = (i, r)
      · rw [if_pos em, if_pos em]
        have e2 : gt (goM c s m).ls (i : Int) = 1 - gt s.ls i := by
          unfold goM
          rw [goneS_ls, em]
          exact flip_gt (by rw [ok.n]; have := h.1.1; rw [em] at this; exact this)
        rw [e2]; omega
      · rw [if_neg em, if_neg em]; rfl
    rw [hd]; omega
theorem bump_gt {zs : List Int} {i j : Nat} {x : Int} (hi : i < zs.length) : gt (bump zs i x) (j : Int) = gt zs j + (if i = j then x else 0) := by
  unfold bump
  by_cases e : i = j
  · subst e
    have := gt_set_self (zs := zs) (j := (i : Int)) (x := gt zs i + x) (by omega) (by omega)
    rw [show ((i : Int)).toNat = i by omega] at this
    rw [if_pos rfl]; exact this
  · have := gt_set_ne (zs := zs) (i := (i : Int)) (j := (j : Int)) (x := gt zs i + x) (by omega)
    rw [show ((i : Int)).toNat = i by omega] at this
    rw [if_neg e, this]; omega
theorem book_tot (c : Cn) (j : Nat) : ∀ (ms : List Mv) (s : Sn) (p : Nt), okRun c s ms → p.1.length = c.ls.length → p.2.length = c.ls.length → gt (book c s p ms).2.1 (j : Int) = gt p.1 j + tot c j true s ms ∧ gt (book c s p ms).2.2 (j : Int) = gt p.2 j + tot c j false s ms
  | [], s, p, _, _, _ => by
    show gt p.1 (j : Int) = gt p.1 j + 0 ∧ gt p.2 (j : Int) = gt p.2 j + 0
    omega
  | m :: ms, s, p, h, h1, h2 => by
    obtain ⟨mi, mr⟩ := m
    have nl := note_len s p (mi, mr)
    obtain ⟨a, b⟩ := book_tot c j ms (goM c s (mi, mr)) (note s p (mi, mr)) h.2 (nl.1.trans h1) (nl.2.trans h2)
    have hm : mi < c.ls.length := h.1.1
    show gt (book c (goM c s (mi, mr)) (note s p (mi, mr)) ms).2.1 (j : Int) = gt p.1 j + (dl s (mi, mr) j true + tot c j true (goM c s (mi, mr)) ms) ∧ gt (book c (goM c s (mi, mr)) (note s p (mi, mr)) ms).2.2 (j : Int) = gt p.2 j + (dl s (mi, mr) j false + tot c j false (goM c s (mi, mr)) ms)
    rw [a, b]
    cases mr with
    | true =>
      have e1 : gt (note s p (mi, true)).1 (j : Int) = gt p.1 j + dl s (mi, true) j true := by
        show gt (bump p.1 mi (1 - 2 * gt s.ls mi)) (j : Int) = _
        rw [bump_gt (by rw [h1]; exact hm)]
        unfold dl
        by_cases e : mi = j
        · subst e; rw [if_pos rfl, if_pos rfl]
        · rw [if_neg e, if_neg (fun z => e (Prod.mk.inj z).1)]
      have e2 : gt (note s p (mi, true)).2 (j : Int) = gt p.2 j + dl s (mi, true) j false := by
        unfold dl
        rw [if_neg (fun z => by cases (Prod.mk.inj z).2)]
        show gt p.2 (j : Int) = gt p.2 j + 0
        omega
      rw [e1, e2]; omega
    | false =>
      have e1 : gt (note s p (mi, false)).1 (j : Int) = gt p.1 j + dl s (mi, false) j true := by
        unfold dl
        rw [if_neg (fun z => by cases (Prod.mk.inj z).2)]
        show gt p.1 (j : Int) = gt p.1 j + 0
        omega
      have e2 : gt (note s p (mi, false)).2 (j : Int) = gt p.2 j + dl s (mi, false) j false := by
        show gt (bump p.2 mi (1 - 2 * gt s.ls mi)) (j : Int) = _
        rw [bump_gt (by rw [h2]; exact hm)]
        unfold dl
        by_cases e : mi = j
        · subst e; rw [if_pos rfl, if_pos rfl]
        · rw [if_neg e, if_neg (fun z => e (Prod.mk.inj z).1)]
      rw [e1, e2]; omega
theorem gt_ext {xs ys : List Int} (hl : xs.length = ys.length) (h : ∀ j : Nat, j < xs.length → gt xs (j : Int) = gt ys (j : Int)) : xs = ys := by
  refine List.ext_getElem? fun j => ?_
  by_cases hj : j < xs.length
  · have a := gt_get (zs := xs) (j := (j : Int)) (by omega) (by omega)
    have b := gt_get (zs := ys) (j := (j : Int)) (by omega) (by omega)
    rw [show ((j : Int)).toNat = j by omega] at a b
    rw [a, b, h j hj]
  · rw [List.getElem?_eq_none (by omega), List.getElem?_eq_none (by omega)]
def bk0 (c : Cn) (s : Sn) (ms : List Mv) : Nt := (book c s (zer c.ls.length, zer c.ls.length) ms).2
theorem zer_len (n : Nat) : (zer n).length = n := by unfold zer; rw [List.length_replicate]
theorem bk0_len (c : Cn) (s : Sn) (ms : List Mv) : (bk0 c s ms).1.length = c.ls.length ∧ (bk0 c s ms).2.length = c.ls.length := by
  have h := book_len c ms s (zer c.ls.length, zer c.ls.length)
  exact ⟨h.1.trans (zer_len _), h.2.trans (zer_len _)⟩
theorem gt_map_neg {zs : List Int} {j : Nat} (h : j < zs.length) : gt (zs.map fun x => 0 - x) (j : Int) = 0 - gt zs j := by
  have a := gt_get (zs := zs) (j := (j : Int)) (by omega) (by omega)
  have b := gt_get (zs := zs.map fun x => 0 - x) (j := (j : Int)) (by omega) (by rw [List.length_map]; omega)
  rw [List.getElem?_map, a] at b
  exact (Option.some.inj b).symm
theorem bk_back {c : Cn} {W U : Nat} (okc : okCn W U c) {ms : List Mv} {s : Sn} {B : Int} (ok : okSn c B s) (h : okRun c s ms) : bk0 c (runS c s ms) ms.reverse = ((bk0 c s ms).1.map fun x => 0 - x, (bk0 c s ms).2.map fun x => 0 - x) := by
  have l1 := bk0_len c s ms
  have l2 := bk0_len c (runS c s ms) ms.reverse
  have hb := (run_back okc ok h).1
  have z0 : ∀ j : Nat, gt (zer c.ls.length) (j : Int) = 0 := fun j => by
    unfold gt zer
    rw [List.getD_eq_getElem?_getD, List.getElem?_replicate]
    split <;> rfl
  have t : ∀ j : Nat, (gt (bk0 c (runS c s ms) ms.reverse).1 (j : Int) = 0 - gt (bk0 c s ms).1 (j : Int)) ∧ (gt (bk0 c (runS c s ms) ms.reverse).2 (j : Int) = 0 - gt (bk0 c s ms).2 (j : Int)) := fun j => by
    have a := book_tot c j ms.reverse (runS c s ms) (zer c.ls.length, zer c.ls.length) hb (zer_len _) (zer_len _)
    have b := book_tot c j ms s (zer c.ls.length, zer c.ls.length) h (zer_len _) (zer_len _)
    have t1 := tot_back okc j true ok h
    have t2 := tot_back okc j false ok h
    have z := z0 j
    have a1 := a.1; have a2 := a.2; have b1 := b.1; have b2 := b.2
    rw [show (zer c.ls.length, zer c.ls.length).1 = zer c.ls.length from rfl, z, t1] at a1
    rw [show (zer c.ls.length, zer c.ls.length).2 = zer c.ls.length from rfl, z, t2] at a2
    rw [show (zer c.ls.length, zer c.ls.length).1 = zer c.ls.length from rfl, z] at b1
    rw [show (zer c.ls.length, zer c.ls.length).2 = zer c.ls.length from rfl, z] at b2
    unfold bk0
    rw [a1, a2, b1, b2]; omega
  refine Prod.ext (gt_ext (by rw [List.length_map, l1.1, l2.1]) fun j hj => ?_) (gt_ext (by rw [List.length_map, l1.2, l2.2]) fun j hj => ?_)
  · rw [gt_map_neg (by rw [l1.1, ← l2.1]; exact hj)]; exact (t j).1
  · rw [gt_map_neg (by rw [l1.2, ← l2.2]; exact hj)]; exact (t j).2
theorem okRun_app {c : Cn} : ∀ {ms ns : List Mv} {s : Sn}, okRun c s (ms ++ ns) ↔ okRun c s ms ∧ okRun c (runS c s ms) ns
  | [], ns, s => ⟨fun h => ⟨trivial, h⟩, fun h => h.2⟩
  | m :: ms, ns, s => by
    show (_ ∧ okRun c (goM c s m) (ms ++ ns)) ↔ (_ ∧ okRun c (goM c s m) ms) ∧ okRun c (runS c (goM c s m) ms) ns
    rw [okRun_app (ms := ms)]
    exact ⟨fun ⟨a, b, d⟩ => ⟨⟨a, b⟩, d⟩, fun ⟨⟨a, b⟩, d⟩ => ⟨a, b, d⟩⟩
theorem runS_app (c : Cn) (s : Sn) (ms ns : List Mv) : runS c s (ms ++ ns) = runS c (runS c s ms) ns := by unfold runS; rw [List.foldl_append]
theorem okRun_lt {c : Cn} : ∀ {ms : List Mv} {s : Sn}, okRun c s ms → ∀ m ∈ ms, m.1 < c.ls.length
  | [], _, _, m, h => by simp at h
  | m' :: ms, s, hr, m, h => by
    rcases List.mem_cons.mp h with e | e
    · rw [e]; exact hr.1.1
    · exact okRun_lt hr.2 m e
theorem take_snoc {α : Type} {xs : List α} {j : Nat} {x : α} (h : xs[j]? = some x) : xs.take (j + 1) = xs.take j ++ [x] := by rw [List.take_succ, h]; rfl
end XL
namespace XL
open PySem PySem.Spec PyProof.Rows L2
/-! ### roads as mathematics -/
abbrev Rf := Int → Option (List Nat)
def inB (r : Bool) (c : Cn) (j : Int) : Prop := 0 ≤ j ∧ j < basW r c
structure Rd (c : Cn) (s : Sn) (r : Bool) (f : Rf) : Prop where
  rng : ∀ j ks, f j = some ks → inB r c j ∧ (ks.length : Int) < basW r c
  z : ∀ j, f j = some [] ↔ inB r c j ∧ gt (boatsW r s) j > 0
  st : ∀ j ks i, f j = some (ks ++ [i]) → i < c.ls.length ∧ (fromTo c s i r).2 = j ∧ f (fromTo c s i r).1 = some ks
  cl : ∀ i ks, i < c.ls.length → f (fromTo c s i r).1 = some ks → ∃ ks', f (fromTo c s i r).2 = some ks' ∧ ks'.length ≤ ks.length + 1
def Clo (c : Cn) (s : Sn) (r : Bool) (S : Int → Prop) : Prop := (∀ j, inB r c j → gt (boatsW r s) j > 0 → S j) ∧ ∀ i, i < c.ls.length → S (fromTo c s i r).1 → S (fromTo c s i r).2
theorem snoc_of {α : Type} {xs : List α} {n : Nat} (h : xs.length = n + 1) : ∃ ys y, xs = ys ++ [y] ∧ ys.length = n := by
  have hne : xs ≠ [] := fun z => by rw [z] at h; simp at h
  refine ⟨xs.dropLast, xs.getLast hne, (List.dropLast_concat_getLast hne).symm, by rw [List.length_dropLast]; omega⟩
theorem Rd.min {c : Cn} {s : Sn} {r : Bool} {f : Rf} {S : Int → Prop} (h : Rd c s r f) (C : Clo c s r S) : ∀ (n : Nat) (j : Int) (ks : List Nat), ks.length = n → f j = some ks → S j
  | 0, j, ks, hl, e => by
    rw [List.length_eq_zero_iff.mp hl] at e
    obtain ⟨h1, h2⟩ := (h.z j).mp e
    exact C.1 j h1 h2
  | n + 1, j, ks, hl, e => by
    obtain ⟨ys, i, rfl, hy⟩ := snoc_of hl
    obtain ⟨hi, hj, hs⟩ := h.st j ys i e
    have := C.2 i hi (Rd.min h C n _ ys hy hs)
    rw [hj] at this
    exact this
theorem Rd.clo {c : Cn} {s : Sn} {r : Bool} {f : Rf} (h : Rd c s r f) : Clo c s r (fun j => f j ≠ none) := by
  refine ⟨fun j h1 h2 e => ?_, fun i hi hs e => ?_⟩
  · rw [(h.z j).mpr ⟨h1, h2⟩] at e; cases e
  · cases hf : f (fromTo c s i r).1 with
    | none => exact hs hf
    | some ks =>
      obtain ⟨ks', e', _⟩ := h.cl i ks hi hf
      rw [e'] at e; cases e
/-! ### one going -/
theorem gt_mov {zs : List Int} {p : Int × Int} (h0 : 0 ≤ p.1) (h1 : p.1 < zs.length) (h2 : 0 ≤ p.2) (h3 : p.2 < zs.length) {j : Int} (hj : 0 ≤ j) : gt (mov zs p) j = gt zs j - (if j = p.1 then 1 else 0) + (if j = p.2 then 1 else 0) := by
  unfold mov
  have a : gt (zs.set p.1.toNat (gt zs p.1 - 1)) j = gt zs j - (if j = p.1 then 1 else 0) := by
    by_cases q : j = p.1
    · rw [if_pos q, q, gt_set_self h0 h1]
    · rw [if_neg q, gt_set_ne (by omega)]; omega
  by_cases q : j = p.2
  · rw [if_pos q]
    show gt ((zs.set p.1.toNat (gt zs p.1 - 1)).set p.2.toNat _) j = _
    have b : gt ((zs.set p.1.toNat (gt zs p.1 - 1)).set p.2.toNat (gt (zs.set p.1.toNat (gt zs p.1 - 1)) p.2 + 1)) p.2 = gt (zs.set p.1.toNat (gt zs p.1 - 1)) p.2 + 1 := gt_set_self h2 (by rw [List.length_set]; exact h3)
    rw [← a, q]; exact b
  · rw [if_neg q]
    show gt ((zs.set p.1.toNat (gt zs p.1 - 1)).set p.2.toNat _) j = _
    rw [gt_set_ne (by omega), a]; omega
theorem fromTo_ls {c : Cn} {s s' : Sn} {i : Nat} {r : Bool} (h : gt s'.ls (i : Int) = gt s.ls (i : Int)) : fromTo c s' i r = fromTo c s i r := by unfold fromTo; rw [h]
theorem gone_ls_ne {c : Cn} {s : Sn} {i j : Nat} {r : Bool} (h : i ≠ j) : gt (goneS c s i r).ls (j : Int) = gt s.ls (j : Int) := by
  rw [goneS_ls]
  have := gt_set_ne (zs := s.ls) (i := (i : Int)) (j := (j : Int)) (x := 1 - gt s.ls i) (by omega)
  rw [show ((i : Int)).toNat = i by omega] at this
  exact this
theorem fromTo_ends (c : Cn) (s : Sn) (i : Nat) (r : Bool) : fromTo c s i r = endW r (lkAt c i) ∨ fromTo c s i r = ((endW r (lkAt c i)).2, (endW r (lkAt c i)).1) := by
  unfold fromTo
  split
  · exact .inl rfl
  · exact .inr rfl
theorem boats_other {c : Cn} {s : Sn} {i : Nat} {r : Bool} : boatsW (!r) (goneS c s i r) = boatsW (!r) s := by
  cases r <;> rfl
section
variable {c : Cn} {W U : Nat} {r : Bool}
theorem gt_gone (okc : okCn W U c) {s : Sn} {B : Int} (ok : okSn c B s) {i : Nat} (hi : i < c.ls.length) {j : Int} (hj : 0 ≤ j) : gt (boatsW r (goneS c s i r)) j = gt (boatsW r s) j - (if j = (fromTo c s i r).1 then 1 else 0) + (if j = (fromTo c s i r).2 then 1 else 0) := by
  have hf := fromTo_ok okc (s := s) hi r
  have hl := boats_len ok r
  rw [goneS_boats]
  exact gt_mov hf.1.1 (by rw [hl]; exact hf.1.2) hf.2.1 (by rw [hl]; exact hf.2.2) hj
theorem Clo.ends {s : Sn} {S : Int → Prop} (okc : okCn W U c) (C : Clo c s r S) {i : Nat} (hi : i < c.ls.length) (hb : hasB c s i r = true) : S (fromTo c s i r).1 ∧ S (fromTo c s i r).2 := by
  have hf := fromTo_ok okc (s := s) hi r
  have a := C.1 _ hf.1 (of_decide_eq_true hb)
  exact ⟨a, C.2 i hi a⟩
theorem Clo.go (okc : okCn W U c) {s : Sn} {B : Int} (ok : okSn c B s) {S : Int → Prop} (C : Clo c s r S) {i : Nat} (hi : i < c.ls.length) (hb : hasB c s i r = true) : Clo c (goneS c s i r) r S := by
  obtain ⟨e1, e2⟩ := C.ends okc hi hb
  refine ⟨fun j hj hp => ?_, fun i' hi' hs => ?_⟩
  · rw [gt_gone okc ok hi hj.1] at hp
    by_cases q : j = (fromTo c s i r).2
    · rw [q]; exact e2
    · rw [if_neg q] at hp
      refine C.1 j hj ?_
      split at hp <;> omega
  · by_cases q : i = i'
    · subst q
      rw [fromTo_back ok hi r]
      exact e1
    · rw [fromTo_ls (gone_ls_ne q)] at hs ⊢
      exact C.2 i' hi' hs
theorem clo_run (okc : okCn W U c) {S : Int → Prop} : ∀ (ms : List Mv) (s : Sn) (B : Int), okSn c B s → okRun c s ms → (∀ m ∈ ms, m.2 = r) → Clo c s r S → Clo c (runS c s ms) r S ∧ ∀ m ∈ ms, S (endW r (lkAt c m.1)).1 ∧ S (endW r (lkAt c m.1)).2
  | [], s, B, _, _, _, C => ⟨C, fun m h => by cases h⟩
  | m :: ms, s, B, ok, h, hw, C => by
    obtain ⟨i, x⟩ := m
    obtain rfl : r = x := (hw _ (List.mem_cons_self ..)).symm
    have hb : hasB c s i r = true := h.1.2
    obtain ⟨a, b⟩ := clo_run okc ms _ _ (goneS_ok okc ok h.1.1 r hb) h.2 (fun m hm => hw m (List.mem_cons_of_mem _ hm)) (C.go okc ok h.1.1 hb)
    refine ⟨a, fun m hm => ?_⟩
    rcases List.mem_cons.mp hm with rfl | hm
    · have e := C.ends okc h.1.1 hb
      rcases fromTo_ends c s i r with q | q <;> rw [q] at e
      · exact e
      · exact ⟨e.2, e.1⟩
    · exact b m hm
theorem run_all {ms : List Mv} (h : ∀ m ∈ ms, m.2 = r) : ∀ m ∈ ms.reverse, m.2 = r := fun m hm => h m (List.mem_reverse.mp hm)
theorem dom_le {s s' : Sn} {f f' : Rf} (okc : okCn W U c) {B : Int} (ok : okSn c B s) {ms : List Mv} (h : okRun c s ms) (hw : ∀ m ∈ ms, m.2 = r) (R : Rd c s r f) (R' : Rd c (runS c s ms) r f') {j : Int} (e : f j = none) : f' j = none := by
  have C := (clo_run okc ms s B ok h hw R.clo).1
  cases q : f' j with
  | none => rfl
  | some ks => exact absurd e (R'.min C ks.length j ks rfl q)
theorem dom_eq {s : Sn} {f f' : Rf} (okc : okCn W U c) {B : Int} (ok : okSn c B s) {ms : List Mv} (h : okRun c s ms) (hw : ∀ m ∈ ms, m.2 = r) (R : Rd c s r f) (R' : Rd c (runS c s ms) r f') (j : Int) : f j = none ↔ f' j = none := by
  refine ⟨dom_le (s' := s) okc ok h hw R R', fun e => ?_⟩
  obtain ⟨hb, eb⟩ := run_back okc ok h
  have ok' := runS_ok okc ok h
  have R2 : Rd c (runS c (runS c s ms) ms.reverse) r f := by rw [eb]; exact R
  exact dom_le (s' := s) okc ok' hb (run_all hw) R' R2 e
/-! ### a road is gone -/
abbrev rowOf (r : Bool) (ks : List Nat) : List Mv := ks.map fun i => (i, r)
theorem Rd.mem {s : Sn} {f : Rf} (h : Rd c s r f) : ∀ (n : Nat) (j : Int) (ks : List Nat), ks.length = n → f j = some ks → ∀ i ∈ ks, ∃ ks', f (fromTo c s i r).1 = some ks' ∧ ks'.length < n
  | 0, j, ks, hl, e, i, hi => by rw [List.length_eq_zero_iff.mp hl] at hi; cases hi
  | n + 1, j, ks, hl, e, i, hi => by
    obtain ⟨ys, y, rfl, hy⟩ := snoc_of hl
    obtain ⟨h1, h2, h3⟩ := h.st j ys y e
    rcases List.mem_append.mp hi with q | q
    · obtain ⟨ks', a, b⟩ := Rd.mem h n _ ys hy h3 i q
      exact ⟨ks', a, by omega⟩
    · rw [List.mem_singleton.mp q]
      exact ⟨ys, h3, by omega⟩
theorem Rd.gone (okc : okCn W U c) {s : Sn} {f : Rf} {B : Int} (ok : okSn c B s) (h : Rd c s r f) : ∀ (n : Nat) (j : Int) (ks : List Nat), ks.length = n → f j = some ks → okRun c s (rowOf r ks) ∧ gt (boatsW r (runS c s (rowOf r ks))) j > 0 ∧ (∀ i, i ∉ ks → gt (runS c s (rowOf r ks)).ls (i : Int) = gt s.ls (i : Int)) ∧ ∀ j' ks', f j' = some ks' → n < ks'.length → gt (boatsW r (runS c s (rowOf r ks))) j' = gt (boatsW r s) j'
  | 0, j, ks, hl, e => by
    rw [List.length_eq_zero_iff.mp hl] at e ⊢
    exact ⟨trivial, ((h.z j).mp e).2, fun _ _ => rfl, fun _ _ _ _ => rfl⟩
  | n + 1, j, ks, hl, e => by
    obtain ⟨ys, i, rfl, hy⟩ := snoc_of hl
    obtain ⟨hi, hj, hs⟩ := h.st j ys i e
    obtain ⟨r1, r2, r3, r4⟩ := Rd.gone okc ok h n _ ys hy hs
    have ok' := runS_ok okc ok r1
    have ni : i ∉ ys := fun q => by
      obtain ⟨ks', a, b⟩ := h.mem n _ ys hy hs i q
      rw [hs] at a
      have := congrArg List.length (Option.some.inj a)
      omega
    have eft : fromTo c (runS c s (rowOf r ys)) i r = fromTo c s i r := fromTo_ls (r3 i ni)
    have hb : hasB c (runS c s (rowOf r ys)) i r = true := by
      unfold hasB
      rw [eft]
      exact decide_eq_true r2
    have erow : rowOf r (ys ++ [i]) = rowOf r ys ++ [(i, r)] := by unfold rowOf; rw [List.map_append]; rfl
    rw [erow, runS_snoc]
    have hbas := boats_len ok' r
    have nej : (fromTo c s i r).1 ≠ j := fun q => by
      rw [q, e] at hs
      have := congrArg List.length (Option.some.inj hs)
      rw [List.length_append] at this
      simp at this
    obtain ⟨hj0, _⟩ := h.rng j _ e
    have nn : 0 ≤ gt (boatsW r (runS c s (rowOf r ys))) j := by
      have hm := gt_mem (zs := boatsW r (runS c s (rowOf r ys))) (j := j) hj0.1 (by rw [hbas]; exact hj0.2)
      cases r with
      | true => exact (ok'.r0 _ hm).1
      | false => exact (ok'.b0 _ hm).1
    refine ⟨okRun_snoc r1 hi hb, ?_, fun i' hi' => ?_, fun j' ks' e' hl' => ?_⟩
    · show gt (boatsW r (goneS c (runS c s (rowOf r ys)) i r)) j > 0
      rw [gt_gone okc ok' hi hj0.1, eft, if_neg (fun q => nej q.symm), if_pos hj.symm]
      omega
    · show gt (goneS c (runS c s (rowOf r ys)) i r).ls (i' : Int) = _
      rw [gone_ls_ne (fun q => hi' (by rw [q]; exact List.mem_append_right _ (List.mem_singleton.mpr rfl)))]
      exact r3 i' fun q => hi' (List.mem_append_left _ q)
    · obtain ⟨hj', _⟩ := h.rng j' _ e'
      show gt (boatsW r (goneS c (runS c s (rowOf r ys)) i r)) j' = _
      rw [gt_gone okc ok' hi hj'.1, eft, if_neg (fun q => ?_), if_neg (fun q => ?_), r4 j' ks' e' (by omega)]
      · omega
      · rw [q, hj, e] at e'
        have := congrArg List.length (Option.some.inj e')
        omega
      · rw [q, hs] at e'
        have := congrArg List.length (Option.some.inj e')
        omega
theorem Rd.prefix {s : Sn} {f : Rf} (h : Rd c s r f) : ∀ (n : Nat) (j : Int) (ks : List Nat), ks.length = n → f j = some ks → ∀ t, t ≤ n → ∃ j', f j' = some (ks.take t)
  | 0, j, ks, hl, e, t, ht => ⟨j, by rw [e, List.length_eq_zero_iff.mp hl, List.take_nil]⟩
  | n + 1, j, ks, hl, e, t, ht => by
    by_cases q : t = n + 1
    · exact ⟨j, by rw [e, q, ← hl, List.take_length]⟩
    · obtain ⟨ys, i, rfl, hy⟩ := snoc_of hl
      obtain ⟨_, _, hs⟩ := h.st j ys i e
      obtain ⟨j', e'⟩ := Rd.prefix h n _ ys hy hs t (by omega)
      exact ⟨j', by rw [List.take_append_of_le_length (by omega)]; exact e'⟩
/-- on the way nothing lies yet in the basin that is woken -/
theorem Rd.way (okc : okCn W U c) {s : Sn} {f : Rf} {B : Int} (ok : okSn c B s) (h : Rd c s r f) {j : Int} {ks : List Nat} (e : f j = some ks) {t : Nat} (ht : t < ks.length) : okRun c s (rowOf r (ks.take t)) ∧ gt (boatsW r (runS c s (rowOf r (ks.take t)))) j = 0 := by
  obtain ⟨j', e'⟩ := h.prefix ks.length j ks rfl e t (by omega)
  have hl : (ks.take t).length = t := by rw [List.length_take]; omega
  obtain ⟨a, _, _, b⟩ := h.gone okc ok t j' _ hl e'
  refine ⟨a, ?_⟩
  rw [b j ks e ht]
  obtain ⟨hj, _⟩ := h.rng j _ e
  have hm := gt_mem (zs := boatsW r s) (j := j) hj.1 (by rw [boats_len ok r]; exact hj.2)
  have nn : 0 ≤ gt (boatsW r s) j := by
    cases r with
    | true => exact (ok.r0 _ hm).1
    | false => exact (ok.b0 _ hm).1
  have nz : ¬ gt (boatsW r s) j > 0 := fun q => by
    have := (h.z j).mpr ⟨hj, q⟩
    rw [e] at this
    have h0 := congrArg List.length (Option.some.inj this)
    rw [List.length_nil] at h0
    omega
  omega
/-! ### more boats wake sooner -/
theorem far_mono {s s' : Sn} {f f' : Rf} (R : Rd c s r f) (R' : Rd c s' r f') (hls : s'.ls = s.ls) (hb : ∀ j, inB r c j → gt (boatsW r s) j > 0 → gt (boatsW r s') j > 0) : ∀ (n : Nat) (j : Int) (ks : List Nat), ks.length = n → f j = some ks → ∃ ks', f' j = some ks' ∧ ks'.length ≤ n
  | 0, j, ks, hl, e => by
    rw [List.length_eq_zero_iff.mp hl] at e
    obtain ⟨h1, h2⟩ := (R.z j).mp e
    exact ⟨[], (R'.z j).mpr ⟨h1, hb j h1 h2⟩, Nat.le_refl _⟩
  | n + 1, j, ks, hl, e => by
    obtain ⟨ys, i, rfl, hy⟩ := snoc_of hl
    obtain ⟨hi, hj, hs⟩ := R.st j ys i e
    obtain ⟨ks', a, b⟩ := far_mono R R' hls hb n _ ys hy hs
    have eft : fromTo c s' i r = fromTo c s i r := fromTo_ls (by rw [hls])
    rw [← eft] at a
    obtain ⟨k2, a2, b2⟩ := R'.cl i ks' hi a
    rw [eft, hj] at a2
    exact ⟨k2, a2, by omega⟩
end
end XL
namespace XL
open PySem PySem.Spec PyProof.Rows L2
/-! ### the roads' rounds -/
theorem filter_less {α : Type} {p q : α → Bool} : ∀ {l : List α}, (∀ x ∈ l, q x = true → p x = true) → (l.filter q).length ≤ (l.filter p).length
  | [], _ => by simp
  | x :: l, h => by
    have ih := filter_less (l := l) fun y hy => h y (List.mem_cons_of_mem _ hy)
    have hx := h x (List.mem_cons_self ..)
    cases hq : q x with
    | true => rw [List.filter_cons_of_pos hq, List.filter_cons_of_pos (hx hq), List.length_cons, List.length_cons]; omega
    | false =>
      rw [List.filter_cons_of_neg (by rw [hq]; decide)]
      cases hp : p x with
      | true => rw [List.filter_cons_of_pos hp, List.length_cons]; omega
      | false => rw [List.filter_cons_of_neg (by rw [hp]; decide)]; exact ih
theorem filter_lt {α : Type} {p q : α → Bool} {x0 : α} (hp : p x0 = true) (hq : q x0 = false) : ∀ {l : List α}, (∀ x ∈ l, q x = true → p x = true) → x0 ∈ l → (l.filter q).length + 1 ≤ (l.filter p).length
  | x :: l, h, hm => by
    have hx := h x (List.mem_cons_self ..)
    have h' : ∀ y ∈ l, q y = true → p y = true := fun y hy => h y (List.mem_cons_of_mem _ hy)
    rcases List.mem_cons.mp hm with rfl | hm
    · have := filter_less h'
      rw [List.filter_cons_of_neg (by rw [hq]; decide), List.filter_cons_of_pos hp, List.length_cons]; omega
    · have ih := filter_lt hp hq h' hm
      cases hqx : q x with
      | true => rw [List.filter_cons_of_pos hqx, List.filter_cons_of_pos (hx hqx), List.length_cons, List.length_cons]; omega
      | false =>
        rw [List.filter_cons_of_neg (by rw [hqx]; decide)]
        cases hpx : p x with
        | true => rw [List.filter_cons_of_pos hpx, List.length_cons]; omega
        | false => rw [List.filter_cons_of_neg (by rw [hpx]; decide)]; exact ih
def cnt (c : Cn) (r : Bool) (f : Rf) : Nat := ((List.range (basW r c).toNat).filter fun j : Nat => (f (j : Int)).isNone).length
structure RI (c : Cn) (s : Sn) (r : Bool) (d : Nat) (f : Rf) : Prop where
  rng : ∀ j ks, f j = some ks → inB r c j ∧ ks.length ≤ d
  z : ∀ j, f j = some [] ↔ inB r c j ∧ gt (boatsW r s) j > 0
  st : ∀ j ks i, f j = some (ks ++ [i]) → i < c.ls.length ∧ (fromTo c s i r).2 = j ∧ f (fromTo c s i r).1 = some ks
  cl : ∀ i ks, i < c.ls.length → f (fromTo c s i r).1 = some ks → ks.length < d → ∃ ks', f (fromTo c s i r).2 = some ks' ∧ ks'.length ≤ ks.length + 1
  ct : ∀ j ks, f j = some ks → (d : Int) + 1 + (cnt c r f : Int) ≤ basW r c
structure GI (c : Cn) (s : Sn) (r : Bool) (f : Rf) (n : Nat) (g : Rf) : Prop where
  new : ∀ j ks, g j = some ks → f j = none ∧ ∃ row i, ks = row ++ [i] ∧ i < c.ls.length ∧ (fromTo c s i r).2 = j ∧ f (fromTo c s i r).1 = some row
  cov : ∀ i row, i < n → f (fromTo c s i r).1 = some row → f (fromTo c s i r).2 = none → g (fromTo c s i r).2 ≠ none
def both (g f : Rf) : Rf := fun j => match g j with
  | some ks => some ks
  | none => f j
theorem both_none {g f : Rf} {j : Int} (h : g j = none) : both g f j = f j := by unfold both; rw [h]
theorem both_some {g f : Rf} {j : Int} {ks : List Nat} (h : g j = some ks) : both g f j = some ks := by unfold both; rw [h]
def f0 (c : Cn) (s : Sn) (r : Bool) : Rf := fun j => if 0 ≤ j ∧ j < basW r c ∧ gt (boatsW r s) j > 0 then some [] else none
theorem app_ne {ks : List Nat} {i : Nat} (h : ([] : List Nat) = ks ++ [i]) : False := by have := congrArg List.length h; simp at this
section
variable {c : Cn} {s : Sn} {r : Bool} {f g : Rf} {d : Nat}
theorem ri0 : RI c s r 0 (f0 c s r) := by
  have key : ∀ j ks, f0 c s r j = some ks → ks = [] ∧ inB r c j ∧ gt (boatsW r s) j > 0 := fun j ks h => by
    unfold f0 at h
    by_cases q : 0 ≤ j ∧ j < basW r c ∧ gt (boatsW r s) j > 0
    · rw [if_pos q] at h; exact ⟨(Option.some.inj h).symm, ⟨q.1, q.2.1⟩, q.2.2⟩
    · rw [if_neg q] at h; cases h
  refine ⟨fun j ks h => ?_, fun j => ⟨fun h => (key j [] h).2, fun h => by unfold f0; rw [if_pos ⟨h.1.1, h.1.2, h.2⟩]⟩, fun j ks i h => ?_, fun i ks hi h hl => absurd hl (Nat.not_lt_zero _), fun j ks h => ?_⟩
  · obtain ⟨rfl, b, _⟩ := key j ks h
    exact ⟨b, Nat.le_refl _⟩
  · exact (app_ne (key j _ h).1.symm).elim
  · obtain ⟨rfl, b, hp⟩ := key j ks h
    have hj : j.toNat ∈ List.range (basW r c).toNat := List.mem_range.mpr (by have := b.1; have := b.2; omega)
    have e : ((j.toNat : Nat) : Int) = j := by have := b.1; omega
    have := filter_lt (p := fun _ : Nat => true) (q := fun j : Nat => (f0 c s r (j : Int)).isNone) (x0 := j.toNat) rfl (by show (f0 c s r ((j.toNat : Nat) : Int)).isNone = false; rw [e, h]; rfl) (l := List.range (basW r c).toNat) (fun _ _ _ => rfl) hj
    rw [List.filter_eq_self.mpr (fun _ _ => rfl), List.length_range] at this
    have h2 := b.1; have h3 := b.2
    show ((0 : Nat) : Int) + 1 + ((cnt c r (f0 c s r) : Nat) : Int) ≤ _
    unfold cnt
    omega
theorem GI.none_of (G : GI c s r f n g) {j : Int} {ks : List Nat} (h : f j = some ks) : g j = none := by
  cases q : g j with
  | none => rfl
  | some ks' => rw [(G.new j ks' q).1] at h; cases h
theorem RI.step {W U : Nat} (okc : okCn W U c) (R : RI c s r d f) (G : GI c s r f c.ls.length g) {j0 : Int} {k0 : List Nat} (h0 : g j0 = some k0) : RI c s r (d + 1) (both g f) ∧ cnt c r (both g f) + 1 ≤ cnt c r f := by
  have old : ∀ {j ks}, f j = some ks → both g f j = some ks := fun {j ks} h => by rw [both_none (G.none_of h)]; exact h
  have ib : ∀ {j ks}, g j = some ks → inB r c j := fun {j ks} h => by
    obtain ⟨_, row, i, _, hi, hj, _⟩ := G.new j ks h
    have := (fromTo_ok okc (s := s) hi r).2
    rw [hj] at this
    exact this
  have hc : cnt c r (both g f) + 1 ≤ cnt c r f := by
    have b := ib h0
    have e : ((j0.toNat : Nat) : Int) = j0 := by have := b.1; omega
    unfold cnt
    refine filter_lt (x0 := j0.toNat) ?_ ?_ (fun x _ hx => ?_) (List.mem_range.mpr (by have := b.1; have := b.2; omega))
    · show (f ((j0.toNat : Nat) : Int)).isNone = true
      rw [e, (G.new j0 k0 h0).1]; rfl
    · show (both g f ((j0.toNat : Nat) : Int)).isNone = false
      rw [e, both_some h0]; rfl
    · cases q : f (x : Int) with
      | none => rfl
      | some ks => rw [old q] at hx; cases hx
  refine ⟨⟨fun j ks h => ?_, fun j => ⟨fun h => ?_, fun h => old ((R.z j).mpr h)⟩, fun j ks i h => ?_, fun i ks hi h hl => ?_, fun j ks h => ?_⟩, hc⟩
  · cases q : g j with
    | none =>
      rw [both_none q] at h
      have := R.rng j ks h
      exact ⟨this.1, by omega⟩
    | some ks' =>
      rw [both_some q] at h
      obtain rfl := Option.some.inj h
      obtain ⟨_, row, i, rfl, hi, hj, hf⟩ := G.new j ks' q
      have := (R.rng _ _ hf).2
      exact ⟨ib q, by rw [List.length_append]; simp only [List.length_cons, List.length_nil]; omega⟩
  · cases q : g j with
    | none => rw [both_none q] at h; exact (R.z j).mp h
    | some ks' =>
      rw [both_some q] at h
      obtain ⟨_, row, i, e, _⟩ := G.new j ks' q
      rw [Option.some.inj h] at e
      exact (app_ne e).elim
  · cases q : g j with
    | none =>
      rw [both_none q] at h
      obtain ⟨a, b, e⟩ := R.st j ks i h
      exact ⟨a, b, old e⟩
    | some ks' =>
      rw [both_some q] at h
      obtain ⟨_, row, i', e, hi, hj, hf⟩ := G.new j ks' q
      rw [Option.some.inj h] at e
      obtain ⟨e1, e2⟩ := List.append_inj' e rfl
      obtain rfl : i = i' := by simpa using e2
      subst e1
      exact ⟨hi, hj, old hf⟩
  · cases q : g (fromTo c s i r).1 with
    | some ks' =>
      rw [both_some q] at h
      obtain rfl := Option.some.inj h
      obtain ⟨fn, row, i', rfl, hi', hj', hf⟩ := G.new _ ks' q
      rw [List.length_append] at hl
      simp only [List.length_cons, List.length_nil] at hl
      obtain ⟨k2, e2, _⟩ := R.cl i' row hi' hf (by omega)
      rw [hj', fn] at e2; cases e2
    | none =>
      rw [both_none q] at h
      cases qe : f (fromTo c s i r).2 with
      | some k2 =>
        refine ⟨k2, old qe, ?_⟩
        by_cases hd : ks.length < d
        · obtain ⟨k3, e3, l3⟩ := R.cl i ks hi h hd
          rw [qe] at e3
          rw [Option.some.inj e3]; exact l3
        · have := (R.rng _ _ qe).2; omega
      | none =>
        have hd : ¬ ks.length < d := fun hd => by
          obtain ⟨k3, e3, _⟩ := R.cl i ks hi h hd
          rw [qe] at e3; cases e3
        cases qg : g (fromTo c s i r).2 with
        | none => exact absurd qg (G.cov i ks hi h qe)
        | some k4 =>
          refine ⟨k4, both_some qg, ?_⟩
          obtain ⟨_, row, i', rfl, hi', hj', hf⟩ := G.new _ k4 qg
          have := (R.rng _ _ hf).2
          rw [List.length_append]; simp only [List.length_cons, List.length_nil]; omega
  · obtain ⟨_, row, i', _, _, _, hf⟩ := G.new j0 k0 h0
    have := R.ct _ _ hf
    rw [Int.natCast_add]
    show (d : Int) + 1 + 1 + _ ≤ _
    omega
theorem RI.done (R : RI c s r d f) (G : GI c s r f c.ls.length g) (h0 : ∀ j, g j = none) : Rd c s r f := by
  refine ⟨fun j ks h => ?_, R.z, R.st, fun i ks hi h => ?_⟩
  · have a := R.rng j ks h
    have b := R.ct j ks h
    exact ⟨a.1, by have := a.2; omega⟩
  · by_cases hd : ks.length < d
    · exact R.cl i ks hi h hd
    · cases qe : f (fromTo c s i r).2 with
      | some k2 =>
        have := (R.rng _ _ qe).2
        exact ⟨k2, rfl, by omega⟩
      | none => exact absurd (h0 _) (G.cov i ks hi h qe)
theorem RI.empty (R : RI c s r d f) (h0 : ∀ j, f j = none) : Rd c s r f := by
  refine ⟨fun j ks h => ?_, R.z, R.st, fun i ks hi h => ?_⟩
  · rw [h0] at h; cases h
  · rw [h0] at h; cases h
theorem both_empty (h0 : ∀ j, g j = none) : both g f = f := funext fun j => both_none (h0 j)
end
/-! ### boats behind unlike locks -/
def dj (c : Cn) (s : Sn) (r : Bool) (j : Int) (i : Nat) : Int := (if j = (fromTo c s i r).2 then 1 else 0) - (if j = (fromTo c s i r).1 then 1 else 0)
def ul (s s' : Sn) (n : Nat) : List Nat := (List.range n).filter fun i => decide (gt s.ls (i : Int) ≠ gt s'.ls (i : Int))
theorem ul_succ (s s' : Sn) (n : Nat) : ul s s' (n + 1) = ul s s' n ++ if gt s.ls (n : Int) ≠ gt s'.ls (n : Int) then [n] else [] := by
  unfold ul
  rw [List.range_succ, List.filter_append]
  congr 1
  by_cases q : gt s.ls (n : Int) ≠ gt s'.ls (n : Int)
  · rw [if_pos q]; simp [q]
  · rw [if_neg q]
    simp only [ne_eq, Decidable.not_not] at q
    simp [q]
def bsum (c : Cn) (s s' : Sn) (r : Bool) (j : Int) (n : Nat) : Int := ((ul s s' n).map (dj c s r j)).sum
theorem bsum_succ (c : Cn) (s s' : Sn) (r : Bool) (j : Int) (n : Nat) : bsum c s s' r j (n + 1) = bsum c s s' r j n + if gt s.ls (n : Int) ≠ gt s'.ls (n : Int) then dj c s r j n else 0 := by
  unfold bsum
  rw [ul_succ, List.map_append, List.sum_append]
  congr 1
  split <;> simp
section
variable {c : Cn} {W U : Nat} {r : Bool}
theorem dj_turn {s s1 : Sn} {B B1 : Int} (ok : okSn c B s) (ok1 : okSn c B1 s1) {i : Nat} (hi : i < c.ls.length) {j : Int} : dj c s1 r j i = if gt s.ls (i : Int) = gt s1.ls (i : Int) then dj c s r j i else - dj c s r j i := by
  by_cases q : gt s.ls (i : Int) = gt s1.ls (i : Int)
  · rw [if_pos q]
    unfold dj
    rw [fromTo_ls (s := s) (s' := s1) q.symm]
  · rw [if_neg q]
    have a := ok.l0 _ (gt_mem (zs := s.ls) (j := (i : Int)) (by omega) (by rw [ok.n]; omega))
    have b := ok1.l0 _ (gt_mem (zs := s1.ls) (j := (i : Int)) (by omega) (by rw [ok1.n]; omega))
    have e0 : ∀ {t : Sn}, gt t.ls (i : Int) = 0 → fromTo c t i r = endW r (lkAt c i) := fun {t} h => by unfold fromTo; rw [if_pos h]
    have e1 : ∀ {t : Sn}, gt t.ls (i : Int) = 1 → fromTo c t i r = ((endW r (lkAt c i)).2, (endW r (lkAt c i)).1) := fun {t} h => by unfold fromTo; rw [if_neg (by rw [h]; decide)]
    unfold dj
    rcases a with a | a <;> rcases b with b | b
    · exact absurd (a.trans b.symm) q
    · rw [e0 a, e1 b]; omega
    · rw [e1 a, e0 b]; omega
    · exact absurd (a.trans b.symm) q
theorem bsum_go {s s1 : Sn} {B B1 : Int} (ok : okSn c B s) (ok1 : okSn c B1 s1) {i : Nat} (hi : i < c.ls.length) {j : Int} : ∀ n : Nat, n ≤ c.ls.length → bsum c s (goneS c s1 i r) r j n = bsum c s s1 r j n + if i < n then dj c s1 r j i else 0
  | 0, _ => by unfold bsum ul; simp
  | n + 1, hn => by
    have ih := bsum_go ok ok1 hi (j := j) n (by omega)
    rw [bsum_succ, bsum_succ, ih]
    by_cases q : i = n
    · subst q
      rw [if_neg (Nat.lt_irrefl _), if_pos (Nat.lt_succ_self _), dj_turn ok ok1 hi]
      have a := ok.l0 _ (gt_mem (zs := s.ls) (j := (i : Int)) (by omega) (by rw [ok.n]; omega))
      have b := ok1.l0 _ (gt_mem (zs := s1.ls) (j := (i : Int)) (by omega) (by rw [ok1.n]; omega))
      have e : gt (goneS c s1 i r).ls (i : Int) = 1 - gt s1.ls (i : Int) := by rw [goneS_ls, flip_gt (by rw [ok1.n]; exact hi)]
      rw [e]
      by_cases q2 : gt s.ls (i : Int) = gt s1.ls (i : Int)
      · rw [if_pos q2, if_pos (by omega), if_neg (by omega)]
      · rw [if_neg q2, if_neg (by omega), if_pos q2]; omega
    · rw [gone_ls_ne q, show (if i < n + 1 then dj c s1 r j i else 0) = (if i < n then dj c s1 r j i else 0) from by
        by_cases q2 : i < n
        · rw [if_pos q2, if_pos (by omega)]
        · rw [if_neg q2, if_neg (by omega)]]
      omega
theorem run_sum (okc : okCn W U c) {s : Sn} {B : Int} (ok : okSn c B s) {j : Int} (hj : 0 ≤ j) : ∀ (ms : List Mv) (s1 : Sn) (B1 : Int), okSn c B1 s1 → okRun c s1 ms → (∀ m ∈ ms, m.2 = r) → gt (boatsW r s1) j = gt (boatsW r s) j + bsum c s s1 r j c.ls.length → gt (boatsW r (runS c s1 ms)) j = gt (boatsW r s) j + bsum c s (runS c s1 ms) r j c.ls.length
  | [], s1, B1, _, _, _, h => h
  | m :: ms, s1, B1, ok1, h, hw, e => by
    obtain ⟨i, x⟩ := m
    obtain rfl : r = x := (hw _ (List.mem_cons_self ..)).symm
    have hb : hasB c s1 i r = true := h.1.2
    refine run_sum okc ok hj ms (goneS c s1 i r) _ (goneS_ok okc ok1 h.1.1 r hb) h.2 (fun m hm => hw m (List.mem_cons_of_mem _ hm)) ?_
    rw [gt_gone okc ok1 h.1.1 hj, bsum_go ok ok1 h.1.1 _ (Nat.le_refl _), if_pos h.1.1, e]
    unfold dj; omega
theorem ul_self (s : Sn) (n : Nat) : ul s s n = [] := by
  unfold ul
  rw [List.filter_eq_nil_iff]
  intro x _ h
  exact absurd rfl (of_decide_eq_true h)
theorem run_unlike {s : Sn} : ∀ (ms : List Mv) (s1 : Sn), (∀ m ∈ ms, m.2 = r) → ∀ i : Nat, gt s.ls (i : Int) ≠ gt (runS c s1 ms).ls (i : Int) → gt s.ls (i : Int) ≠ gt s1.ls (i : Int) ∨ ∃ m ∈ ms, m.1 = i
  | [], s1, _, i, h => .inl h
  | m :: ms, s1, hw, i, h => by
    rcases run_unlike ms (goM c s1 m) (fun m hm => hw m (List.mem_cons_of_mem _ hm)) i h with q | ⟨m', hm, e⟩
    · by_cases e : m.1 = i
      · exact .inr ⟨m, List.mem_cons_self .., e⟩
      · left
        have : gt (goM c s1 m).ls (i : Int) = gt s1.ls (i : Int) := gone_ls_ne e
        rw [this] at q; exact q
    · exact .inr ⟨m', List.mem_cons_of_mem _ hm, e⟩
theorem mov_sum {zs : List Int} (okc : okCn W U c) {s : Sn} (hl : (zs.length : Int) = basW r c) {j : Int} (hj : 0 ≤ j) : ∀ (L : List Nat), (∀ i ∈ L, i < c.ls.length) → (L.foldl (fun z i => mov z (fromTo c s i r)) zs).length = zs.length ∧ gt (L.foldl (fun z i => mov z (fromTo c s i r)) zs) j = gt zs j + (L.map (dj c s r j)).sum := by
  intro L
  induction L generalizing zs with
  | nil => intro _; exact ⟨rfl, by simp⟩
  | cons i L ih =>
    intro h
    have hi := h i (List.mem_cons_self ..)
    have hf := fromTo_ok okc (s := s) hi r
    obtain ⟨a, b⟩ := ih (zs := mov zs (fromTo c s i r)) (by rw [mov_len]; exact hl) fun x hx => h x (List.mem_cons_of_mem _ hx)
    refine ⟨by rw [List.foldl_cons, a, mov_len], ?_⟩
    rw [List.foldl_cons, b, gt_mov hf.1.1 (by rw [hl]; exact hf.1.2) hf.2.1 (by rw [hl]; exact hf.2.2) hj, List.map_cons, List.sum_cons]
    unfold dj; omega
theorem ul_lt {s s' : Sn} {n i : Nat} (h : i ∈ ul s s' n) : i < n ∧ gt s.ls (i : Int) ≠ gt s'.ls (i : Int) := by
  unfold ul at h
  obtain ⟨a, b⟩ := List.mem_filter.mp h
  exact ⟨List.mem_range.mp a, of_decide_eq_true b⟩
/-- boats_behind gives what goings led to -/
theorem behind_eq (okc : okCn W U c) {s : Sn} {B : Int} (ok : okSn c B s) {ms : List Mv} (h : okRun c s ms) (hw : ∀ m ∈ ms, m.2 = r) : (ul s (runS c s ms) c.ls.length).foldl (fun z i => mov z (fromTo c s i r)) (boatsW r s) = boatsW r (runS c s ms) := by
  have ok' := runS_ok okc ok h
  have l1 := boats_len ok r
  have l2 := boats_len ok' r
  have e : ∀ j : Int, 0 ≤ j → _ := fun j hj => mov_sum (r := r) okc (s := s) l1 hj (ul s (runS c s ms) c.ls.length) fun i hi => (ul_lt hi).1
  refine gt_ext (by have := (e 0 (by omega)).1; omega) fun j hj => ?_
  rw [(e j (by omega)).2, run_sum okc ok (by omega) ms s B ok h hw (by unfold bsum; rw [ul_self]; simp)]
  rfl
end
end XL
namespace PySem
open Sem (wp)
section
variable {prog : Program} {w : World} {K : Type} [DecidableEq K] {knd : KeyKind prog w K} {A : Around} {E : Value → Shared → Prop} {s : Shared}
theorem wpAny_dictPut_pairs {d : Addr} {kvs : List (K × Value)} {k : K} {key v : Value} {Q : Unit → Shared → Prop} (hkey : knd.is k key = true) (hm : s.heap.DictOf knd d kvs)
    (hQ : ∀ h', h'.DictOf knd d (stored kvs k v) → Heap.SameBut d s.heap h' → Q () { s with heap := h' })
    (hsz : kvs.length ≤ sizeLine) :
    wpAny (model prog w) A (dictPut d (knd.hash k) key v) Q E s := by
  obtain ⟨o, es, ep, ho, hc, hd, hk, hp, hn⟩ := hm
  have hes : es.size ≤ sizeLine := by have e1 := hp.length; have e2 : es.toList.length = es.size := by simp
                                      omega
  unfold dictPut
  refine wpAny_bind (wpAny_dictFind_of hkey ho hd hk ?_)
  have hidx : (es.findIdx? fun e => knd.is k e.key) = kvs.findIdx? fun kv => decide (kv.1 = k) := by
    rw [← hp.findIdx k]; obtain ⟨l⟩ := es; simp
  cases hi : es.findIdx? fun e => knd.is k e.key with
  | some i =>
    refine wpAny_updateDict ho hd (hQ _ ⟨_, _, ep, Heap.get?_update_self _ ho (Obj.isFreed_of_dict (Obj.data_mapDict hd _)),
      hc.mapDict _, Obj.data_mapDict hd _, hk.modify _ _, ?_, ?_⟩ (Heap.SameBut.update ..))
    · rw [stored, if_pos (any_of_findIdx_some (hidx ▸ hi))]
      have hl : (es.toList.findIdx? fun e => knd.is k e.key) = some i := by rw [← hi]; obtain ⟨l⟩ := es; simp
      have := hp.modify hn hl v
      obtain ⟨l⟩ := es
      simpa using this
    · rw [stored, if_pos (any_of_findIdx_some (hidx ▸ hi)), keys_map_store]; exact hn
  | none =>
    have hnot : k ∉ kvs.map (·.1) := not_mem_of_findIdx_none (hidx ▸ hi)
    have hany : ¬ (kvs.any fun kv => decide (kv.1 = k)) = true := by
      rw [List.any_eq_true]; rintro ⟨kv, hkv, he⟩
      exact hnot (List.mem_map.mpr ⟨kv, hkv, of_decide_eq_true he⟩)
    refine wpAny_updateDictKeys (hz := hes) ho hd (hQ _ ⟨_, _, ep + 1, Heap.get?_update_self _ ho (Obj.isFreed_of_dict (Obj.data_mapDictKeys hd _)),
      hc.mapDictKeys _, Obj.data_mapDictKeys hd _, hk.push hkey _, ?_, ?_⟩ (Heap.SameBut.update ..))
    · rw [stored, if_neg hany]
      have := hp.append hkey (knd.hash k) v
      obtain ⟨l⟩ := es
      simpa using this
    · rw [stored, if_neg hany, List.map_append, List.nodup_append]
      refine ⟨hn, by simp, ?_⟩
      intro a ha b hb
      simp only [List.map_cons, List.map_nil, List.mem_singleton] at hb
      subst hb
      exact fun e => hnot (e ▸ ha)
theorem wpAny_mergeMapping {d o : Addr} {kvs more : List (K × Value)} {Q : Unit → Shared → Prop} (hdo : d ≠ o) (hoS : (o == sysModules) = false)
    (hd : s.heap.DictOf knd d kvs) (ho : s.heap.DictOf knd o more)
    (hQ : ∀ h', h'.DictOf knd d (merged kvs more) → h'.DictOf knd o more → Heap.SameBut d s.heap h' → Q () { s with heap := h' })
    (hsz : kvs.length + more.length ≤ sizeLine) :
    wpAny (model prog w) A (mergeMapping d (.ref o) false) Q E s := by
  obtain ⟨od, esd, epd, hod, hcd, hdd, hkd, hpd, hnd⟩ := id hd
  obtain ⟨oo, eso, epo, hoo, hco, hdo', hko, hpo, hno⟩ := id ho
  have hlen : more.length = eso.size := by rw [← hpo.length]; simp
  have loop : wpAny (model prog w) A (do
      let l ← dictEntries o
      let epoch ← dictEpoch o
      forIn (List.range l.size) PUnit.unit fun i (_ : PUnit) => (do
          let l' ← dictEntries o
          match l'[i]? with
            | some e => do
              holding [e.key, e.val] (dictPut d e.hash e.key e.val)
              let ep' ← dictEpoch o
              if (ep' != epoch) = true then do
                  (unsupported "dict.changed-during-merge" : Sem PUnit)
                  pure (ForInStep.yield PUnit.unit)
                else pure (ForInStep.yield PUnit.unit)
            | _ => do
              (unsupported "dict.changed-during-merge" : Sem PUnit)
              pure (ForInStep.yield PUnit.unit) : Sem (ForInStep PUnit))
      pure ()) Q E s := by
    refine wpAny_bind (wpAny_dictEntries hoo hdo' ?_)
    refine wpAny_bind (wpAny_dictEpoch hoo hdo' ?_)
    refine wpAny_bind ?_
    rw [List.range_eq_range']
    refine wpAny_forIn_list _
      (fun rest _ s' => ∃ h' i, s' = { s with heap := h' } ∧ rest = List.range' i (eso.size - i) ∧ i ≤ eso.size ∧ h'.DictOf knd d (merged kvs (more.take i)) ∧ h'.get? o = some oo ∧ Heap.SameBut d s.heap h')
      _ ?_ ?_ _ _ ⟨s.heap, 0, rfl, by simp, Nat.zero_le _, by simpa [merged] using hd, hoo, Heap.SameBut.refl _ _⟩
    · rintro x rest b s' ⟨h', i, rfl, hr, hi, hd', hoo', hs'⟩
      have hlt : i < eso.size := by
        rcases Nat.lt_or_ge i eso.size with h | h
        · exact h
        · rw [Nat.sub_eq_zero_of_le h] at hr; simp at hr
      obtain ⟨rfl, hrest⟩ : x = i ∧ rest = List.range' (i + 1) (eso.size - (i + 1)) := by
        have e : eso.size - i = (eso.size - (i + 1)) + 1 := by omega
        rw [e, List.range'_succ] at hr
        injection hr with h1 h2
        exact ⟨h1, h2⟩
      refine wpAny_bind (wpAny_dictEntries hoo' hdo' ?_)
      rw [Array.getElem?_eq_getElem hlt]
      obtain ⟨kv, hkv⟩ : ∃ kv, more[x]? = some kv := ⟨more[x]'(by rw [hlen]; exact hlt), List.getElem?_eq_getElem _⟩
      obtain ⟨k, v⟩ := kv
      obtain ⟨hkey, hval⟩ := hpo.get? (e := eso[x]) (by simp [hlt]) hkv
      obtain ⟨k', hkey', hhash⟩ := hko eso[x] (Array.getElem_mem hlt)
      obtain rfl : k' = k := knd.inj _ _ _ hkey' hkey
      show wpAny _ _ (holding [eso[x].key, eso[x].val] (dictPut d eso[x].hash eso[x].key eso[x].val) >>= _) _ _ _
      rw [hhash, hval]
      have hmx : (merged kvs (more.take x)).length ≤ sizeLine := by
        have e1 := merged_length_le kvs (more.take x)
        have e2 : (more.take x).length ≤ more.length := by rw [List.length_take]; omega
        omega
      refine wpAny_bind (wpAny_holding (wpAny_dictPut_pairs (hsz := hmx) hkey hd' fun h'' hd'' hs'' => ?_))
      have hoo'' : h''.get? o = some oo := (hs''.2 o (Ne.symm hdo)).trans hoo'
      refine wpAny_bind (wpAny_dictEpoch hoo'' hdo' ?_)
      rw [if_neg (by simp)]
      exact wpAny_pure ⟨h'', x + 1, rfl, hrest, hlt, by rw [merged_take_succ kvs more x (k', v) hkv]; exact hd'', hoo'', hs'.trans hs''⟩
    · rintro b s' ⟨h', i, rfl, hr, hi, hd', hoo', hs'⟩
      have hin : i = eso.size := by
        rcases Nat.lt_or_ge i eso.size with h | h
        · have e : eso.size - i = (eso.size - (i + 1)) + 1 := by omega
          rw [e, List.range'_succ] at hr; exact nomatch hr
        · exact Nat.le_antisymm hi h
      refine wpAny_pure (hQ h' ?_ ⟨oo, eso, epo, hoo', hco, hdo', hko, hpo, hno⟩ hs')
      rw [hin, ← hlen, List.take_length] at hd'; exact hd'
  unfold mergeMapping
  refine wpAny_bind (wpAny_isInstance ho.typeIs isSubtype_dict_dict ?_)
  dsimp only
  rw [if_pos rfl]
  refine wpAny_bind (wpAny_specialOf ho.typeIs F.slot_dict_iter.lookup ?_)
  refine wpAny_bind (wpAny_pure ?_)
  rw [show ((some (Value.builtin "dict.__iter__") == some (Value.builtin "dict.__iter__"))) = true from beq_self_eq_true _]
  dsimp only
  rw [if_neg (by rw [hoS]; exact Bool.false_ne_true)]
  refine wpAny_bind (wpAny_dictEntries hod hdd ?_)
  split
  · refine wpAny_bind (wpAny_dictEntries hoo hdo' ?_)
    refine wpAny_bind ?_
    rw [← Array.forIn_toList]
    refine wpAny_forIn_list _ (fun rest _ s' => s' = s ∧ ∀ e ∈ rest, e ∈ eso.toList) _ ?_ ?_ _ _ ⟨rfl, fun e he => he⟩
    · rintro e rest b s' ⟨rfl, hall⟩
      have hrest : ∀ x ∈ rest, x ∈ eso.toList := fun x hx => hall x (List.mem_cons_of_mem _ hx)
      obtain ⟨k, hkey, _⟩ := hko e (Array.mem_toList_iff.mp (hall e List.mem_cons_self))
      have hv := knd.byValue k _ hkey
      cases hek : e.key with
      | ref a => rw [hek] at hv; exact absurd hv (by intro h; cases h)
      | _ => exact wpAny_pure ⟨rfl, hrest⟩
    · rintro b s' ⟨rfl, _⟩
      exact loop
  · exact loop
end
end PySem
namespace L2
open PySem PySem.Spec PyProof.Rows
/-- {**a, **b}, keys ints and texts -/
def tMerge2 (ta tb : TE) : TE := fun σ H Q => ∀ p, H p = none → ta σ (upd H p (.dK [])) fun x H1 => ∃ (a : Addr) (kvs : List (Key × V)), x = .ref a ∧ a ≠ p ∧ H1 p = some (.dK []) ∧ H1 a = some (.dK kvs) ∧ kvs.length ≤ 1000 ∧
  tb σ (upd H1 p (.dK (mergeK [] kvs))) fun y H2 => ∃ (b : Addr) (more : List (Key × V)), y = .ref b ∧ b ≠ p ∧ H2 p = some (.dK (mergeK [] kvs)) ∧ H2 b = some (.dK more) ∧ more.length ≤ 1000 ∧ Q (.ref p) (upd H2 p (.dK (mergeK (mergeK [] kvs) more)))
def mStep (d : Addr) (m : Value) : Sem Unit := (((holding [.ref d, m] (mergeMapping d m false)).onRaise fun x => do let _ ← holding [.ref d, m, x] (runValue (.builtin "proto.let_go" {}))).tryCatch fun e => do
        if ← isInstance e (.type "AttributeError") then
          rule "dict.display.not-a-mapping"; raiseError "TypeError" s!"'{← typeNameOf m}' object is not a mapping"
        throw e).onRaise fun x => do let _ ← holding [.ref d, x] (runValue (.builtin "proto.let_go" {}))
theorem display2 (va vb : Sem Value) : dictDisplay [(none, va), (none, vb)] = (do
    let d ← alloc { cls := .type "dict", data := .dict #[] }
    let m ← holding [.ref d] va
    mStep d m
    let m2 ← holding [.ref d] vb
    mStep d m2
    pure (.ref d)) := by
  unfold dictDisplay mStep
  simp only [List.forIn_cons, List.forIn_nil, List.isEmpty_nil, if_true, pure_bind, bind_assoc]
theorem wp_mStep {prog : Program} {w : World} {K : Type} [DecidableEq K] {knd : KeyKind prog w K} {A : Around} {E : Value → Shared → Prop} {s : Shared} {d o : Addr} {kvs more : List (K × Value)} {Q : Unit → Shared → Prop} (hdo : d ≠ o) (hoS : (o == sysModules) = false)
    (hd : s.heap.DictOf knd d kvs) (ho : s.heap.DictOf knd o more)
    (hQ : ∀ h', h'.DictOf knd d (merged kvs more) → h'.DictOf knd o more → Heap.SameBut d s.heap h' → Q () { s with heap := h' })
    (hsz : kvs.length + more.length ≤ sizeLine) : wpAny (model prog w) A (mStep d (.ref o)) Q E s := by
  unfold mStep
  exact wpAny_onRaise (wpAny_tryCatch (wpAny_onRaise (wpAny_holding (wpAny_mergeMapping hdo hoS hd ho hQ hsz))))
theorem pe_merge2 {X : Cx} {pos : Pos} {va vb : Expr} {ta tb : TE} (ha : PE X va ta) (hb : PE X vb tb) : PE X (.Dict [none, none] [va, vb] pos) (tMerge2 ta tb) := by
  refine ⟨fun pins s σ H Q I q => ?_⟩
  have hn := I.hok.fresh (Nat.le_refl s.heap.objs.size)
  have I1 := I.laid (a := s.heap.objs.size) (o := .dK []) (h' := s.heap.push { cls := .type "dict", data := .dict #[] }) (t' := s.toks) (fun _ _ q => Heap.get?_push_of_some _ q) (Nat.le_refl _) (dk_empty s.heap I.big)
  have q0 := q _ hn
  rw [arm_eval_Dict]
  show wpAny _ _ (standAt pos >>= fun _ => dictDisplay [(none, (do let x ← eval va X.env; standAt pos; pure x)), (none, (do let x ← eval vb X.env; standAt pos; pure x))]) _ _ _
  rw [display2]
  refine wpAny_bind (wpAny_standAt (wpAny_bind (wpAny_alloc ?_)))
  refine wpAny_bind (wpAny_holding (wpAny_bind (thn (ha.run pins _ σ _ _ I1 q0) fun u s1 ⟨x, H1, I2, rx, a, kvs, ex, nap, ep, ea, hl, q1⟩ => wpAny_bind (wpAny_standAt (wpAny_pure ?_)))))
  subst ex
  cases rx
  obtain ⟨z1, hd1, vs0, r0, dd0⟩ := dk_of I2.hok ep
  cases r0
  obtain ⟨z2, hd2, vs1, r1, dd1⟩ := dk_of I2.hok ea
  refine wpAny_bind (wp_mStep (Ne.symm nap) hd2 dd0 dd1 (fun h' dd' _ hs => ?_) (by rw [← r1.length]; show 0 + kvs.length ≤ sizeLine; rw [sizeLine_eq]; omega))
  have he : ∃ q, h'.get? s.heap.objs.size = some q := let ⟨q, _, _, hq, _⟩ := dd'; ⟨q, hq⟩
  have lz : (mergeK [] kvs).length ≤ 1000 := by
    have h1 := length_mergeK kvs []
    rw [List.length_nil] at h1; omega
  have I3 := d_write (t' := s1.toks) I2 (by rw [ep]; exact True.intro) hs he (dk_new (by rw [sizeLine_eq]; omega) hd1 (r1.merge .nil) dd')
  refine wpAny_bind (wpAny_holding (wpAny_bind (thn (hb.run pins _ σ _ _ I3 q1) fun u2 s2 ⟨y, H2, I4, ry, b, more, ey, nbp, ep2, eb, hl2, q2⟩ => wpAny_bind (wpAny_standAt (wpAny_pure ?_)))))
  subst ey
  cases ry
  obtain ⟨z3, hd3, vs3, r3, dd3⟩ := dk_of I4.hok ep2
  obtain ⟨z4, hd4, vs4, r4, dd4⟩ := dk_of I4.hok eb
  refine wpAny_bind (wp_mStep (Ne.symm nbp) hd4 dd3 dd4 (fun h2 dd2 _ hs2 => ?_) (by rw [← r3.length, ← r4.length, sizeLine_eq]; omega))
  have he2 : ∃ q, h2.get? s.heap.objs.size = some q := let ⟨q, _, _, hq, _⟩ := dd2; ⟨q, hq⟩
  have l2 : (mergeK (mergeK [] kvs) more).length ≤ 2000 := by
    have h1 := length_mergeK more (mergeK [] kvs); omega
  have I5 := d_write (t' := s2.toks) I4 (by rw [ep2]; exact True.intro) hs2 he2 (dk_new (by rw [sizeLine_eq]; omega) hd3 (r4.merge r3) dd2)
  exact wpAny_pure ⟨V.ref s.heap.objs.size, _, I5, rfl, q2⟩
end L2
namespace L2
open PySem PySem.Spec PyProof.Rows
section
variable {X : Cx}
/-- name = {..} on one line, the name a local -/
theorem ps_setDc {i : Nat} {y : Str} {py : Pos} {kx vx tg iter : Expr} {ifs : List Expr} {scope : Scope} {own : List (Str × Nat)} {pos spos : Pos} {wi : TI} {g : TG} {tt : TT} {tk tv : TE} (hc : X.calm = true) (hN : X.N.Nodup) (hy : X.N[i]? = some y) (hyl : X.env.scope.names.lookup y = some .local)
    (hsw : swapsWith (.DictComp kx vx [⟨tg, iter, ifs, 0⟩] scope pos) (some (.Name y py)) spos.line X.env = pure true) (hi : PI X tg iter wi) (ok : BlkOk X.N X.env.scope scope own)
    (hg : ∀ (s : Shared) (H : Hp) (C : Addr) (cl : List (Str × Addr)) (fp : List Addr), PG (X.blk s H scope (compEnvC scope cl C X.env) fp) tg g) (ht : ∀ (s : Shared) (H : Hp) (C : Addr) (cl : List (Str × Addr)) (fp : List Addr), PTs (X.blk s H scope (compEnvC scope cl C X.env) fp) ifs tt)
    (hk : ∀ (s : Shared) (H : Hp) (C : Addr) (cl : List (Str × Addr)) (fp : List Addr), PE (X.blk s H scope (compEnvC scope cl C X.env) fp) kx tk)
    (he : ∀ (s : Shared) (H : Hp) (C : Addr) (cl : List (Str × Addr)) (fp : List Addr), PE (X.blk s H scope (compEnvC scope cl C X.env) fp) vx tv) (hs : ∀ x, foldedSetIterable iter X.env x = pure x := by intro _; rfl) :
    PS X (.Assign [.Name y py] (.DictComp kx vx [⟨tg, iter, ifs, 0⟩] scope pos) spos) (tAsg (tDc wi g tt tk tv (own.map (·.2))) (gName i)) := by
  refine ⟨fun pins s σ H D I h => ?_⟩
  rw [exec_Assign_Name_used _ _ _ _ hsw]
  refine wpAny_bind (wpAny_standAt (wpAny_bind ?_))
  show wpAny _ X.A (do let _ ← comprehension (.DictComp kx vx [⟨tg, iter, ifs, 0⟩] scope pos) scope X.env (firstIterPos [⟨tg, iter, ifs, 0⟩] pos) newDict false (eval iter X.env) (some (assign (.Name y py) X.env))) _ _ s
  have h : tDc wi g tt tk tv (own.map (·.2)) σ H (fun x H1 => gName i x σ H1 D.nx) := h
  refine wpAny_bind (thn (dc_core (Qf := fun _ s' => SP X pins D .next s') hc hN I hi ok hg ht hk he hs h fun L C s' m H' I' q hn f => ?_) fun _ s' hq => wpAny_pure (wpAny_pure hq))
  show wpAny _ _ (assign (.Name y py) X.env (.ref L)) _ _ _
  refine wpAny_assign_Name (store_ok2 (v := V.ref L) I' hN hy (.inl hyl) rfl (fun s2 I2 ⟨a, sb, ha⟩ => ?_) (.inr hyl))
  obtain ⟨f0, f1, f2, f3, f4, f5⟩ := f
  have haC : C ≠ a := by
    rcases ha with z | z
    · rw [z]; exact f1
    · exact fun e => f4 y a z e.symm
  refine ⟨m, hn.sameBut sb haC, fun h3 sb3 => ?_⟩
  exact ⟨_, H', I2.turned (t' := s2.toks) (fun b o hb e => (sb3.2 b hb).trans e) f0 f1 f3 f4 f5, q⟩
theorem sw_trueD {kx vx : Expr} {gs : List Comprehension} {scope : Scope} {pos py : Pos} {y : Str} {l : Nat} {env : Env} (hk : env.scope.kind = .function) (hy : env.scope.names.lookup y = some .local) (hl : (py.line == pos.line) = true)
    (ha : (scope.names.any fun (n, k) => n == y && (k == .local || k == .cell)) = false) : swapsWith (.DictComp kx vx gs scope pos) (some (.Name y py)) l env = pure true := by
  have ky : env.kindOf y = some .local := hy
  have hb : env.blockKind = .function := by unfold Env.blockKind; rw [hk]; rfl
  unfold swapsWith
  simp only [hb, ky, ha, Expr.pos, hl]
  rfl
/-- a suite that is never come to -/
theorem pss_no {ss : List Stmt} : PSs X ss (fun _ _ _ => False) := ⟨fun _ _ _ _ _ _ h => h.elim⟩
end
/-- a dict comprehension by an invariant -/
theorem dc_it {J : It} {n : Nat} {G : Hp → Prop} {Y : Nat → Hp → V → Hp → Prop} (w : Walk J n G Y) {g : TG} {tt : TT} {tk tv : TE} {vs : List Nat} {σ : St} {H1 : Hp} {D : Addr} {Qd : Hp → Prop} (Pv : Nat → Hp → Prop) (h0 : Pv 0 (upd H1 D (.dK []))) (hG : ∀ i H, i ≤ n → Pv i H → G H)
    (hs : ∀ i x H H', i < n → Pv i H → Y i H x H' → g x (wipe σ vs) H' fun σ2 H2 => wipe σ2 vs = wipe σ vs ∧ tt σ2 H2 fun b H3 =>
      if b = true then tk σ2 H3 fun y H4 => tv σ2 H4 fun z H5 => ∃ kvs k, y = kV k ∧ H5 D = some (.dK kvs) ∧ kvs.length < sizeLine ∧ Pv (i + 1) (upd H5 D (.dK (putK kvs k z))) else Pv (i + 1) H3) (hd : ∀ H, Pv n H → Qd H) :
    ∃ W : Nat → Nat → Hp → Prop, (∃ m, W 0 m (upd H1 D (.dK []))) ∧ ∀ i m H, W i m H →
      (J.stop i H ∧ Qd H) ∨ (J.go i H ∧ ∃ Nx : Hp → Prop, (∀ H', Nx H' → ∃ m', m' < m ∧ W (i + 1) m' H') ∧ ∀ x H', J.yld i H x H' → g x (wipe σ vs) H' fun σ2 H2 => wipe σ2 vs = wipe σ vs ∧ tt σ2 H2 fun b H3 =>
        if b = true then tk σ2 H3 fun y H4 => tv σ2 H4 fun z H5 => ∃ kvs k, y = kV k ∧ H5 D = some (.dK kvs) ∧ kvs.length < sizeLine ∧ Nx (upd H5 D (.dK (putK kvs k z))) else Nx H3) := by
  refine ⟨fun i m H => m = n - i ∧ i ≤ n ∧ Pv i H, ⟨n, by simp, Nat.zero_le _, h0⟩, ?_⟩
  rintro i m H ⟨rfl, hi, p⟩
  have q := hG i H hi p
  by_cases hlt : i < n
  · refine .inr ⟨w.goes i H hlt q, Pv (i + 1), fun H' p' => ⟨n - (i + 1), by omega, rfl, hlt, p'⟩, fun x H' y => hs i x H H' hlt p (w.yields i H x H' hlt q y)⟩
  · have e : i = n := by omega
    subst e
    exact .inl ⟨w.stops H q, hd H p⟩
end L2
namespace PySem
open PySem.Spec PyProof.Rows PyProof.V PySem.W PySem.SeqAt
section
variable {prog : Program} {w : World} {A : Around} {E : Value → Shared → Prop} {s : Shared}
theorem min_two_data {a b : Value} {da db : PyData} {as bs : List Addr} {Q : Value → Shared → Prop} (hh : A.handled = none) (ra : Reads s.heap a da as) (rb : Reads s.heap b db bs) (hal : AlikeAll [da, db]) (hu : A.units + 1 + PyData.depthAll [da, db] < cLine)
    (h : ∀ h' tk, (∀ c o, s.heap.get? c = some o → h'.get? c = some o) → Q (if dataLt db da = true then b else a) { s with heap := h', toks := tk }) :
    wpAny (model prog w) A (call (.builtin "min") [a, b]) Q E s := by
  have hname : (toString "min" ++ toString ".loop" : String) = "min.loop" := by decide
  have hT : (s.heap.push { cls := .type "tuple", data := .seq #[a, b] }).IsTuple s.heap.objs.size #[a, b] := ⟨_, Heap.get?_push_size _ rfl, rfl, 0, rfl⟩
  have kp : ∀ c o, s.heap.get? c = some o → (s.heap.push { cls := .type "tuple", data := .seq #[a, b] }).get? c = some o := fun c o e => Heap.get?_push_of_some _ e
  have hr : ReadsAll (s.heap.push { cls := .type "tuple", data := .seq #[a, b] }) (#[a, b] : Array Value).toList [da, db] (as ++ (bs ++ [])) := .cons (reads_keeps kp ra) (.cons (reads_keeps kp rb) .nil)
  refine call_function_tree F.kind_min F.plain_min F.entry_min (F.args_min2 _ _) ?_
  show wpAny _ A.in1 (Builtin.Builtins.bindParams "min" ["key", "default"] 0 ⟨[], []⟩ >>= _) _ _ s
  refine wpAny_bind (wpAny_of_eq (show Builtin.Builtins.bindParams "min" ["key", "default"] 0 ⟨[], []⟩ = pure [none, none] from rfl) ?_)
  show wpAny _ A.in1 (newTuple [a, b] >>= _) _ _ s
  refine wpAny_bind (wpAny_newObj_type ?_)
  refine wpAny_bind (iter_tupleW (A := A.in1) hh (s := { s with heap := s.heap.push { cls := .type "tuple", data := .seq #[a, b] } }) hT fun s₂ e W st hfp hw hk => ?_)
  refine wpAny_bind (wpAny_newObj_type ?_)
  have hSf : s₂.heap.objs.size ∉ [(s.heap.push { cls := .type "tuple", data := .seq #[a, b] }).objs.size, s.heap.objs.size] := fun hm => Nat.lt_irrefl _ (hfp _ hm)
  rw [hname]
  refine wpAny_pure ⟨plainId_quiet F.plain_min_loop _, codeAny_min_loop_firstH W (s.heap.push { cls := .type "tuple", data := .seq #[a, b] }) hw (fun i j => dataLt (([da, db] : List PyData).getD i .none) (([da, db] : List PyData).getD j .none)) (cmpIn_lt (A := A.in1) (s := { s with heap := s.heap.push { cls := .type "tuple", data := .seq #[a, b] } }) hr hal (by show A.units + 1 + _ < _; exact hu)) s₂.heap.objs.size hSf (fresh_in hk) _ (by simp) (fun b o e => Heap.get?_push_of_some _ (hk b o e)) (W.frame 0 s₂ _ s₂.toks st (Nat.le_refl _) fun b _ o e => Heap.get?_push_of_some _ e) (Heap.get?_push_size _ rfl) fun v s' hP hm => ?_⟩
  have m := Moved.drop_new (tk := s₂.toks) hm (Nat.le_refl _)
  obtain ⟨h', tk, rfl, hk'⟩ := moved_old e rfl m
  have hv : v = if dataLt db da = true then b else a := by
    cases hc : dataLt db da <;> simp [argBest, hc] at hP <;> simp [hP]
  rw [hv]
  exact h h' tk fun c o ec => hk' c o (Heap.get?_push_of_some _ ec)
end
end PySem
namespace L2
open PySem PySem.Spec PyProof.Rows PySem.W
/-- min(x, y) of alike data -/
def rMin2D (K : PySem.W.Frag) : List V → Hp → VK → Prop := fun xs H Q => ∃ (x y : V) (d e : PyData), xs = [x, y] ∧ Dp K H x d ∧ Dp K H y e ∧ AlikeAll [d, e] ∧ PyData.depthAll [d, e] ≤ 60 ∧ Q (if dataLt e d = true then y else x) H
theorem call_min2D {X : Cx} (hc : X.calm = true) (hu : X.A.units + 64 < cLine) : CallR X (.builtin "min") (rMin2D X.K) := by
  intro pins s σ H xs us Q I r h
  obtain ⟨x, y, d, e, rfl, hd, he, hal, hdp, q⟩ := h
  obtain ⟨u, w', rfl, r1, r2⟩ := vals2 r
  obtain ⟨as, ra⟩ := Dp.reads I d x u hd r1
  obtain ⟨bs, rb⟩ := Dp.reads I e y w' he r2
  refine min_two_data (I.ok.hd hc) ra rb hal (by omega) fun h' tk k => ⟨_, H, I.kept k, ?_, q⟩
  cases dataLt e d with
  | true => exact r2
  | false => exact r1
end L2
namespace XL
open PySem PySem.Spec PyProof.Rows L2
abbrev sBas : Stmt := topS 3
abbrev sBoO : Stmt := topS 10
abbrev sAl : Stmt := topS 11
abbrev sRo : Stmt := topS 12
theorem boot_min' : bootBuiltins "min" = some (.builtin "min") := by decide +kernel
theorem hu1 {X : Cx} (h : X.A.units + 64 < cLine) : X.A.units + 1 < cLine := by omega
theorem nil_go {σ : L2.St} {H : Hp} {Q : List V → Hp → Prop} (h : Q [] H) : tNil σ H Q := h
theorem intz_at {zs : List Int} {i : Nat} {x : V} (h : (zs.map V.int)[i]? = some x) : ∃ z, zs[i]? = some z ∧ x = .int z := by
  rw [List.getElem?_map] at h
  cases e : zs[i]? with
  | none => rw [e] at h; cases h
  | some z => rw [e] at h; exact ⟨z, rfl, (Option.some.inj h).symm⟩
/-! ### dicts -/
theorem keys_put (kvs : List (Key × V)) (k : Key) (v : V) : (putK kvs k v).map (·.1) = if (valV kvs k).isSome = true then kvs.map (·.1) else kvs.map (·.1) ++ [k] := by
  unfold putK
  rw [valV_any]
  split
  · rw [List.map_map]
    congr 1
    funext p
    by_cases e : p.1 = k <;> simp [e]
  · rw [List.map_append]; rfl
theorem valV_mem {kvs : List (Key × V)} {k : Key} (h : valV kvs k = none) : k ∉ kvs.map (·.1) := fun hm => by
  obtain ⟨p, hp, e⟩ := List.mem_map.mp hm
  have := valV_any k kvs
  rw [h] at this
  have h2 : (kvs.any fun kv => decide (kv.1 = k)) = true := List.any_eq_true.mpr ⟨p, hp, decide_eq_true e⟩
  rw [h2] at this; cases this
theorem nodup_put {kvs : List (Key × V)} {k : Key} {v : V} (h : (kvs.map (·.1)).Nodup) : ((putK kvs k v).map (·.1)).Nodup := by
  rw [keys_put]
  cases q : valV kvs k with
  | some x => exact h
  | none =>
    rw [if_neg (by decide), List.nodup_append]
    refine ⟨h, by simp, fun a ha b hb e => ?_⟩
    rw [List.mem_singleton.mp hb] at e
    exact valV_mem q (e ▸ ha)
theorem nodup_merge : ∀ {more kvs : List (Key × V)}, (kvs.map (·.1)).Nodup → ((mergeK kvs more).map (·.1)).Nodup
  | [], kvs, h => h
  | p :: more, kvs, h => nodup_merge (more := more) (nodup_put (k := p.1) (v := p.2) h)
theorem valV_not {kvs : List (Key × V)} {k : Key} (h : k ∉ kvs.map (·.1)) : valV kvs k = none := by
  cases q : valV kvs k with
  | none => rfl
  | some x =>
    have := valV_any k kvs
    rw [q] at this
    obtain ⟨p, hp, e⟩ := List.any_eq_true.mp this
    exact absurd (List.mem_map.mpr ⟨p, hp, of_decide_eq_true e⟩) h
theorem valV_merge (k : Key) : ∀ {more kvs : List (Key × V)}, (more.map (·.1)).Nodup → valV (mergeK kvs more) k = match valV more k with | some v => some v | none => valV kvs k
  | [], kvs, _ => rfl
  | p :: more, kvs, h => by
    rw [List.map_cons, List.nodup_cons] at h
    show valV (mergeK (putK kvs p.1 p.2) more) k = _
    rw [valV_merge k (more := more) h.2, valV_put]
    by_cases e : p.1 = k
    · rw [valV_pos e, valV_not (e ▸ h.1)]
      show (if k = p.1 then some p.2 else _) = _
      rw [if_pos e.symm]
    · rw [valV_neg e]
      cases valV more k with
      | some v => rfl
      | none => show (if k = p.1 then some p.2 else _) = _; rw [if_neg (fun z => e z.symm)]
theorem key_put {kvs : List (Key × V)} {j : Int} {v : V} (h : ∀ k ∈ kvs.map (·.1), ∃ i : Int, k = .inl i) : ∀ k ∈ (putK kvs (.inl j) v).map (·.1), ∃ i : Int, k = .inl i := fun k hk => by
  rw [keys_put] at hk
  split at hk
  · exact h k hk
  · rcases List.mem_append.mp hk with q | q
    · exact h k q
    · exact ⟨j, List.mem_singleton.mp q⟩
theorem key_merge : ∀ {more kvs : List (Key × V)}, (∀ k ∈ more.map (·.1), ∃ i : Int, k = .inl i) → (∀ k ∈ kvs.map (·.1), ∃ i : Int, k = .inl i) → ∀ k ∈ (mergeK kvs more).map (·.1), ∃ i : Int, k = .inl i
  | [], kvs, _, h => h
  | p :: more, kvs, hm, h => by
    obtain ⟨j, e⟩ := hm p.1 (by simp)
    have h2 : ∀ k ∈ (putK kvs p.1 p.2).map (·.1), ∃ i : Int, k = .inl i := by rw [e]; exact key_put h
    exact key_merge (more := more) (fun k hk => hm k (by rw [List.map_cons]; exact List.mem_cons_of_mem _ hk)) h2
/-- a dict of roads -/
structure RoAt (H : Hp) (D : Addr) (r : Bool) (f : Rf) (kvs : List (Key × V)) : Prop where
  e : H D = some (.dK kvs)
  n : (kvs.map (·.1)).Nodup
  k : ∀ k ∈ kvs.map (·.1), ∃ j : Int, k = .inl j
  v : ∀ j : Int, (valV kvs (.inl j) = none ∧ f j = none) ∨ ∃ a us ks, valV kvs (.inl j) = some (.ref a) ∧ f j = some ks ∧ MvAt H a (rowOf r ks) us ∧ a ≠ D
theorem RoAt.move {H H' : Hp} {D : Addr} {r : Bool} {f : Rf} {kvs : List (Key × V)} (h : RoAt H D r f kvs) (s : Same H H') : RoAt H' D r f kvs :=
  ⟨s _ _ h.e, h.n, h.k, fun j => by
    rcases h.v j with q | ⟨a, us, ks, h1, h2, h3, h4⟩
    · exact .inl q
    · exact .inr ⟨a, us, ks, h1, h2, h3.move (s _ _ h3.e) (Tp.of s), h4⟩⟩
theorem RoAt.nil {H : Hp} {D : Addr} {r : Bool} {f : Rf} (h : RoAt H D r f []) (j : Int) : f j = none := by
  rcases h.v j with ⟨_, q⟩ | ⟨a, us, ks, h1, _⟩
  · exact q
  · rw [valV_nil] at h1; cases h1
theorem RoAt.some {H : Hp} {D : Addr} {r : Bool} {f : Rf} {p : Key × V} {kvs : List (Key × V)} (h : RoAt H D r f (p :: kvs)) : ∃ j ks, f j = some ks := by
  obtain ⟨j, e⟩ := h.k p.1 (by simp)
  rcases h.v j with ⟨q, _⟩ | ⟨a, us, ks, _, h2, _⟩
  · rw [valV_pos e] at q; cases q
  · exact ⟨j, ks, h2⟩
section
variable {P : Program} {w : World} {K : PySem.W.Frag} {mg : Str → Option Value} {base : Heap}
/-! ### boats_of, basins_of, be_alone -/
abbrev nBoO : List Str := ["standing", "water"]
theorem scBoO : FnScope nBoO ["standing", "water"] (defScope sBoO) := ⟨rfl, rfl, rfl, by decide +kernel, rfl, by decide +kernel, by decide +kernel⟩
theorem wS_red (r : Bool) : decide (V.str (wS r) = V.str "red") = r := isRed_wS r
theorem snT {H : Hp} {u : V} {s : Sn} (h : Dp K H u (snD s)) : ∃ a ar ab al, u = .ref a ∧ SqT K H a [.ref ar, .ref ab, .ref al] ∧ SqT K H ar (s.rs.map V.int) ∧ SqT K H ab (s.bs.map V.int) ∧ SqT K H al (s.ls.map V.int) := by
  cases h with
  | tup hs ha =>
    cases ha with
    | cons p1 ha => cases ha with
      | cons p2 ha => cases ha with
        | cons p3 ha =>
          cases ha
          cases p1 with
          | tup a1 b1 => cases p2 with
            | tup a2 b2 => cases p3 with
              | tup a3 b3 =>
                rw [ints_inv b1] at a1; rw [ints_inv b2] at a2; rw [ints_inv b3] at a3
                exact ⟨_, _, _, _, rfl, hs, a1, a2, a3⟩
def spBoT (K : PySem.W.Frag) : Sp := fun vs H Q _ => ∃ (u : V) (r : Bool) (s : Sn), vs = [u, .str (wS r)] ∧ Dp K H u (snD s) ∧ ∀ a : Addr, SqT K H a ((boatsW r s).map V.int) → Q (.ref a) H
theorem ok_bo {f : Addr} {fd : FuncData} {k : Nat} {tR : Tok} (F : Fun K "boats_of" "boats_of" sBoO f fd) (gRED : mg "RED" = some (.str "red" tR)) : FnOk P w K mg base CX0 (k + 1) f fd ["standing", "water"] (spBoT K) := by
  refine F.ok scBoO (fun vs H Q E h => ?_) (fun cdv A outer s H vs Q E hr h => ?_)
  · obtain ⟨u, r, s, rfl, _⟩ := h
    rfl
  obtain ⟨u, r, s, rfl, hu, q⟩ := h
  obtain ⟨a, ar, ab, al, rfl, h0, h1, h2, h3⟩ := snT hu
  refine ⟨_, (pss_one (ps_ret (pe_ifExp (pt_cmpR op_eq (pv 1) (pe_glob (v := .str "red") rfl gRED ⟨_, rfl⟩) (nomark _)) (pe_ix (r := rIxA K) ix_any (pv 0) pe_int (fun _ _ => rfl)) (pe_ix (r := rIxA K) ix_any (pv 0) pe_int (fun _ _ => rfl))))), ?_⟩
  refine ⟨_, rfl, rfl, _, rfl, ?_⟩
  rw [wS_red]
  cases r with
  | true => exact iteT ⟨_, rfl, a, _, _, _, rfl, rfl, .inr h0, rfl, q ar h1⟩
  | false => exact iteF ⟨_, rfl, a, _, _, _, rfl, rfl, .inr h0, rfl, q ab h2⟩
abbrev nBas : List Str := ["canal", "water"]
theorem scBas : FnScope nBas ["canal", "water"] (defScope sBas) := ⟨rfl, rfl, rfl, by decide +kernel, rfl, by decide +kernel, by decide +kernel⟩
def spBas (K : PySem.W.Frag) : Sp := fun vs H Q _ => ∃ (v : V) (r : Bool) (c : Cn), vs = [v, .str (wS r)] ∧ CnAny K H v c ∧ Q (.int (basW r c)) H
theorem ok_bas {f : Addr} {fd : FuncData} {k : Nat} {tR : Tok} (F : Fun K "basins_of" "basins_of" sBas f fd) (gRED : mg "RED" = some (.str "red" tR)) : FnOk P w K mg base CX0 (k + 1) f fd ["canal", "water"] (spBas K) := by
  refine F.ok scBas (fun vs H Q E h => ?_) (fun cdv A outer s H vs Q E hr h => ?_)
  · obtain ⟨v, r, c, rfl, _⟩ := h
    rfl
  obtain ⟨v, r, c, rfl, hc, q⟩ := h
  obtain ⟨a, g, vs, rfl, ha, hg, hl, hv⟩ := hc.ex
  refine ⟨_, (pss_one (ps_ret (pe_ifExp (pt_cmpR op_eq (pv 1) (pe_glob (v := .str "red") rfl gRED ⟨_, rfl⟩) (nomark _)) (pe_ix (r := rIxA K) ix_any (pv 0) pe_int (fun _ _ => rfl)) (pe_ix (r := rIxA K) ix_any (pv 0) pe_int (fun _ _ => rfl))))), ?_⟩
  refine ⟨_, rfl, rfl, _, rfl, ?_⟩
  rw [wS_red]
  cases r with
  | true => exact iteT ⟨_, rfl, a, _, _, _, rfl, rfl, ha, rfl, q⟩
  | false => exact iteF ⟨_, rfl, a, _, _, _, rfl, rfl, ha, rfl, q⟩
abbrev nAl : List Str := ["standing", "water", "basin", "boats"]
theorem scAl : FnScope nAl ["standing", "water"] (defScope sAl) := ⟨rfl, rfl, rfl, by decide +kernel, rfl, by decide +kernel, by decide +kernel⟩
def Alone (s : Sn) (r : Bool) : Prop := ∀ x ∈ boatsW (!r) s, x = 0
def spAl (K : PySem.W.Frag) : Sp := fun vs H Q _ => ∃ (u : V) (r : Bool) (s : Sn), vs = [u, .str (wS r)] ∧ Dp K H u (snD s) ∧ Alone s r ∧ ∀ H', Same H H' → Q .non H'
theorem ok_al {f fb : Addr} {fd fdb : FuncData} {k : Nat} {tR tB : Tok} (F : Fun K "be_alone" "be_alone" sAl f fd) (Bo : Fns P w K mg base k "boats_of" ["standing", "water"] (spBoT K) fb fdb) (gRED : mg "RED" = some (.str "red" tR)) (gBLUE : mg "BLUE" = some (.str "blue" tB)) (m_enumerate : mg "enumerate" = none) : FnOk P w K mg base CX0 (k + 1) f fd ["standing", "water"] (spAl K) := by
  refine F.ok scAl (fun vs H Q E h => ?_) (fun cdv A outer s H vs Q E hr h => ?_)
  · obtain ⟨u, r, s, rfl, _⟩ := h
    rfl
  obtain ⟨u, r, s, rfl, hu, hal, q⟩ := h
  refine ⟨_, (pss_one (ps_for PassesOwn.never rfl (pi_enumT rfl m_enumerate (pa_cons (pe_fn Bo hr rfl (pa_cons (pv 0) (pa_cons (pe_ifExp (pt_cmpR op_eq (pv 1) (pe_glob (v := .str "red") rfl gRED ⟨_, rfl⟩) (nomark _)) (pe_glob (v := .str "blue") rfl gBLUE ⟨_, rfl⟩) (pe_glob (v := .str "red") rfl gRED ⟨_, rfl⟩)) pa_nil))) pa_nil)) (pg_any rfl (pgs_cons (pg_name (i := 2) scAl.nd rfl (.inl rfl)) (pgs_cons (pg_name (i := 3) scAl.nd rfl (.inl rfl)) pgs_nil)))
    (pss_one (ps_if (pt_cmpR op_gt (pv 3) pe_int (nomark _)) pss_no pss_nil)))), ?_⟩
  refine ⟨_, rfl, _, rfl, rfl, _, rfl, ?_⟩
  rw [wS_red]
  cases r
  · refine iteF ⟨u, true, s, rfl, hu, fun a ha => ?_⟩
    refine ⟨a, _, rfl, ha, for_it (walk_enumT (K := K) (a := a) (xs := (boatsW true s).map V.int)) (fun j σ H5 => ∃ (y2 y3 : Option V), σ = [some u, some (.str (wS false)), y2, y3] ∧ Same H H5) ⟨none, none, rfl, Same.refl _⟩ (fun j σ H5 _ h => ?_) (fun j x σ H5 H6 hj h hy => ?_) (fun σ H5 h => ?_)⟩
    · obtain ⟨_, _, _, s5⟩ := h; exact Same.tup s5 ha
    · obtain ⟨y2, y3, rfl, s5⟩ := h
      obtain ⟨T, xi, xv, rfl, nT, rfl, ei, ev⟩ := hy
      obtain rfl : V.int (j : Nat) = xi := Option.some.inj ei
      have ev' : ((boatsW true s).map V.int)[j]? = some xv := ev
      obtain ⟨z, ez, rfl⟩ := intz_at ev'
      obtain rfl : z = 0 := hal z (List.mem_of_getElem? ez)
      refine ⟨T, _, rfl, .inr (.inl (.inl upd_same)), rfl, _, _, rfl, _, _, rfl, rfl, ?_⟩
      refine at_s (σ' := [some u, some (.str (wS false)), some (.int (j : Nat)), some (.int 0)]) rfl ?_
      exact ⟨_, rfl, _, _, rfl, rfl, _, rfl, iteF ⟨_, _, rfl, s5.trans (same_new nT)⟩⟩
    · obtain ⟨_, _, _, s5⟩ := h; exact q _ s5
  · refine iteT ⟨u, false, s, rfl, hu, fun a ha => ?_⟩
    refine ⟨a, _, rfl, ha, for_it (walk_enumT (K := K) (a := a) (xs := (boatsW false s).map V.int)) (fun j σ H5 => ∃ (y2 y3 : Option V), σ = [some u, some (.str (wS true)), y2, y3] ∧ Same H H5) ⟨none, none, rfl, Same.refl _⟩ (fun j σ H5 _ h => ?_) (fun j x σ H5 H6 hj h hy => ?_) (fun σ H5 h => ?_)⟩
    · obtain ⟨_, _, _, s5⟩ := h; exact Same.tup s5 ha
    · obtain ⟨y2, y3, rfl, s5⟩ := h
      obtain ⟨T, xi, xv, rfl, nT, rfl, ei, ev⟩ := hy
      obtain rfl : V.int (j : Nat) = xi := Option.some.inj ei
      have ev' : ((boatsW false s).map V.int)[j]? = some xv := ev
      obtain ⟨z, ez, rfl⟩ := intz_at ev'
      obtain rfl : z = 0 := hal z (List.mem_of_getElem? ez)
      refine ⟨T, _, rfl, .inr (.inl (.inl upd_same)), rfl, _, _, rfl, _, _, rfl, rfl, ?_⟩
      refine at_s (σ' := [some u, some (.str (wS true)), some (.int (j : Nat)), some (.int 0)]) rfl ?_
      exact ⟨_, rfl, _, _, rfl, rfl, _, rfl, iteF ⟨_, _, rfl, s5.trans (same_new nT)⟩⟩
    · obtain ⟨_, _, _, s5⟩ := h; exact q _ s5

end
end XL
namespace XL
open PySem PySem.Spec PyProof.Rows L2
section
variable {P : Program} {w : World} {K : PySem.W.Frag} {mg : Str → Option Value} {base : Heap}
theorem small1000' {x : Nat} (h : x ≤ 1000) : x < sizeLine := by rw [sizeLine_eq]; omega
theorem rowOf_snoc (r : Bool) (ks : List Nat) (i : Nat) : rowOf r (ks ++ [i]) = rowOf r ks ++ [(i, r)] := by unfold rowOf; rw [List.map_append]; rfl
theorem row_alike (r : Bool) : ∀ a b : List Nat, PySem.W.alikeAll ((rowOf r a).map mvD) ((rowOf r b).map mvD) = true
  | [], _ => by simp [rowOf, PySem.W.alikeAll]
  | _ :: _, [] => by simp [rowOf, PySem.W.alikeAll]
  | x :: a, y :: b => by
    have := row_alike r a b
    unfold rowOf at this
    simp [rowOf, PySem.W.alikeAll, PySem.W.alike, mvD]
    simpa using this
theorem row_alike2 (r : Bool) (a b : List Nat) : PySem.W.AlikeAll [PyData.list ((rowOf r a).map mvD), PyData.list ((rowOf r b).map mvD)] := by
  refine ⟨fun x hx y hy => ?_, fun x hx => ?_⟩
  · simp only [List.mem_cons, List.not_mem_nil, or_false] at hx hy
    rcases hx with rfl | rfl <;> rcases hy with rfl | rfl <;> simp only [PySem.W.alike] <;> exact row_alike r _ _
  · simp only [List.mem_cons, List.not_mem_nil, or_false] at hx
    rcases hx with rfl | rfl <;> exact fun z => nomatch z
theorem row_depth (r : Bool) (a b : List Nat) : PyData.depthAll [PyData.list ((rowOf r a).map mvD), PyData.list ((rowOf r b).map mvD)] ≤ 60 := by
  have h1 := mvs_depth (rowOf r a)
  have h2 := mvs_depth (rowOf r b)
  simp only [PyData.depthAll, PyData.depth]
  omega
theorem tp_dk {H : Hp} {D : Addr} {kvs : List (Key × V)} {o : HO} (h : H D = some (.dK kvs)) : Tp H (upd H D o) :=
  ⟨fun a xs e => by rw [upd_ne (fun z => by rw [z, h] at e; cases e)]; exact e, fun a o xs e => by rw [upd_ne (fun z => by rw [z, h] at e; cases e)]; exact e⟩
/-! ### roads -/
abbrev nRo : List Str := ["canal", "standing", "water", "told", "found", "lock", "start", "end", "road", "basin", "boats"]
theorem scRo : FnScope nRo ["canal", "standing", "water"] (defScope sRo) := ⟨rfl, rfl, rfl, by decide +kernel, rfl, by decide +kernel, by decide +kernel⟩
def spRo (K : PySem.W.Frag) : Sp := fun vs H Q _ => ∃ (v u : V) (r : Bool) (c : Cn) (s : Sn) (B : Int), vs = [v, u, .str (wS r)] ∧ CnAny K H v c ∧ Dp K H u (snD s) ∧ okCn 10 12 c ∧ okSn c B s ∧
  ∀ (D : Addr) (f : Rf) (kvs : List (Key × V)) (H' : Hp), Same H H' → H D = none → RoAt H' D r f kvs → Rd c s r f → Q (.ref D) H'
theorem ok_ro {f fb ft : Addr} {fd fdb fdt : FuncData} {k : Nat} (F : Fun K "roads" "roads" sRo f fd) (Bo : Fns P w K mg base k "boats_of" ["standing", "water"] (spBoT K) fb fdb) (FT : Fns P w K mg base k "from_and_to" ["canal", "standing", "lock", "water"] (spFT K) ft fdt)
    (m_enumerate : mg "enumerate" = none) (m_range : mg "range" = none) (m_len : mg "len" = none) (m_min : mg "min" = none) : FnOk P w K mg base CX0 (k + 1) f fd ["canal", "standing", "water"] (spRo K) := by
  refine F.ok scRo (fun vs H Q E h => ?_) (fun cdv A outer s H vs Q E hr h => ?_)
  · obtain ⟨v, u, r, c, s, B, rfl, _⟩ := h
    rfl
  obtain ⟨v, u, r, c, s, B, rfl, hc, hu, okc, ok, q⟩ := h
  refine ⟨_, (pss_cons (ps_setDc (i := 3) (own := [("basin", 9), ("boats", 10)]) (g := gAny K 2 (gCons (gName 9) (gCons (gName 10) gNil))) rfl scRo.nd rfl rfl (sw_trueD rfl rfl rfl (by decide +kernel)) (pi_enumT rfl m_enumerate (pa_cons (pe_fn Bo hr rfl (pa_cons (pv 1) (pa_cons (pv 2) pa_nil))) pa_nil)) (blkOk_by (own := [("basin", 9), ("boats", 10)]) (N := nRo) (sc := defScope sRo) (by decide +kernel)) (fun _ _ _ _ _ => (pg_any rfl (pgs_cons (pg_name (i := 9) scRo.nd rfl (.inl rfl)) (pgs_cons (pg_name (i := 10) scRo.nd rfl (.inl rfl)) pgs_nil)))) (fun _ _ _ _ _ => (pts_one (pt_cmpR op_gt (pv 10) pe_int (nomark _)))) (fun _ _ _ _ _ => (pv 9)) (fun _ _ _ _ _ => (pe_lst pa_nil)))
    (pss_cons (ps_set (i := 4) scRo.nd rfl (.inl rfl) (pv 3))
    (pss_cons (ps_while PassesOwn.never (pt_truth (pv 4) (fun _ => rfl))
    (pss_cons (ps_set (i := 4) scRo.nd rfl (.inl rfl) pe_dnewK)
    (pss_cons (ps_for PassesOwn.never rfl (pi_range1 rfl m_range (pa_cons (pe_callB (r := rLenA K) call_lenA rfl m_len PySem.boot_len (pa_cons (pe_ix (r := rIxA K) ix_any (pv 0) pe_int (fun _ _ => rfl)) pa_nil)) pa_nil)) (pg_name (i := 5) scRo.nd rfl (.inl rfl))
    (pss_cons (ps_asg (pe_fn FT hr rfl (pa_cons (pv 0) (pa_cons (pv 1) (pa_cons (pv 5) (pa_cons (pv 2) pa_nil))))) (pg_any rfl (pgs_cons (pg_name (i := 6) scRo.nd rfl (.inl rfl)) (pgs_cons (pg_name (i := 7) scRo.nd rfl (.inl rfl)) pgs_nil))))
    (pss_one (ps_if (PW.pt (pw_and (pt_cmp (pc_din (hu1 hr.units) (pv 6) (pv 3)) rfl) (pw_and1 (pt_cmp (pc_dnotin (hu1 hr.units) (pv 7) (pv 3)) rfl)))) (pss_cons (ps_set (i := 8) scRo.nd rfl (.inl rfl) (pe_op op_cat (pe_dget (hu1 hr.units) (pv 3) (pv 6) (fun _ _ => rfl)) (pe_lst (pa_cons (pe_tup (pa_cons (pv 5) (pa_cons (pv 2) pa_nil))) pa_nil))))
    (pss_one (ps_dput (hu1 hr.units) (pv 4) (pv 7) (pe_callB (r := rMin2D K) (call_min2D rfl hr.units) rfl m_min boot_min' (pa_cons (pe_dget2 (hu1 hr.units) (pv 4) (pv 7) (pv 8) ⟨rfl, rfl, rfl, rfl⟩) (pa_cons (pv 8) pa_nil))) rfl))) pss_nil))))
    (pss_one (ps_set (i := 3) scRo.nd rfl (.inl rfl) (pe_merge2 (pv 3) (pv 4)))))))
    (pss_one (ps_ret (pv 3)))))), ?_⟩
  have hbl := boats_len ok r
  have hnn : 0 ≤ basW r c := by rw [← hbl]; omega
  have hnB : basW r c ≤ 10 := by
    cases r with
    | true => exact okc.r2
    | false => exact okc.b2
  have hnL : c.ls.length ≤ 12 := okc.n
  -- told
  refine ⟨_, rfl, _, rfl, u, r, s, rfl, hu, fun a ha => ?_⟩
  refine ⟨a, _, rfl, ha, fun D nD => dc_it (walk_enumT (K := K) (a := a) (xs := (boatsW r s).map V.int)) (fun i H5 => Same H H5 ∧ ∃ kvs, RoAt H5 D r (fun j => if j < (i : Int) then f0 c s r j else none) kvs ∧ kvs.length ≤ i) ?_ (fun i H5 _ h => Same.tup h.1 ha) (fun i x H5 H6 hi h hy => ?_) (fun H5 h => ?_)⟩
  · refine ⟨same_new nD, [], ⟨upd_same, List.nodup_nil, (fun k hk => by cases hk), fun j => .inl ⟨rfl, ?_⟩⟩, Nat.le_refl _⟩
    show (if j < ((0 : Nat) : Int) then f0 c s r j else none) = none
    split
    · unfold f0; rw [if_neg (by omega)]
    · rfl
  · obtain ⟨s5, kvs, ro, hl⟩ := h
    obtain ⟨T, xi, xv, rfl, nT, rfl, ei, ev⟩ := hy
    obtain rfl : V.int (i : Nat) = xi := Option.some.inj ei
    have ev' : ((boatsW r s).map V.int)[i]? = some xv := ev
    obtain ⟨z, ez, rfl⟩ := intz_at ev'
    have ez' : gt (boatsW r s) (i : Int) = z := by
      unfold gt
      rw [show ((i : Int)).toNat = i by omega, List.getD_eq_getElem?_getD, ez]; rfl
    rw [List.length_map] at hi
    have hD5 : H5 D = some (.dK kvs) := ro.e
    have hTD : T ≠ D := fun z => by rw [z, hD5] at nT; cases nT
    have sT := same_new nT (o := .tup [.int (i : Nat), .int z])
    have eT : (upd H5 T (.tup [.int (i : Nat), .int z])) T = some (.tup [.int (i : Nat), .int z]) := upd_same
    generalize upd H5 T (.tup [.int (i : Nat), .int z]) = H6 at sT eT
    have s6 := s5.trans sT
    have ro6 := ro.move sT
    refine ⟨T, _, rfl, .inr (.inl (.inl eT)), rfl, _, _, rfl, _, _, rfl, rfl, rfl, ?_⟩
    refine ⟨_, rfl, _, _, rfl, rfl, _, rfl, ?_⟩
    by_cases hz : 0 < z
    · rw [decide_eq_true hz]
      refine iteT ⟨_, rfl, (by show 0 ≤ sizeLine; decide), fun p np => ?_⟩
      have sp := same_new np (o := .lst [])
      have ep : (upd H6 p (.lst [])) p = some (.lst []) := upd_same
      have hpD : p ≠ D := fun z => by rw [z, ro6.e] at np; cases np
      generalize upd H6 p (.lst []) = H7 at sp ep
      have ro7 := ro6.move sp
      refine ⟨kvs, .inl (i : Int), rfl, ro7.e, small1000' (by omega), fun x o e => by rw [upd_ne (ne_of_none e nD)]; exact (s6.trans sp) _ _ e, putK kvs (.inl (i : Int)) (.ref p), ⟨upd_same, nodup_put ro7.n, key_put ro7.k, fun j => ?_⟩, by have := length_putK kvs (.inl (i : Int)) (.ref p); omega⟩
      rw [valV_put]
      by_cases hj : j = (i : Int)
      · subst hj
        refine .inr ⟨p, [], [], by rw [if_pos rfl], ?_, ⟨by rw [upd_ne hpD]; exact ep, rfl, fun j u h => by simp at h⟩, hpD⟩
        show (if (i : Int) < ((i + 1 : Nat) : Int) then f0 c s r (i : Int) else none) = some []
        rw [if_pos (by omega)]
        unfold f0
        rw [if_pos ⟨by omega, by omega, by rw [ez']; exact hz⟩]
      · have e2 : (if j < ((i + 1 : Nat) : Int) then f0 c s r j else none) = (if j < (i : Int) then f0 c s r j else none) := by
          by_cases q : j < (i : Int)
          · rw [if_pos q, if_pos (by omega)]
          · rw [if_neg q, if_neg (by omega)]
        rw [if_neg (fun z => hj (Sum.inl.inj z))]
        show (_ ∧ (if j < ((i + 1 : Nat) : Int) then f0 c s r j else none) = none) ∨ ∃ a us ks, _ ∧ (if j < ((i + 1 : Nat) : Int) then f0 c s r j else none) = some ks ∧ _
        rw [e2]
        rcases ro7.v j with h | ⟨a', us, ks, h1, h2, h3, h4⟩
        · exact .inl h
        · exact .inr ⟨a', us, ks, h1, h2, h3.move (by rw [upd_ne h4]; exact h3.e) (tp_dk ro7.e), h4⟩
    · rw [decide_eq_false hz]
      refine iteF ⟨s6, kvs, ?_, by omega⟩
      have e2 : (fun j : Int => if j < ((i + 1 : Nat) : Int) then f0 c s r j else none) = (fun j => if j < (i : Int) then f0 c s r j else none) := funext fun j => by
        by_cases q : j < (i : Int)
        · rw [if_pos q, if_pos (by omega)]
        · rw [if_neg q]
          split
          · obtain rfl : j = (i : Int) := by omega
            unfold f0
            rw [if_neg (fun h => by rw [ez'] at h; omega)]
          · rfl
      rw [e2]; exact ro6
  obtain ⟨s5, kvs, ro, hl⟩ := h
  have ef : (fun j : Int => if j < ((((boatsW r s).map V.int).length : Nat) : Int) then f0 c s r j else none) = f0 c s r := funext fun j => by
    rw [List.length_map, hbl]
    split
    · rfl
    · unfold f0; rw [if_neg (by omega)]
  rw [ef] at ro
  rw [List.length_map] at hl
  refine at_g (σ' := [some v, some u, some (.str (wS r)), some (.ref D), none, none, none, none, none, none, none]) rfl ?_
  refine ⟨_, rfl, ?_⟩
  refine at_g (σ' := [some v, some u, some (.str (wS r)), some (.ref D), some (.ref D), none, none, none, none, none, none]) rfl ?_
  have cb : ∀ g : Rf, cnt c r g ≤ 10 := fun g => by
    unfold cnt
    have := List.length_filter_le (fun j : Nat => (g (j : Int)).isNone) (List.range (basW r c).toNat)
    rw [List.length_range] at this; omega
  have kl : kvs.length ≤ 10 := by omega
  refine ⟨fun m σ H5 => ∃ (D G : Addr) (kvs gk : List (Key × V)) (g : Rf) (d : Nat) (y5 y6 y7 y8 y9 y10 : Option V), σ = [some v, some u, some (.str (wS r)), some (.ref D), some (.ref G), y5, y6, y7, y8, y9, y10] ∧ Same H H5 ∧ H D = none ∧ RoAt H5 D r g kvs ∧ RI c s r d g ∧ H5 G = some (.dK gk) ∧ (gk = [] → Rd c s r g) ∧ kvs.length + 12 * cnt c r g ≤ 130 ∧ m = 2 * cnt c r g + (if gk.isEmpty = true then 0 else 1),
    ⟨_, D, D, kvs, kvs, f0 c s r, 0, none, none, none, none, none, none, rfl, s5, nD, ro, ri0, ro.e, fun e => ri0.empty fun j => by rw [e] at ro; exact ro.nil j, by have := cb (f0 c s r); omega, rfl⟩, fun m σ H5 hW => ?_⟩
  clear ro s5 nD ef hl kl kvs D
  obtain ⟨D, G0, kvs, gk0, f, d, y5, y6, y7, y8, y9, y10, rfl, s5, nD, ro, ri, eG0, hdone, hlen, rfl⟩ := hW
  refine ⟨_, rfl, _, .inr (.inr ⟨gk0, eG0, rfl⟩), ?_⟩
  cases gk0 with
  | nil => exact iteF ⟨_, rfl, q D f kvs H5 s5 nD ro (hdone rfl)⟩
  | cons p0 gr =>
    refine iteT ⟨fun σ' H' => ∃ m', m' < 2 * cnt c r f + 1 ∧ ∃ (D G : Addr) (kvs gk : List (Key × V)) (g : Rf) (d : Nat) (y5 y6 y7 y8 y9 y10 : Option V), σ' = [some v, some u, some (.str (wS r)), some (.ref D), some (.ref G), y5, y6, y7, y8, y9, y10] ∧ Same H H' ∧ H D = none ∧ RoAt H' D r g kvs ∧ RI c s r d g ∧ H' G = some (.dK gk) ∧ (gk = [] → Rd c s r g) ∧ kvs.length + 12 * cnt c r g ≤ 130 ∧ m' = 2 * cnt c r g + (if gk.isEmpty = true then 0 else 1), fun σ' H' z => z, ?_⟩
    -- a new dict
    intro G nG
    refine at_g (σ' := [some v, some u, some (.str (wS r)), some (.ref D), some (.ref G), y5, y6, y7, y8, y9, y10]) rfl ?_
    have sG := same_new nG (o := .dK [])
    have roG : RoAt (upd H5 G (.dK [])) G r (fun _ => none) [] := ⟨upd_same, List.nodup_nil, (fun k hk => by cases hk), fun j => .inl ⟨rfl, rfl⟩⟩
    generalize upd H5 G (.dK []) = H6 at sG roG
    obtain ⟨a, g', vs, rfl, ha, hg, hvl, _⟩ := hc.ex
    have s6 := s5.trans sG
    refine ⟨_, rfl, a, _, _, _, rfl, rfl, Same.sq2 s6 ha, rfl, g', vs, rfl, Same.sq2 s6 hg, _, rfl, by omega, by omega, for_it walk_range (fun n σ H7 => ∃ (gk : List (Key × V)) (g : Rf) (y5 y6 y7 y8 y9 y10 : Option V), σ = [some (.ref a), some u, some (.str (wS r)), some (.ref D), some (.ref G), y5, y6, y7, y8, y9, y10] ∧ Same H5 H7 ∧ RoAt H7 G r g gk ∧ GI c s r f n g ∧ gk.length ≤ n) ⟨[], fun _ => none, y5, y6, y7, y8, y9, y10, rfl, sG, roG, ⟨(fun j ks h => by cases h), fun i row hi => absurd hi (Nat.not_lt_zero _)⟩, Nat.le_refl _⟩ (fun _ _ _ _ _ => trivial) (fun n x σ H7 H8 hn h hy => ?_) (fun σ H7 h => ?_)⟩
    · obtain ⟨gk, g, y5, y6, y7, y8, y9, y10, rfl, s7, roG7, gi, hgl⟩ := h
      obtain ⟨rfl, rfl⟩ := hy
      have hn' : n < c.ls.length := by rw [← hvl]; exact hn
      have hns : n < s.ls.length := by rw [ok.n]; exact hn'
      refine at_g (σ' := [some (.ref a), some u, some (.str (wS r)), some (.ref D), some (.ref G), some (.int (n : Nat)), y6, y7, y8, y9, y10]) (by show _ = [some (V.ref a), some u, some (V.str (wS r)), some (V.ref D), some (V.ref G), some (V.int (n : Nat)), y6, y7, y8, y9, y10]; rw [← Int.zero_add (n : Int)]; rfl) ?_
      have s07 := s5.trans s7
      refine ⟨_, rfl, _, rfl, _, rfl, _, rfl, nil_go ⟨_, u, n, r, c, s, rfl, hc.same s07, (snAny_t hu).same s07, hn', hns, fun p H8 s8 np ep => ?_⟩⟩
      refine ⟨p, _, rfl, .inr (.inl (.inl ep)), rfl, _, _, rfl, _, _, rfl, rfl, ?_⟩
      refine at_s (σ' := [some (.ref a), some u, some (.str (wS r)), some (.ref D), some (.ref G), some (.int (n : Nat)), some (.int (fromTo c s n r).1), some (.int (fromTo c s n r).2), y8, y9, y10]) rfl ?_
      have s58 := s7.trans s8
      have roD8 := ro.move s58
      have roG8 := roG7.move s8
      have skip : (∀ row, f (fromTo c s n r).1 = some row → f (fromTo c s n r).2 ≠ none) → GI c s r f (n + 1) g := fun hsk => ⟨gi.new, fun i row hi h1 h2 => by
        by_cases e : i < n
        · exact gi.cov i row e h1 h2
        · obtain rfl : i = n := by omega
          exact absurd h2 (hsk row h1)⟩
      refine ⟨_, rfl, _, rfl, D, _, rfl, DGet.k (k := .inl (fromTo c s n r).1) roD8.e, _, rfl, ?_⟩
      rcases roD8.v (fromTo c s n r).1 with ⟨h1, h2⟩ | ⟨la, lus, row, h1, h2, h3, h4⟩
      · rw [h1]
        exact iteF (iteF ⟨gk, g, _, _, _, _, _, _, rfl, s58, roG8, skip (fun row h => by rw [h2] at h; cases h), by omega⟩)
      · rw [h1]
        refine iteT ⟨_, rfl, _, rfl, D, _, rfl, DGet.k (k := .inl (fromTo c s n r).2) roD8.e, _, rfl, ?_⟩
        rcases roD8.v (fromTo c s n r).2 with ⟨k1, k2⟩ | ⟨ka, kus, krow, k1, k2, k3, k4⟩
        · rw [k1]
          refine iteT ?_
          have gD : DGet H8 D (.int (fromTo c s n r).1) (some (.ref la)) := by
            have := DGet.k (k := .inl (fromTo c s n r).1) roD8.e
            rw [h1] at this; exact this
          refine ⟨_, rfl, _, rfl, D, _, rfl, gD, _, rfl, _, rfl, (by show 2 ≤ sizeLine; decide), fun T nT => ⟨(by show 1 ≤ sizeLine; decide), fun L nL => ?_⟩⟩
          have sT := same_new nT (o := .tup [.int (n : Nat), .str (wS r)])
          have eT : (upd H8 T (.tup [.int (n : Nat), .str (wS r)])) T = some (.tup [.int (n : Nat), .str (wS r)]) := upd_same
          generalize upd H8 T (.tup [.int (n : Nat), .str (wS r)]) = H9 at sT eT nL
          have sL := same_new nL (o := .lst [.ref T])
          have eL : (upd H9 L (.lst [.ref T])) L = some (.lst [.ref T]) := upd_same
          generalize upd H9 L (.lst [.ref T]) = H10 at sL eL
          have s810 := sT.trans sL
          have h3b := h3.move (s810 _ _ h3.e) (Tp.of s810)
          have hlus : lus.length ≤ 10 := by rw [h3b.l]; unfold rowOf; rw [List.length_map]; have := (ri.rng _ _ h2).2; have := ri.ct _ _ h2; omega
          refine ⟨la, L, _, _, rfl, rfl, h3b.e, eL, Nat.le_of_lt (small1000' (by show _ + 1 ≤ 1000; omega)), fun R nR => ?_⟩
          refine at_s (σ' := [some (.ref a), some u, some (.str (wS r)), some (.ref D), some (.ref G), some (.int (n : Nat)), some (.int (fromTo c s n r).1), some (.int (fromTo c s n r).2), some (.ref R), y9, y10]) rfl ?_
          have sR := same_new nR (o := .lst (lus ++ [.ref T]))
          have eR : (upd H10 R (.lst (lus ++ [.ref T]))) R = some (.lst (lus ++ [.ref T])) := upd_same
          generalize upd H10 R (.lst (lus ++ [.ref T])) = H11 at sR eR
          have s811 := s810.trans sR
          have MR : MvAt H11 R (rowOf r (row ++ [n])) (lus ++ [.ref T]) := by
            rw [rowOf_snoc]
            refine ⟨eR, by rw [List.length_append, List.length_append, h3b.l]; rfl, fun j y hj => ?_⟩
            by_cases e : j < lus.length
            · rw [List.getElem?_append_left e] at hj
              obtain ⟨t', m', e1, e2, e3⟩ := h3b.d j y hj
              exact ⟨t', m', e1, by rw [List.getElem?_append_left (by rw [← h3b.l]; exact e)]; exact e2, sR _ _ e3⟩
            · rw [List.getElem?_append_right (by omega)] at hj
              have hj0 : j - lus.length = 0 := by
                have := (List.getElem?_eq_some_iff.mp hj).1
                simp at this; omega
              rw [hj0] at hj
              obtain rfl : V.ref T = y := Option.some.inj hj
              exact ⟨T, (n, r), rfl, by rw [List.getElem?_append_right (by rw [← h3b.l]; omega), ← h3b.l, hj0]; rfl, sR _ _ (sL _ _ eT)⟩
          have roG11 := roG8.move s811
          have hRG : R ≠ G := fun z => by rw [z, (roG8.move s810).e] at nR; cases nR
          have s511 := s58.trans s811
          have dpm : ∀ {x : Addr} {ks : List Nat} {us : List V}, MvAt H11 x (rowOf r ks) us → Dp K H11 (.ref x) (.list ((rowOf r ks).map mvD)) := fun {x ks us} M => .lst (SqL.of M.e) (MvAt.dp (a := x) M.l M.d)
          have fin : ∀ (va : Addr) (vus : List V) (vks : List Nat), MvAt H11 va (rowOf r vks) vus → va ≠ G → (∃ row i, vks = row ++ [i] ∧ i < c.ls.length ∧ (fromTo c s i r).2 = (fromTo c s n r).2 ∧ f (fromTo c s i r).1 = some row) → ∃ (gk' : List (Key × V)) (g : Rf) (y5' y6' y7' y8' y9' y10' : Option V), [some (V.ref a), some u, some (V.str (wS r)), some (V.ref D), some (V.ref G), some (.int (n : Nat)), some (.int (fromTo c s n r).1), some (.int (fromTo c s n r).2), some (.ref R), y9, y10] = [some (V.ref a), some u, some (V.str (wS r)), some (V.ref D), some (V.ref G), y5', y6', y7', y8', y9', y10'] ∧ Same H5 (upd H11 G (.dK (putK gk (.inl (fromTo c s n r).2) (.ref va)))) ∧ RoAt (upd H11 G (.dK (putK gk (.inl (fromTo c s n r).2) (.ref va)))) G r g gk' ∧ GI c s r f (n + 1) g ∧ gk'.length ≤ n + 1 := by
            intro va vus vks M hva hnew
            refine ⟨_, fun j => if j = (fromTo c s n r).2 then some vks else g j, _, _, _, _, _, _, rfl, fun x o e => by rw [upd_ne (ne_of_none e nG)]; exact s511 _ _ e, ⟨upd_same, nodup_put roG11.n, key_put roG11.k, fun j => ?_⟩, ⟨fun j ks h => ?_, fun i row' hi h1' h2' => ?_⟩, by have := length_putK gk (.inl (fromTo c s n r).2) (.ref va); omega⟩
            · rw [valV_put]
              by_cases e : j = (fromTo c s n r).2
              · subst e
                refine .inr ⟨va, vus, vks, by rw [if_pos rfl], by rw [if_pos rfl], M.move (by rw [upd_ne hva]; exact M.e) (tp_dk roG11.e), hva⟩
              · rw [if_neg (fun z => e (Sum.inl.inj z)), if_neg e]
                rcases roG11.v j with h | ⟨a', us', ks', x1, x2, x3, x4⟩
                · exact .inl h
                · exact .inr ⟨a', us', ks', x1, x2, x3.move (by rw [upd_ne x4]; exact x3.e) (tp_dk roG11.e), x4⟩
            · by_cases e : j = (fromTo c s n r).2
              · rw [if_pos e] at h
                obtain rfl := Option.some.inj h
                obtain ⟨row', i, z1, z2, z3, z4⟩ := hnew
                exact ⟨by rw [e]; exact k2, row', i, z1, z2, by rw [e]; exact z3, z4⟩
              · rw [if_neg e] at h
                exact gi.new j ks h
            · by_cases e : (fromTo c s i r).2 = (fromTo c s n r).2
              · show (if (fromTo c s i r).2 = (fromTo c s n r).2 then some vks else g (fromTo c s i r).2) ≠ none
                rw [if_pos e]; exact fun z => nomatch z
              · show (if (fromTo c s i r).2 = (fromTo c s n r).2 then some vks else g (fromTo c s i r).2) ≠ none
                rw [if_neg e]
                by_cases e' : i < n
                · exact gi.cov i row' e' h1' h2'
                · obtain rfl : i = n := by omega
                  exact absurd rfl e
          have newR : ∃ row' i, row ++ [n] = row' ++ [i] ∧ i < c.ls.length ∧ (fromTo c s i r).2 = (fromTo c s n r).2 ∧ f (fromTo c s i r).1 = some row' := ⟨row, n, rfl, hn', rfl, h2⟩
          have lt0 : gk.length < sizeLine := small1000' (by omega)
          refine ⟨_, rfl, G, rfl, .inl ⟨gk, .inl roG11.e⟩, _, rfl, _, rfl, _, DGet.k (k := .inl (fromTo c s n r).2) roG11.e, _, rfl, ?_⟩
          rcases roG11.v (fromTo c s n r).2 with ⟨x1, x2⟩ | ⟨a', us', ks', x1, x2, x3, x4⟩
          · rw [x1]
            refine ⟨_, _, _, _, rfl, dpm MR, dpm MR, row_alike2 r _ _, row_depth r _ _, ?_⟩
            rw [show ∀ b : Bool, (if b = true then V.ref R else (none : Option V).getD (V.ref R)) = V.ref R from fun b => by cases b <;> rfl]
            exact ⟨_, rfl, _, rfl, G, _, rfl, .inl ⟨gk, .inl (fromTo c s n r).2, roG11.e, rfl, lt0, rfl⟩, fin R _ _ MR hRG newR⟩
          · rw [x1]
            refine ⟨_, _, _, _, rfl, dpm x3, dpm MR, row_alike2 r _ _, row_depth r _ _, ?_⟩
            cases PySem.W.dataLt (.list ((rowOf r (row ++ [n])).map mvD)) (.list ((rowOf r ks').map mvD)) with
            | true => exact ⟨_, rfl, _, rfl, G, _, rfl, .inl ⟨gk, .inl (fromTo c s n r).2, roG11.e, rfl, lt0, rfl⟩, fin R _ _ MR hRG newR⟩
            | false =>
              obtain ⟨_, row', i, z1, z2, z3, z4⟩ := gi.new _ _ x2
              exact ⟨_, rfl, _, rfl, G, _, rfl, .inl ⟨gk, .inl (fromTo c s n r).2, roG11.e, rfl, lt0, rfl⟩, fin a' _ _ x3 x4 ⟨row', i, z1, z2, z3, z4⟩⟩
        · rw [k1]
          exact iteF ⟨gk, g, _, _, _, _, _, _, rfl, s58, roG8, skip (fun row h e => by rw [k2] at e; cases e), by omega⟩
    · obtain ⟨gk, g, y5, y6, y7, y8, y9, y10, rfl, s7, roG7, gi, hgl⟩ := h
      rw [hvl] at gi hgl
      have roD7 := ro.move s7
      intro p np
      have hDp : D ≠ p := fun z => by rw [← z, roD7.e] at np; cases np
      have hGp : G ≠ p := fun z => by rw [← z, roG7.e] at np; cases np
      refine ⟨_, rfl, D, kvs, rfl, hDp, upd_same, by rw [upd_ne hDp]; exact roD7.e, by omega, _, rfl, G, gk, rfl, hGp, upd_same, by rw [upd_ne hGp, upd_ne hGp]; exact roG7.e, by omega, ?_⟩
      refine at_g (σ' := [some (.ref a), some u, some (.str (wS r)), some (.ref p), some (.ref G), y5, y6, y7, y8, y9, y10]) rfl ?_
      rw [upd_upd, upd_upd]
      have sp := same_new np (o := .dK (mergeK (mergeK [] kvs) gk))
      have hnd : ((mergeK [] kvs).map (·.1)).Nodup := nodup_merge (more := kvs) List.nodup_nil
      have roP : RoAt (upd H7 p (.dK (mergeK (mergeK [] kvs) gk))) p r (both g f) (mergeK (mergeK [] kvs) gk) := by
        refine ⟨upd_same, nodup_merge hnd, key_merge roG7.k (key_merge roD7.k (fun k hk => by cases hk)), fun j => ?_⟩
        rw [valV_merge _ roG7.n, valV_merge _ roD7.n]
        rcases roG7.v j with ⟨h1, h2⟩ | ⟨la, lus, row, h1, h2, h3, h4⟩
        · rw [h1, both_none h2]
          rcases roD7.v j with ⟨k1, k2⟩ | ⟨ka, kus, krow, k1, k2, k3, k4⟩
          · rw [k1]; exact .inl ⟨rfl, k2⟩
          · rw [k1]
            exact .inr ⟨ka, kus, krow, rfl, k2, k3.move (sp _ _ k3.e) (Tp.of sp), fun z => by rw [← z, k3.e] at np; cases np⟩
        · rw [h1, both_some h2]
          exact .inr ⟨la, lus, row, rfl, rfl, h3.move (sp _ _ h3.e) (Tp.of sp), fun z => by rw [← z, h3.e] at np; cases np⟩
      have eG := sp _ _ roG7.e
      have nP : H p = none := (s5.trans s7).free np
      have ln := length_mergeK gk (mergeK [] kvs)
      have ln2 := length_mergeK kvs []
      rw [List.length_nil] at ln2
      have sH := (s5.trans s7).trans sp
      cases gk with
      | nil =>
        have gn : ∀ j, g j = none := fun j => roG7.nil j
        rw [both_empty gn] at roP
        refine ⟨2 * cnt c r f + 0, by omega, p, G, _, [], f, d, _, _, _, _, _, _, rfl, sH, nP, roP, ri, eG, fun _ => ri.done gi gn, ?_, rfl⟩
        rw [List.length_nil] at ln; omega
      | cons pg gr' =>
        obtain ⟨j0, k0, h0⟩ := roG7.some
        obtain ⟨ri', hcn⟩ := ri.step okc gi h0
        refine ⟨2 * cnt c r (both g f) + 1, by omega, p, G, _, _, both g f, d + 1, _, _, _, _, _, _, rfl, sH, nP, roP, ri', eG, (fun z => by cases z), ?_, rfl⟩
        omega
end
end XL
namespace XL
open PySem PySem.Spec PyProof.Rows L2
abbrev sAs : Stmt := topS 13
abbrev sWo : Stmt := topS 17
section
variable {P : Program} {w : World} {K : PySem.W.Frag} {mg : Str → Option Value} {base : Heap}
/-! ### asleep, woken -/
def slp (c : Cn) (r : Bool) (f : Rf) : List Nat := (List.range (basW r c).toNat).filter fun j : Nat => (f (j : Int)).isNone
abbrev natI (ns : List Nat) : List Int := ns.map fun n : Nat => (n : Int)
abbrev nAs : List Str := ["canal", "standing", "water", "awake", "basin"]
theorem scAs : FnScope nAs ["canal", "standing", "water"] (defScope sAs) := ⟨rfl, rfl, rfl, by decide +kernel, rfl, by decide +kernel, by decide +kernel⟩
def spAs (K : PySem.W.Frag) : Sp := fun vs H Q _ => ∃ (v u : V) (r : Bool) (c : Cn) (s : Sn) (B : Int), vs = [v, u, .str (wS r)] ∧ CnAny K H v c ∧ Dp K H u (snD s) ∧ okCn 10 12 c ∧ okSn c B s ∧ Alone s r ∧
  ∀ (L : Addr) (f : Rf) (H' : Hp), Same H H' → H L = none → Rd c s r f → H' L = some (.lst ((natI (slp c r f)).map V.int)) → Q (.ref L) H'
theorem ok_as {f fa fo fb : Addr} {fd fda fdo fdb : FuncData} {k : Nat} (F : Fun K "asleep" "asleep" sAs f fd) (Al : Fns P w K mg base k "be_alone" ["standing", "water"] (spAl K) fa fda) (Ro : Fns P w K mg base k "roads" ["canal", "standing", "water"] (spRo K) fo fdo) (Ba : Fns P w K mg base k "basins_of" ["canal", "water"] (spBas K) fb fdb)
    (m_range : mg "range" = none) : FnOk P w K mg base CX0 (k + 1) f fd ["canal", "standing", "water"] (spAs K) := by
  refine F.ok scAs (fun vs H Q E h => ?_) (fun cdv A outer s H vs Q E hr h => ?_)
  · obtain ⟨v, u, r, c, s, B, rfl, _⟩ := h
    rfl
  obtain ⟨v, u, r, c, s, B, rfl, hc, hu, okc, ok, hal, q⟩ := h
  refine ⟨_, (pss_cons (ps_expr (pe_fn Al hr rfl (pa_cons (pv 1) (pa_cons (pv 2) pa_nil))))
    (pss_cons (ps_set (i := 3) scAs.nd rfl (.inr rfl) (pe_fn Ro hr rfl (pa_cons (pv 0) (pa_cons (pv 1) (pa_cons (pv 2) pa_nil)))))
    (pss_one (ps_ret (pe_lc (own := [("basin", 4)]) (g := gName 4) rfl scAs.nd (pi_range1 rfl m_range (pa_cons (pe_fn Ba hr rfl (pa_cons (pv 0) (pa_cons (pv 2) pa_nil))) pa_nil)) (blkOk_by (own := [("basin", 4)]) (N := nAs) (sc := defScope sAs) (by decide +kernel)) (fun _ _ _ _ _ => (pg_name (i := 4) scAs.nd rfl (.inl rfl))) (fun _ _ _ _ _ => (pts_one (pt_cmp (pc_dnotin (hu1 hr.units) (pv 4) (pv 3)) rfl))) (fun _ _ _ _ _ => pe_hide (pv 4))))))), ?_⟩
  have hnn : 0 ≤ basW r c := by rw [← boats_len ok r]; omega
  have hnB : basW r c ≤ 10 := by
    cases r with
    | true => exact okc.r2
    | false => exact okc.b2
  refine ⟨_, rfl, _, rfl, nil_go ⟨u, r, s, rfl, hu, hal, fun H1 s1 => ?_⟩⟩
  refine ⟨_, rfl, _, rfl, _, rfl, nil_go ⟨v, u, r, c, s, B, rfl, hc.same s1, Dp.same s1 _ hu, okc, ok, fun D f kvs H2 s2 nD ro rd => ?_⟩⟩
  refine at_g (σ' := [some v, some u, some (.str (wS r)), some (.ref D), none]) rfl ?_
  have s12 := s1.trans s2
  refine ⟨_, rfl, _, rfl, nil_go ⟨v, r, c, rfl, hc.same s12, ?_⟩⟩
  obtain ⟨nb, enb⟩ : ∃ nb : Nat, basW r c = (nb : Int) := ⟨(basW r c).toNat, by omega⟩
  have esl : slp c r f = (List.range nb).filter fun j : Nat => (f (j : Int)).isNone := by unfold slp; rw [enb]; rfl
  refine nil_go ⟨_, rfl, by omega, by omega, fun L nL => ?_⟩
  rw [enb]
  refine lc_it walk_range (fun i Hc => Hc L = some (.lst ((natI ((List.range i).filter fun j : Nat => (f (j : Int)).isNone)).map V.int)) ∧ Same H2 Hc) ⟨upd_same, same_new nL⟩ (fun _ _ _ _ => trivial) (fun i x Hc H' hi h hy => ?_) (fun Hc h => ?_)
  · obtain ⟨eL, sc⟩ := h
    obtain ⟨rfl, rfl⟩ := hy
    refine ⟨rfl, ?_⟩
    have ro' := ro.move sc
    refine ⟨_, rfl, _, rfl, D, _, rfl, DGet.k (k := .inl (0 + (i : Int))) ro'.e, _, rfl, ?_⟩
    rw [Int.zero_add]
    have hl : ((natI ((List.range i).filter fun j : Nat => (f (j : Int)).isNone)).map V.int).length ≤ 1000 := by
      rw [List.length_map, List.length_map]
      have := List.length_filter_le (fun j : Nat => (f (j : Int)).isNone) (List.range i)
      rw [List.length_range] at this
      have h2 : i < nb := hi
      omega
    rcases ro'.v (i : Int) with ⟨h1, h2⟩ | ⟨la, lus, row, h1, h2, _, _⟩
    · rw [h1]
      refine iteT ⟨L, _, eL, _, rfl, fun _ => ⟨_, upd_same, small1000' hl, ?_, fun z o e => ?_⟩⟩
      · rw [upd_same, List.range_succ, List.filter_append, List.filter_cons_of_pos (by rw [h2]; rfl), List.filter_nil]
        show some (HO.lst (List.map V.int (natI (List.filter (fun j : Nat => (f (j : Int)).isNone) (List.range i))) ++ [V.int (0 + (i : Int))])) = _
        unfold natI
        rw [List.map_append, List.map_append, Int.zero_add]
        rfl
      · have hzD : z ≠ L := ne_of_none e nL
        rw [upd_ne hzD, upd_ne hzD]
        unfold delH
        rw [if_neg hzD]
        exact sc _ _ e
    · rw [h1]
      refine iteF ⟨?_, sc⟩
      rw [List.range_succ, List.filter_append, List.filter_cons_of_neg (by rw [h2]; exact fun z => nomatch z), List.filter_nil, List.append_nil]
      exact eL
  · obtain ⟨eL, sc⟩ := h
    refine q L f Hc (s12.trans sc) (s12.free nL) rd ?_
    rw [esl]; exact eL
abbrev nWo : List Str := ["canal", "standing", "water", "basin"]
theorem scWo : FnScope nWo ["canal", "standing", "water", "basin"] (defScope sWo) := ⟨rfl, rfl, rfl, by decide +kernel, rfl, by decide +kernel, by decide +kernel⟩
def spWo (K : PySem.W.Frag) : Sp := fun vs H Q _ => ∃ (v u : V) (r : Bool) (j : Int) (c : Cn) (s : Sn) (B : Int), vs = [v, u, .str (wS r), .int j] ∧ CnAny K H v c ∧ Dp K H u (snD s) ∧ okCn 10 12 c ∧ okSn c B s ∧ Alone s r ∧
  ∀ (f : Rf) (H' : Hp), Same H H' → Rd c s r f → ((f j = none → Q .non H') ∧ ∀ (a : Addr) (us : List V) (ks : List Nat), f j = some ks → MvAt H' a (rowOf r ks) us → Q (.ref a) H')
theorem ok_wo {f fa fo : Addr} {fd fda fdo : FuncData} {k : Nat} (F : Fun K "woken" "woken" sWo f fd) (Al : Fns P w K mg base k "be_alone" ["standing", "water"] (spAl K) fa fda) (Ro : Fns P w K mg base k "roads" ["canal", "standing", "water"] (spRo K) fo fdo) : FnOk P w K mg base CX0 (k + 1) f fd ["canal", "standing", "water", "basin"] (spWo K) := by
  refine F.ok scWo (fun vs H Q E h => ?_) (fun cdv A outer s H vs Q E hr h => ?_)
  · obtain ⟨v, u, r, j, c, s, B, rfl, _⟩ := h
    rfl
  obtain ⟨v, u, r, j, c, s, B, rfl, hc, hu, okc, ok, hal, q⟩ := h
  refine ⟨_, (pss_cons (ps_expr (pe_fn Al hr rfl (pa_cons (pv 1) (pa_cons (pv 2) pa_nil))))
    (pss_one (ps_ret (pe_dget1 (hu1 hr.units) (pe_fn Ro hr rfl (pa_cons (pv 0) (pa_cons (pv 1) (pa_cons (pv 2) pa_nil)))) (pv 3) ⟨rfl, rfl, rfl, rfl⟩)))), ?_⟩
  refine ⟨_, rfl, _, rfl, nil_go ⟨u, r, s, rfl, hu, hal, fun H1 s1 => ?_⟩⟩
  refine ⟨_, rfl, _, rfl, _, rfl, nil_go ⟨v, u, r, c, s, B, rfl, hc.same s1, Dp.same s1 _ hu, okc, ok, fun D f kvs H2 s2 nD ro rd => ?_⟩⟩
  have s12 := s1.trans s2
  refine ⟨D, rfl, .inl ⟨kvs, .inl ro.e⟩, _, rfl, _, DGet.k (k := .inl j) ro.e, ?_⟩
  obtain ⟨q1, q2⟩ := q f H2 s12 rd
  rcases ro.v j with ⟨h1, h2⟩ | ⟨la, lus, row, h1, h2, h3, h4⟩
  · rw [h1]; exact q1 h2
  · rw [h1]; exact q2 la lus row h2 h3

end
end XL
namespace XL
open PySem PySem.Spec PyProof.Rows L2
/-! ### zip of three, each a list or a tuple -/
def SqB (K : PySem.W.Frag) (b : Bool) (H : Hp) (a : Addr) (xs : List V) : Prop := match b with | true => SqL K H a xs | false => SqT K H a xs
def ItB (b : Bool) (h : Heap) (it a : Addr) (i : Nat) : Prop := match b with | true => h.IsListIter it a i | false => h.IsTupleIter it a i
def SeqB (b : Bool) (h : Heap) (a : Addr) (its : Array Value) : Prop := match b with | true => h.IsList a its | false => h.IsTuple a its
theorem sqB_of {K : PySem.W.Frag} {H : Hp} {a : Addr} {xs : List V} (h : Sq2 K H a xs) : ∃ b, SqB K b H a xs := by
  rcases h with h | h
  · exact ⟨true, h⟩
  · exact ⟨false, h⟩
theorem Same.sqB {K : PySem.W.Frag} {b : Bool} {H H' : Hp} {a : Addr} {xs : List V} (s : Same H H') (h : SqB K b H a xs) : SqB K b H' a xs := by
  cases b with
  | true => exact s.seq h
  | false => exact Same.tup s h
theorem ItB.obj {b : Bool} {h : Heap} {it a : Addr} {i : Nat} (q : ItB b h it a i) : ∃ o, h.get? it = some o ∧ ∀ v, o.data ≠ .cell v := by
  cases b with
  | true => obtain ⟨o, e, _, d⟩ := q; exact ⟨o, e, fun v z => by rw [d] at z; cases z⟩
  | false => obtain ⟨o, e, _, d⟩ := q; exact ⟨o, e, fun v z => by rw [d] at z; cases z⟩
theorem ItB.at {b : Bool} {h h' : Heap} {it a : Addr} {i : Nat} (q : ItB b h it a i) (k : ∀ o, h.get? it = some o → h'.get? it = some o) : ItB b h' it a i := by
  cases b with
  | true => exact Heap.IsListIter.at q k
  | false => exact Heap.IsTupleIter.at q k
theorem drawsB {prog : Program} {w : World} {A : Around} (hA : A.handled = none) (b : Bool) (it a : Addr) (hne : a ≠ it) (its : Array Value) : Draws prog w A it [it, a] its.size (fun i v => its[i]? = some v) (fun i h => ItB b h it a i ∧ SeqB b h a its) := by
  cases b with
  | true => exact Draws.list hA it a hne its
  | false => exact Draws.tuple hA it a hne its
theorem seqB_of {X : Cx} {pins : List (Addr × Obj)} {σ : L2.St} {H : Hp} {s : Shared} {a : Addr} {xs : List V} {b : Bool} (I : Inv X pins σ H s) (h : SqB X.K b H a xs) : ∃ its, Vals xs its ∧ SeqB b s.heap a its.toArray ∧ a < s.heap.objs.size := by
  cases b with
  | true =>
    obtain ⟨its, rv, p, _⟩ := I.list h
    exact ⟨its, rv, p.isList, p.lt⟩
  | false =>
    obtain ⟨its, rv, p, _⟩ := I.tuple h
    obtain ⟨o, ho, _⟩ := id p
    exact ⟨its, rv, p, Heap.lt_size ho⟩
theorem sqB_inj {X : Cx} {pins : List (Addr × Obj)} {σ : L2.St} {H : Hp} {s : Shared} {a : Addr} {xs ys : List V} {b : Bool} (I : Inv X pins σ H s) (h : SqB X.K b H a xs) (h' : SqB X.K b H a ys) : xs = ys := by
  cases b with
  | true => exact I.list_inj h h'
  | false => exact I.tuple_inj h h'
theorem beginsB (b : Bool) (a : Addr) (its : Array Value) : ∃ o, Begins (.ref a) o (fun h => SeqB b h a its) ∧ ∀ (h : Heap) (it : Addr), h.get? it = some o → ItB b h it a 0 := by
  cases b with
  | true => exact ⟨_, begins_list a its, fun h it e => ⟨_, e, rfl, rfl⟩⟩
  | false => exact ⟨_, begins_tuple a its, fun h it e => ⟨_, e, rfl, rfl⟩⟩
def Itz3B (K : PySem.W.Frag) (x1 x2 x3 : Bool) (a b c : Addr) : It :=
  ⟨fun i H => ∃ (xs ys zs : List V) (x y z : V), SqB K x1 H a xs ∧ SqB K x2 H b ys ∧ SqB K x3 H c zs ∧ xs[i]? = some x ∧ ys[i]? = some y ∧ zs[i]? = some z,
    fun i H v H' => ∃ T x y z, v = .ref T ∧ H T = none ∧ H' = upd H T (.tup [x, y, z]) ∧ (∀ xs, SqB K x1 H a xs → xs[i]? = some x) ∧ (∀ ys, SqB K x2 H b ys → ys[i]? = some y) ∧ ∀ zs, SqB K x3 H c zs → zs[i]? = some z,
    fun i H => ∃ xs ys zs : List V, SqB K x1 H a xs ∧ SqB K x2 H b ys ∧ SqB K x3 H c zs ∧ i ≤ xs.length ∧ i ≤ ys.length ∧ i ≤ zs.length ∧ (i = xs.length ∨ i = ys.length ∨ i = zs.length)⟩
theorem turn_zip3B {P : Program} {w : World} {K : PySem.W.Frag} {elts : List Expr} {kk : Nat} {tpos : Pos} {x1 x2 x3 : Bool} {a b c z TI TO i1 i2 i3 : Addr} (S : ZipSep3 z TI TO i1 i2 i3 [i1, a] [i2, b] [i3, c]) (na : a ≠ i1) (nb : b ≠ i2) (nc : c ≠ i3) :
    Turn P w K (.Tuple elts kk tpos) (Itz3B K x1 x2 x3 a b c) [z, TI, TO, i1, i2, i3] z (fun i h => IsZip h z TI TO .none ∧ IsTupOf3 h TI (.ref i1) (.ref i2) (.ref i3) ∧ (∃ x y u, IsTupOf3 h TO x y u) ∧ ItB x1 h i1 a i ∧ ItB x2 h i2 b i ∧ ItB x3 h i3 c i) where
  mem := by simp
  obj := fun i h st c hc => by
    obtain ⟨hz, hTI, ⟨x, y, u, hTO⟩, h1, h2, h3⟩ := st
    have e' : c = z ∨ c = TI ∨ c = TO ∨ c = i1 ∨ c = i2 ∨ c = i3 := by simpa using hc
    rcases e' with q | q | q | q | q | q
    · rw [q]; exact ⟨_, hz, fun v q => nomatch q⟩
    · rw [q]; exact ⟨_, hTI, fun v q => nomatch q⟩
    · rw [q]; exact ⟨_, hTO, fun v q => nomatch q⟩
    · rw [q]; exact ItB.obj h1
    · rw [q]; exact ItB.obj h2
    · rw [q]; exact ItB.obj h3
  keep := fun i h h' st k => by
    obtain ⟨hz, hTI, ⟨x, y, u, hTO⟩, h1, h2, h3⟩ := st
    exact ⟨k z (by simp) _ hz, k TI (by simp) _ hTI, ⟨x, y, u, k TO (by simp) _ hTO⟩, ItB.at h1 fun o q => k i1 (by simp) o q, ItB.at h2 fun o q => k i2 (by simp) o q, ItB.at h3 fun o q => k i3 (by simp) o q⟩
  item := by
    intro X hP hw hK hc i pins s σ H E I hf st hg
    subst hP hw hK
    obtain ⟨hz, hTI, ⟨x0, y0, u0, hTO⟩, h1, h2, h3⟩ := st
    obtain ⟨xs, ys, zs, x, y, z', hqx, hqy, hqz, hx, hy, hzz⟩ := hg
    obtain ⟨its, rv, p, _⟩ := seqB_of I hqx
    obtain ⟨its2, rv2, p2, _⟩ := seqB_of I hqy
    obtain ⟨its3, rv3, p3, _⟩ := seqB_of I hqz
    obtain ⟨u, hu, ru⟩ := rv.get hx
    obtain ⟨u2, hu2, ru2⟩ := rv2.get hy
    obtain ⟨u3, hu3, ru3⟩ := rv3.get hzz
    have hzl : z < s.heap.objs.size := Heap.lt_size hz
    have lt : ∀ {l : List Value} {v : Value}, l[i]? = some v → i < l.toArray.size := fun {l v} e => by rw [List.size_toArray]; exact (List.getElem?_eq_some_iff.mp e).1
    refine wpAny_pyNext_zipD3_item S (drawsB (A := X.A.in1) (I.ok.hd hc) x1 i1 a na its.toArray) (drawsB (A := X.A.in1) (I.ok.hd hc) x2 i2 b nb its2.toArray) (drawsB (A := X.A.in1) (I.ok.hd hc) x3 i3 c nc its3.toArray) hz hTI hTO ⟨h1, p⟩ ⟨h2, p2⟩ ⟨h3, p3⟩ (lt hu) (lt hu2) (lt hu3) fun v1 v2 v3 h' tk y1 y2 y3 zh TO' d1 d2 d3 hT hsz hk => ?_
    have ev : ∀ {l : List Value} {v v' : Value}, l.toArray[i]? = some v' → l[i]? = some v → v' = v := fun {l v v'} e1 e2 => by
      rw [List.getElem?_toArray, e2] at e1; exact (Option.some.inj e1).symm
    obtain rfl := ev y1 hu
    obtain rfl := ev y2 hu2
    obtain rfl := ev y3 hu3
    refine ⟨_, rfl, wpAny_letOwnedTupleGo_zip (s := { s with heap := h', toks := tk }) zh fun h'' z'' sb => ?_⟩
    have hT2 : h''.get? s.heap.objs.size = some { cls := .type "tuple", data := .seq #[v1, v2, v3] } := (sb.2 _ (Nat.ne_of_gt hzl)).trans hT
    have new : ObjOk X.prog X.w (upd H s.heap.objs.size (.tup [x, y, z'])) h'' s.heap.objs.size (.tup [x, y, z']) :=
      ⟨by show 3 ≤ sizeLine; decide, [v1, v2, v3], .cons ru (.cons ru2 (.cons ru3 .nil)), ⟨_, hT2, rfl, _, rfl⟩⟩
    have I1 : Inv X pins σ (upd H s.heap.objs.size (.tup [x, y, z'])) { s with heap := h'', toks := tk } :=
      I.turnedNew (ch := [z, TI, TO, i1, i2, i3]) (fun c o hb q => (sb.2 c (fun q' => hb (by simp [q']))).trans (hk c o (fun q' => hb (by simp [q'])) (fun q' => hb (by simp [q'])) (fun q' => hb (by simp [q'])) (fun q' => hb (by simp [q'])) (fun q' => hb (by simp [q'])) q)) hf (Nat.le_refl _) new
    refine ⟨.ref s.heap.objs.size, _, I1, rfl, ⟨_, x, y, z', rfl, I.hok.fresh (Nat.le_refl _), rfl, fun l hl => by rw [sqB_inj I hl hqx]; exact hx, fun l hl => by rw [sqB_inj I hl hqy]; exact hy, fun l hl => by rw [sqB_inj I hl hqz]; exact hzz⟩, ⟨z'', ?_, ⟨v1, v2, v3, ?_⟩, ?_, ?_, ?_⟩, fun c hcm => ?_⟩
    · exact (sb.2 _ S.TIz).trans (hk _ _ S.TIz S.TITO S.TIi1 S.TIi2 S.TIi3 hTI)
    · exact (sb.2 _ S.TOz).trans TO'
    · exact ItB.at d1.1 fun o q => (sb.2 _ (Ne.symm S.zi1)).trans q
    · exact ItB.at d2.1 fun o q => (sb.2 _ (Ne.symm S.zi2)).trans q
    · exact ItB.at d3.1 fun o q => (sb.2 _ (Ne.symm S.zi3)).trans q
    · have hlt : c < s.heap.objs.size := by
        have e' : c = z ∨ c = TI ∨ c = TO ∨ c = i1 ∨ c = i2 ∨ c = i3 := by simpa using hcm
        rcases e' with q | q | q | q | q | q
        · rw [q]; exact hzl
        · rw [q]; exact Heap.lt_size hTI
        · rw [q]; exact Heap.lt_size hTO
        · rw [q]; obtain ⟨_, e1, _⟩ := ItB.obj h1; exact Heap.lt_size e1
        · rw [q]; obtain ⟨_, e2, _⟩ := ItB.obj h2; exact Heap.lt_size e2
        · rw [q]; obtain ⟨_, e3, _⟩ := ItB.obj h3; exact Heap.lt_size e3
      rw [upd_ne (Nat.ne_of_lt hlt)]
      exact (hf c hcm).1
  done := by
    intro X hP hw hK hc i pins s σ H E I hf st hg
    subst hP hw hK
    obtain ⟨hz, hTI, ⟨x0, y0, u0, hTO⟩, h1, h2, h3⟩ := st
    obtain ⟨xs, ys, zs, hqx, hqy, hqz, e1, e2, e3, hend⟩ := hg
    obtain ⟨its, rv, p, _⟩ := seqB_of I hqx
    obtain ⟨its2, rv2, p2, _⟩ := seqB_of I hqy
    obtain ⟨its3, rv3, p3, _⟩ := seqB_of I hqz
    have l1 := rv.length
    have l2 := rv2.length
    have l3 := rv3.length
    exact wpAny_pyNext_zipD3_end S (drawsB (A := X.A.in1) (I.ok.hd hc) x1 i1 a na its.toArray) (drawsB (A := X.A.in1) (I.ok.hd hc) x2 i2 b nb its2.toArray) (drawsB (A := X.A.in1) (I.ok.hd hc) x3 i3 c nc its3.toArray) hz hTI hTO ⟨h1, p⟩ ⟨h2, p2⟩ ⟨h3, p3⟩ (by rw [List.size_toArray]; omega) (by rw [List.size_toArray]; omega) (by rw [List.size_toArray]; omega) (by rw [List.size_toArray, List.size_toArray, List.size_toArray]; omega)
      fun h' tk hk => ⟨rfl, I.turnedL (t' := tk) (ch := [z, TI, TO, i1, i2, i3]) (fun c o hb q =>
      hk c o (fun q' => hb (by simp [q'])) (fun q' => hb (by simp [q'])) (fun q' => hb (by simp [q'])) (fun q' => hb (by simp [q'])) (fun q' => hb (by simp [q'])) q) hf⟩
  self := fun A i s Q E st h => wpAny_pyIter_zip st.1 h
theorem walk_zip3B {K : PySem.W.Frag} {x1 x2 x3 : Bool} {a b c : Addr} {xs ys zs : List V} {n : Nat} (hn : n = min (min xs.length ys.length) zs.length) : Walk (Itz3B K x1 x2 x3 a b c) n (fun H => SqB K x1 H a xs ∧ SqB K x2 H b ys ∧ SqB K x3 H c zs) (YTrip (fun i => xs[i]?) (fun i => ys[i]?) (fun i => zs[i]?)) := by
  subst hn
  refine ⟨fun i _ hi q => ?_, fun _ q => ⟨xs, ys, zs, q.1, q.2.1, q.2.2, by omega, by omega, by omega, by omega⟩, fun i H v H' _ q y => ?_⟩
  · have h1 : i < xs.length := by omega
    have h2 : i < ys.length := by omega
    have h3 : i < zs.length := by omega
    exact ⟨xs, ys, zs, xs[i], ys[i], zs[i], q.1, q.2.1, q.2.2, by simp [h1], by simp [h2], by simp [h3]⟩
  · obtain ⟨T, x, y, z, h1, h2, h3, h4, h5, h6⟩ := y
    exact ⟨T, x, y, z, h1, h2, h3, h4 xs q.1, h5 ys q.2.1, h6 zs q.2.2⟩
def iZ3B (K : PySem.W.Frag) (ta : TA) : TI := fun σ H R => ta σ H fun vs H1 => ∃ a b c x1 x2 x3 xs ys zs, vs = [.ref a, .ref b, .ref c] ∧ SqB K x1 H1 a xs ∧ SqB K x2 H1 b ys ∧ SqB K x3 H1 c zs ∧
  ∀ J, Walk J (min (min xs.length ys.length) zs.length) (fun H => Same H1 H) (YTrip (fun i => xs[i]?) (fun i => ys[i]?) (fun i => zs[i]?)) → R J H1
theorem pi_z3B {X : Cx} {e e2 e3 : Expr} {ta : TA} {p pos tpos : Pos} {elts : List Expr} {kk : Nat} (hg : Gl X "zip") (hm : X.mg "zip" = none) (ha : PA X [e, e2, e3] ta)
    (hs : starEach [e, e2, e3] X.env = (false, eval e X.env) :: starEach [e2, e3] X.env := by rfl) (hpl : (backTo pos (starEach [e2, e3] X.env)).any (·.1) = false := by rfl) :
    PI X (.Tuple elts kk tpos) (.Call (.Name "zip" p) [e, e2, e3] [] pos) (iZ3B X.K ta) := by
  refine ⟨fun pins s σ H R I h => ?_⟩
  refine Call_ (ld_blt I hg hm PyProof.Rows.boot_zip (PyProof.Rows.callWith_type1 (thn (ha.run pos pins s σ H _ I h) fun us s1 ⟨vs, H1, I1, r1, q1⟩ => ?_) hs hpl))
  obtain ⟨a, b, c, x1, x2, x3, xs, ys, zs, ex, hqx, hqy, hqz, q⟩ := q1
  subst ex
  cases r1 with
  | cons r rr =>
    cases rr with
    | cons r' rr =>
      cases rr with
      | cons r'' rr =>
        cases rr
        cases r
        cases r'
        cases r''
        obtain ⟨its, rv, p1, la⟩ := seqB_of I1 hqx
        obtain ⟨its2, rv2, p2, lb⟩ := seqB_of I1 hqy
        obtain ⟨its3, rv3, p3, lc⟩ := seqB_of I1 hqz
        obtain ⟨o1, B1, k1⟩ := beginsB x1 a its.toArray
        obtain ⟨o2, B2, k2⟩ := beginsB x2 b its2.toArray
        obtain ⟨o3, B3, k3⟩ := beginsB x3 c its3.toArray
        have S := zip_sep3 (N := s1.heap.objs.size) (fp1 := [a]) (fp2 := [b]) (fp3 := [c]) (fun x hx => by rw [List.mem_singleton.mp hx]; exact la) (fun x hx => by rw [List.mem_singleton.mp hx]; exact lb) (fun x hx => by rw [List.mem_singleton.mp hx]; exact lc)
        refine zip_begins3 B1 B2 B3 p1 p2 p3 fun h' hz hTI hTO h1 h2 h3 hsz hk => wpAny_pyIter_zip hz ?_
        have I2 : Inv X pins σ H1 { s1 with heap := h' } := I1.kept (t' := s1.toks) hk
        refine ⟨s1.heap.objs.size + 5, [s1.heap.objs.size + 5, s1.heap.objs.size + 3, s1.heap.objs.size + 4, s1.heap.objs.size, s1.heap.objs.size + 1, s1.heap.objs.size + 2], _, _, H1, rfl, I2, turn_zip3B S (Nat.ne_of_lt la) (Nat.ne_of_lt (Nat.lt_succ_of_lt lb)) (Nat.ne_of_lt (Nat.lt_succ_of_lt (Nat.lt_succ_of_lt lc))), ⟨hz, hTI, ⟨_, _, _, hTO⟩, k1 _ _ h1, k2 _ _ h2, k3 _ _ h3⟩, fun x hcm => ?_, q _ ((walk_zip3B rfl).mono (fun H s => ⟨Same.sqB s hqx, Same.sqB s hqy, Same.sqB s hqz⟩) fun _ _ _ _ _ _ y => y)⟩
        have e' : x = s1.heap.objs.size + 5 ∨ x = s1.heap.objs.size + 3 ∨ x = s1.heap.objs.size + 4 ∨ x = s1.heap.objs.size ∨ x = s1.heap.objs.size + 1 ∨ x = s1.heap.objs.size + 2 := by simpa using hcm
        have hle : s1.heap.objs.size ≤ x := by
          rcases e' with z | z | z | z | z | z
          · rw [z]; exact Nat.le_add_right _ _
          · rw [z]; exact Nat.le_add_right _ _
          · rw [z]; exact Nat.le_add_right _ _
          · rw [z]; exact Nat.le_refl _
          · rw [z]; exact Nat.le_add_right _ _
          · rw [z]; exact Nat.le_add_right _ _
        exact I1.fpOk hle (I1.hok.fresh hle)
end XL
namespace XL
open PySem PyProof.Rows
section
variable {prog : Program} {w : World} {A : Around} {E : Value → Shared → Prop} {s : Shared} {z TI TO i1 i2 e : Addr}
variable {fp1 fp2 : List Addr} {n1 n2 i : Nat} {P1 P2 : Nat → Value → Prop} {St1 St2 : Nat → Heap → Prop}
/-- enumerate's next, whatever its iterator does -/
theorem enum_next {it : Addr} {j : Int} {old : Value} {Q : Value → Shared → Prop} (he : IsEnum s.heap e it j old)
    (h : wpAny (model prog w) A (Builtin.SmallTypes.nextOf (.ref it)) (fun x s1 => IsEnum s1.heap e it j old ∧ ∀ h' tk, IsEnumOut h' e it (j + 1) x s1.heap.objs.size →
      h'.get? s1.heap.objs.size = some { cls := .type "tuple", data := .seq #[.int j tk, x] } → h'.objs.size = s1.heap.objs.size + 1 →
      (∀ b o, b ≠ e → s1.heap.get? b = some o → h'.get? b = some o) → Q (.ref s1.heap.objs.size) { s1 with heap := h', toks := tk + 1 }) E s) :
    wpAny (model prog w) A (Builtin.«enumerate.__next__» ⟨[.ref e], []⟩) (fun fin s' => ∃ v, fin = .done (.ret v) ∧ Q v s') E s := by
  show wpAny _ _ (field (.ref e) 2 >>= _) _ _ _
  refine wpAny_bind (wpAny_field he rfl (x := .ref it) rfl ?_)
  refine wpAny_bind (wpAny_mono h (fun x s1 hx => ?_) fun _ _ z => z)
  obtain ⟨he1, hQ⟩ := hx
  obtain ⟨h1, g, d, tk, os⟩ := s1
  show wpAny _ _ (field (.ref e) 3 >>= _) _ _ _
  refine wpAny_bind (wpAny_field he1 rfl (x := rawInt j) rfl ?_)
  show wpAny _ _ (field (.ref e) 4 >>= _) _ _ _
  refine wpAny_bind (wpAny_field he1 rfl (x := .none) rfl ?_)
  show wpAny _ _ (mkInt j >>= _) _ _ _
  refine wpAny_bind (wpAny_mkInt ?_)
  change wpAny (model prog w) A (setField (.ref e) 3 (rawInt (j + 1)) >>= _) _ _ ⟨h1, g, d, tk + 1, os⟩
  have he1' : IsEnum h1 e it j old := he1
  refine wpAny_bind (wpAny_setField_rec he1' (by simp) fun h2 he2 q2 => ?_)
  have he2' : IsEnum h2 e it (j + 1) old := he2
  have q2' : Heap.SameBut e h1 h2 := q2
  change wpAny (model prog w) A (setField (.ref e) 4 .none >>= _) _ _ ⟨h2, g, d, tk + 1, os⟩
  refine wpAny_bind (wpAny_setField_rec he2' (by simp) fun h3 he3 q3 => ?_)
  have he3' : IsEnum h3 e it (j + 1) old := he3
  have q3' : Heap.SameBut e h2 h3 := q3
  change wpAny (model prog w) A (newTuple [.int j tk, x] >>= _) _ _ ⟨h3, g, d, tk + 1, os⟩
  refine wpAny_bind (wpAny_newTuple ?_)
  have z3 : h3.objs.size = h1.objs.size := by rw [q3'.1, q2'.1]
  have el : e < h1.objs.size := Heap.lt_size he1'
  have e4 : IsEnum (h3.push { cls := .type "tuple", data := .seq #[.int j tk, x] }) e it (j + 1) old := Heap.get?_push_of_some _ he3'
  have t4 : (h3.push { cls := .type "tuple", data := .seq #[.int j tk, x] }).get? h1.objs.size = some { cls := .type "tuple", data := .seq #[.int j tk, x] } := by rw [← z3]; exact Heap.get?_push_size _ rfl
  have z4 : (h3.push { cls := .type "tuple", data := .seq #[.int j tk, x] }).objs.size = h1.objs.size + 1 := by rw [Heap.size_push, z3]
  have k4 : ∀ b o, b ≠ e → h1.get? b = some o → (h3.push { cls := .type "tuple", data := .seq #[.int j tk, x] }).get? b = some o := fun b o hb y => Heap.get?_push_of_some _ (q3'.extBut b o hb (q2'.extBut b o hb y))
  rw [show (⟨h3, g, d, tk + 1, os⟩ : Shared).heap.objs.size = h1.objs.size from z3]
  generalize h3.push { cls := .type "tuple", data := .seq #[.int j tk, x] } = h4 at e4 t4 z4 k4
  change wpAny (model prog w) A (Builtin.SmallTypes.ownedTupleIsFree (.ref e) >>= _) _ _ ⟨h4, g, d, tk + 1, os⟩
  refine wpAny_bind ?_
  unfold Builtin.SmallTypes.ownedTupleIsFree
  refine wpAny_bind (wpAny_field e4 rfl (x := .none) rfl (wpAny_pure ?_))
  simp only [if_true]
  refine wpAny_bind (wpAny_rule ?_)
  refine wpAny_bind (wpAny_field e4 rfl (x := old) rfl ?_)
  refine wpAny_bind (wpAny_setField_rec e4 (by simp) fun h5 e5 q5 => ?_)
  have e5' : IsEnum h5 e it (j + 1) x := e5
  have q5' : Heap.SameBut e h4 h5 := q5
  change wpAny (model prog w) A (Builtin.SmallTypes.ownedTupleHandOut (.ref e) (.ref h1.objs.size) >>= _) _ _ ⟨h5, g, d, tk + 1, os⟩
  refine wpAny_bind ?_
  unfold Builtin.SmallTypes.ownedTupleHandOut
  refine wpAny_bind (wpAny_setField_rec e5' (by simp) fun h6 e6 q6 => ?_)
  have e6' : IsEnumOut h6 e it (j + 1) x h1.objs.size := e6
  have q6' : Heap.SameBut e h5 h6 := q6
  refine wpAny_setField_rec e6' (by simp) fun h7 e7 q7 => ?_
  have e7' : IsEnumOut h7 e it (j + 1) x h1.objs.size := e7
  have q7' : Heap.SameBut e h6 h7 := q7
  have k7 : ∀ b o, b ≠ e → h4.get? b = some o → h7.get? b = some o := fun b o hb y => q7'.extBut b o hb (q6'.extBut b o hb (q5'.extBut b o hb y))
  exact wpAny_bind (wpAny_letGo (wpAny_pure ⟨_, rfl, hQ h7 tk e7' (k7 _ _ (Nat.ne_of_gt el) t4) (by rw [q7'.1, q6'.1, q5'.1]; exact z4) fun b o hb y => k7 b o hb (k4 b o hb y)⟩))
end
end XL
namespace XL
open PySem PyProof.Rows
/-- a zip of two as it lies: what it gave out, and a mark -/
abbrev ZR (h : Heap) (z TI TO : Addr) (a0 : Value) (b0 : Bool) : Prop := h.get? z = some { cls := .type "zip", data := .fields #[a0, .bool b0, .bool false, .ref TI, .ref TO] }
section
variable {prog : Program} {w : World} {A : Around} {E : Value → Shared → Prop} {s : Shared} {z TI TO i1 i2 : Addr}
variable {fp1 fp2 : List Addr} {n1 n2 i : Nat} {P1 P2 : Nat → Value → Prop} {St1 St2 : Nat → Heap → Prop} {u1 u2 a0 : Value} {b0 : Bool}
example (h : IsZip s.heap z TI TO .none) : ZR s.heap z TI TO .none false := h
example {T : Addr} {f : Bool} (h : IsZipHeld s.heap z TI TO T f) : ZR s.heap z TI TO (rawInt T) f := h
theorem alive_any {a : Addr} {Q : Option Obj → Shared → Prop} (h : Q (s.heap.get? a) s) : wpAny (model prog w) A (loadIfAlive a) Q E s := fun _ _ _ => h
/-- what is gone is free -/
theorem dead_free {T : Addr} {f : Bool} {Q : Bool → Shared → Prop} (hz : ZR s.heap z TI TO (rawInt T) f) (hT : s.heap.get? T = none) (h : Q true s) : wpAny (model prog w) A (Builtin.SmallTypes.ownedTupleIsFree (.ref z)) Q E s := by
  unfold Builtin.SmallTypes.ownedTupleIsFree
  refine wpAny_bind (wpAny_field hz rfl (x := rawInt T) rfl ?_)
  show wpAny _ _ (loadIfAlive ((T : Int).toNat) >>= _) _ _ _
  rw [Int.toNat_natCast]
  refine wpAny_bind (alive_any ?_)
  rw [hT]
  exact wpAny_pure h
/-- one more pair while nothing is held -/
theorem free_item {Q : Value → Shared → Prop} (S : ZipSep2 z TI TO i1 i2 fp1 fp2) (D1 : Draws prog w A i1 fp1 n1 P1 St1) (D2 : Draws prog w A i2 fp2 n2 P2 St2)
    (hz : ZR s.heap z TI TO a0 b0) (hf : ∀ (Q : Bool → Shared → Prop), Q true s → wpAny (model prog w) A (Builtin.SmallTypes.ownedTupleIsFree (.ref z)) Q E s)
    (hTI : IsTupOf2 s.heap TI (.ref i1) (.ref i2)) (hTO : IsTupOf2 s.heap TO u1 u2) (st1 : St1 i s.heap) (st2 : St2 i s.heap) (l1 : i < n1) (l2 : i < n2)
    (hQ : ∀ x1 x2 h' tk, P1 i x1 → P2 i x2 → ZR h' z TI TO (rawInt s.heap.objs.size) false → IsTupOf2 h' TO x1 x2 → St1 (i + 1) h' → St2 (i + 1) h' → IsTupOf2 h' s.heap.objs.size x1 x2 → h'.objs.size = s.heap.objs.size + 1 →
      (∀ c o, c ≠ z → c ≠ TO → c ≠ i1 → c ≠ i2 → s.heap.get? c = some o → h'.get? c = some o) → Q (.ref s.heap.objs.size) { s with heap := h', toks := tk }) :
    wpAny (model prog w) A (Builtin.«zip.__next__» ⟨[.ref z], []⟩) (fun fin s' => ∃ v, fin = .done (.ret v) ∧ Q v s') E s := by
  obtain ⟨hp, g, d, tk0, os⟩ := s
  show wpAny _ _ (field (.ref z) 2 >>= _) _ _ _
  refine wpAny_bind (wpAny_field hz rfl (x := .bool false) rfl ?_)
  show wpAny _ _ (field (.ref z) 3 >>= _) _ _ _
  refine wpAny_bind (wpAny_field hz rfl (x := .ref TI) rfl (wpAny_bind (wpAny_seqItems hTI rfl ?_)))
  show wpAny _ _ (Builtin.SmallTypes.ownedTupleIsFree (.ref z) >>= _) _ _ _
  refine wpAny_bind (hf _ ?_)
  simp only [if_true]
  refine wpAny_bind (wpAny_rule (wpAny_bind (wpAny_field hz rfl (x := .ref TO) rfl (wpAny_bind (wpAny_setField_rec hz (by simp) fun g0 y0 r0 => ?_)))))
  have z0 : ZR g0 z TI TO .ellipsis b0 := y0
  have q0 : Heap.SameBut z hp g0 := r0
  refine wpAny_bind ?_
  simp only [List.zipIdx_cons, List.zipIdx_nil, List.forIn_cons, List.forIn_nil]
  refine wpAny_bind (wpAny_bind (wpAny_onRaise ?_))
  show wpAny _ _ (Builtin.SmallTypes.nextOf (.ref i1) >>= _) _ _ ⟨g0, g, d, tk0, os⟩
  refine wpAny_bind (D1.item i _ _ _ l1 (D1.over st1 q0 S.zf1) fun x1 p1 tk1 hx1 m1 r1 => wpAny_pure ?_)
  have q1 : Heap.SameBut i1 g0 p1 := r1
  have t1 : IsTupOf2 p1 TO u1 u2 := q1.extBut _ _ S.Ti1 (q0.extBut _ _ S.TOz hTO)
  refine wpAny_bind (wpAny_seqItems (s := ⟨p1, g, d, tk1, os⟩) t1 rfl (wpAny_bind (updateSeq_IsTupOf2 (s := ⟨p1, g, d, tk1, os⟩) t1 fun g1 y1 r2 => ?_)))
  have t1' : IsTupOf2 g1 TO x1 u2 := y1
  have q2 : Heap.SameBut TO p1 g1 := r2
  refine wpAny_bind (wpAny_letGo (wpAny_pure (wpAny_bind (wpAny_bind (wpAny_onRaise ?_)))))
  show wpAny _ _ (Builtin.SmallTypes.nextOf (.ref i2) >>= _) _ _ ⟨g1, g, d, tk1, os⟩
  refine wpAny_bind (D2.item i _ _ _ l2 (D2.over (D2.over (D2.over st2 q0 S.zf2) q1 S.sep1_2) q2 S.Tf2) fun x2 p2 tk2 hx2 m2 r3 => wpAny_pure ?_)
  have q3 : Heap.SameBut i2 g1 p2 := r3
  have t2 : IsTupOf2 p2 TO x1 u2 := q3.extBut _ _ S.Ti2 t1'
  refine wpAny_bind (wpAny_seqItems (s := ⟨p2, g, d, tk2, os⟩) t2 rfl (wpAny_bind (updateSeq_IsTupOf2 (s := ⟨p2, g, d, tk2, os⟩) t2 fun g2 y2 r4 => ?_)))
  have t2' : IsTupOf2 g2 TO x1 x2 := y2
  have q4 : Heap.SameBut TO p2 g2 := r4
  refine wpAny_bind (wpAny_letGo (wpAny_pure (wpAny_pure (wpAny_bind (wpAny_seqItems (s := ⟨g2, g, d, tk2, os⟩) t2' rfl (wpAny_bind (wpAny_newTuple ?_)))))))
  have sz : g2.objs.size = hp.objs.size := by rw [q4.1, q3.1, q2.1, q1.1, q0.1]
  have z2 : ZR g2 z TI TO .ellipsis b0 := q4.extBut _ _ S.TOz.symm (q3.extBut _ _ S.zi2 (q2.extBut _ _ S.TOz.symm (q1.extBut _ _ S.zi1 z0)))
  have kk : ∀ c o, c ≠ z → c ≠ TO → c ≠ i1 → c ≠ i2 → hp.get? c = some o → g2.get? c = some o := fun c o cz cT c1 c2 y => q4.extBut _ _ cT (q3.extBut _ _ c2 (q2.extBut _ _ cT (q1.extBut _ _ c1 (q0.extBut _ _ cz y))))
  have j1 : St1 (i + 1) g2 := D1.over (D1.over (D1.over m1 q2 S.Tf1) q3 S.sep2_1) q4 S.Tf1
  have j2 : St2 (i + 1) g2 := D2.over m2 q4 S.Tf2
  have zl : z < g2.objs.size := Heap.lt_size z2
  show wpAny _ _ (Builtin.SmallTypes.ownedTupleHandOut (.ref z) (.ref g2.objs.size) >>= _) _ _ ⟨g2.push { cls := .type "tuple", data := .seq #[x1, x2] }, g, d, tk2, os⟩
  refine wpAny_bind ?_
  unfold Builtin.SmallTypes.ownedTupleHandOut
  have z6 : ZR (g2.push { cls := .type "tuple", data := .seq #[x1, x2] }) z TI TO .ellipsis b0 := Heap.get?_push_of_some _ z2
  refine wpAny_bind (wpAny_setField_rec z6 (by simp) fun h7 y7 r7 => ?_)
  have z7 : ZR h7 z TI TO (rawInt g2.objs.size) b0 := y7
  refine wpAny_setField_rec z7 (by simp) fun h8 y8 r8 => ?_
  have z8 : ZR h8 z TI TO (rawInt g2.objs.size) false := y8
  have q7 : Heap.SameBut z (g2.push { cls := .type "tuple", data := .seq #[x1, x2] }) h7 := r7
  have q8 : Heap.SameBut z h7 h8 := r8
  have up : ∀ c o, c ≠ z → g2.get? c = some o → h8.get? c = some o := fun c o c1 y => q8.extBut _ _ c1 (q7.extBut _ _ c1 (Heap.get?_push_of_some _ y))
  have t8 : IsTupOf2 h8 g2.objs.size x1 x2 := q8.extBut _ _ (Nat.ne_of_gt zl) (q7.extBut _ _ (Nat.ne_of_gt zl) (Heap.get?_push_size _ rfl))
  have s8 : h8.objs.size = g2.objs.size + 1 := by rw [q8.1, q7.1, Heap.size_push]
  rw [sz] at z8 t8 s8
  refine wpAny_pure ⟨_, rfl, ?_⟩
  show Q (.ref g2.objs.size) ⟨h8, g, d, tk2, os⟩
  rw [sz]
  exact hQ x1 x2 h8 tk2 hx1 hx2 z8 (up _ _ S.TOz t2') (D1.frame _ _ _ j1 fun b hb o y => up b o (fun q => S.zf1 (q ▸ hb)) y) (D2.frame _ _ _ j2 fun b hb o y => up b o (fun q => S.zf2 (q ▸ hb)) y) t8 s8 fun c o cz cT c1 c2 y => up c o cz (kk c o cz cT c1 c2 y)
theorem free_end {Q : Fin → Shared → Prop} (S : ZipSep2 z TI TO i1 i2 fp1 fp2) (D1 : Draws prog w A i1 fp1 n1 P1 St1) (D2 : Draws prog w A i2 fp2 n2 P2 St2)
    (hz : ZR s.heap z TI TO a0 b0) (hf : ∀ (Q : Bool → Shared → Prop), Q true s → wpAny (model prog w) A (Builtin.SmallTypes.ownedTupleIsFree (.ref z)) Q E s)
    (hTI : IsTupOf2 s.heap TI (.ref i1) (.ref i2)) (hTO : IsTupOf2 s.heap TO u1 u2) (st1 : St1 i s.heap) (st2 : St2 i s.heap) (e1 : i ≤ n1) (e2 : i ≤ n2) (hend : i = n1 ∨ i = n2)
    (hE : ∀ h' tk e, (∀ c o, c ≠ z → c ≠ TO → c ≠ i1 → c ≠ i2 → s.heap.get? c = some o → h'.get? c = some o) → (∃ o, h'.get? e = some o ∧ o.cls = .type "StopIteration") → E (.ref e) { s with heap := h', toks := tk }) :
    wpAny (model prog w) A (Builtin.«zip.__next__» ⟨[.ref z], []⟩) Q E s := by
  obtain ⟨hp, g, d, tk0, os⟩ := s
  show wpAny _ _ (field (.ref z) 2 >>= _) _ _ _
  refine wpAny_bind (wpAny_field hz rfl (x := .bool false) rfl ?_)
  show wpAny _ _ (field (.ref z) 3 >>= _) _ _ _
  refine wpAny_bind (wpAny_field hz rfl (x := .ref TI) rfl (wpAny_bind (wpAny_seqItems hTI rfl ?_)))
  show wpAny _ _ (Builtin.SmallTypes.ownedTupleIsFree (.ref z) >>= _) _ _ _
  refine wpAny_bind (hf _ ?_)
  simp only [if_true]
  refine wpAny_bind (wpAny_rule (wpAny_bind (wpAny_field hz rfl (x := .ref TO) rfl (wpAny_bind (wpAny_setField_rec hz (by simp) fun g0 y0 r0 => ?_)))))
  have z0 : ZR g0 z TI TO .ellipsis b0 := y0
  have q0 : Heap.SameBut z hp g0 := r0
  -- the end: what raised, and the zip as it was before
  have fin : ∀ (q : Heap) (tk : Nat) (e : Addr), ZR q z TI TO .ellipsis b0 → (∀ c o, c ≠ z → c ≠ TO → c ≠ i1 → c ≠ i2 → hp.get? c = some o → q.get? c = some o) → (∃ o, q.get? e = some o ∧ o.cls = .type "StopIteration") →
      wpAny (model prog w) A (setField (.ref z) 0 .none) (fun _ s'' => E (.ref e) s'') E ⟨q, g, d, tk, os⟩ := fun q tk e zq kq he => by
    obtain ⟨oe, hoe, hce⟩ := he
    have hez : e ≠ z := fun x => by subst x; rw [zq] at hoe; cases hoe; simp at hce
    refine wpAny_setField_rec (s := ⟨q, g, d, tk, os⟩) zq (by simp) fun q' _ r' => ?_
    have qq : Heap.SameBut z q q' := r'
    exact hE q' tk e (fun c o cz cT c1 c2 y => qq.extBut _ _ cz (kq c o cz cT c1 c2 y)) ⟨oe, qq.extBut _ _ hez hoe, hce⟩
  refine wpAny_bind ?_
  simp only [List.zipIdx_cons, List.zipIdx_nil, List.forIn_cons, List.forIn_nil]
  refine wpAny_bind (wpAny_bind (wpAny_onRaise ?_))
  show wpAny _ _ (Builtin.SmallTypes.nextOf (.ref i1) >>= _) _ _ ⟨g0, g, d, tk0, os⟩
  by_cases l1 : i < n1
  · refine wpAny_bind (D1.item i _ _ _ l1 (D1.over st1 q0 S.zf1) fun x1 p1 tk1 hx1 m1 r1 => wpAny_pure ?_)
    have q1 : Heap.SameBut i1 g0 p1 := r1
    have t1 : IsTupOf2 p1 TO u1 u2 := q1.extBut _ _ S.Ti1 (q0.extBut _ _ S.TOz hTO)
    refine wpAny_bind (wpAny_seqItems (s := ⟨p1, g, d, tk1, os⟩) t1 rfl (wpAny_bind (updateSeq_IsTupOf2 (s := ⟨p1, g, d, tk1, os⟩) t1 fun g1 y1 r2 => ?_)))
    have q2 : Heap.SameBut TO p1 g1 := r2
    refine wpAny_bind (wpAny_letGo (wpAny_pure (wpAny_bind (wpAny_bind (wpAny_onRaise ?_)))))
    show wpAny _ _ (Builtin.SmallTypes.nextOf (.ref i2) >>= _) _ _ ⟨g1, g, d, tk1, os⟩
    have hi2 : i = n2 := by omega
    refine wpAny_bind (D2.done ⟨g1, g, d, tk1, os⟩ _ _ (by rw [← hi2]; exact D2.over (D2.over (D2.over st2 q0 S.zf2) q1 S.sep1_2) q2 S.Tf2) fun q e r3 he => ?_)
    have q3 : Heap.ExtBut i2 g1 q := r3
    exact fin q tk1 e (q3 _ _ S.zi2 (q2.extBut _ _ S.TOz.symm (q1.extBut _ _ S.zi1 z0))) (fun c o cz cT c1 c2 y => q3 _ _ c2 (q2.extBut _ _ cT (q1.extBut _ _ c1 (q0.extBut _ _ cz y)))) he
  · have hi1 : i = n1 := by omega
    refine wpAny_bind (D1.done ⟨g0, g, d, tk0, os⟩ _ _ (by rw [← hi1]; exact D1.over st1 q0 S.zf1) fun q e r3 he => ?_)
    have q3 : Heap.ExtBut i1 g0 q := r3
    exact fin q tk0 e (q3 _ _ S.zi1 z0) (fun c o cz cT c1 c2 y => q3 _ _ c1 (q0.extBut _ _ cz y)) he
/-- a zip at any time -/
def ZS (h : Heap) (z TI TO : Addr) : Prop := ((ZR h z TI TO .none false) ∨ ∃ T f, ZR h z TI TO (rawInt ((T : Nat) : Int)) f) ∧ ∃ u1 u2, IsTupOf2 h TO u1 u2
theorem ZS.typ {z TI TO : Addr} (h : ZS s.heap z TI TO) : s.TypeIs (.ref z) "zip" := by
  rcases h.1 with h | ⟨T, f, h⟩
  · exact ⟨_, h, rfl⟩
  · exact ⟨_, h, rfl⟩
theorem none_free {Q : Bool → Shared → Prop} (hz : ZR s.heap z TI TO .none b0) (h : Q true s) : wpAny (model prog w) A (Builtin.SmallTypes.ownedTupleIsFree (.ref z)) Q E s := by
  unfold Builtin.SmallTypes.ownedTupleIsFree
  exact wpAny_bind (wpAny_field hz rfl (x := .none) rfl (wpAny_pure h))
theorem zs_item {Q : Value → Shared → Prop} (S : ZipSep2 z TI TO i1 i2 fp1 fp2) (D1 : Draws prog w A i1 fp1 n1 P1 St1) (D2 : Draws prog w A i2 fp2 n2 P2 St2)
    (hz : ZS s.heap z TI TO) (hTI : IsTupOf2 s.heap TI (.ref i1) (.ref i2)) (st1 : St1 i s.heap) (st2 : St2 i s.heap) (l1 : i < n1) (l2 : i < n2)
    (hQ : ∀ x1 x2 h' tk, P1 i x1 → P2 i x2 → ZS h' z TI TO → St1 (i + 1) h' → St2 (i + 1) h' → IsTupOf2 h' s.heap.objs.size x1 x2 → h'.objs.size = s.heap.objs.size + 1 →
      (∀ c o, c ≠ z → c ≠ TO → c ≠ i1 → c ≠ i2 → s.heap.get? c = some o → h'.get? c = some o) → Q (.ref s.heap.objs.size) { s with heap := h', toks := tk }) :
    wpAny (model prog w) A (Builtin.«zip.__next__» ⟨[.ref z], []⟩) (fun fin s' => ∃ v, fin = .done (.ret v) ∧ Q v s') E s := by
  obtain ⟨hz, u1, u2, hTO⟩ := hz
  rcases hz with hz | ⟨T, f, hz⟩
  · exact free_item S D1 D2 hz (fun Q h => none_free hz h) hTI hTO st1 st2 l1 l2 fun x1 x2 h' tk y1 y2 b1 b2 d1 d2 b5 b6 b7 => hQ x1 x2 h' tk y1 y2 ⟨.inr ⟨s.heap.objs.size, false, b1⟩, _, _, b2⟩ d1 d2 b5 b6 b7
  · cases hT : s.heap.get? T with
    | none => exact free_item S D1 D2 hz (fun Q h => dead_free hz hT h) hTI hTO st1 st2 l1 l2 fun x1 x2 h' tk y1 y2 b1 b2 d1 d2 b5 b6 b7 => hQ x1 x2 h' tk y1 y2 ⟨.inr ⟨s.heap.objs.size, false, b1⟩, _, _, b2⟩ d1 d2 b5 b6 b7
    | some oT => exact held_item S D1 D2 hz hT hTI st1 st2 l1 l2 fun x1 x2 h' tk y1 y2 b1 d1 d2 b5 b6 b7 => hQ x1 x2 h' tk y1 y2 ⟨.inr ⟨T, true, b1⟩, u1, u2, b7 _ _ S.TOz S.Ti1 S.Ti2 hTO⟩ d1 d2 b5 b6 fun c o c0 _ c1 c2 e => b7 c o c0 c1 c2 e
theorem zs_end {Q : Fin → Shared → Prop} (S : ZipSep2 z TI TO i1 i2 fp1 fp2) (D1 : Draws prog w A i1 fp1 n1 P1 St1) (D2 : Draws prog w A i2 fp2 n2 P2 St2)
    (hz : ZS s.heap z TI TO) (hTI : IsTupOf2 s.heap TI (.ref i1) (.ref i2)) (st1 : St1 i s.heap) (st2 : St2 i s.heap) (e1 : i ≤ n1) (e2 : i ≤ n2) (hend : i = n1 ∨ i = n2)
    (hE : ∀ h' tk e, (∀ c o, c ≠ z → c ≠ TO → c ≠ i1 → c ≠ i2 → s.heap.get? c = some o → h'.get? c = some o) → (∃ o, h'.get? e = some o ∧ o.cls = .type "StopIteration") → E (.ref e) { s with heap := h', toks := tk }) :
    wpAny (model prog w) A (Builtin.«zip.__next__» ⟨[.ref z], []⟩) Q E s := by
  obtain ⟨hz, u1, u2, hTO⟩ := hz
  rcases hz with hz | ⟨T, f, hz⟩
  · exact free_end S D1 D2 hz (fun Q h => none_free hz h) hTI hTO st1 st2 e1 e2 hend hE
  · cases hT : s.heap.get? T with
    | none => exact free_end S D1 D2 hz (fun Q h => dead_free hz hT h) hTI hTO st1 st2 e1 e2 hend hE
    | some oT => exact held_end S D1 D2 hz hT hTI st1 st2 e1 e2 hend fun h' tk e hk he => hE h' tk e (fun c o c0 _ c1 c2 y => hk c o c0 c1 c2 y) he
end
end XL
namespace PySem
namespace XEn
open Sem (wp)
set_option maxHeartbeats 1000000 in
theorem meets_newZ {z TI TO : Addr} :
    Meets (Builtin.«enumerate.__new__» ⟨[.type "enumerate", .ref z], []⟩) (fun _ R s => IsZip s.heap z TI TO .none ∧
      R (.ok (.ret (.ref s.heap.objs.size))) { s with heap := s.heap.push { cls := .type "enumerate", data := .fields #[.none, .bool false, .ref z, rawInt 0, .none, .none] } }) :=
  .of_wp fun prog w A R s h => by
    obtain ⟨hp, g, d, tk, os⟩ := s; obtain ⟨h1, h⟩ := h
    have hsub := sub_enumerate
    have q1 : ∀ {A' : Around} {E : Value → Shared → Prop} {Q : Value → Shared → Prop}, Q (.ref z) ⟨hp, g, d, tk, os⟩ → wpAny (model prog w) A' (pyIter (.ref z)) Q E ⟨hp, g, d, tk, os⟩ :=
      fun q => wpAny_pyIter_zip h1 q
    wp_walk using q1
    refine wpAny_stack_any fun st => wpAny_pure ?_
    split
    · rename_i c _ _ _ _ _
      cases (c == Value.type "enumerate")
      · wp_walk using q1
        exact ⟨_, rfl, h⟩
      · wp_walk using q1
        exact ⟨_, rfl, h⟩
    · wp_walk using q1
      exact ⟨_, rfl, h⟩
section
variable {prog : Program} {w : World} {A : Around} {E : Value → Shared → Prop} {s : Shared}
theorem beginsZ {z TI TO : Addr} {Q : Value → Shared → Prop} (h1 : IsZip s.heap z TI TO .none)
    (h : ∀ h', IsEnum h' s.heap.objs.size z 0 .none → h'.objs.size = s.heap.objs.size + 1 →
      (∀ b o, s.heap.get? b = some o → h'.get? b = some o) → Q (.ref s.heap.objs.size) { s with heap := h' }) :
    wpAny (model prog w) A (call (.type "enumerate") [.ref z]) Q E s := by
  refine callType_new F.called_enumerate (by decide) (F.typeCall_enumerate_1 _) (F.newCall_enumerate_1 _) (fun obj => F.args_object_init_2 obj _) F.entry_enumerate_new
    (meets_newZ (z := z) (TI := TI) (TO := TO)) ⟨h1, ?_⟩
  have he : IsEnum (s.heap.push { cls := .type "enumerate", data := .fields #[.none, .bool false, .ref z, rawInt 0, .none, .none] }) s.heap.objs.size z 0 .none := Heap.get?_push_size _ rfl
  exact ⟨⟨_, he, rfl⟩, h _ he (by rw [Heap.size_push]) fun b o x => Heap.get?_push_of_some _ x⟩
end
end XEn
end PySem
namespace XL
open PySem PySem.Spec PyProof.Rows L2
/-! ### enumerate(zip(a, b)), each a list or a tuple -/
def YEz (xs ys : Nat → Option V) : Nat → Hp → V → Hp → Prop := fun i H v H' => ∃ T1 T2 x y, v = .ref T2 ∧ H T1 = none ∧ H T2 = none ∧ T1 ≠ T2 ∧ H' = upd (upd H T1 (.tup [x, y])) T2 (.tup [.int (i : Nat), .ref T1]) ∧ xs i = some x ∧ ys i = some y
def Itez (K : PySem.W.Frag) (x1 x2 : Bool) (a b : Addr) : It :=
  ⟨fun i H => ∃ (xs ys : List V) (x y : V), SqB K x1 H a xs ∧ SqB K x2 H b ys ∧ xs[i]? = some x ∧ ys[i]? = some y,
    fun i H v H' => ∃ T1 T2 x y, v = .ref T2 ∧ H T1 = none ∧ H T2 = none ∧ T1 ≠ T2 ∧ H' = upd (upd H T1 (.tup [x, y])) T2 (.tup [.int (i : Nat), .ref T1]) ∧ (∀ xs, SqB K x1 H a xs → xs[i]? = some x) ∧ ∀ ys, SqB K x2 H b ys → ys[i]? = some y,
    fun i H => ∃ xs ys : List V, SqB K x1 H a xs ∧ SqB K x2 H b ys ∧ i ≤ xs.length ∧ i ≤ ys.length ∧ (i = xs.length ∨ i = ys.length)⟩
structure EzSep (e z TI TO i1 i2 a b : Addr) : Prop where
  S : ZipSep2 z TI TO i1 i2 [i1, a] [i2, b]
  na : a ≠ i1
  nb : b ≠ i2
  ez : e ≠ z
  eI : e ≠ TI
  eO : e ≠ TO
  e1 : e ≠ i1
  e2 : e ≠ i2
  ea : e ≠ a
  eb : e ≠ b
theorem seqB_at {x : Bool} {h h' : Heap} {a : Addr} {its : Array Value} (q : SeqB x h a its) (k : ∀ o, h.get? a = some o → h'.get? a = some o) : SeqB x h' a its := by
  cases x with
  | true => obtain ⟨o, e, r⟩ := q; exact ⟨o, k o e, r⟩
  | false => obtain ⟨o, e, r⟩ := q; exact ⟨o, k o e, r⟩
theorem turn_ez {P : Program} {w : World} {K : PySem.W.Frag} {elts : List Expr} {kk : Nat} {tpos : Pos} {x1 x2 : Bool} {a b e z TI TO i1 i2 : Addr} (S : EzSep e z TI TO i1 i2 a b) :
    Turn P w K (.Tuple elts kk tpos) (Itez K x1 x2 a b) [e, z, TI, TO, i1, i2] e (fun i h => (∃ old, IsEnum h e z ((i : Nat) : Int) old) ∧ ZS h z TI TO ∧ IsTupOf2 h TI (.ref i1) (.ref i2) ∧ ItB x1 h i1 a i ∧ ItB x2 h i2 b i) where
  mem := by simp
  obj := fun i h st c hc => by
    obtain ⟨⟨old, he⟩, ⟨hz, u1, u2, hTO⟩, hTI, h1, h2⟩ := st
    have e' : c = e ∨ c = z ∨ c = TI ∨ c = TO ∨ c = i1 ∨ c = i2 := by simpa using hc
    rcases e' with q | q | q | q | q | q
    · rw [q]; exact ⟨_, he, fun v q => nomatch q⟩
    · rw [q]
      rcases hz with hz | ⟨T, f, hz⟩
      · exact ⟨_, hz, fun v q => nomatch q⟩
      · exact ⟨_, hz, fun v q => nomatch q⟩
    · rw [q]; exact ⟨_, hTI, fun v q => nomatch q⟩
    · rw [q]; exact ⟨_, hTO, fun v q => nomatch q⟩
    · rw [q]; exact h1.obj
    · rw [q]; exact h2.obj
  keep := fun i h h' st k => by
    obtain ⟨⟨old, he⟩, ⟨hz, u1, u2, hTO⟩, hTI, h1, h2⟩ := st
    refine ⟨⟨old, k e (by simp) _ he⟩, ⟨?_, u1, u2, k TO (by simp) _ hTO⟩, k TI (by simp) _ hTI, h1.at fun o q => k i1 (by simp) o q, h2.at fun o q => k i2 (by simp) o q⟩
    rcases hz with hz | ⟨T, f, hz⟩
    · exact .inl (k z (by simp) _ hz)
    · exact .inr ⟨T, f, k z (by simp) _ hz⟩
  item := by
    intro X hP hw hK hc i pins s σ H E I hf st hg
    subst hP hw hK
    obtain ⟨⟨old, he⟩, hz, hTI, h1, h2⟩ := st
    obtain ⟨xs, ys, x, y, hqx, hqy, hx, hy⟩ := hg
    obtain ⟨its, rv, p, _⟩ := seqB_of I hqx
    obtain ⟨its2, rv2, p2, _⟩ := seqB_of I hqy
    obtain ⟨u, hu, ru⟩ := rv.get hx
    obtain ⟨u2, hu2, ru2⟩ := rv2.get hy
    have lt : ∀ {l : List Value} {v : Value}, l[i]? = some v → i < l.toArray.size := fun {l v} e => by rw [List.size_toArray]; exact (List.getElem?_eq_some_iff.mp e).1
    have ev : ∀ {l : List Value} {v v' : Value}, l.toArray[i]? = some v' → l[i]? = some v → v' = v := fun {l v v'} e1 e2 => by
      rw [List.getElem?_toArray, e2] at e1; exact (Option.some.inj e1).symm
    have hTe : s.TypeIs (.ref e) "enumerate" := ⟨_, he, rfl⟩
    unfold pyNext
    refine wpAny_bind (wpAny_attempt (wpAny_callSpecial?_slot (name := Str.ofString "__next__") hTe F.slot_enumerate_next
      (wpAny_call_entry F.slot_enumerate_next hTe F.entry_enumerate_next (enum_next he ?_) (F.args_enumerate_next_1 _))))
    unfold Builtin.SmallTypes.nextOf
    refine wpAny_bind (wpAny_callSpecial?_slot (name := Str.ofString "__next__") hz.typ F.slot_zip_next
      (wpAny_call_entry F.slot_zip_next hz.typ F.entry_zip_next (zs_item S.S (drawsB (A := X.A.in1.in1) (I.ok.hd hc) x1 i1 a S.na its.toArray) (drawsB (A := X.A.in1.in1) (I.ok.hd hc) x2 i2 b S.nb its2.toArray) hz hTI ⟨h1, p⟩ ⟨h2, p2⟩ (lt hu) (lt hu2) fun v1 v2 g tk y1 y2 zg d1 d2 tg sg kg => wpAny_pure ?_) (F.args_zip_next_1 _)))
    obtain rfl := ev y1 hu
    obtain rfl := ev y2 hu2
    refine ⟨kg e _ S.ez S.eO S.e1 S.e2 he, fun g2 tk2 eo t2 s2 k2 => wpAny_pure ?_⟩
    have hel : e < s.heap.objs.size := Heap.lt_size he
    have sg' : g.objs.size = s.heap.objs.size + 1 := sg
    have cl : ∀ c ∈ [e, z, TI, TO, i1, i2], c < s.heap.objs.size := fun c hcm => by
      obtain ⟨hz', w1, w2, hTO⟩ := hz
      have e' : c = e ∨ c = z ∨ c = TI ∨ c = TO ∨ c = i1 ∨ c = i2 := by simpa using hcm
      rcases e' with q | q | q | q | q | q
      · rw [q]; exact hel
      · rw [q]
        rcases hz' with hz' | ⟨T, f, hz'⟩
        · exact Heap.lt_size hz'
        · exact Heap.lt_size hz'
      · rw [q]; exact Heap.lt_size hTI
      · rw [q]; exact Heap.lt_size hTO
      · rw [q]; obtain ⟨o, ho, _⟩ := h1.obj; exact Heap.lt_size ho
      · rw [q]; obtain ⟨o, ho, _⟩ := h2.obj; exact Heap.lt_size ho
    refine ⟨_, rfl, wpAny_letOwnedTupleGo_enum (s := { s with heap := g2, toks := tk2 + 1 }) eo fun g3 e3 sb => ?_⟩
    have new1 : ObjOk X.prog X.w (upd H s.heap.objs.size (.tup [x, y])) g s.heap.objs.size (.tup [x, y]) :=
      ⟨by show 2 ≤ sizeLine; decide, [v1, v2], .cons ru (.cons ru2 .nil), ⟨_, tg, rfl, _, rfl⟩⟩
    have I1 : Inv X pins σ (upd H s.heap.objs.size (.tup [x, y])) { s with heap := g, toks := tk } :=
      I.turnedNew (ch := [e, z, TI, TO, i1, i2]) (fun c o hb q => kg c o (fun q' => hb (by simp [q'])) (fun q' => hb (by simp [q'])) (fun q' => hb (by simp [q'])) (fun q' => hb (by simp [q'])) q) hf (Nat.le_refl _) new1
    have ne2 : s.heap.objs.size ≠ g.objs.size := by rw [sg']; exact Nat.ne_of_lt (Nat.lt_succ_self _)
    have fe : ∀ c ∈ [e], FpOk X pins (upd H s.heap.objs.size (.tup [x, y])) c := fun c hcm => by
      obtain rfl := List.mem_singleton.mp hcm
      obtain ⟨f0, f1⟩ := hf c (by simp)
      exact ⟨by rw [upd_ne (Nat.ne_of_lt hel)]; exact f0, f1⟩
    have t3 : g3.get? g.objs.size = some { cls := .type "tuple", data := .seq #[.int (i : Int) tk2, .ref s.heap.objs.size] } := (sb.2 _ (by rw [sg']; exact Nat.ne_of_gt (Nat.lt_succ_of_lt hel))).trans t2
    have new2 : ObjOk X.prog X.w (upd (upd H s.heap.objs.size (.tup [x, y])) g.objs.size (.tup [.int (i : Nat), .ref s.heap.objs.size])) g3 g.objs.size (.tup [.int (i : Nat), .ref s.heap.objs.size]) :=
      ⟨by show 2 ≤ sizeLine; decide, [.int (i : Int) tk2, .ref s.heap.objs.size], .cons ⟨_, rfl⟩ (.cons rfl .nil), ⟨_, t3, rfl, _, rfl⟩⟩
    have k3 : ∀ c o, c ≠ e → g.get? c = some o → g3.get? c = some o := fun c o hce q => (sb.2 c hce).trans (k2 c o hce q)
    have I2 : Inv X pins σ (upd (upd H s.heap.objs.size (.tup [x, y])) g.objs.size (.tup [.int (i : Nat), .ref s.heap.objs.size])) { s with heap := g3, toks := tk2 + 1 } :=
      I1.turnedNew (ch := [e]) (fun c o hb q => k3 c o (fun q' => hb (by simp [q'])) q) fe (Nat.le_refl _) new2
    refine ⟨.ref g.objs.size, _, I2, rfl, ⟨s.heap.objs.size, g.objs.size, x, y, rfl, I.hok.fresh (Nat.le_refl _), I.hok.fresh (by rw [sg']; exact Nat.le_succ _), ne2, rfl, fun l hl => by rw [sqB_inj I hl hqx]; exact hx, fun l hl => by rw [sqB_inj I hl hqy]; exact hy⟩, ⟨⟨.ref s.heap.objs.size, ?_⟩, ?_, ?_, ?_, ?_⟩, fun c hcm => ?_⟩
    · have e1 : ((i + 1 : Nat) : Int) = (i : Int) + 1 := by omega
      rw [e1]; exact e3
    · obtain ⟨zz, w1, w2, wO⟩ := zg
      refine ⟨?_, w1, w2, k3 _ _ (Ne.symm S.eO) wO⟩
      rcases zz with zz | ⟨T, f, zz⟩
      · exact .inl (k3 _ _ (Ne.symm S.ez) zz)
      · exact .inr ⟨T, f, k3 _ _ (Ne.symm S.ez) zz⟩
    · exact k3 _ _ (Ne.symm S.eI) (kg _ _ S.S.TIz S.S.TITO S.S.TIi1 S.S.TIi2 hTI)
    · exact d1.1.at fun o q => k3 _ _ (Ne.symm S.e1) q
    · exact d2.1.at fun o q => k3 _ _ (Ne.symm S.e2) q
    · have hl := cl c hcm
      rw [upd_ne (by rw [sg']; exact Nat.ne_of_lt (Nat.lt_succ_of_lt hl)), upd_ne (Nat.ne_of_lt hl)]
      exact (hf c hcm).1
  done := by
    intro X hP hw hK hc i pins s σ H E I hf st hg
    subst hP hw hK
    obtain ⟨⟨old, he⟩, hz, hTI, h1, h2⟩ := st
    obtain ⟨xs, ys, hqx, hqy, l1, l2, hend⟩ := hg
    obtain ⟨its, rv, p, _⟩ := seqB_of I hqx
    obtain ⟨its2, rv2, p2, _⟩ := seqB_of I hqy
    have m1 := rv.length
    have m2 := rv2.length
    have hTe : s.TypeIs (.ref e) "enumerate" := ⟨_, he, rfl⟩
    unfold pyNext
    refine wpAny_bind (wpAny_attempt (wpAny_callSpecial?_slot (name := Str.ofString "__next__") hTe F.slot_enumerate_next
      (wpAny_call_entry F.slot_enumerate_next hTe F.entry_enumerate_next ?_ (F.args_enumerate_next_1 _))))
    show wpAny _ _ (field (.ref e) 2 >>= _) _ _ _
    refine wpAny_bind (wpAny_field he rfl (x := .ref z) rfl ?_)
    refine wpAny_bind ?_
    unfold Builtin.SmallTypes.nextOf
    refine wpAny_bind (wpAny_callSpecial?_slot (name := Str.ofString "__next__") hz.typ F.slot_zip_next
      (wpAny_call_entry F.slot_zip_next hz.typ F.entry_zip_next (zs_end S.S (drawsB (A := X.A.in1.in1) (I.ok.hd hc) x1 i1 a S.na its.toArray) (drawsB (A := X.A.in1.in1) (I.ok.hd hc) x2 i2 b S.nb its2.toArray) hz hTI ⟨h1, p⟩ ⟨h2, p2⟩ (by rw [List.size_toArray]; omega) (by rw [List.size_toArray]; omega) (by rw [List.size_toArray, List.size_toArray]; omega) fun g tk x hk hx => ?_) (F.args_zip_next_1 _)))
    obtain ⟨o, ho, hcl⟩ := hx
    refine wpAny_bind (wpAny_isInstance (T := "StopIteration") (b := true) ⟨o, ho, hcl⟩ isSubtype_stop ?_)
    exact wpAny_pure ⟨rfl, I.turnedL (t' := tk) (ch := [e, z, TI, TO, i1, i2]) (fun c o hb q =>
      hk c o (fun q' => hb (by simp [q'])) (fun q' => hb (by simp [q'])) (fun q' => hb (by simp [q'])) (fun q' => hb (by simp [q'])) q) hf⟩
  self := fun A i s Q E st h => let ⟨⟨_, he⟩, _⟩ := st; wpAny_pyIter_enum he h
theorem walk_ez {K : PySem.W.Frag} {x1 x2 : Bool} {a b : Addr} {xs ys : List V} {n : Nat} (hn : n = min xs.length ys.length) : Walk (Itez K x1 x2 a b) n (fun H => SqB K x1 H a xs ∧ SqB K x2 H b ys) (YEz (fun i => xs[i]?) (fun i => ys[i]?)) := by
  subst hn
  refine ⟨fun i _ hi q => ?_, fun _ q => ⟨xs, ys, q.1, q.2, by omega, by omega, by omega⟩, fun i H v H' _ q y => ?_⟩
  · have h1 : i < xs.length := by omega
    have h2 : i < ys.length := by omega
    exact ⟨xs, ys, xs[i], ys[i], q.1, q.2, by simp [h1], by simp [h2]⟩
  · obtain ⟨T1, T2, x, z, h1, h2, h3, h4, h5, h6, h7⟩ := y
    exact ⟨T1, T2, x, z, h1, h2, h3, h4, h5, h6 xs q.1, h7 ys q.2⟩
def iEz (K : PySem.W.Frag) (ta : TA) : TI := fun σ H R => ta σ H fun vs H1 => ∃ a b xs ys, vs = [.ref a, .ref b] ∧ Sq2 K H1 a xs ∧ Sq2 K H1 b ys ∧
  ∀ J, Walk J (min xs.length ys.length) (fun H => Same H1 H) (YEz (fun i => xs[i]?) (fun i => ys[i]?)) → R J H1
theorem pi_ez {X : Cx} {e e2 : Expr} {ta : TA} {p pos p' pos' tpos : Pos} {elts : List Expr} {kk : Nat} (hge : Gl X "enumerate") (hme : X.mg "enumerate" = none) (hg : Gl X "zip") (hm : X.mg "zip" = none) (ha : PA X [e, e2] ta)
    (hse : starEach [.Call (.Name "zip" p) [e, e2] [] pos] X.env = [(false, eval (.Call (.Name "zip" p) [e, e2] [] pos) X.env)] := by rfl)
    (hs : starEach [e, e2] X.env = (false, eval e X.env) :: starEach [e2] X.env := by rfl) (hpl : (backTo pos (starEach [e2] X.env)).any (·.1) = false := by rfl) :
    PI X (.Tuple elts kk tpos) (.Call (.Name "enumerate" p') [.Call (.Name "zip" p) [e, e2] [] pos] [] pos') (iEz X.K ta) := by
  refine ⟨fun pins s σ H R I h => ?_⟩
  refine Call_ (ld_blt I hge hme boot_enumerate (PyProof.Rows.callWith_type1 ?_ hse rfl))
  rw [hse]
  show wpAny _ _ (spliced ((false, eval (.Call (.Name "zip" p) [e, e2] [] pos) X.env) :: [])) _ _ s
  refine Calls.spliced_cons ?_
  refine Call_ (ld_blt I hg hm PyProof.Rows.boot_zip (PyProof.Rows.callWith_type1 (thn (ha.run pos pins s σ H _ I h) fun us s1 ⟨vs, H1, I1, r1, q1⟩ => ?_) hs hpl))
  obtain ⟨a, b, xs, ys, ex, hxa, hxb, q⟩ := q1
  subst ex
  obtain ⟨x1, hqx⟩ := sqB_of hxa
  obtain ⟨x2, hqy⟩ := sqB_of hxb
  cases r1 with
  | cons r rr =>
    cases rr with
    | cons r' rr =>
      cases rr
      cases r
      cases r'
      obtain ⟨its, rv, p1, la⟩ := seqB_of I1 hqx
      obtain ⟨its2, rv2, p2, lb⟩ := seqB_of I1 hqy
      obtain ⟨o1, B1, k1⟩ := beginsB x1 a its.toArray
      obtain ⟨o2, B2, k2⟩ := beginsB x2 b its2.toArray
      have S := zip_sep2 (N := s1.heap.objs.size) (fp1 := [a]) (fp2 := [b]) (fun x hx => by rw [List.mem_singleton.mp hx]; exact la) (fun x hx => by rw [List.mem_singleton.mp hx]; exact lb)
      refine zip_begins2 B1 B2 p1 p2 fun h' hz hTI hTO h1 h2 hsz hk => Calls.spliced_nil ?_
      refine PySem.XEn.beginsZ (s := { s1 with heap := h' }) hz fun g he hsg hkg => wpAny_pyIter_enum he ?_
      have hs5 : h'.objs.size = s1.heap.objs.size + 5 := hsz
      have hkk : ∀ c o, s1.heap.get? c = some o → g.get? c = some o := fun c o y => hkg c o (hk c o y)
      have I2 : Inv X pins σ H1 { s1 with heap := g } := I1.kept (t' := s1.toks) hkk
      have he' : IsEnum g (s1.heap.objs.size + 5) (s1.heap.objs.size + 4) 0 .none := by rw [← hs5]; exact he
      have ne : ∀ j : Nat, j < 5 → s1.heap.objs.size + 5 ≠ s1.heap.objs.size + j := fun j hj => by omega
      have SS : EzSep (s1.heap.objs.size + 5) (s1.heap.objs.size + 4) (s1.heap.objs.size + 2) (s1.heap.objs.size + 3) s1.heap.objs.size (s1.heap.objs.size + 1) a b :=
        ⟨S, Nat.ne_of_lt la, Nat.ne_of_lt (Nat.lt_succ_of_lt lb), ne 4 (by omega), ne 2 (by omega), ne 3 (by omega), ne 0 (by omega), ne 1 (by omega), Nat.ne_of_gt (Nat.lt_add_right 5 la), Nat.ne_of_gt (Nat.lt_add_right 5 lb)⟩
      rw [show (({ s1 with heap := h' } : Shared).heap.objs.size) = s1.heap.objs.size + 5 from hs5]
      refine ⟨s1.heap.objs.size + 5, [s1.heap.objs.size + 5, s1.heap.objs.size + 4, s1.heap.objs.size + 2, s1.heap.objs.size + 3, s1.heap.objs.size, s1.heap.objs.size + 1], _, _, H1, rfl, I2, turn_ez (x1 := x1) (x2 := x2) SS, ⟨⟨.none, he'⟩, ⟨.inl (hkg _ _ hz), _, _, hkg _ _ hTO⟩, hkg _ _ hTI, k1 _ _ (hkg _ _ h1), k2 _ _ (hkg _ _ h2)⟩, fun x hcm => ?_, q _ ((walk_ez rfl).mono (fun H s => ⟨Same.sqB s hqx, Same.sqB s hqy⟩) fun _ _ _ _ _ _ y => y)⟩
      have hle : s1.heap.objs.size ≤ x := by
        have e' : x = s1.heap.objs.size + 5 ∨ x = s1.heap.objs.size + 4 ∨ x = s1.heap.objs.size + 2 ∨ x = s1.heap.objs.size + 3 ∨ x = s1.heap.objs.size ∨ x = s1.heap.objs.size + 1 := by simpa using hcm
        rcases e' with z | z | z | z | z | z <;> rw [z] <;> first | exact Nat.le_add_right _ _ | exact Nat.le_refl _
      exact I1.fpOk hle (I1.hok.fresh hle)
end XL
namespace XL
open PySem PySem.Spec PyProof.Rows L2
abbrev sUl : Stmt := topS 14
abbrev sBb : Stmt := topS 15
abbrev sLe : Stmt := topS 16
theorem boot_any' : bootBuiltins "any" = some (.builtin "any") := by decide +kernel
/-- a walk by an invariant, whatever is done at each item -/
theorem it_it {J : It} {n : Nat} {G : Hp → Prop} {Y : Nat → Hp → V → Hp → Prop} (w : Walk J n G Y) {body : V → Hp → (Hp → Prop) → Prop} {H1 : Hp} {Qd : Hp → Prop} (Pv : Nat → Hp → Prop) (h0 : Pv 0 H1) (hG : ∀ i H, i ≤ n → Pv i H → G H)
    (hs : ∀ i x H H', i < n → Pv i H → Y i H x H' → body x H' (Pv (i + 1))) (hd : ∀ H, Pv n H → Qd H) :
    ∃ W : Nat → Nat → Hp → Prop, (∃ m, W 0 m H1) ∧ ∀ i m H, W i m H →
      (J.stop i H ∧ Qd H) ∨ (J.go i H ∧ ∃ Nx : Hp → Prop, (∀ H', Nx H' → ∃ m', m' < m ∧ W (i + 1) m' H') ∧ ∀ x H', J.yld i H x H' → body x H' Nx) := by
  refine ⟨fun i m H => m = n - i ∧ i ≤ n ∧ Pv i H, ⟨n, by simp, Nat.zero_le _, h0⟩, ?_⟩
  rintro i m H ⟨rfl, hi, p⟩
  have q := hG i H hi p
  by_cases hlt : i < n
  · exact .inr ⟨w.goes i H hlt q, Pv (i + 1), fun H' p' => ⟨n - (i + 1), by omega, rfl, hlt, p'⟩, fun x H' y => hs i x H H' hlt p (w.yields i H x H' hlt q y)⟩
  · have e : i = n := by omega
    subst e
    exact .inl ⟨w.stops H q, hd H p⟩
section
variable {P : Program} {w : World} {K : PySem.W.Frag} {mg : Str → Option Value} {base : Heap}
/-! ### unlike_locks -/
abbrev nUl : List Str := ["one", "other", "lock", "first", "last"]
theorem scUl : FnScope nUl ["one", "other"] (defScope sUl) := ⟨rfl, rfl, rfl, by decide +kernel, rfl, by decide +kernel, by decide +kernel⟩
def spUl (K : PySem.W.Frag) : Sp := fun vs H Q _ => ∃ (u1 u2 : V) (s1 s2 : Sn), vs = [u1, u2] ∧ Dp K H u1 (snD s1) ∧ Dp K H u2 (snD s2) ∧ s1.ls.length = s2.ls.length ∧ s1.ls.length ≤ 100 ∧
  ∀ (L : Addr) (H' : Hp), Same H H' → H L = none → H' L = some (.lst ((natI (ul s1 s2 s1.ls.length)).map V.int)) → Q (.ref L) H'
theorem gt_nat {zs : List Int} {i : Nat} {z : Int} (h : zs[i]? = some z) : gt zs (i : Int) = z := by
  unfold gt
  rw [show ((i : Int)).toNat = i by omega, List.getD_eq_getElem?_getD, h]; rfl
theorem ok_ul {f : Addr} {fd : FuncData} {k : Nat} (F : Fun K "unlike_locks" "unlike_locks" sUl f fd) (m_enumerate : mg "enumerate" = none) (m_zip : mg "zip" = none) : FnOk P w K mg base CX0 (k + 1) f fd ["one", "other"] (spUl K) := by
  refine F.ok scUl (fun vs H Q E h => ?_) (fun cdv A outer s H vs Q E hr h => ?_)
  · obtain ⟨u1, u2, s1, s2, rfl, _⟩ := h
    rfl
  obtain ⟨u1, u2, s1, s2, rfl, h1, h2, hl, hn, q⟩ := h
  obtain ⟨a, ar, ab, al, rfl, ha, _, _, hal⟩ := snT h1
  obtain ⟨b, br, bb, bl, rfl, hb, _, _, hbl⟩ := snT h2
  refine ⟨_, (pss_one (ps_ret (pe_lc (own := [("lock", 2), ("first", 3), ("last", 4)]) (g := gAny K 2 (gCons (gName 2) (gCons (gAny K 2 (gCons (gName 3) (gCons (gName 4) gNil))) gNil))) rfl scUl.nd (pi_ez rfl m_enumerate rfl m_zip (pa_cons (pe_ix (r := rIxA K) ix_any (pv 0) pe_int (fun _ _ => rfl)) (pa_cons (pe_ix (r := rIxA K) ix_any (pv 1) pe_int (fun _ _ => rfl)) pa_nil))) (blkOk_by (own := [("lock", 2), ("first", 3), ("last", 4)]) (N := nUl) (sc := defScope sUl) (by decide +kernel)) (fun _ _ _ _ _ => (pg_any rfl (pgs_cons (pg_name (i := 2) scUl.nd rfl (.inl rfl)) (pgs_cons (pg_any rfl (pgs_cons (pg_name (i := 3) scUl.nd rfl (.inl rfl)) (pgs_cons (pg_name (i := 4) scUl.nd rfl (.inl rfl)) pgs_nil))) pgs_nil)))) (fun _ _ _ _ _ => (pts_one (pt_cmpR op_ne (pv 3) (pv 4) (nomark _)))) (fun _ _ _ _ _ => pe_hide (pv 2))))), ?_⟩
  refine ⟨_, rfl, a, _, _, _, rfl, rfl, .inr ha, rfl, _, rfl, b, _, _, _, rfl, rfl, .inr hb, rfl, al, bl, _, _, rfl, .inr hal, .inr hbl, fun J wk L nL => ?_⟩
  rw [List.length_map, List.length_map, show min s1.ls.length s2.ls.length = s1.ls.length by omega] at wk
  refine lc_it wk (fun i Hc => Hc L = some (.lst ((natI (ul s1 s2 i)).map V.int)) ∧ Same H Hc) ⟨upd_same, same_new nL⟩ (fun _ _ _ h => h.2) (fun i x Hc H' hi h hy => ?_) (fun Hc h => q L Hc h.2 nL h.1)
  obtain ⟨eL, sc⟩ := h
  obtain ⟨T1, T2, x, y, rfl, n1, n2, n12, rfl, ex, ey⟩ := hy
  have ex' : (s1.ls.map V.int)[i]? = some x := ex
  have ey' : (s2.ls.map V.int)[i]? = some y := ey
  obtain ⟨z1, hz1, rfl⟩ := intz_at ex'
  obtain ⟨z2, hz2, rfl⟩ := intz_at ey'
  have sA := same_new n1 (o := .tup [.int z1, .int z2])
  have n2' : (upd Hc T1 (.tup [.int z1, .int z2])) T2 = none := by rw [upd_ne (Ne.symm n12)]; exact n2
  have sB := same_new n2' (o := .tup [.int (i : Nat), .ref T1])
  have e2 : (upd (upd Hc T1 (.tup [.int z1, .int z2])) T2 (.tup [.int (i : Nat), .ref T1])) T2 = some (.tup [.int (i : Nat), .ref T1]) := upd_same
  have e1 : (upd (upd Hc T1 (.tup [.int z1, .int z2])) T2 (.tup [.int (i : Nat), .ref T1])) T1 = some (.tup [.int z1, .int z2]) := by rw [upd_ne n12]; exact upd_same
  have sAB := sA.trans sB
  generalize upd (upd Hc T1 (.tup [.int z1, .int z2])) T2 (.tup [.int (i : Nat), .ref T1]) = H' at sAB e2 e1
  refine ⟨T2, _, rfl, .inr (.inl (.inl e2)), rfl, _, _, rfl, _, _, rfl, T1, _, rfl, .inr (.inl (.inl e1)), rfl, _, _, rfl, _, _, rfl, rfl, rfl, rfl, ?_⟩
  refine ⟨_, rfl, _, rfl, rfl, _, rfl, ?_⟩
  have g1 := gt_nat hz1
  have g2 := gt_nat hz2
  have eL' := sAB _ _ eL
  have hlen : ((natI (ul s1 s2 i)).map V.int).length ≤ 1000 := by
    rw [List.length_map, List.length_map]
    unfold ul
    have := List.length_filter_le (fun i : Nat => decide (gt s1.ls (i : Int) ≠ gt s2.ls (i : Int))) (List.range i)
    rw [List.length_range] at this
    omega
  by_cases e : z1 = z2
  · rw [decide_eq_true (show V.int z1 = V.int z2 by rw [e])]
    refine iteF ⟨?_, sc.trans sAB⟩
    rw [ul_succ, if_neg (by rw [g1, g2]; exact fun z => z e), List.append_nil]
    exact eL'
  · rw [decide_eq_false (show ¬ V.int z1 = V.int z2 from fun z => e (V.int.inj z))]
    refine iteT ⟨L, _, eL', _, rfl, fun _ => ⟨_, upd_same, small1000' hlen, ?_, fun z o y => ?_⟩⟩
    · rw [upd_same, ul_succ, if_pos (by rw [g1, g2]; exact e)]
      unfold natI
      rw [List.map_append, List.map_append]
      rfl
    · have hzD : z ≠ L := ne_of_none y nL
      rw [upd_ne hzD, upd_ne hzD]
      unfold delH
      rw [if_neg hzD]
      exact (sc.trans sAB) _ _ y
/-! ### boats_behind -/
abbrev nBb : List Str := ["canal", "one", "other", "water", "boats", "lock", "start", "end"]
theorem scBb : FnScope nBb ["canal", "one", "other", "water"] (defScope sBb) := ⟨rfl, rfl, rfl, by decide +kernel, rfl, by decide +kernel, by decide +kernel⟩
def bbL (c : Cn) (s1 s2 : Sn) (r : Bool) : List Int := (ul s1 s2 c.ls.length).foldl (fun z i => mov z (fromTo c s1 i r)) (boatsW r s1)
def spBb (K : PySem.W.Frag) : Sp := fun vs H Q _ => ∃ (v u1 u2 : V) (r : Bool) (c : Cn) (s1 s2 : Sn) (B1 B2 : Int), vs = [v, u1, u2, .str (wS r)] ∧ CnAny K H v c ∧ Dp K H u1 (snD s1) ∧ Dp K H u2 (snD s2) ∧ okCn 10 12 c ∧ okSn c B1 s1 ∧ okSn c B2 s2 ∧
  ∀ (L : Addr) (H' : Hp), Same H H' → H L = none → H' L = some (.lst ((bbL c s1 s2 r).map V.int)) → Q (.ref L) H'
theorem ok_bb {f fb fu ft : Addr} {fd fdb fdu fdt : FuncData} {k : Nat} (F : Fun K "boats_behind" "boats_behind" sBb f fd) (Bo : Fns P w K mg base k "boats_of" ["standing", "water"] (spBoT K) fb fdb) (Ul : Fns P w K mg base k "unlike_locks" ["one", "other"] (spUl K) fu fdu) (FT : Fns P w K mg base k "from_and_to" ["canal", "standing", "lock", "water"] (spFT K) ft fdt) (m_list : mg "list" = none) : FnOk P w K mg base CX0 (k + 1) f fd ["canal", "one", "other", "water"] (spBb K) := by
  refine F.ok scBb (fun vs H Q E h => ?_) (fun cdv A outer s H vs Q E hr h => ?_)
  · obtain ⟨v, u1, u2, r, c, s1, s2, B1, B2, rfl, _⟩ := h
    rfl
  obtain ⟨v, u1, u2, r, c, s1, s2, B1, B2, rfl, hc, hu1, hu2, okc, ok1, ok2, q⟩ := h
  have hn1 := ok1.n; have hn2 := ok2.n; have hnL : c.ls.length ≤ 12 := okc.n
  refine ⟨_, (pss_cons (ps_set (i := 4) scBb.nd rfl (.inl rfl) (pe_callTy (r := rLstA K) call_listA rfl m_list boot_list (pa_cons (pe_fn Bo hr rfl (pa_cons (pv 1) (pa_cons (pv 3) pa_nil))) pa_nil)))
    (pss_cons (ps_for PassesOwn.never rfl (pi_seq (pe_fn Ul hr rfl (pa_cons (pv 1) (pa_cons (pv 2) pa_nil)))) (pg_name (i := 5) scBb.nd rfl (.inl rfl))
    (pss_cons (ps_asg (pe_fn FT hr rfl (pa_cons (pv 0) (pa_cons (pv 1) (pa_cons (pv 5) (pa_cons (pv 3) pa_nil))))) (pg_any rfl (pgs_cons (pg_name (i := 6) scBb.nd rfl (.inl rfl)) (pgs_cons (pg_name (i := 7) scBb.nd rfl (.inl rfl)) pgs_nil))))
    (pss_cons (ps_augS (pv 4) (pv 6) get_list pe_int ip_sub set_list)
    (pss_one (ps_augS (pv 4) (pv 7) get_list pe_int ip_add set_list)))))
    (pss_one (ps_ret (pv 4))))), ?_⟩
  refine ⟨_, rfl, _, rfl, nil_go ⟨u1, r, s1, rfl, hu1, fun a ha => ?_⟩⟩
  refine nil_go ⟨a, _, rfl, .inr ha, fun L nL => ?_⟩
  refine at_g (σ' := [some v, some u1, some u2, some (.str (wS r)), some (.ref L), none, none, none]) rfl ?_
  have sL := same_new nL (o := .lst ((boatsW r s1).map V.int))
  have eL : (upd H L (.lst ((boatsW r s1).map V.int))) L = some (.lst ((boatsW r s1).map V.int)) := upd_same
  generalize upd H L (.lst ((boatsW r s1).map V.int)) = H1 at sL eL
  refine ⟨_, rfl, _, rfl, nil_go ⟨u1, u2, s1, s2, rfl, Dp.same sL _ hu1, Dp.same sL _ hu2, by omega, by omega, fun U H2 s2' nU eU => ?_⟩⟩
  rw [hn1] at eU
  have s12 := sL.trans s2'
  have hUL : U ≠ L := fun z => by rw [z, eL] at nU; cases nU
  refine ⟨U, _, rfl, .inl (SqL.of eU), fun J wk => for_it wk (fun j σ H5 => ∃ (y5 y6 y7 : Option V), σ = [some v, some u1, some u2, some (.str (wS r)), some (.ref L), y5, y6, y7] ∧ Same H H5 ∧ H5 U = some (.lst ((natI (ul s1 s2 c.ls.length)).map V.int)) ∧ H5 L = some (.lst ((((ul s1 s2 c.ls.length).take j).foldl (fun z i => mov z (fromTo c s1 i r)) (boatsW r s1)).map V.int)))
    ⟨none, none, none, rfl, s12, eU, by rw [List.take_zero]; exact s2' _ _ eL⟩ (fun j σ H5 _ h => ?_) (fun j x σ H5 H6 hj h hy => ?_) (fun σ H5 h => ?_)⟩
  · obtain ⟨_, _, _, _, _, e5, _⟩ := h
    refine ⟨fun _ _ => SqL.of e5, fun z => ?_⟩
    rcases z with (z | ⟨o, z⟩) | z
    · rw [eU] at z; cases z
    · rw [eU] at z; cases z
    · exact .inr z
  · obtain ⟨y5, y6, y7, rfl, s5, e5, l5⟩ := h
    obtain ⟨rfl, hx⟩ := hy
    obtain ⟨zi, hzi, rfl⟩ := intz_at hx
    have hzi' : (natI (ul s1 s2 c.ls.length))[j]? = some zi := hzi
    unfold natI at hzi'
    rw [List.getElem?_map] at hzi'
    cases hq : (ul s1 s2 c.ls.length)[j]? with
    | none => rw [hq] at hzi'; cases hzi'
    | some i =>
      rw [hq] at hzi'
      obtain rfl : ((i : Nat) : Int) = zi := Option.some.inj hzi'
      have hi : i < c.ls.length := (ul_lt (List.mem_of_getElem? hq)).1
      refine at_g (σ' := [some v, some u1, some u2, some (.str (wS r)), some (.ref L), some (.int (i : Nat)), y6, y7]) rfl ?_
      refine ⟨_, rfl, _, rfl, _, rfl, _, rfl, nil_go ⟨v, u1, i, r, c, s1, rfl, hc.same s5, (snAny_t hu1).same s5, hi, by omega, fun p H7 s7 np ep => ?_⟩⟩
      refine ⟨p, _, rfl, .inr (.inl (.inl ep)), rfl, _, _, rfl, _, _, rfl, rfl, ?_⟩
      refine at_s (σ' := [some v, some u1, some u2, some (.str (wS r)), some (.ref L), some (.int (i : Nat)), some (.int (fromTo c s1 i r).1), some (.int (fromTo c s1 i r).2)]) rfl ?_
      have l7 := s7 _ _ l5
      have hf := fromTo_ok okc (s := s1) hi r
      have hbl := boats_len ok1 r
      obtain ⟨hlen, _⟩ := mov_sum (r := r) okc (s := s1) (zs := boatsW r s1) hbl (j := 0) (by omega) ((ul s1 s2 c.ls.length).take j) (fun x hx => (ul_lt (List.mem_of_mem_take hx)).1)
      generalize hzs : ((ul s1 s2 c.ls.length).take j).foldl (fun z i => mov z (fromTo c s1 i r)) (boatsW r s1) = zs at l7 l5 hlen
      have hl7 : (zs.length : Int) = basW r c := by rw [hlen]; exact hbl
      have L1 : (fromTo c s1 i r).1 < (zs.length : Int) := by rw [hl7]; exact hf.1.2
      have L2 : (fromTo c s1 i r).2 < ((zs.set (fromTo c s1 i r).1.toNat (gt zs (fromTo c s1 i r).1 - 1)).length : Int) := by rw [List.length_set, hl7]; exact hf.2.2
      have at1 : ∀ {ws : List Int} {x : Int}, 0 ≤ x → x < (ws.length : Int) → (ws.map V.int)[x.toNat]? = some (.int (gt ws x)) := fun {ws x} h0 h1 => by rw [List.getElem?_map, gt_get h0 h1]; rfl
      refine ⟨_, rfl, _, rfl, L, _, _, _, rfl, rfl, SqL.of l7, hf.1.1, at1 hf.1.1 L1, _, _, rfl, rfl, L, _, _, _, rfl, rfl, l7, set_at (x := 0) hf.1.1 L1, ?_⟩
      rw [set_ints]
      refine ⟨_, rfl, _, rfl, L, _, _, _, rfl, rfl, SqL.of upd_same, hf.2.1, at1 hf.2.1 L2, _, _, rfl, rfl, L, _, _, _, rfl, rfl, upd_same, set_at (x := 0) hf.2.1 L2, ?_⟩
      rw [set_ints, upd_upd]
      refine ⟨_, _, _, rfl, fun x o e => by rw [upd_ne (ne_of_none e nL)]; exact (s5.trans s7) _ _ e, by rw [upd_ne hUL]; exact s7 _ _ e5, ?_⟩
      rw [upd_same, take_snoc hq, List.foldl_append, hzs]
      rfl
  · obtain ⟨y5, y6, y7, rfl, s5, e5, l5⟩ := h
    have e : (ul s1 s2 c.ls.length).take ((natI (ul s1 s2 c.ls.length)).map V.int).length = ul s1 s2 c.ls.length := List.take_of_length_le (by rw [List.length_map, List.length_map]; exact Nat.le_refl _)
    rw [e] at l5
    exact ⟨_, rfl, q L H5 s5 nL l5⟩

end
end XL
namespace XL
open PySem PySem.Spec PyProof.Rows L2
theorem idep' : ∀ zs : List Int, PyData.depthAll (zs.map PyData.int) = 0
  | [] => by simp [PyData.depthAll]
  | z :: zs => by simp [PyData.depthAll, PyData.depth, idep' zs]
theorem ilay' : ∀ zs : List Int, PyData.canLayAll0 (zs.map PyData.int) = true
  | [] => by simp [PyData.canLayAll0]
  | z :: zs => by simp [PyData.canLayAll0, PyData.canLay0, ilay' zs]
theorem lints_shaped (zs : List Int) : SeqAt.shaped (.list (intsD zs)) = true := by
  have h1 := idep' zs
  have h2 : PyData.depth (.list (intsD zs)) ≤ 64 := by unfold intsD; simp only [PyData.depth]; omega
  show (PyData.canLay0 (.list (intsD zs)) && decide (PyData.depth (.list (intsD zs)) ≤ 64)) = true
  rw [Bool.and_eq_true]; exact ⟨by unfold intsD; simp only [PyData.canLay0]; exact ilay' zs, decide_eq_true h2⟩
theorem lints_eqv (zs : List Int) : PyData.eqv (.list (intsD zs)) (.list (intsD zs)) = true := by
  simp only [PyData.eqv]
  induction zs with
  | nil => simp [intsD, PyData.eqvAll]
  | cons z zs ih =>
    unfold intsD at ih ⊢
    simp [PyData.eqvAll, PyData.eqv, ih]
theorem flat_ints (zs : List Int) : (zs.map V.int).all flatV = true := by
  rw [List.all_eq_true]
  intro x hx
  obtain ⟨z, _, rfl⟩ := List.mem_map.mp hx
  rfl
theorem in_ints (x : Int) (zs : List Int) : inV (.int x) (zs.map V.int) = decide (x ∈ zs) := by
  unfold inV
  rw [List.any_map, Bool.eq_iff_iff, List.any_eq_true, decide_eq_true_iff]
  constructor
  · rintro ⟨z, hz, e⟩
    have : z = x := by simpa [eqV] using e
    rw [← this]; exact hz
  · intro h
    exact ⟨x, h, by simp [eqV]⟩
theorem pi_seqK {X : Cx} {K : PySem.W.Frag} {tg l : Expr} {tl : TE} (hK : X.K = K) (hl : PE X l tl) : PI X tg l (iSeq K tl) := by
  subst hK
  exact pi_seq hl
section
variable {P : Program} {w : World} {K : PySem.W.Frag} {mg : Str → Option Value} {base : Heap}
/-! ### leads -/
abbrev nLe : List Str := ["canal", "one", "other", "water", "barred", "ends", "lock", "end"]
theorem scLe : FnScope nLe ["canal", "one", "other", "water"] (defScope sLe) := ⟨rfl, rfl, rfl, by decide +kernel, rfl, by decide +kernel, by decide +kernel⟩
def spLe (K : PySem.W.Frag) : Sp := fun vs H Q _ => ∃ (v u1 u2 : V) (r : Bool) (c : Cn) (s1 : Sn) (B1 : Int) (ms : List Mv), vs = [v, u1, u2, .str (wS r)] ∧ CnAny K H v c ∧ Dp K H u1 (snD s1) ∧ Dp K H u2 (snD (runS c s1 ms)) ∧ okCn 10 12 c ∧ okSn c B1 s1 ∧ okRun c s1 ms ∧ (∀ m ∈ ms, m.2 = r) ∧ Alone s1 r ∧ Alone (runS c s1 ms) r ∧
  ∀ H' : Hp, Same H H' → Q (.bl true) H'
theorem ok_le {f fa fb fo fs fu fe : Addr} {fd fda fdb fdo fds fdu fde : FuncData} {k : Nat} (F : Fun K "leads" "leads" sLe f fd) (Al : Fns P w K mg base k "be_alone" ["standing", "water"] (spAl K) fa fda) (Bb : Fns P w K mg base k "boats_behind" ["canal", "one", "other", "water"] (spBb K) fb fdb) (Bo : Fns P w K mg base k "boats_of" ["standing", "water"] (spBoT K) fo fdo) (As : Fns P w K mg base k "asleep" ["canal", "standing", "water"] (spAs K) fs fds) (Ul : Fns P w K mg base k "unlike_locks" ["one", "other"] (spUl K) fu fdu) (En : Fns P w K mg base k "ends_of" ["lock", "water"] (spEnds K) fe fde)
    (m_list : mg "list" = none) (m_any : mg "any" = none) : FnOk P w K mg base CX0 (k + 1) f fd ["canal", "one", "other", "water"] (spLe K) := by
  refine F.ok scLe (fun vs H Q E h => ?_) (fun cdv A outer s H vs Q E hr h => ?_)
  · obtain ⟨v, u1, u2, r, c, s1, B1, ms, rfl, _⟩ := h
    rfl
  obtain ⟨v, u1, u2, r, c, s1, B1, ms, rfl, hc, hu1, hu2, okc, ok1, okr, hw, al1, al2, q⟩ := h
  have ok2 := runS_ok okc ok1 okr
  have hn1 := ok1.n; have hn2 := ok2.n; have hnL : c.ls.length ≤ 12 := okc.n
  have hbb : bbL c s1 (runS c s1 ms) r = boatsW r (runS c s1 ms) := behind_eq okc ok1 okr hw
  have hul : ∀ i ∈ ul s1 (runS c s1 ms) c.ls.length, ∃ m ∈ ms, m.1 = i := fun i hi => by
    obtain ⟨_, h2⟩ := ul_lt hi
    rcases run_unlike (c := c) (r := r) (s := s1) ms s1 hw i h2 with z | z
    · exact absurd rfl z
    · exact z
  generalize runS c s1 ms = s2 at hu2 al2 ok2 hn2 hbb hul
  refine ⟨_, (pss_cons (ps_expr (pe_fn Al hr rfl (pa_cons (pv 1) (pa_cons (pv 3) pa_nil))))
    (pss_cons (ps_expr (pe_fn Al hr rfl (pa_cons (pv 2) (pa_cons (pv 3) pa_nil))))
    (pss_cons (ps_if (pt_cmpR (op_neD hr.units) (pe_fn Bb hr rfl (pa_cons (pv 0) (pa_cons (pv 1) (pa_cons (pv 2) (pa_cons (pv 3) pa_nil))))) (pe_callTy (r := rLstA K) call_listA rfl m_list boot_list (pa_cons (pe_fn Bo hr rfl (pa_cons (pv 2) (pa_cons (pv 3) pa_nil))) pa_nil)) (nomark _)) (pss_one (ps_ret pe_bl)) pss_nil)
    (pss_cons (ps_set (i := 4) scLe.nd rfl (.inr rfl) (pe_fn As hr rfl (pa_cons (pv 0) (pa_cons (pv 1) (pa_cons (pv 3) pa_nil)))))
    (pss_cons (ps_setLc2 (i := 5) (own := [("lock", 6), ("end", 7)]) (vs1 := [7]) (g := gName 6) (g1 := gName 7) (tt := tYes) (tt1 := tYes) rfl scLe.nd rfl rfl (sw_true rfl rfl rfl (by decide +kernel)) (pi_seq (pe_fn Ul hr rfl (pa_cons (pv 1) (pa_cons (pv 2) pa_nil)))) (blkOk_by (own := [("lock", 6), ("end", 7)]) (N := nLe) (sc := defScope sLe) (by decide +kernel)) (by decide) (fun _ _ _ _ _ => (pg_name (i := 6) scLe.nd rfl (.inl rfl))) (fun _ _ _ _ _ => pts_nil) (fun _ _ _ _ _ => (pi_seqK (K := K) rfl (pe_fn En hr rfl (pa_cons (pe_ix (r := rIxA K) ix_any (pe_ix (r := rIxA K) ix_any (pv 0) pe_int (fun _ _ => rfl)) (pv 6) (fun _ _ => rfl)) (pa_cons (pv 3) pa_nil))))) (fun _ _ _ _ _ => (pg_name (i := 7) scLe.nd rfl (.inl rfl))) (fun _ _ _ _ _ => pts_nil) (fun _ _ _ _ _ => (pv 7)))
    (pss_one (ps_ret (pe_not (pe_callB (r := rAny K) (cr_any rfl) rfl m_any boot_any' (pa_cons (pe_lc (own := [("end", 7)]) (g := gName 7) (tt := tYes) rfl scLe.nd (pi_seq (pv 5)) (blkOk_by (own := [("end", 7)]) (N := nLe) (sc := defScope sLe) (by decide +kernel)) (fun _ _ _ _ _ => (pg_name (i := 7) scLe.nd rfl (.inl rfl))) (fun _ _ _ _ _ => pts_nil) (fun _ _ _ _ _ => pe_hide (pe_cmpR (r := rIn K false) op_in_seq (pv 7) (pv 4) (by rfl)))) pa_nil)))))))))), ?_⟩
  refine ⟨_, rfl, _, rfl, nil_go ⟨u1, r, s1, rfl, hu1, al1, fun H1 g1 => ?_⟩⟩
  refine ⟨_, rfl, _, rfl, nil_go ⟨u2, r, s2, rfl, Dp.same g1 _ hu2, al2, fun H2 g2 => ?_⟩⟩
  have s02 := g1.trans g2
  refine ⟨_, rfl, _, rfl, _, rfl, _, rfl, nil_go ⟨v, u1, u2, r, c, s1, s2, _, _, rfl, hc.same s02, Dp.same s02 _ hu1, Dp.same s02 _ hu2, okc, ok1, ok2, fun L H3 g3 nL eL => ?_⟩⟩
  rw [hbb] at eL
  have s03 := s02.trans g3
  refine ⟨_, rfl, _, rfl, nil_go ⟨u2, r, s2, rfl, Dp.same s03 _ hu2, fun a ha => nil_go ⟨a, _, rfl, .inr ha, fun L2 nL2 => ?_⟩⟩⟩
  have g4 := same_new nL2 (o := .lst ((boatsW r s2).map V.int))
  have eL2 : (upd H3 L2 (.lst ((boatsW r s2).map V.int))) L2 = some (.lst ((boatsW r s2).map V.int)) := upd_same
  generalize upd H3 L2 (.lst ((boatsW r s2).map V.int)) = H4 at g4 eL2
  have s04 := s03.trans g4
  refine ⟨.list (intsD (boatsW r s2)), .list (intsD (boatsW r s2)), .lst (SqL.of (g4 _ _ eL)) (dp_ints' _), .lst (SqL.of eL2) (dp_ints' _), lints_shaped _, lints_shaped _, _, rfl, ?_⟩
  rw [lints_eqv]
  refine iteF ?_
  refine ⟨_, rfl, _, rfl, _, rfl, nil_go ⟨v, u1, r, c, s1, _, rfl, hc.same s04, Dp.same s04 _ hu1, okc, ok1, al1, fun Ba f H5 g5 nB rd eB => ?_⟩⟩
  refine at_g (σ' := [some v, some u1, some u2, some (.str (wS r)), some (.ref Ba), none, none, none]) rfl ?_
  have s05 := s04.trans g5
  have clo := (clo_run okc ms s1 _ ok1 okr hw rd.clo).2
  refine ⟨_, rfl, _, rfl, nil_go ⟨u1, u2, s1, s2, rfl, Dp.same s05 _ hu1, Dp.same s05 _ hu2, by omega, by omega, fun U H6 g6 nU eU => ?_⟩⟩
  rw [hn1] at eU
  have s06 := s05.trans g6
  have eB6 := g6 _ _ eB
  obtain ⟨a1, g', vs, rfl, ha1, hg', hvl, hv⟩ := (hc.same s06).ex
  refine ⟨U, _, rfl, .inl (SqL.of eU), fun J wk D nD => it_it wk (fun i Hc => ∃ es : List Int, Hc D = some (.lst (es.map V.int)) ∧ Same H6 Hc ∧ es.length ≤ 2 * i ∧ ∀ z ∈ es, f z ≠ none) ⟨[], upd_same, same_new nD, Nat.le_refl _, fun z h => by cases h⟩ (fun i Hc _ h => ?_) (fun i x Hc H' hi h hy => ?_) (fun Hc h => ?_)⟩
  · obtain ⟨_, _, sc, _⟩ := h
    exact ⟨fun _ z => sc.seq z, fun z => Same.tup sc z⟩
  · obtain ⟨es, eD, sc, hl, hes⟩ := h
    obtain ⟨rfl, hx⟩ := hy
    obtain ⟨zi, hzi, rfl⟩ := intz_at hx
    unfold natI at hzi
    rw [List.getElem?_map] at hzi
    cases hq : (ul s1 s2 c.ls.length)[i]? with
    | none => rw [hq] at hzi; cases hzi
    | some il =>
      rw [hq] at hzi
      obtain rfl : ((il : Nat) : Int) = zi := Option.some.inj hzi
      have hmem := List.mem_of_getElem? hq
      have hil : il < c.ls.length := (ul_lt hmem).1
      obtain ⟨m, hm, hmi⟩ := hul il hmem
      have hcl := clo m hm
      rw [hmi] at hcl
      have hvi : il < vs.length := by omega
      obtain ⟨l, t, el, et, ht⟩ := hv il _ (List.getElem?_eq_getElem hvi)
      rw [lkAt_get hil] at el
      obtain rfl : lkAt c il = l := Option.some.inj el
      refine ⟨rfl, ?_⟩
      unfold tYes
      refine iteT ?_
      have hil8 : i < 12 := by
        have : i < ((natI (ul s1 s2 c.ls.length)).map V.int).length := hi
        rw [List.length_map, List.length_map] at this
        unfold ul at this
        have h2 := List.length_filter_le (fun i : Nat => decide (gt s1.ls (i : Int) ≠ gt s2.ls (i : Int))) (List.range c.ls.length)
        rw [List.length_range] at h2
        omega
      have ati : atI vs ((il : Nat) : Int) = some (.ref t) := by
        refine atI_nat ?_
        rw [List.getElem?_eq_getElem hvi, et]
      refine ⟨_, rfl, a1, _, _, _, rfl, rfl, Same.sq2 sc ha1, rfl, _, rfl, g', _, _, _, rfl, rfl, Same.sq2 sc hg', ati, _, rfl, nil_go ⟨t, wS r, lkAt c il, rfl, Same.sq2 sc ht, fun p np => ?_⟩⟩
      rw [isRed_wS]
      have sp := same_new np (o := .tup (prV (endW r (lkAt c il))))
      have ep : (upd H' p (.tup (prV (endW r (lkAt c il))))) p = some (.tup (prV (endW r (lkAt c il)))) := upd_same
      have hpD : p ≠ D := fun z => by rw [z, eD] at np; cases np
      generalize upd H' p (.tup (prV (endW r (lkAt c il)))) = H7 at sp ep
      refine ⟨p, _, rfl, .inr (.inl (.inl ep)), fun J1 wk1 => it_it wk1 (fun j Hd => ∃ es : List Int, Hd D = some (.lst (es.map V.int)) ∧ Same H6 Hd ∧ es.length ≤ 2 * i + j ∧ (∀ z ∈ es, f z ≠ none) ∧ Hd p = some (.tup (prV (endW r (lkAt c il))))) ⟨es, sp _ _ eD, sc.trans sp, by omega, hes, ep⟩ (fun j Hd _ h => ?_) (fun j x Hd H' hj h hy => ?_) (fun Hd h => ?_)⟩
      · obtain ⟨_, _, _, _, _, ep'⟩ := h
        refine ⟨fun nt _ => absurd (.inl (.inl ep)) nt, fun _ => .inl (.inl ep')⟩
      · obtain ⟨es', eD', sd, hl', hes', ep'⟩ := h
        obtain ⟨rfl, hx'⟩ := hy
        have hj2 : j < 2 := hj
        have fz : ∃ z : Int, x = .int z ∧ f z ≠ none := by
          rcases Nat.lt_or_ge j 1 with h1 | h1
          · obtain rfl : j = 0 := by omega
            exact ⟨_, (Option.some.inj hx').symm, hcl.1⟩
          · obtain rfl : j = 1 := by omega
            exact ⟨_, (Option.some.inj hx').symm, hcl.2⟩
        obtain ⟨z, rfl, hfz⟩ := fz
        refine ⟨rfl, ?_⟩
        refine iteT ⟨_, rfl, _, eD', small1000' (by rw [List.length_map]; omega), es' ++ [z], ?_, fun y o e => by rw [upd_ne (ne_of_none e nD)]; exact sd _ _ e, by rw [List.length_append]; simp only [List.length_cons, List.length_nil]; omega, fun w' hw' => ?_, by rw [upd_ne hpD]; exact ep'⟩
        · rw [upd_same, List.map_append]; rfl
        · rcases List.mem_append.mp hw' with h1 | h1
          · exact hes' w' h1
          · rw [List.mem_singleton.mp h1]; exact hfz
      · obtain ⟨es', eD', sd, hl', hes', _⟩ := h
        have hl2 : es'.length ≤ 2 * i + 2 := hl'
        exact ⟨es', eD', sd, by omega, hes'⟩
  obtain ⟨es, eD, sc, hl, hes⟩ := h
  have hl2 : es.length ≤ 24 := by
    rw [List.length_map, List.length_map] at hl
    unfold ul at hl
    have h2 := List.length_filter_le (fun i : Nat => decide (gt s1.ls (i : Int) ≠ gt s2.ls (i : Int))) (List.range c.ls.length)
    rw [List.length_range] at h2
    omega
  refine at_g (σ' := [some (.ref a1), some u1, some u2, some (.str (wS r)), some (.ref Ba), some (.ref D), none, none]) rfl ?_
  have eB7 := sc _ _ eB6
  have s07 := s06.trans sc
  refine ⟨_, rfl, D, _, rfl, .inl (SqL.of eD), fun J wk => lc_map wk Same (fun a b => a.trans b) (fun i y F => y = .bl false) (fun i y A B s p => p) (by rw [List.length_map]; exact small1000' (by omega)) (Same.refl _) (fun F D' acc sF nF => ?_) (fun i x D' acc F H' hi nD' sF nF hy B hB => ?_) (fun D' ys F nD' sF nF hyl hR => ?_)⟩
  · have sD : Same _ (upd F D' (.lst acc)) := sF.trans (same_new nF)
    exact ⟨fun _ z => sD.seq z, fun z => Same.tup sD z⟩
  · obtain ⟨rfl, hx⟩ := hy
    obtain ⟨z, hz, rfl⟩ := intz_at hx
    refine hB _ F rfl nF fun Qt hq => ?_
    refine ⟨_, rfl, _, rfl, Ba, _, rfl, .inl (SqL.of (sF _ _ eB7)), rfl, flat_ints _, ?_⟩
    have hfz := hes z (List.mem_of_getElem? hz)
    rw [in_ints, decide_eq_false (fun hm => ?_)]
    · exact hq _ _ (Same.refl _) rfl
    · unfold natI at hm
      obtain ⟨n, hn, e⟩ := List.mem_map.mp hm
      obtain ⟨_, h2⟩ := List.mem_filter.mp hn
      rw [e] at h2
      cases hq' : f z with
      | none => exact hfz hq'
      | some ks => rw [hq'] at h2; cases h2
  · have ey : ys = (List.replicate ys.length false).map V.bl := by
      apply List.ext_getElem?
      intro i
      rw [List.map_replicate, List.getElem?_replicate]
      cases h : ys[i]? with
      | none => rw [if_neg (by have := List.getElem?_eq_none_iff.mp h; omega)]
      | some y => rw [if_pos (List.getElem?_eq_some_iff.mp h).1, hR i y h]
    refine nil_go ⟨D', List.replicate ys.length false, rfl, by rw [← ey]; exact SqL.of upd_same, ?_⟩
    have ea : (List.replicate ys.length false).any id = false := by
      rw [List.any_eq_false]
      intro x hx
      rw [(List.mem_replicate.mp hx).2]; decide
    rw [ea]
    exact ⟨_, rfl, q _ (s07.trans (sF.trans (same_new nF)))⟩

end
end XL
namespace XL
open PySem PySem.Spec PyProof.Rows L2
abbrev sHu : Stmt := topS 27
abbrev sSi : Stmt := topS 28
abbrev sWa : Stmt := topS 29
section
variable {P : Program} {w : World} {K : PySem.W.Frag} {mg : Str → Option Value} {base : Heap}
/-! ### hues -/
abbrev nHu : List Str := ["_law_hue"]
theorem scHu : FnScope nHu ["_law_hue"] (defScope sHu) := ⟨rfl, rfl, rfl, by decide +kernel, rfl, by decide +kernel, by decide +kernel⟩
def pI (r : Bool) : Int := if r = true then 0 else 1
def spHu : Sp := fun vs H Q _ => ∃ r : Bool, vs = [.str (wS r)] ∧ ∀ p, H p = none → Q (.ref p) (upd H p (.tup [.int (pI r), .int (pI (!r))]))
theorem ok_hu {f : Addr} {fd : FuncData} {k : Nat} (F : Fun K "_law_hues" "_law_hues" sHu f fd) : FnOk P w K mg base CX0 (k + 1) f fd ["_law_hue"] spHu := by
  refine F.ok scHu (fun vs H Q E h => ?_) (fun cdv A outer s H vs Q E hr h => ?_)
  · obtain ⟨r, rfl, _⟩ := h
    rfl
  obtain ⟨r, rfl, q⟩ := h
  refine ⟨_, (pss_one (ps_ret (pe_ifExp (pt_cmpR op_eq (pv 0) pe_str (nomark _)) (pe_tup (pa_cons pe_int (pa_cons pe_int pa_nil))) (pe_tup (pa_cons pe_int (pa_cons pe_int pa_nil)))))), ?_⟩
  refine ⟨_, rfl, rfl, _, rfl, ?_⟩
  rw [wS_red]
  cases r with
  | true => exact iteT ⟨by show 2 ≤ sizeLine; decide, fun p np => q p np⟩
  | false => exact iteF ⟨by show 2 ≤ sizeLine; decide, fun p np => q p np⟩
/-! ### ways_out -/
abbrev nWa : List Str := ["_law_ship_way", "_law_lying", "_law_hue", "_law_gate"]
theorem scWa : FnScope nWa ["_law_ship_way", "_law_lying", "_law_hue"] (defScope sWa) := ⟨rfl, rfl, rfl, by decide +kernel, rfl, by decide +kernel, by decide +kernel⟩
structure WaAt (H : Hp) (L : Addr) (c : Cn) (s : Sn) (r : Bool) (us : List V) : Prop where
  e : H L = some (.lst us)
  l : us.length = c.ls.length
  d : ∀ (j : Nat) u, us[j]? = some u → ∃ t, u = .ref t ∧ H t = some (.tup (prV (fromTo c s j r)))
def spWa (K : PySem.W.Frag) : Sp := fun vs H Q _ => ∃ (v u : V) (r : Bool) (c : Cn) (s : Sn) (B : Int), vs = [v, u, .str (wS r)] ∧ Dp K H v (cnD c) ∧ Dp K H u (snD s) ∧ okCn 10 12 c ∧ okSn c B s ∧
  ∀ (L : Addr) (us : List V) (H' : Hp), Same H H' → H L = none → WaAt H' L c s r us → Q (.ref L) H'
theorem ok_wa {f fl : Addr} {fd fdl : FuncData} {k : Nat} (F : Fun K "_law_ways_out" "_law_ways_out" sWa f fd) (LF : Fns P w K mg base k "_law_from_to" ["_law_ship_way", "_law_lying", "_law_hop"] (spLF K) fl fdl) (m_range : mg "range" = none) (m_len : mg "len" = none) : FnOk P w K mg base CX0 (k + 1) f fd ["_law_ship_way", "_law_lying", "_law_hue"] (spWa K) := by
  refine F.ok scWa (fun vs H Q E h => ?_) (fun cdv A outer s H vs Q E hr h => ?_)
  · obtain ⟨v, u, r, c, s, B, rfl, _⟩ := h
    rfl
  obtain ⟨v, u, r, c, s, B, rfl, hc, hu, okc, ok, q⟩ := h
  obtain ⟨a, g, vs, rfl, ha, hg, hl⟩ := cn_of hc
  have hvl : vs.length = c.ls.length := by rw [DpAll.length hl, List.length_map]
  have hnL : c.ls.length ≤ 12 := okc.n
  have hn := ok.n
  refine ⟨_, (pss_one (ps_ret (pe_lc (own := [("_law_gate", 3)]) (g := gName 3) (tt := tYes) rfl scWa.nd (pi_range1 rfl m_range (pa_cons (pe_callB (r := rLenA K) call_lenA rfl m_len PySem.boot_len (pa_cons (pe_ix (r := rIxA K) ix_any (pv 0) pe_int (fun _ _ => rfl)) pa_nil)) pa_nil)) (blkOk_by (own := [("_law_gate", 3)]) (N := nWa) (sc := defScope sWa) (by decide +kernel)) (fun _ _ _ _ _ => (pg_name (i := 3) scWa.nd rfl (.inl rfl))) (fun _ _ _ _ _ => pts_nil) (fun _ _ _ _ _ => pe_hide (pe_fn LF hr rfl (pa_cons (pv 0) (pa_cons (pv 1) (pa_cons (pe_tup (pa_cons (pv 3) (pa_cons (pv 2) pa_nil))) pa_nil)))))))), ?_⟩
  refine ⟨_, rfl, a, _, _, _, rfl, rfl, .inr ha, rfl, g, vs, rfl, .inr hg, _, rfl, by omega, by omega, ?_⟩
  refine lc_map walk_range Same (fun a b => a.trans b) (fun i y F => ∃ t, y = .ref t ∧ F t = some (.tup (prV (fromTo c s i r)))) (fun i y A B s p => by obtain ⟨t, e, h⟩ := p; exact ⟨t, e, s _ _ h⟩) (small1000' (by omega)) (Same.refl _) (fun _ _ _ _ _ => trivial) (fun i x D acc F H' hi nD sF nF hy B hB => ?_) (fun D ys F nD sF nF hyl hR => ?_)
  · obtain ⟨rfl, rfl⟩ := hy
    refine hB _ F rfl nF fun Qt hq => ?_
    have hi' : i < c.ls.length := by have : i < vs.length := hi; omega
    refine ⟨_, rfl, _, rfl, _, rfl, _, rfl, (by show 2 ≤ sizeLine; decide), fun p np => nil_go ?_⟩
    have sp := same_new np (o := .tup [.int (0 + (i : Int)), .str (wS r)])
    have ep : (upd F p (.tup [.int (0 + (i : Int)), .str (wS r)])) p = some (.tup (mvV (i, r))) := by rw [upd_same, Int.zero_add]; rfl
    refine ⟨_, u, p, i, r, c, s, rfl, Dp.same (sF.trans sp) _ hc, (snAny_t hu).same (sF.trans sp), .inr (.inl (.inl ep)), hi', by omega, fun t H2 s2 nt et => ?_⟩
    exact hq _ _ (sp.trans s2) ⟨t, rfl, et⟩
  · have sD := same_new nF (o := .lst ys)
    refine q D ys _ (sF.trans sD) nD ⟨upd_same, by rw [hyl]; exact hvl, fun j u hu => ?_⟩
    obtain ⟨t, e, h⟩ := hR j u hu
    exact ⟨t, e, sD _ _ h⟩
/-! ### single -/
abbrev nSi : List Str := ["_law_box_here", "_law_ship_way", "_law_hue", "_law_most", "_law_part", "_law_away", "_law_mode", "_law_parts", "_law_k", "_law_highs", "_law_gate"]
theorem scSi : FnScope nSi ["_law_box_here", "_law_ship_way", "_law_hue", "_law_most"] (defScope sSi) := ⟨rfl, rfl, rfl, by decide +kernel, rfl, by decide +kernel, by decide +kernel⟩
def spSi (K : PySem.W.Frag) : Sp := fun vs H Q _ => ∃ (b : Addr) (v : V) (r : Bool) (most : Int) (c : Cn), vs = [.ref b, v, .str (wS r), .int most] ∧ Bx H b ∧ Dp K H v (cnD c) ∧ okCn 10 12 c ∧ 0 ≤ most ∧ most ≤ 100 ∧
  ∀ (s : Sn) (u : V) (H' : Hp), okSn c most s → Alone s r → Dr b H H' → Dp K H' u (snD s) → Q u H'

end
end XL
namespace XL
open PySem PySem.Spec PyProof.Rows L2
section
variable {P : Program} {w : World} {K : PySem.W.Frag} {mg : Str → Option Value} {base : Heap}
theorem rep0 (n : Int) (h : 0 ≤ n) : (List.replicate n.toNat [V.int 0]).flatten = (zer n.toNat).map V.int := rep_zero _
theorem zer_mem {n : Nat} {x : Int} (h : x ∈ zer n) : x = 0 := (List.mem_replicate.mp h).2
theorem zer_len' (n : Nat) : (zer n).length = n := by unfold zer; rw [List.length_replicate]
structure Prt (b : Addr) (H0 H : Hp) (PL l0 l1 : Addr) (c : Cn) (r : Bool) (most : Int) (rs bs : List Int) : Prop where
  dr : Dr b H0 H
  ep : H PL = some (.lst [.ref l0, .ref l1])
  e0 : H l0 = some (.lst (rs.map V.int))
  e1 : H l1 = some (.lst (bs.map V.int))
  nr : (rs.length : Int) = c.r
  nb : (bs.length : Int) = c.b
  br : ∀ x ∈ rs, 0 ≤ x ∧ x ≤ most
  bb : ∀ x ∈ bs, 0 ≤ x ∧ x ≤ most
  al : ∀ x ∈ (if r = true then bs else rs), x = 0
  ne : PL ≠ b ∧ l0 ≠ b ∧ l1 ≠ b ∧ PL ≠ l0 ∧ PL ≠ l1 ∧ l0 ≠ l1
  fr : H0 l0 = none ∧ H0 l1 = none
theorem Prt.step {b : Addr} {H0 H H' : Hp} {PL l0 l1 : Addr} {c : Cn} {r : Bool} {most : Int} {rs bs : List Int} (p : Prt b H0 H PL l0 l1 c r most rs bs) (d : Dr b H H') : Prt b H0 H' PL l0 l1 c r most rs bs :=
  ⟨p.dr.trans d, d.same _ _ p.ne.1 p.ep, d.same _ _ p.ne.2.1 p.e0, d.same _ _ p.ne.2.2.1 p.e1, p.nr, p.nb, p.br, p.bb, p.al, p.ne, p.fr⟩
theorem Dr.free {b x : Addr} {H H' : Hp} (d : Dr b H H') (n : x ≠ b) (h : H' x = none) : H x = none := by
  cases e : H x with
  | none => rfl
  | some o => rw [d.same _ _ n e] at h; cases h
theorem ok_si {f fh ft : Addr} {fd fdh fdt : FuncData} {k : Nat} (F : Fun K "_law_single" "_law_single" sSi f fd) (Hu : Fns P w K mg base k "_law_hues" ["_law_hue"] spHu fh fdh) (Ta : Fns P w K mg base k "_law_take" ["_law_box_here", "_law_size"] spTake ft fdt) (m_range : mg "range" = none) (m_tuple : mg "tuple" = none) : FnOk P w K mg base CX0 (k + 1) f fd ["_law_box_here", "_law_ship_way", "_law_hue", "_law_most"] (spSi K) := by
  refine F.ok scSi (fun vs H Q E h => ?_) (fun cdv A outer s H vs Q E hr h => ?_)
  · obtain ⟨b, v, r, most, c, rfl, _⟩ := h
    rfl
  obtain ⟨b, v, r, most, c, rfl, hb, hc, okc, m0, m1, q⟩ := h
  obtain ⟨a, g, vs, rfl, ha, hg, hl⟩ := cn_of hc
  have hvl : vs.length = c.ls.length := by rw [DpAll.length hl, List.length_map]
  have hnL : c.ls.length ≤ 12 := okc.n
  have okr : 1 ≤ c.r ∧ c.r ≤ 10 := ⟨okc.r1, okc.r2⟩
  have okb : 1 ≤ c.b ∧ c.b ≤ 10 := ⟨okc.b1, okc.b2⟩
  refine ⟨_, (pss_cons (ps_asg (pe_fn Hu hr rfl (pa_cons (pv 2) pa_nil)) (pg_any rfl (pgs_cons (pg_name (i := 4) scSi.nd rfl (.inl rfl)) (pgs_cons (pg_name (i := 5) scSi.nd rfl (.inl rfl)) pgs_nil))))
    (pss_cons (ps_par (i := 6) (j := 7) rfl scSi.nd rfl rfl (by decide) rfl rfl (pa_cons (pe_fn Ta hr rfl (pa_cons (pv 0) (pa_cons pe_int pa_nil))) (pa_cons (pe_lst (pa_cons (pe_op op_rep (pe_lst (pa_cons pe_int pa_nil)) (pe_ix (r := rIxA K) ix_any (pv 1) pe_int (fun _ _ => rfl))) (pa_cons (pe_op op_rep (pe_lst (pa_cons pe_int pa_nil)) (pe_ix (r := rIxA K) ix_any (pv 1) pe_int (fun _ _ => rfl))) pa_nil))) pa_nil)) rfl)
    (pss_cons (ps_for PassesOwn.never rfl (pi_range1 rfl m_range (pa_cons (pe_ix (r := rIxA K) ix_any (pv 1) (pv 4) (fun _ _ => rfl)) pa_nil)) (pg_name (i := 8) scSi.nd rfl (.inl rfl))
    (pss_one (ps_if (pt_cmpR op_eq (pe_fn Ta hr rfl (pa_cons (pv 0) (pa_cons (pe_ix (r := rIxA K) ix_any (pe_lst (pa_cons pe_int (pa_cons pe_int (pa_cons pe_int (pa_cons pe_int pa_nil))))) (pv 6) (fun _ _ => rfl)) pa_nil))) pe_int (nomark _)) (pss_one (ps_asg (pe_fn Ta hr rfl (pa_cons (pv 0) (pa_cons (pe_op op_add (pv 3) pe_int) pa_nil))) (pg_sub (pe_ix (r := rIxA K) ix_any (pv 7) (pv 4) (fun _ _ => rfl)) (pv 8) set_list))) pss_nil)))
    (pss_cons (ps_set (i := 9) scSi.nd rfl (.inl rfl) (pe_callTy (r := rTupA K) call_tupleA rfl m_tuple boot_tuple (pa_cons (pe_lc (own := [("_law_gate", 10)]) (g := gName 10) (tt := tYes) rfl scSi.nd (pi_seq (pe_ix (r := rIxA K) ix_any (pv 1) pe_int (fun _ _ => rfl))) (blkOk_by (own := [("_law_gate", 10)]) (N := nSi) (sc := defScope sSi) (by decide +kernel)) (fun _ _ _ _ _ => (pg_name (i := 10) scSi.nd rfl (.inl rfl))) (fun _ _ _ _ _ => pts_nil) (fun _ _ _ _ _ => pe_hide (pe_fn Ta hr rfl (pa_cons (pv 0) (pa_cons pe_int pa_nil))))) pa_nil)))
    (pss_one (ps_ret (pe_tup (pa_cons (pe_callTy (r := rTupA K) call_tupleA rfl m_tuple boot_tuple (pa_cons (pe_ix (r := rIxA K) ix_any (pv 7) pe_int (fun _ _ => rfl)) pa_nil)) (pa_cons (pe_callTy (r := rTupA K) call_tupleA rfl m_tuple boot_tuple (pa_cons (pe_ix (r := rIxA K) ix_any (pv 7) pe_int (fun _ _ => rfl)) pa_nil)) (pa_cons (pv 9) pa_nil)))))))))), ?_⟩
  refine ⟨_, rfl, nil_go ⟨r, rfl, fun p np => ?_⟩⟩
  have d1 : Dr b H (upd H p (.tup [.int (pI r), .int (pI (!r))])) := Dr.new hb np
  have ep : (upd H p (.tup [.int (pI r), .int (pI (!r))])) p = some (.tup [.int (pI r), .int (pI (!r))]) := upd_same
  have g1 := same_new np (o := .tup [.int (pI r), .int (pI (!r))])
  generalize upd H p (.tup [.int (pI r), .int (pI (!r))]) = H1 at d1 ep g1
  refine ⟨p, _, rfl, .inr (.inl (.inl ep)), rfl, _, _, rfl, _, _, rfl, rfl, ?_⟩
  refine at_s (σ' := [some (.ref b), some (.ref a), some (.str (wS r)), some (.int most), some (.int (pI r)), some (.int (pI (!r))), none, none, none, none, none]) rfl ?_
  refine ⟨_, rfl, b, 4, rfl, d1.box, by decide, by decide, fun md H2 md0 md1 d2 => ?_⟩
  have d02 := d1.trans d2
  have sqT : ∀ {G : Hp} {x : Addr} {xs : List V}, Dr b H G → SqT K H x xs → SqT K G x xs := fun {G x xs} d h => (d.tp hb).sqT h
  refine ⟨(by show 1 ≤ sizeLine; decide), fun z1 nz1 => ?_⟩
  have d3 := Dr.new d02.box nz1 (o := .lst [.int 0])
  have e3 : (upd H2 z1 (.lst [.int 0])) z1 = some (.lst [.int 0]) := upd_same
  generalize upd H2 z1 (.lst [.int 0]) = H3 at d3 e3
  have d03 := d02.trans d3
  refine ⟨_, rfl, a, _, _, _, rfl, rfl, .inr (sqT d03 ha), rfl, z1, _, _, rfl, rfl, e3, by omega, by omega, by show 1 * _ ≤ sizeLine; rw [sizeLine_eq]; omega, fun l0 nl0 => ?_⟩
  rw [rep0 _ (by omega)]
  have d4 := Dr.new d03.box nl0 (o := .lst ((zer c.r.toNat).map V.int))
  have e4 : (upd H3 l0 (.lst ((zer c.r.toNat).map V.int))) l0 = some (.lst ((zer c.r.toNat).map V.int)) := upd_same
  have b0 : l0 ≠ b := d03.box.ne nl0
  have fr0 : H l0 = none := d03.free b0 nl0
  generalize upd H3 l0 (.lst ((zer c.r.toNat).map V.int)) = H4 at d4 e4
  have d04 := d03.trans d4
  refine ⟨(by show 1 ≤ sizeLine; decide), fun z2 nz2 => ?_⟩
  have d5 := Dr.new d04.box nz2 (o := .lst [.int 0])
  have s5 := same_new nz2 (o := .lst [.int 0])
  have e5 : (upd H4 z2 (.lst [.int 0])) z2 = some (.lst [.int 0]) := upd_same
  generalize upd H4 z2 (.lst [.int 0]) = H5 at d5 e5 s5
  have d05 := d04.trans d5
  refine ⟨_, rfl, a, _, _, _, rfl, rfl, .inr (sqT d05 ha), rfl, z2, _, _, rfl, rfl, e5, by omega, by omega, by show 1 * _ ≤ sizeLine; rw [sizeLine_eq]; omega, fun l1 nl1 => ?_⟩
  rw [rep0 _ (by omega)]
  have d6 := Dr.new d05.box nl1 (o := .lst ((zer c.b.toNat).map V.int))
  have s6 := same_new nl1 (o := .lst ((zer c.b.toNat).map V.int))
  have e6 : (upd H5 l1 (.lst ((zer c.b.toNat).map V.int))) l1 = some (.lst ((zer c.b.toNat).map V.int)) := upd_same
  have b1 : l1 ≠ b := d05.box.ne nl1
  have fr1 : H l1 = none := d05.free b1 nl1
  have n01 : l0 ≠ l1 := fun z => by rw [← z, s5 _ _ e4] at nl1; cases nl1
  generalize upd H5 l1 (.lst ((zer c.b.toNat).map V.int)) = H6 at d6 e6 s6
  have d06 := d05.trans d6
  refine ⟨(by show 2 ≤ sizeLine; decide), fun PL nPL => ?_⟩
  have d7 := Dr.new d06.box nPL (o := .lst [.ref l0, .ref l1])
  have s7 := same_new nPL (o := .lst [.ref l0, .ref l1])
  have e7 : (upd H6 PL (.lst [.ref l0, .ref l1])) PL = some (.lst [.ref l0, .ref l1]) := upd_same
  have bP : PL ≠ b := d06.box.ne nPL
  have nP0 : PL ≠ l0 := fun z => by rw [z, s6 _ _ (s5 _ _ e4)] at nPL; cases nPL
  have nP1 : PL ≠ l1 := fun z => by rw [z, e6] at nPL; cases nPL
  generalize upd H6 PL (.lst [.ref l0, .ref l1]) = H7 at d7 e7 s7
  have p7 : Prt b H H7 PL l0 l1 c r most (zer c.r.toNat) (zer c.b.toNat) := ⟨d06.trans d7, e7, s7 _ _ (s6 _ _ (s5 _ _ e4)), s7 _ _ e6, by rw [zer_len']; omega, by rw [zer_len']; omega, fun x hx => by rw [zer_mem hx]; omega, fun x hx => by rw [zer_mem hx]; omega, fun x hx => by split at hx <;> exact zer_mem hx, ⟨bP, b0, b1, nP0, nP1, n01⟩, fr0, fr1⟩
  clear d7 s7 e7 nPL e6 s6 d6 nl1 e5 s5 d5 nz2 e4 d4 nl0 e3 d3 nz1 d06 d05 d04 d03
  refine ⟨_, _, rfl, ?_⟩
  refine at_s (σ' := [some (.ref b), some (.ref a), some (.str (wS r)), some (.int most), some (.int (pI r)), some (.int (pI (!r))), some (.int md), some (.ref PL), none, none, none]) rfl ?_
  have hbw : atI [V.int c.r, V.int c.b, V.ref g] (pI r) = some (.int (basW r c)) := by cases r <;> rfl
  have hb1 : 1 ≤ basW r c ∧ basW r c ≤ 10 := by cases r; exact okb; exact okr
  refine ⟨_, rfl, _, rfl, a, _, _, _, rfl, rfl, .inr (sqT p7.dr ha), hbw, _, rfl, by omega, by omega, for_it walk_range (fun i σ G => ∃ (rs bs : List Int) (y8 : Option V), σ = [some (.ref b), some (.ref a), some (.str (wS r)), some (.int most), some (.int (pI r)), some (.int (pI (!r))), some (.int md), some (.ref PL), y8, none, none] ∧ Prt b H G PL l0 l1 c r most rs bs) ⟨_, _, none, rfl, p7⟩ (fun _ _ _ _ _ => trivial) (fun i x σ G G' hi h hy => ?_) (fun σ G h => ?_)⟩
  · obtain ⟨rs, bs, y8, rfl, pp⟩ := h
    obtain ⟨rfl, rfl⟩ := hy
    have hi' : (i : Int) < basW r c := by have : i < (basW r c).toNat := hi; omega
    refine at_g (σ' := [some (.ref b), some (.ref a), some (.str (wS r)), some (.int most), some (.int (pI r)), some (.int (pI (!r))), some (.int md), some (.ref PL), some (.int (i : Nat)), none, none]) (by rw [← Int.zero_add (i : Int)]; rfl) ?_
    refine ⟨_, rfl, (by show 4 ≤ sizeLine; decide), fun q4 nq4 => ?_⟩
    have p8 := pp.step (Dr.new pp.dr.box nq4 (o := .lst [.int 2, .int 4, .int 1, .int 3]))
    have e8 : (upd G' q4 (.lst [.int 2, .int 4, .int 1, .int 3])) q4 = some (.lst [.int 2, .int 4, .int 1, .int 3]) := upd_same
    generalize upd G' q4 (.lst [.int 2, .int 4, .int 1, .int 3]) = G1 at p8 e8
    obtain ⟨sz, hsz, sz0, sz1⟩ : ∃ sz : Int, atI [V.int 2, V.int 4, V.int 1, V.int 3] md = some (.int sz) ∧ 0 < sz ∧ sz ≤ 4 := by
      have h4 : md = 0 ∨ md = 1 ∨ md = 2 ∨ md = 3 := by omega
      rcases h4 with e | e | e | e <;> subst e
      · exact ⟨2, rfl, by decide, by decide⟩
      · exact ⟨4, rfl, by decide, by decide⟩
      · exact ⟨1, rfl, by decide, by decide⟩
      · exact ⟨3, rfl, by decide, by decide⟩
    refine ⟨_, rfl, q4, _, _, _, rfl, rfl, .inl (SqL.of e8), hsz, nil_go ⟨b, sz, rfl, p8.dr.box, sz0, by omega, fun tv G2 tv0 tv1 d9 => ?_⟩⟩
    have p9 := p8.step d9
    refine ⟨rfl, _, rfl, ?_⟩
    by_cases ht : tv = 0
    · rw [decide_eq_true (show V.int tv = V.int 0 by rw [ht])]
      refine iteT ⟨_, rfl, _, rfl, _, _, rfl, rfl, nil_go ⟨b, _, rfl, p9.dr.box, by omega, by omega, fun nv G3 nv0 nv1 d10 => ?_⟩⟩
      have p10 := p9.step d10
      have bnd : 0 ≤ nv ∧ nv ≤ most := ⟨nv0, by omega⟩
      cases r with
      | true =>
        refine ⟨_, rfl, _, rfl, PL, _, _, _, rfl, rfl, .inl (SqL.of p10.ep), rfl, _, rfl, l0, _, _, _, rfl, rfl, p10.e0, set_at (x := 0) (by omega) (by rw [p10.nr]; exact hi'), ?_⟩
        rw [set_ints]
        refine ⟨_, _, _, rfl, ⟨⟨by obtain ⟨x, y, z, e⟩ := p10.dr.box; exact ⟨x, y, z, by rw [upd_ne (Ne.symm p10.ne.2.1)]; exact e⟩, fun x o nx e => by rw [upd_ne (ne_of_none e p10.fr.1)]; exact p10.dr.same _ _ nx e⟩, by rw [upd_ne p10.ne.2.2.2.1]; exact p10.ep, upd_same, by rw [upd_ne (Ne.symm p10.ne.2.2.2.2.2)]; exact p10.e1, by rw [List.length_set]; exact p10.nr, p10.nb, fun x hx => ?_, p10.bb, p10.al, p10.ne, p10.fr⟩⟩
        rcases mem_set_or hx with h | h
        · exact p10.br x h
        · rw [h]; exact bnd
      | false =>
        refine ⟨_, rfl, _, rfl, PL, _, _, _, rfl, rfl, .inl (SqL.of p10.ep), rfl, _, rfl, l1, _, _, _, rfl, rfl, p10.e1, set_at (x := 0) (by omega) (by rw [p10.nb]; exact hi'), ?_⟩
        rw [set_ints]
        refine ⟨_, _, _, rfl, ⟨⟨by obtain ⟨x, y, z, e⟩ := p10.dr.box; exact ⟨x, y, z, by rw [upd_ne (Ne.symm p10.ne.2.2.1)]; exact e⟩, fun x o nx e => by rw [upd_ne (ne_of_none e p10.fr.2)]; exact p10.dr.same _ _ nx e⟩, by rw [upd_ne p10.ne.2.2.2.2.1]; exact p10.ep, by rw [upd_ne p10.ne.2.2.2.2.2]; exact p10.e0, upd_same, p10.nr, by rw [List.length_set]; exact p10.nb, p10.br, fun x hx => ?_, p10.al, p10.ne, p10.fr⟩⟩
        rcases mem_set_or hx with h | h
        · exact p10.bb x h
        · rw [h]; exact bnd
    · rw [decide_eq_false (show ¬ V.int tv = V.int 0 from fun z => ht (V.int.inj z))]
      exact iteF ⟨rs, bs, _, rfl, p9⟩
  · obtain ⟨rs, bs, y8, rfl, pp⟩ := h
    refine ⟨_, rfl, a, _, _, _, rfl, rfl, .inr (sqT pp.dr ha), rfl, g, vs, rfl, .inr (sqT pp.dr hg), fun J wk => lc_map wk (Dr b) (fun a b => a.trans b) (fun i y F => ∃ z : Int, y = .int z ∧ (z = 0 ∨ z = 1)) (fun i y A B _ p => p) (small1000' (by omega)) (Dr.refl pp.dr.box) (fun F D acc dF nF => ?_) (fun i x D acc F H' hi nD dF nF hy B hB => ?_) (fun D ys F nD dF nF hyl hR => ?_)⟩
    · have d1 := pp.dr.trans dF
      have sD := same_new nF (o := .lst acc)
      exact ⟨fun nt _ => absurd (sqT pp.dr hg) nt, fun _ => Same.tup sD (sqT d1 hg)⟩
    · obtain ⟨rfl, hx⟩ := hy
      refine hB _ F rfl nF fun Qt hq => ?_
      refine ⟨_, rfl, b, 2, rfl, dF.box, by decide, by decide, fun tv G2 tv0 tv1 d9 => hq _ _ d9 ⟨tv, rfl, by omega⟩⟩
    · obtain ⟨ls, rfl⟩ := ints_of fun j y e => let ⟨z, ez, _⟩ := hR j y e; ⟨z, ez⟩
      have hls : ∀ z ∈ ls, z = 0 ∨ z = 1 := fun z hz => by
        obtain ⟨j, ej⟩ := List.getElem?_of_mem hz
        obtain ⟨z', e', h1⟩ := hR j (.int z) (by rw [List.getElem?_map, ej]; rfl)
        cases e'; exact h1
      have hll : ls.length = c.ls.length := by rw [List.length_map] at hyl; omega
      have p1 := pp.step (dF.trans (Dr.new dF.box nF (o := .lst (ls.map V.int))))
      have eD : (upd F D (.lst (ls.map V.int))) D = some (.lst (ls.map V.int)) := upd_same
      generalize upd F D (.lst (ls.map V.int)) = G1 at p1 eD
      refine nil_go ⟨D, _, rfl, .inl ⟨SqL.of eD, fun th nth => ?_⟩⟩
      have p2 := p1.step (Dr.new p1.dr.box nth (o := .tup (ls.map V.int)))
      have e2 : (upd G1 th (.tup (ls.map V.int))) th = some (.tup (ls.map V.int)) := upd_same
      refine at_g (σ' := [some (.ref b), some (.ref a), some (.str (wS r)), some (.int most), some (.int (pI r)), some (.int (pI (!r))), some (.int md), some (.ref PL), y8, some (.ref th), none]) rfl ?_
      generalize upd G1 th (.tup (ls.map V.int)) = G2 at p2 e2
      refine ⟨_, rfl, PL, _, _, _, rfl, rfl, .inl (SqL.of p2.ep), rfl, nil_go ⟨l0, _, rfl, .inl ⟨SqL.of p2.e0, fun t0 nt0 => ?_⟩⟩⟩
      have s3 := same_new nt0 (o := .tup (rs.map V.int))
      have p3 := p2.step (Dr.of p2.dr.box s3)
      have e3 : (upd G2 t0 (.tup (rs.map V.int))) t0 = some (.tup (rs.map V.int)) := upd_same
      generalize upd G2 t0 (.tup (rs.map V.int)) = G3 at s3 p3 e3
      refine ⟨_, rfl, PL, _, _, _, rfl, rfl, .inl (SqL.of p3.ep), rfl, nil_go ⟨l1, _, rfl, .inl ⟨SqL.of p3.e1, fun t1 nt1 => ?_⟩⟩⟩
      have s4 := same_new nt1 (o := .tup (bs.map V.int))
      have p4 := p3.step (Dr.of p3.dr.box s4)
      have e4 : (upd G3 t1 (.tup (bs.map V.int))) t1 = some (.tup (bs.map V.int)) := upd_same
      generalize upd G3 t1 (.tup (bs.map V.int)) = G4 at s4 p4 e4
      refine ⟨_, rfl, nil_go ⟨by show 3 ≤ sizeLine; decide, fun tt ntt => ?_⟩⟩
      have s5 := same_new ntt (o := .tup [.ref t0, .ref t1, .ref th])
      have p5 := p4.step (Dr.of p4.dr.box s5)
      have hs : okSn c most ⟨rs, bs, ls⟩ := ⟨pp.nr, pp.nb, hll, pp.br, pp.bb, hls⟩
      refine q ⟨rs, bs, ls⟩ _ _ hs ?_ p5.dr (.tup (.inl (.inl upd_same)) (.cons (dp_tints (.inl (.inl (s5 _ _ (s4 _ _ e3))))) (.cons (dp_tints (.inl (.inl (s5 _ _ e4)))) (.cons (dp_tints (.inl (.inl (s5 _ _ (s4 _ _ (s3 _ _ e2)))))) .nil))))
      intro x hx
      refine pp.al x ?_
      cases r with
      | true => exact hx
      | false => exact hx

end
end XL
namespace XL
open PySem PySem.Spec PyProof.Rows L2
abbrev sLa : Stmt := topS 30
theorem mv_eqv (m m' : Mv) : PyData.eqv (mvD m) (mvD m') = decide (m = m') := by
  obtain ⟨i, r⟩ := m
  obtain ⟨j, q⟩ := m'
  have e : PyData.eqv (mvD (i, r)) (mvD (j, q)) = (((i : Int) == (j : Int)) && (wS r == wS q)) := by simp [mvD, PyData.eqv, PyData.eqvAll]
  have hs : (wS r == wS q) = decide (r = q) := by cases r <;> cases q <;> decide +kernel
  have hi : ((i : Int) == (j : Int)) = decide (i = j) := by
    by_cases h : i = j
    · rw [h, decide_eq_true rfl]; exact beq_self_eq_true _
    · rw [decide_eq_false h]; exact beq_eq_false_iff_ne.mpr (fun z => h (by omega))
  rw [e, hs, hi]
  by_cases h1 : i = j
  · by_cases h3 : r = q
    · rw [h1, h3]; simp
    · rw [decide_eq_false h3, decide_eq_false (fun z => h3 (Prod.mk.inj z).2), Bool.and_false]
  · rw [decide_eq_false h1, decide_eq_false (fun z => h1 (Prod.mk.inj z).1)]; rfl
theorem any_mv (m : Mv) : ∀ ms : List Mv, ((ms.map mvD).any fun z => PyData.eqv z (mvD m)) = decide (m ∈ ms)
  | [] => rfl
  | x :: ms => by
    rw [List.map_cons, List.any_cons, any_mv m ms, mv_eqv]
    by_cases h : x = m
    · rw [decide_eq_true h, Bool.true_or, decide_eq_true (show m ∈ x :: ms by rw [h]; exact List.mem_cons_self ..)]
    · rw [decide_eq_false h, Bool.false_or]
      by_cases h2 : m ∈ ms
      · rw [decide_eq_true h2, decide_eq_true (List.mem_cons_of_mem _ h2)]
      · rw [decide_eq_false h2, decide_eq_false (fun z => by rcases List.mem_cons.mp z with q | q; exact h q.symm; exact h2 q)]

theorem ok100 {c : Cn} (okc : okCn 10 12 c) : okCn 100 100 c := ⟨okc.r1, by have := okc.r2; omega, okc.b1, by have := okc.b2; omega, by have := okc.n; omega, okc.l⟩
theorem take_succ_at {α : Type} {xs : List α} {j : Nat} {x : α} (h : xs[j]? = some x) : xs.take (j + 1) = xs.take j ++ [x] := take_snoc h
section
variable {P : Program} {w : World} {K : PySem.W.Frag} {mg : Str → Option Value} {base : Heap}
/-! ### led_alone -/
abbrev nLa : List Str := ["_law_ship_way", "_law_lying", "_law_moves", "_law_hue", "_law_here", "_law_hop"]
theorem scLa : FnScope nLa ["_law_ship_way", "_law_lying", "_law_moves", "_law_hue"] (defScope sLa) := ⟨rfl, rfl, rfl, by decide +kernel, rfl, by decide +kernel, by decide +kernel⟩
def spLa (K : PySem.W.Frag) : Sp := fun vs H Q _ => ∃ (v u : V) (m : Addr) (us : List V) (r : Bool) (c : Cn) (s : Sn) (B : Int) (ms : List Mv), vs = [v, u, .ref m, .str (wS r)] ∧ Dp K H v (cnD c) ∧ Dp K H u (snD s) ∧ MvAt H m ms us ∧ okCn 10 12 c ∧ okSn c B s ∧ okRun c s ms ∧ (∀ m ∈ ms, m.2 = r) ∧
  ∀ (u' : V) (H' : Hp), Same H H' → Dp K H' u' (snD (runS c s ms)) → Q u' H'
theorem ok_la {f fs fb : Addr} {fd fds fdb : FuncData} {k : Nat} (F : Fun K "_law_led_alone" "_law_led_alone" sLa f fd) (St : Fns P w K mg base k "_law_steps" ["_law_ship_way", "_law_lying"] (spSt K) fs fds) (Be : Fns P w K mg base k "_law_behind" ["_law_ship_way", "_law_lying", "_law_hop"] (spBe K) fb fdb) (m_isinstance : mg "isinstance" = none) (m_tuple : mg "tuple" = none) : FnOk P w K mg base CX0 (k + 1) f fd ["_law_ship_way", "_law_lying", "_law_moves", "_law_hue"] (spLa K) := by
  refine F.ok scLa (fun vs H Q E h => ?_) (fun cdv A outer s H vs Q E hr h => ?_)
  · obtain ⟨v, u, m, us, r, c, s, B, ms, rfl, _⟩ := h
    rfl
  obtain ⟨v, u, m, us, r, c, s, B, ms, rfl, hc, hu, M, okc, ok, okr, hw, q⟩ := h
  have oc := ok100 okc
  refine ⟨_, (pss_cons (ps_set (i := 4) scLa.nd rfl (.inl rfl) (pv 1))
    (pss_cons (ps_for PassesOwn.never rfl (pi_seq (pv 2)) (pg_name (i := 5) scLa.nd rfl (.inl rfl))
    (pss_cons (ps_if (PW.pt (pw_or (pt_not (pt_val (pe_callB call_isi rfl m_isinstance boot_isinstance (pa_cons (pv 5) (pa_cons (pe_bltn (v := .ty "tuple") rfl m_tuple boot_tuple rfl) pa_nil))))) (pw_or (pt_cmpR (op_notInD (room65 hr)) (pv 5) (pe_fn St hr rfl (pa_cons (pv 0) (pa_cons (pv 4) pa_nil))) (by rfl)) (pw_or1 (pt_cmpR op_ne (pe_ix (r := rIxA K) ix_any (pv 5) pe_int (fun _ _ => rfl)) (pv 3) (nomark _)))))) (pss_one (ps_ret pe_non)) pss_nil)
    (pss_one (ps_set (i := 4) scLa.nd rfl (.inl rfl) (pe_fn Be hr rfl (pa_cons (pv 0) (pa_cons (pv 4) (pa_cons (pv 5) pa_nil))))))))
    (pss_one (ps_ret (pv 4))))), ?_⟩
  refine ⟨_, rfl, ?_⟩
  refine at_g (σ' := [some v, some u, some (.ref m), some (.str (wS r)), some u, none]) rfl ?_
  refine ⟨_, rfl, m, us, rfl, .inl (SqL.of M.e), fun J wk => for_it wk (fun j σ H5 => ∃ (u' : V) (y5 : Option V), σ = [some v, some u, some (.ref m), some (.str (wS r)), some u', y5] ∧ Same H H5 ∧ Dp K H5 u' (snD (runS c s (ms.take j)))) ⟨u, none, rfl, Same.refl _, by rw [List.take_zero]; exact hu⟩ (fun j σ H5 _ h => ?_) (fun j x σ H5 H6 hj h hy => ?_) (fun σ H5 h => ?_)⟩
  · obtain ⟨_, _, _, s5, _⟩ := h
    exact ⟨fun _ z => s5.seq z, fun z => Same.tup s5 z⟩
  · obtain ⟨u', y5, rfl, s5, hu5⟩ := h
    obtain ⟨rfl, hx⟩ := hy
    obtain ⟨mt, mv, rfl, em, et⟩ := M.d j x hx
    obtain ⟨mi, mr⟩ := mv
    obtain rfl : mr = r := hw _ (List.mem_of_getElem? em)
    have okA : okRun c s (ms.take j ++ [(mi, mr)]) := by
      have : okRun c s (ms.take (j + 1) ++ ms.drop (j + 1)) := by rw [List.take_append_drop]; exact okr
      rw [← take_succ_at em]
      exact (okRun_app.mp this).1
    obtain ⟨ok1, ok2⟩ := okRun_app.mp okA
    have okS := runS_ok oc ok ok1
    obtain ⟨hmi, hmb⟩ := ok2.1
    refine at_g (σ' := [some v, some u, some (.ref m), some (.str (wS mr)), some u', some (.ref mt)]) rfl ?_
    have et5 := s5 _ _ et
    refine ⟨_, rfl, _, _, _, _, true, rfl, .ty _, .base (.tup et5), kitt (by decide +kernel), _, rfl, iteF ?_⟩
    refine ⟨_, rfl, _, rfl, _, rfl, nil_go ⟨v, u', c, _, _, rfl, Dp.same s5 _ hc, snAny_t hu5, oc, okS, fun sm ss H7 s7 nsm M7 => ?_⟩⟩
    have et7 := s7 _ _ et5
    refine ⟨mvD (mi, mr), (may c (runS c s (ms.take j)) c.ls.length).map mvD, .tup (.inl (.inl et7)) (.cons (.int _) (.cons (.str _) .nil)), .lst (SqL.of M7.e) (MvAt.dp (a := sm) M7.l M7.d), mv_shaped _, mvs_shaped _, _, rfl, ?_⟩
    rw [any_mv, decide_eq_true (mem_may.mpr ⟨hmi, hmb⟩)]
    refine iteF ?_
    refine ⟨_, rfl, mt, _, _, _, rfl, rfl, .inr (.inl (.inl et7)), rfl, _, rfl, rfl, _, rfl, ?_⟩
    rw [decide_eq_true rfl]
    refine iteF ?_
    have hu7 := Dp.same s7 _ hu5
    refine ⟨_, rfl, _, rfl, _, rfl, nil_go ⟨v, u', mt, mi, mr, c, _, _, rfl, Dp.same (s5.trans s7) _ hc, snAny_t hu7, .inr (.inl (.inl et7)), hmi, oc, okS, fun v' H8 s8 hv' => ?_⟩⟩
    refine ⟨v', some (.ref mt), rfl, s5.trans (s7.trans s8), ?_⟩
    rw [take_succ_at em, runS_snoc]
    exact hv'
  · obtain ⟨u', y5, rfl, s5, hu5⟩ := h
    have e : ms.take us.length = ms := List.take_of_length_le (by rw [M.l]; exact Nat.le_refl _)
    rw [e] at hu5
    exact ⟨_, rfl, q u' H5 s5 hu5⟩

end
end XL
namespace XL
open PySem PySem.Spec PyProof.Rows L2
abbrev sWd : Stmt := topS 31
theorem sn_shaped (s : Sn) : SeqAt.shaped (snD s) = true := by
  have h1 := idep' s.rs; have h2 := idep' s.bs; have h3 := idep' s.ls
  have a1 := ilay' s.rs; have a2 := ilay' s.bs; have a3 := ilay' s.ls
  show (PyData.canLay0 (snD s) && decide (PyData.depth (snD s) ≤ 64)) = true
  unfold snD intsD
  simp [PyData.canLay0, PyData.canLayAll0, PyData.depth, PyData.depthAll, a1, a2, a3]
  omega
theorem int_eqv' (zs : List Int) : PyData.eqvAll (intsD zs) (intsD zs) = true := by
  induction zs with
  | nil => simp [intsD, PyData.eqvAll]
  | cons z zs ih =>
    unfold intsD at ih ⊢
    simp [PyData.eqvAll, PyData.eqv, ih]
theorem sn_eqv (s : Sn) : PyData.eqv (snD s) (snD s) = true := by
  unfold snD
  simp [PyData.eqv, PyData.eqvAll, int_eqv']
theorem boats_gone {c : Cn} {s : Sn} {r : Bool} : ∀ (ms : List Mv) (s : Sn), (∀ m ∈ ms, m.2 = r) → boatsW (!r) (runS c s ms) = boatsW (!r) s
  | [], s, _ => rfl
  | m :: ms, s, h => by
    obtain ⟨i, x⟩ := m
    obtain rfl : r = x := (h _ (List.mem_cons_self ..)).symm
    have e : runS c s ((i, r) :: ms) = runS c (goneS c s i r) ms := rfl
    rw [e, boats_gone (s := s) ms _ fun m hm => h m (List.mem_cons_of_mem _ hm), boats_other]
theorem Alone.run {c : Cn} {s : Sn} {r : Bool} (h : Alone s r) {ms : List Mv} (hw : ∀ m ∈ ms, m.2 = r) : Alone (runS c s ms) r := by
  unfold Alone
  rw [boats_gone (s := s) ms s hw]
  exact h
theorem rowOf_w (r : Bool) (ks : List Nat) : ∀ m ∈ rowOf r ks, m.2 = r := fun m hm => by
  obtain ⟨i, _, rfl⟩ := List.mem_map.mp hm
  rfl
section
variable {P : Program} {w : World} {K : PySem.W.Frag} {mg : Str → Option Value} {base : Heap}
theorem MvAt.rev {H H' : Hp} {a a' : Addr} {ms : List Mv} {us : List V} (h : MvAt H a ms us) (t : Tp H H') (e : H' a' = some (.lst us.reverse)) : MvAt H' a' ms.reverse us.reverse := by
  refine ⟨e, by rw [List.length_reverse, List.length_reverse, h.l], fun j u hu => ?_⟩
  have hl := h.l
  have hj : j < us.length := by
    have := (List.getElem?_eq_some_iff.mp hu).1
    rw [List.length_reverse] at this; exact this
  rw [List.getElem?_reverse hj] at hu
  obtain ⟨x, m, e1, e2, e3⟩ := h.d _ u hu
  refine ⟨x, m, e1, ?_, t.t _ _ e3⟩
  rw [List.getElem?_reverse (by omega), ← hl]
  exact e2
/-- a standing's boats of one water, by part and place -/
theorem sn_at {H : Hp} {u : V} {s : Sn} (h : Dp K H u (snD s)) (r : Bool) : ∃ a xs p, u = .ref a ∧ SqT K H a xs ∧ atI xs (pI r) = some (.ref p) ∧ SqT K H p ((boatsW r s).map V.int) := by
  obtain ⟨a, ar, ab, al, rfl, h0, h1, h2, h3⟩ := snT h
  cases r with
  | true => exact ⟨a, _, ar, rfl, h0, rfl, h1⟩
  | false => exact ⟨a, _, ab, rfl, h0, rfl, h2⟩
theorem cn_at {H : Hp} {v : V} {c : Cn} (h : Dp K H v (cnD c)) (r : Bool) : ∃ a xs, v = .ref a ∧ SqT K H a xs ∧ atI xs (pI r) = some (.int (basW r c)) := by
  obtain ⟨a, g, vs, rfl, ha, hg, hl⟩ := cn_of h
  cases r with
  | true => exact ⟨a, _, rfl, ha, rfl⟩
  | false => exact ⟨a, _, rfl, ha, rfl⟩
/-! ### waked -/
abbrev nWd : List Str := ["_law_ship_way", "_law_lying", "_law_hue", "_law_k", "_law_moves", "_law_part", "_law_here", "_law_hop", "_law_later"]
theorem scWd : FnScope nWd ["_law_ship_way", "_law_lying", "_law_hue", "_law_k"] (defScope sWd) := ⟨rfl, rfl, rfl, by decide +kernel, rfl, by decide +kernel, by decide +kernel⟩
def spWd (K : PySem.W.Frag) : Sp := fun vs H Q _ => ∃ (v u : V) (r : Bool) (j : Int) (c : Cn) (s : Sn) (B : Int), vs = [v, u, .str (wS r), .int j] ∧ Dp K H v (cnD c) ∧ Dp K H u (snD s) ∧ okCn 10 12 c ∧ okSn c B s ∧ Alone s r ∧ (∀ f, Rd c s r f → f j ≠ none) ∧
  ∀ (ms : List Mv) (u' : V) (H' : Hp), Same H H' → okRun c s ms → (∀ m ∈ ms, m.2 = r) → Dp K H' u' (snD (runS c s ms)) → Q u' H'
theorem ok_wd {f fw fh fl : Addr} {fd fdw fdh fdl : FuncData} {k : Nat} (F : Fun K "_law_waked" "_law_waked" sWd f fd) (Wo : Fns P w K mg base k "woken" ["canal", "standing", "water", "basin"] (spWo K) fw fdw) (Hu : Fns P w K mg base k "_law_hues" ["_law_hue"] spHu fh fdh) (La : Fns P w K mg base k "_law_led_alone" ["_law_ship_way", "_law_lying", "_law_moves", "_law_hue"] (spLa K) fl fdl)
    (m_len : mg "len" = none) : FnOk P w K mg base CX0 (k + 1) f fd ["_law_ship_way", "_law_lying", "_law_hue", "_law_k"] (spWd K) := by
  refine F.ok scWd (fun vs H Q E h => ?_) (fun cdv A outer s H vs Q E hr h => ?_)
  · obtain ⟨v, u, r, j, c, s, B, rfl, _⟩ := h
    rfl
  obtain ⟨v, u, r, j, c, s, B, rfl, hc, hu, okc, ok, hal, hj, q⟩ := h
  refine ⟨_, (pss_cons (ps_par3 (i := 4) (j := 5) (l := 6) rfl scWd.nd rfl rfl rfl (by decide) (by decide) (by decide) rfl rfl rfl (pa_cons (pe_fn Wo hr rfl (pa_cons (pv 0) (pa_cons (pv 1) (pa_cons (pv 2) (pa_cons (pv 3) pa_nil))))) (pa_cons (pe_ix (r := rIxA K) ix_any (pe_fn Hu hr rfl (pa_cons (pv 2) pa_nil)) pe_int (fun _ _ => rfl)) (pa_cons (pv 1) pa_nil))) rfl)
    (pss_cons (ps_for PassesOwn.never rfl (pi_seq (pv 4)) (pg_name (i := 7) scWd.nd rfl (.inl rfl))
    (pss_cons (ps_if (pt_cmpR op_gt (pe_ix (r := rIxA K) ix_any (pe_ix (r := rIxA K) ix_any (pv 6) (pv 5) (fun _ _ => rfl)) (pv 3) (fun _ _ => rfl)) pe_int (nomark _)) (pss_one (ps_ret pe_non)) pss_nil)
    (pss_cons (ps_set (i := 8) scWd.nd rfl (.inl rfl) (pe_fn La hr rfl (pa_cons (pv 0) (pa_cons (pv 6) (pa_cons (pe_lst (pa_cons (pv 7) pa_nil)) (pa_cons (pv 2) pa_nil))))))
    (pss_cons (ps_if (pt_cmpR op_isN (pv 8) pe_non (nomark _)) (pss_one (ps_ret pe_non)) pss_nil)
    (pss_one (ps_set (i := 6) scWd.nd rfl (.inl rfl) (pv 8)))))))
    (pss_cons (ps_if (PW.pt (pw_or (pt_cmpR op_eq (pe_ix (r := rIxA K) ix_any (pe_ix (r := rIxA K) ix_any (pv 6) (pv 5) (fun _ _ => rfl)) (pv 3) (fun _ _ => rfl)) pe_int (nomark _)) (pw_or1 (pt_cmpR (op_neD hr.units) (pe_fn La hr rfl (pa_cons (pv 0) (pa_cons (pv 6) (pa_cons (pe_revL (pv 4)) (pa_cons (pv 2) pa_nil))))) (pv 1) (nomark _))))) (pss_one (ps_ret pe_non)) pss_nil)
    (pss_one (ps_ret (pe_ifExp (pt_cmpR op_lt (pe_callB (r := rLenA K) call_lenA rfl m_len PySem.boot_len (pa_cons (pv 4) pa_nil)) (pe_ix (r := rIxA K) ix_any (pv 0) (pv 5) (fun _ _ => rfl)) (nomark _)) (pv 6) pe_non)))))), ?_⟩
  refine ⟨_, rfl, _, rfl, _, rfl, _, rfl, nil_go ⟨v, u, r, j, c, s, B, rfl, cnAny_t hc, hu, okc, ok, hal, fun f H1 s1 rd => ⟨fun z => absurd z (hj f rd), fun m us ks hk M => ?_⟩⟩⟩
  have okr := (rd.gone okc ok ks.length j ks rfl hk)
  obtain ⟨hjb, hkl⟩ := rd.rng j ks hk
  have hnB : basW r c ≤ 10 := by
    cases r with
    | true => exact okc.r2
    | false => exact okc.b2
  refine ⟨_, rfl, nil_go ⟨r, rfl, fun p np => ?_⟩⟩
  have g2 := same_new np (o := .tup [.int (pI r), .int (pI (!r))])
  have ep : (upd H1 p (.tup [.int (pI r), .int (pI (!r))])) p = some (.tup [.int (pI r), .int (pI (!r))]) := upd_same
  generalize upd H1 p (.tup [.int (pI r), .int (pI (!r))]) = H2 at g2 ep
  have s12 := s1.trans g2
  refine ⟨p, _, _, _, rfl, rfl, .inr (.inl (.inl ep)), rfl, ?_⟩
  refine ⟨_, rfl, nil_go ⟨_, _, _, rfl, ?_⟩⟩
  have M2 : MvAt H2 m (rowOf r ks) us := M.move (g2 _ _ M.e) (Tp.of g2)
  have ml := M2.l
  refine at_g (σ' := [some v, some u, some (.str (wS r)), some (.int j), some (.ref m), some (.int (pI r)), some u, none, none]) rfl ?_
  refine ⟨_, rfl, m, us, rfl, .inl (SqL.of M2.e), fun J wk => for_it wk (fun t σ H5 => ∃ (u' : V) (y7 y8 : Option V), σ = [some v, some u, some (.str (wS r)), some (.int j), some (.ref m), some (.int (pI r)), some u', y7, y8] ∧ Same H2 H5 ∧ Dp K H5 u' (snD (runS c s (rowOf r (ks.take t))))) ⟨u, none, none, rfl, Same.refl _, by rw [List.take_zero]; exact Dp.same s12 _ hu⟩ (fun j σ H5 _ h => ?_) (fun t x σ H5 H6 ht h hy => ?_) (fun σ H5 h => ?_)⟩
  · obtain ⟨_, _, _, _, s5, _⟩ := h
    exact ⟨fun _ z => s5.seq z, fun z => Same.tup s5 z⟩
  · obtain ⟨u', y7, y8, rfl, s5, hu5⟩ := h
    obtain ⟨rfl, hx⟩ := hy
    obtain ⟨mt, mv, rfl, em, et⟩ := M2.d t x hx
    have ht' : t < ks.length := by
      have : t < us.length := ht
      rw [ml, List.length_map] at this; exact this
    obtain ⟨mi, rfl, emi⟩ : ∃ mi, mv = (mi, r) ∧ ks[t]? = some mi := by
      rw [List.getElem?_map] at em
      cases q : ks[t]? with
      | none => rw [q] at em; cases em
      | some mi => rw [q] at em; exact ⟨mi, (Option.some.inj em).symm, rfl⟩
    refine at_g (σ' := [some v, some u, some (.str (wS r)), some (.int j), some (.ref m), some (.int (pI r)), some u', some (.ref mt), y8]) rfl ?_
    obtain ⟨w1, w2⟩ := rd.way okc ok hk ht'
    have okS := runS_ok okc ok w1
    obtain ⟨a, xs, pb, rfl, ha, hat, hpb⟩ := sn_at hu5 r
    have hbl := boats_len okS r
    refine ⟨_, rfl, _, rfl, a, _, _, _, rfl, rfl, .inr ha, hat, _, rfl, pb, _, _, _, rfl, rfl, .inr hpb, gt_at hjb.1 (by rw [hbl]; exact hjb.2), _, _, rfl, rfl, _, rfl, ?_⟩
    rw [w2]
    refine iteF ?_
    refine ⟨_, rfl, _, rfl, _, rfl, (by show 1 ≤ sizeLine; decide), fun q1 nq1 => ?_⟩
    have g6 := same_new nq1 (o := .lst [.ref mt])
    have e6 : (upd H6 q1 (.lst [.ref mt])) q1 = some (.lst [.ref mt]) := upd_same
    generalize upd H6 q1 (.lst [.ref mt]) = H8 at g6 e6
    have s6 := s5.trans g6
    have okA : okRun c s (rowOf r (ks.take t) ++ [(mi, r)]) := by
      have e : rowOf r (ks.take t) ++ [(mi, r)] ++ rowOf r (ks.drop (t + 1)) = rowOf r ks := by
        rw [← rowOf_snoc, ← take_succ_at emi]
        unfold rowOf
        rw [← List.map_append, List.take_append_drop]
      have h1 := okr.1
      rw [← e] at h1
      exact (okRun_app.mp h1).1
    obtain ⟨ok1, ok2⟩ := okRun_app.mp okA
    have Mq : MvAt H8 q1 [(mi, r)] [.ref mt] := ⟨e6, rfl, fun j u hu => by
      match j, hu with
      | 0, hu => exact ⟨mt, (mi, r), (Option.some.inj hu).symm, rfl, s6 _ _ et⟩
      | j + 1, hu => simp at hu⟩
    refine ⟨_, rfl, nil_go ⟨v, .ref a, q1, _, r, c, _, _, [(mi, r)], rfl, Dp.same (s12.trans s6) _ hc, Dp.same g6 _ hu5, Mq, okc, okS, ok2, (fun m hm => by rw [List.mem_singleton.mp hm]), fun u2 H7 s7 hu7 => ?_⟩⟩
    refine at_g (σ' := [some v, some u, some (.str (wS r)), some (.int j), some (.ref m), some (.int (pI r)), some (.ref a), some (.ref mt), some u2]) rfl ?_
    have hne : u2 ≠ .non := fun z => by rw [z] at hu7; cases hu7
    refine ⟨_, rfl, rfl, _, rfl, ?_⟩
    rw [decide_eq_false hne]
    refine iteF ⟨_, rfl, u2, _, _, rfl, s6.trans s7, ?_⟩
    rw [take_succ_at emi, rowOf_snoc, runS_app]
    exact hu7
  · obtain ⟨u', y7, y8, rfl, s5, hu5⟩ := h
    rw [ml, List.length_map, List.take_length] at hu5
    have okS := runS_ok okc ok okr.1
    obtain ⟨a, xs, pb, rfl, ha, hat, hpb⟩ := sn_at hu5 r
    have hbl := boats_len okS r
    refine ⟨_, rfl, _, rfl, a, _, _, _, rfl, rfl, .inr ha, hat, _, rfl, pb, _, _, _, rfl, rfl, .inr hpb, gt_at hjb.1 (by rw [hbl]; exact hjb.2), rfl, _, rfl, ?_⟩
    have hz : ¬ (V.int (gt (boatsW r (runS c s (rowOf r ks))) j) = V.int 0) := fun z => by
      have := okr.2.1
      injection z with z
      omega
    rw [decide_eq_false hz]
    refine iteF ?_
    obtain ⟨okb, eb⟩ := run_back okc ok okr.1
    refine ⟨_, rfl, _, rfl, _, rfl, m, us, rfl, SqL.of (s5 _ _ M2.e), fun q1 nq1 => ?_⟩
    have g6 := same_new nq1 (o := .lst us.reverse)
    have e6 : (upd H5 q1 (.lst us.reverse)) q1 = some (.lst us.reverse) := upd_same
    generalize upd H5 q1 (.lst us.reverse) = H8 at g6 e6
    have s6 := s5.trans g6
    refine ⟨_, rfl, nil_go ⟨v, .ref a, q1, _, r, c, _, _, (rowOf r ks).reverse, rfl, Dp.same (s12.trans s6) _ hc, Dp.same g6 _ hu5, M2.rev (Tp.of s6) e6, okc, okS, okb, run_all (rowOf_w r ks), fun u2 H7 s7 hu7 => ?_⟩⟩
    rw [eb] at hu7
    have s67 := s6.trans s7
    refine ⟨_, rfl, snD s, snD s, hu7, Dp.same (s12.trans s67) _ hu, sn_shaped _, sn_shaped _, _, rfl, ?_⟩
    rw [sn_eqv]
    refine iteF ?_
    obtain ⟨a2, xs2, rfl, ha2, hat2⟩ := cn_at (Dp.same (s12.trans s67) _ hc) r
    refine ⟨_, rfl, m, us, rfl, .inl (SqL.of (s67 _ _ M2.e)), _, rfl, _, rfl, a2, _, _, _, rfl, rfl, .inr ha2, hat2, _, _, rfl, rfl, _, rfl, ?_⟩
    rw [decide_eq_true (show ((us.length : Nat) : Int) < basW r c by rw [ml, List.length_map]; exact hkl)]
    exact iteT ⟨_, rfl, q _ _ _ (s12.trans s67) okr.1 (rowOf_w r ks) (Dp.same (g6.trans s7) _ hu5)⟩
end
end XL
namespace XL
open PySem PySem.Spec PyProof.Rows L2
abbrev sFb : Stmt := topS 32
/-! ### how far each basin is -/
def fw (f : Rf) (j : Int) : Int := match f j with
  | none => -1
  | some ks => (ks.length : Int)
theorem fw_none {f : Rf} {j : Int} (h : f j = none) : fw f j = -1 := by unfold fw; rw [h]
theorem fw_some {f : Rf} {j : Int} {ks : List Nat} (h : f j = some ks) : fw f j = ks.length := by unfold fw; rw [h]
theorem fw_ge {f : Rf} {j : Int} (h : fw f j ≥ 0) : ∃ ks, f j = some ks ∧ fw f j = (ks.length : Int) := by
  cases q : f j with
  | none => rw [fw_none q] at h; omega
  | some ks => exact ⟨ks, rfl, fw_some q⟩
theorem fw_uniq {c : Cn} {s : Sn} {r : Bool} {f g : Rf} (R : Rd c s r f) (R' : Rd c s r g) (j : Int) : fw f j = fw g j := by
  have key : ∀ {f g : Rf}, Rd c s r f → Rd c s r g → ∀ ks, f j = some ks → ∃ ks', g j = some ks' ∧ ks'.length ≤ ks.length := fun R R' ks h => far_mono R R' rfl (fun _ _ h => h) ks.length j ks rfl h
  cases q : f j with
  | none =>
    cases q2 : g j with
    | none => rw [fw_none q, fw_none q2]
    | some ks => obtain ⟨k2, e, _⟩ := key R' R ks q2; rw [q] at e; cases e
  | some ks =>
    obtain ⟨k2, e, l⟩ := key R R' ks q
    obtain ⟨k3, e3, l3⟩ := key R' R k2 e
    rw [q] at e3
    obtain rfl := Option.some.inj e3
    rw [fw_some q, fw_some e]; omega
/-- the list of how far each basin is -/
structure FbL (c : Cn) (s : Sn) (r : Bool) (zs : List Int) : Prop where
  l : (zs.length : Int) = basW r c
  f : ∃ f, Rd c s r f
  d : ∀ f, Rd c s r f → ∀ j : Nat, j < zs.length → gt zs (j : Int) = fw f (j : Int)
section
variable {P : Program} {w : World} {K : PySem.W.Frag} {mg : Str → Option Value} {base : Heap}
abbrev nFb : List Str := ["_law_ship_way", "_law_lying", "_law_hue", "_law_found", "_law_k", "_law_moves"]
theorem scFb : FnScope nFb ["_law_ship_way", "_law_lying", "_law_hue"] (defScope sFb) := ⟨rfl, rfl, rfl, by decide +kernel, rfl, by decide +kernel, by decide +kernel⟩
def spFb (K : PySem.W.Frag) : Sp := fun vs H Q _ => ∃ (v u : V) (r : Bool) (c : Cn) (s : Sn) (B : Int), vs = [v, u, .str (wS r)] ∧ Dp K H v (cnD c) ∧ Dp K H u (snD s) ∧ okCn 10 12 c ∧ okSn c B s ∧ Alone s r ∧
  ∀ (L : Addr) (zs : List Int) (H' : Hp), Same H H' → H L = none → FbL c s r zs → H' L = some (.lst (zs.map V.int)) → Q (.ref L) H'
theorem ok_fb {f fo fh : Addr} {fd fdo fdh : FuncData} {k : Nat} (F : Fun K "_law_far_by" "_law_far_by" sFb f fd) (Wo : Fns P w K mg base k "woken" ["canal", "standing", "water", "basin"] (spWo K) fo fdo) (Hu : Fns P w K mg base k "_law_hues" ["_law_hue"] spHu fh fdh)
    (m_len : mg "len" = none) (m_range : mg "range" = none) : FnOk P w K mg base CX0 (k + 1) f fd ["_law_ship_way", "_law_lying", "_law_hue"] (spFb K) := by
  refine F.ok scFb (fun vs H Q E h => ?_) (fun cdv A outer s H vs Q E hr h => ?_)
  · obtain ⟨v, u, r, c, s, B, rfl, _⟩ := h
    rfl
  obtain ⟨v, u, r, c, s, B, rfl, hc, hu, okc, ok, hal, q⟩ := h
  refine ⟨_, (pss_cons (ps_set (i := 3) scFb.nd rfl (.inl rfl) (pe_lst pa_nil))
    (pss_cons (ps_for PassesOwn.never rfl (pi_range1 rfl m_range (pa_cons (pe_ix (r := rIxA K) ix_any (pv 0) (pe_ix (r := rIxA K) ix_any (pe_fn Hu hr rfl (pa_cons (pv 2) pa_nil)) pe_int (fun _ _ => rfl)) (fun _ _ => rfl)) pa_nil)) (pg_name (i := 4) scFb.nd rfl (.inl rfl))
    (pss_cons (ps_set (i := 5) scFb.nd rfl (.inl rfl) (pe_fn Wo hr rfl (pa_cons (pv 0) (pa_cons (pv 1) (pa_cons (pv 2) (pa_cons (pv 4) pa_nil))))))
    (pss_one (ps_expr (pe_bm PySem.F.plainAttrs_list PySem.F.slot_list_append PySem.F.type_list_append mt_append (pv 3) (pa_cons (pe_ifExp (pt_cmpR op_isN (pv 5) pe_non (nomark _)) (pe_un un_neg pe_int) (pe_callB (r := rLenA K) call_lenA rfl m_len PySem.boot_len (pa_cons (pv 5) pa_nil))) pa_nil))))))
    (pss_one (ps_ret (pv 3))))), ?_⟩
  have hbl := boats_len ok r
  have hnB : 1 ≤ basW r c ∧ basW r c ≤ 10 := by
    cases r with
    | true => exact ⟨okc.r1, okc.r2⟩
    | false => exact ⟨okc.b1, okc.b2⟩
  obtain ⟨nb, enb⟩ : ∃ nb : Nat, basW r c = (nb : Int) := ⟨(basW r c).toNat, by omega⟩
  refine ⟨(by show 0 ≤ sizeLine; decide), fun L nL => ?_⟩
  refine at_g (σ' := [some v, some u, some (.str (wS r)), some (.ref L), none, none]) rfl ?_
  have sL := same_new nL (o := .lst [])
  have eL : (upd H L (.lst [])) L = some (.lst []) := upd_same
  generalize upd H L (.lst []) = H1 at sL eL
  refine ⟨_, rfl, _, rfl, nil_go ⟨r, rfl, fun p np => ?_⟩⟩
  have g2 := same_new np (o := .tup [.int (pI r), .int (pI (!r))])
  have ep : (upd H1 p (.tup [.int (pI r), .int (pI (!r))])) p = some (.tup [.int (pI r), .int (pI (!r))]) := upd_same
  generalize upd H1 p (.tup [.int (pI r), .int (pI (!r))]) = H2 at g2 ep
  have s2 := sL.trans g2
  obtain ⟨a2, xs2, rfl, ha2, hat2⟩ := cn_at (Dp.same s2 _ hc) r
  refine ⟨p, _, _, _, rfl, rfl, .inr (.inl (.inl ep)), rfl, a2, _, _, _, rfl, rfl, .inr ha2, hat2, nil_go ⟨_, rfl, by omega, by omega, ?_⟩⟩
  rw [enb]
  refine for_it walk_range (fun i σ H5 => ∃ (zs : List Int) (y4 y5 : Option V), σ = [some (.ref a2), some u, some (.str (wS r)), some (.ref L), y4, y5] ∧ Same H H5 ∧ H5 L = some (.lst (zs.map V.int)) ∧ zs.length = i ∧ (∀ f, Rd c s r f → ∀ j : Nat, j < i → gt zs (j : Int) = fw f (j : Int)) ∧ (0 < i → ∃ f, Rd c s r f)) ⟨[], none, none, rfl, s2, g2 _ _ eL, rfl, fun f _ j hj => absurd hj (Nat.not_lt_zero _), fun h => absurd h (Nat.lt_irrefl _)⟩ (fun _ _ _ _ _ => trivial) (fun i x σ H5 H6 hi h hy => ?_) (fun σ H5 h => ?_)
  · obtain ⟨zs, y4, y5, rfl, s5, e5, hl, hf, he⟩ := h
    obtain ⟨rfl, rfl⟩ := hy
    have hi' : i < nb := hi
    refine at_g (σ' := [some (.ref a2), some u, some (.str (wS r)), some (.ref L), some (.int (i : Int)), y5]) (by show [some (.ref a2), some u, some (.str (wS r)), some (.ref L), some (.int (0 + (i : Int))), y5] = _; rw [Int.zero_add]) ?_
    refine ⟨_, rfl, _, rfl, _, rfl, _, rfl, nil_go ⟨_, u, r, (i : Int), c, s, B, rfl, cnAny_t (Dp.same s5 _ hc), Dp.same s5 _ hu, okc, ok, hal, fun f H7 s7 rd => ?_⟩⟩
    have step : ∀ (z : Int), z = fw f (i : Int) → (∀ g, Rd c s r g → ∀ j : Nat, j < i + 1 → gt (zs ++ [z]) (j : Int) = fw g (j : Int)) := fun z ez g rg j hj => by
      by_cases q : j = i
      · subst q
        unfold gt
        rw [show ((j : Int)).toNat = j by omega, List.getD_eq_getElem?_getD, List.getElem?_append_right (by omega), hl, Nat.sub_self]
        show z = _
        rw [ez, fw_uniq rd rg]
      · have := hf g rg j (by omega)
        unfold gt at this ⊢
        rw [show ((j : Int)).toNat = j by omega, List.getD_eq_getElem?_getD] at this ⊢
        rw [List.getElem?_append_left (by omega)]
        exact this
    refine ⟨fun h => ?_, fun a us ks hk M => ?_⟩
    · refine at_g (σ' := [some (.ref a2), some u, some (.str (wS r)), some (.ref L), some (.int (i : Int)), some .non]) rfl ?_
      refine ⟨_, rfl, .inl ⟨rfl, _, SqL.of (s7 _ _ e5)⟩, ?_⟩
      refine ⟨_, rfl, rfl, _, rfl, iteT ⟨_, rfl, nil_go ⟨L, _, _, rfl, rfl, s7 _ _ e5, small1000' (by rw [List.length_map]; omega), ?_⟩⟩⟩
      refine ⟨zs ++ [-1], _, _, rfl, fun x o e => by rw [upd_ne (ne_of_none e nL)]; exact (s5.trans s7) _ _ e, by rw [upd_same, List.map_append]; rfl, by rw [List.length_append, hl]; rfl, step _ (fw_none h).symm, fun _ => ⟨f, rd⟩⟩
    · refine at_g (σ' := [some (.ref a2), some u, some (.str (wS r)), some (.ref L), some (.int (i : Int)), some (.ref a)]) rfl ?_
      refine ⟨_, rfl, .inl ⟨rfl, _, SqL.of (s7 _ _ e5)⟩, ?_⟩
      refine ⟨_, rfl, rfl, _, rfl, iteF ⟨_, rfl, a, us, rfl, .inl (SqL.of M.e), nil_go ⟨L, _, _, rfl, rfl, s7 _ _ e5, small1000' (by rw [List.length_map]; omega), ?_⟩⟩⟩
      refine ⟨zs ++ [(us.length : Int)], _, _, rfl, fun x o e => by rw [upd_ne (ne_of_none e nL)]; exact (s5.trans s7) _ _ e, by rw [upd_same, List.map_append]; rfl, by rw [List.length_append, hl]; rfl, step _ (by rw [fw_some hk, M.l, List.length_map]), fun _ => ⟨f, rd⟩⟩
  · obtain ⟨zs, y4, y5, rfl, s5, e5, hl, hf, he⟩ := h
    exact ⟨_, rfl, q L zs H5 s5 nL ⟨by rw [hl, enb]; simp, he (by omega), fun f rf j hj => hf f rf j (by omega)⟩ e5⟩
end
end XL
namespace XL
open PySem PySem.Spec PyProof.Rows L2
abbrev sSr : Stmt := topS 33
section
variable {P : Program} {w : World} {K : PySem.W.Frag} {mg : Str → Option Value} {base : Heap}
theorem FbL.at_ {c : Cn} {s : Sn} {r : Bool} {zs : List Int} {f : Rf} (h : FbL c s r zs) (R : Rd c s r f) {j : Int} (hj : inB r c j) : gt zs j = fw f j := by
  obtain ⟨n, rfl⟩ : ∃ n : Nat, j = (n : Int) := ⟨j.toNat, by have := hj.1; omega⟩
  exact h.d f R n (by have := hj.2; have := h.l; omega)
theorem WaAt.move {H H' : Hp} {L : Addr} {c : Cn} {s : Sn} {r : Bool} {us : List V} (h : WaAt H L c s r us) (ea : H' L = some (.lst us)) (t : Tp H H') : WaAt H' L c s r us := ⟨ea, h.l, fun j u hu => by
  obtain ⟨x, e1, e3⟩ := h.d j u hu
  exact ⟨x, e1, t.t _ _ e3⟩⟩
theorem tp_lst {H : Hp} {D : Addr} {xs : List V} {o : HO} (h : H D = some (.lst xs)) : Tp H (upd H D o) :=
  ⟨fun a xs e => by rw [upd_ne (fun z => by rw [z, h] at e; cases e)]; exact e, fun a o xs e => by rw [upd_ne (fun z => by rw [z, h] at e; cases e)]; exact e⟩
/-! ### steps_right -/
abbrev nSr : List Str := ["_law_ship_way", "_law_lying", "_law_hue", "_law_far_by_here", "_law_near", "_law_first", "_law_last", "_law_k"]
theorem scSr : FnScope nSr ["_law_ship_way", "_law_lying", "_law_hue"] (defScope sSr) := ⟨rfl, rfl, rfl, by decide +kernel, rfl, by decide +kernel, by decide +kernel⟩
def spSr (K : PySem.W.Frag) : Sp := fun vs H Q _ => ∃ (v u : V) (r : Bool) (c : Cn) (s : Sn) (B : Int), vs = [v, u, .str (wS r)] ∧ Dp K H v (cnD c) ∧ Dp K H u (snD s) ∧ okCn 10 12 c ∧ okSn c B s ∧ Alone s r ∧
  ∀ H' : Hp, Same H H' → Q (.bl true) H'
theorem ok_sr {f fb fa : Addr} {fd fdb fda : FuncData} {k : Nat} (F : Fun K "_law_steps_right" "_law_steps_right" sSr f fd) (Fb : Fns P w K mg base k "_law_far_by" ["_law_ship_way", "_law_lying", "_law_hue"] (spFb K) fb fdb) (Wa : Fns P w K mg base k "_law_ways_out" ["_law_ship_way", "_law_lying", "_law_hue"] (spWa K) fa fda)
    (m_len : mg "len" = none) (m_range : mg "range" = none) (m_all : mg "all" = none) : FnOk P w K mg base CX0 (k + 1) f fd ["_law_ship_way", "_law_lying", "_law_hue"] (spSr K) := by
  refine F.ok scSr (fun vs H Q E h => ?_) (fun cdv A outer s H vs Q E hr h => ?_)
  · obtain ⟨v, u, r, c, s, B, rfl, _⟩ := h
    rfl
  obtain ⟨v, u, r, c, s, B, rfl, hc, hu, okc, ok, hal, q⟩ := h
  refine ⟨_, (pss_cons (ps_asg (pe_tup (pa_cons (pe_fn Fb hr rfl (pa_cons (pv 0) (pa_cons (pv 1) (pa_cons (pv 2) pa_nil)))) (pa_cons (pe_lst pa_nil) pa_nil))) (pg_any rfl (pgs_cons (pg_name (i := 3) scSr.nd rfl (.inr rfl)) (pgs_cons (pg_name (i := 4) scSr.nd rfl (.inr rfl)) pgs_nil))))
    (pss_cons (ps_for PassesOwn.never rfl (pi_seq (pe_fn Wa hr rfl (pa_cons (pv 0) (pa_cons (pv 1) (pa_cons (pv 2) pa_nil))))) (pg_any rfl (pgs_cons (pg_name (i := 5) scSr.nd rfl (.inl rfl)) (pgs_cons (pg_name (i := 6) scSr.nd rfl (.inl rfl)) pgs_nil)))
    (pss_cons (ps_if (PW.pt (pw_and (pt_cmpR op_ge (pe_ix (r := rIxA K) ix_any (pv 3) (pv 5) (fun _ _ => rfl)) pe_int (nomark _)) (pw_and1 (pt_not (pt_chain op_le op_le pe_int (pe_ix (r := rIxA K) ix_any (pv 3) (pv 6) (fun _ _ => rfl)) (pe_op op_add (pe_ix (r := rIxA K) ix_any (pv 3) (pv 5) (fun _ _ => rfl)) pe_int)))))) (pss_one (ps_ret pe_bl)) pss_nil)
    (pss_one (ps_if (PW.pt (pw_and (pt_cmpR op_ge (pe_ix (r := rIxA K) ix_any (pv 3) (pv 5) (fun _ _ => rfl)) pe_int (nomark _)) (pw_and1 (pt_cmpR op_eq (pe_ix (r := rIxA K) ix_any (pv 3) (pv 6) (fun _ _ => rfl)) (pe_op op_add (pe_ix (r := rIxA K) ix_any (pv 3) (pv 5) (fun _ _ => rfl)) pe_int) (nomark _))))) (pss_one (ps_expr (pe_bm PySem.F.plainAttrs_list PySem.F.slot_list_append PySem.F.type_list_append mt_append (pv 4) (pa_cons (pv 6) pa_nil)))) pss_nil))))
    (pss_one (ps_ret (pe_callB (r := rAll K) (cr_all rfl) rfl m_all boot_all (pa_cons (pe_lc (own := [("_law_k", 7)]) (g := gName 7) (tt := tYes) rfl scSr.nd (pi_range1 rfl m_range (pa_cons (pe_callB (r := rLenA K) call_lenA rfl m_len PySem.boot_len (pa_cons (pv 3) pa_nil)) pa_nil)) (blkOk_by (own := [("_law_k", 7)]) (N := nSr) (sc := defScope sSr) (by decide +kernel)) (fun _ _ _ _ _ => (pg_name (i := 7) scSr.nd rfl (.inl rfl))) (fun _ _ _ _ _ => pts_nil) (fun _ _ _ _ _ => pe_hide (pe_or (pe_cmpR op_lt (pe_ix (r := rIxA K) ix_any (pv 3) (pv 7) (fun _ _ => rfl)) pe_int (nomark _)) (pe_one (pe_cmpR (r := rIn K false) op_in_seq (pv 7) (pv 4) (by rfl)))))) pa_nil)))))), ?_⟩
  have hnL : c.ls.length ≤ 12 := okc.n
  have hnB : basW r c ≤ 10 := by
    cases r with
    | true => exact okc.r2
    | false => exact okc.b2
  refine ⟨_, rfl, _, rfl, _, rfl, nil_go ⟨v, u, r, c, s, B, rfl, hc, hu, okc, ok, hal, fun L zs H1 s1 nL fl eL => ?_⟩⟩
  refine ⟨(by show 0 ≤ sizeLine; decide), fun N nN => ?_⟩
  have g2 := same_new nN (o := .lst [])
  have eN : (upd H1 N (.lst [])) N = some (.lst []) := upd_same
  generalize upd H1 N (.lst []) = H2 at g2 eN
  have s2 := s1.trans g2
  refine nil_go ⟨(by show 2 ≤ sizeLine; decide), fun T nT => ?_⟩
  have g3 := same_new nT (o := .tup [.ref L, .ref N])
  have eT : (upd H2 T (.tup [.ref L, .ref N])) T = some (.tup [.ref L, .ref N]) := upd_same
  generalize upd H2 T (.tup [.ref L, .ref N]) = H3 at g3 eT
  have s3 := s2.trans g3
  refine ⟨T, _, rfl, .inr (.inl (.inl eT)), rfl, _, _, rfl, _, _, rfl, rfl, ?_⟩
  refine at_s (σ' := [some v, some u, some (.str (wS r)), some (.ref L), some (.ref N), none, none, none]) rfl ?_
  have eL3 := (g2.trans g3) _ _ eL
  have eN3 := g3 _ _ eN
  have nLN : L ≠ N := fun z => by rw [← z, eL] at nN; cases nN
  refine ⟨_, rfl, _, rfl, _, rfl, nil_go ⟨v, u, r, c, s, B, rfl, Dp.same s3 _ hc, Dp.same s3 _ hu, okc, ok, fun W us H4 s4 nW W4 => ?_⟩⟩
  obtain ⟨f, rd⟩ := fl.f
  have hzl := fl.l
  have nWN : W ≠ N := fun z => by rw [z, eN3] at nW; cases nW
  have nWL : W ≠ L := fun z => by rw [z, eL3] at nW; cases nW
  refine ⟨W, us, rfl, .inl (SqL.of W4.e), fun J wk => for_it wk (fun n σ H5 => ∃ (ns : List Int) (y5 y6 : Option V), σ = [some v, some u, some (.str (wS r)), some (.ref L), some (.ref N), y5, y6, none] ∧ Same H H5 ∧ H5 L = some (.lst (zs.map V.int)) ∧ WaAt H5 W c s r us ∧ H5 N = some (.lst (ns.map V.int)) ∧ ns.length ≤ n ∧ ∀ i : Nat, i < n → 0 ≤ fw f (fromTo c s i r).1 → fw f (fromTo c s i r).2 = fw f (fromTo c s i r).1 + 1 → (fromTo c s i r).2 ∈ ns) ⟨[], none, none, rfl, s3.trans s4, s4 _ _ eL3, W4, s4 _ _ eN3, Nat.le_refl _, fun i hi => absurd hi (Nat.not_lt_zero _)⟩ (fun n σ H5 _ h => ?_) (fun n x σ H5 H6 hn h hy => ?_) (fun σ H5 h => ?_)⟩
  · obtain ⟨_, _, _, _, _, _, W5, _⟩ := h
    refine ⟨fun _ _ => SqL.of W5.e, fun z => ?_⟩
    rcases z with (z | ⟨o, z⟩) | z
    · rw [W4.e] at z; cases z
    · rw [W4.e] at z; cases z
    · exact .inr z
  · obtain ⟨ns, y5, y6, rfl, s5, eL5, W5, eN5, hl, hns⟩ := h
    obtain ⟨rfl, hx⟩ := hy
    obtain ⟨t, rfl, et⟩ := W5.d n x hx
    have hn' : n < c.ls.length := by rw [← W4.l]; exact hn
    have fo := fromTo_ok okc (s := s) hn' r
    have a1 := fl.at_ rd fo.1
    have a2 := fl.at_ rd fo.2
    refine ⟨t, _, rfl, .inr (.inl (.inl et)), rfl, _, _, rfl, _, _, rfl, rfl, ?_⟩
    refine at_s (σ' := [some v, some u, some (.str (wS r)), some (.ref L), some (.ref N), some (.int (fromTo c s n r).1), some (.int (fromTo c s n r).2), none]) rfl ?_
    have ix1 : atI (zs.map V.int) (fromTo c s n r).1 = some (.int (fw f (fromTo c s n r).1)) := by rw [← a1]; exact gt_at fo.1.1 (by rw [hzl]; exact fo.1.2)
    have ix2 : atI (zs.map V.int) (fromTo c s n r).2 = some (.int (fw f (fromTo c s n r).2)) := by rw [← a2]; exact gt_at fo.2.1 (by rw [hzl]; exact fo.2.2)
    refine ⟨_, rfl, _, rfl, L, _, _, _, rfl, rfl, .inl (SqL.of eL5), ix1, _, _, rfl, rfl, _, rfl, ?_⟩
    by_cases h0 : 0 ≤ fw f (fromTo c s n r).1
    · rw [decide_eq_true h0]
      obtain ⟨ks, hk, ek⟩ := fw_ge h0
      obtain ⟨ks', hk', ek'⟩ := rd.cl n ks hn' hk
      have e2 := fw_some hk'
      refine iteT ⟨_, rfl, _, rfl, L, _, _, _, rfl, rfl, .inl (SqL.of eL5), ix2, _, _, rfl, rfl, _, rfl, ?_⟩
      rw [decide_eq_true (show 0 ≤ fw f (fromTo c s n r).2 by omega)]
      refine iteT ⟨_, rfl, _, rfl, L, _, _, _, rfl, rfl, .inl (SqL.of eL5), ix1, _, _, rfl, rfl, _, _, rfl, rfl, _, rfl, ?_⟩
      rw [decide_eq_true (show fw f (fromTo c s n r).2 ≤ fw f (fromTo c s n r).1 + 1 by omega)]
      refine iteF ?_
      refine ⟨_, rfl, _, rfl, L, _, _, _, rfl, rfl, .inl (SqL.of eL5), ix1, _, _, rfl, rfl, _, rfl, ?_⟩
      rw [decide_eq_true h0]
      refine iteT ⟨_, rfl, _, rfl, L, _, _, _, rfl, rfl, .inl (SqL.of eL5), ix2, _, rfl, _, rfl, L, _, _, _, rfl, rfl, .inl (SqL.of eL5), ix1, _, _, rfl, rfl, rfl, _, rfl, ?_⟩
      have ev : (decide (V.int (fw f (fromTo c s n r).2) = V.int (fw f (fromTo c s n r).1 + 1))) = decide (fw f (fromTo c s n r).2 = fw f (fromTo c s n r).1 + 1) := by
        by_cases e : fw f (fromTo c s n r).2 = fw f (fromTo c s n r).1 + 1
        · rw [e]; simp
        · rw [decide_eq_false e, decide_eq_false (fun z => e (V.int.inj z))]
      rw [ev]
      by_cases e : fw f (fromTo c s n r).2 = fw f (fromTo c s n r).1 + 1
      · rw [decide_eq_true e]
        refine iteT ⟨_, rfl, .inl ⟨rfl, _, SqL.of eN5⟩, _, rfl, nil_go ⟨N, _, _, rfl, rfl, eN5, small1000' (by rw [List.length_map]; omega), ?_⟩⟩
        have hNf : ∀ {x : Addr} {o : HO}, H x = some o → x ≠ N := fun {x o} e z => by rw [z] at e; rw [s1 _ _ e] at nN; cases nN
        refine ⟨ns ++ [(fromTo c s n r).2], _, _, rfl, fun x o e => by rw [upd_ne (hNf e)]; exact s5 _ _ e, by rw [upd_ne nLN]; exact eL5, W5.move (by rw [upd_ne nWN]; exact W5.e) (tp_lst eN5), by rw [upd_same, List.map_append]; rfl, by rw [List.length_append]; simp only [List.length_cons, List.length_nil]; omega, fun i hi hp hq => ?_⟩
        by_cases e : i = n
        · rw [e]; exact List.mem_append_right _ (List.mem_singleton.mpr rfl)
        · exact List.mem_append_left _ (hns i (by omega) hp hq)
      · rw [decide_eq_false e]
        refine iteF ⟨ns, _, _, rfl, s5, eL5, W5, eN5, by omega, fun i hi hp hq => ?_⟩
        by_cases e' : i = n
        · rw [e'] at hq; exact absurd hq e
        · exact hns i (by omega) hp hq
    · rw [decide_eq_false h0]
      refine iteF ?_
      refine ⟨_, rfl, _, rfl, L, _, _, _, rfl, rfl, .inl (SqL.of eL5), ix1, _, _, rfl, rfl, _, rfl, ?_⟩
      rw [decide_eq_false h0]
      refine iteF ⟨ns, _, _, rfl, s5, eL5, W5, eN5, by omega, fun i hi hp hq => ?_⟩
      by_cases e : i = n
      · rw [e] at hp; exact absurd hp h0
      · exact hns i (by omega) hp hq
  · obtain ⟨ns, y5, y6, rfl, s5, eL5, W5, eN5, hl, hns⟩ := h
    have hwl := W4.l
    refine ⟨_, rfl, L, _, rfl, .inl (SqL.of eL5), _, rfl, by rw [List.length_map]; omega, by rw [List.length_map]; omega, lc_map walk_range Same (fun a b => a.trans b) (fun i y F => y = .bl true) (fun i y A B _ p => p) (by rw [List.length_map]; exact small1000' (by omega)) (Same.refl _) (fun _ _ _ _ _ => trivial) (fun j x D acc F H' hj nD sF nF hy B hB => ?_) (fun D ys F nD sF nF hyl hR => ?_)⟩
    · obtain ⟨rfl, rfl⟩ := hy
      refine hB _ F rfl nF fun Qt hq => ?_
      have hj' : j < zs.length := by rw [List.length_map] at hj; omega
      have ibj : inB r c (j : Int) := ⟨by omega, by omega⟩
      have a1 := fl.at_ rd ibj
      have ix : atI (zs.map V.int) (0 + (j : Int)) = some (.int (fw f (j : Int))) := by rw [Int.zero_add, ← a1]; exact gt_at (by omega) (by omega)
      refine ⟨_, rfl, _, rfl, L, _, _, _, rfl, rfl, .inl (SqL.of (sF _ _ eL5)), ix, _, _, rfl, rfl, _, rfl, ?_⟩
      by_cases h1 : fw f (j : Int) < 1
      · rw [decide_eq_true h1]
        exact iteT (hq _ _ (Same.refl _) rfl)
      · rw [decide_eq_false h1]
        refine iteF ⟨_, rfl, _, rfl, N, _, rfl, .inl (SqL.of (sF _ _ eN5)), rfl, flat_ints _, ?_⟩
        have hm : (j : Int) ∈ ns := by
          obtain ⟨ks, hk, ek⟩ := fw_ge (f := f) (j := (j : Int)) (by omega)
          obtain ⟨ys, i, rfl, hy⟩ := snoc_of (n := ks.length - 1) (xs := ks) (by omega)
          obtain ⟨hi, hj2, hs⟩ := rd.st _ ys i hk
          have e1 := fw_some hs
          have e3 : fw f (fromTo c s i r).2 = ((ys ++ [i]).length : Int) := by rw [hj2]; exact ek
          rw [List.length_append] at e3
          have := hns i (by omega) (by omega) (by rw [e3, e1]; simp)
          rw [hj2] at this; exact this
        show Qt (.bl (inV (.int (0 + (j : Int))) (ns.map V.int))) F
        rw [Int.zero_add, in_ints, decide_eq_true hm]
        exact hq _ _ (Same.refl _) rfl
    · have ey : ys = (List.replicate ys.length true).map V.bl := by
        apply List.ext_getElem?
        intro i
        rw [List.map_replicate, List.getElem?_replicate]
        cases h : ys[i]? with
        | none => rw [if_neg (by have := List.getElem?_eq_none_iff.mp h; omega)]
        | some y => rw [if_pos (List.getElem?_eq_some_iff.mp h).1, hR i y h]
      refine nil_go ⟨D, List.replicate ys.length true, rfl, by rw [← ey]; exact SqL.of upd_same, ?_⟩
      have ea : (List.replicate ys.length true).all id = true := by
        rw [List.all_eq_true]
        intro x hx
        rw [(List.mem_replicate.mp hx).2]; rfl
      rw [ea]
      exact q _ (s5.trans (sF.trans (same_new nF)))
end
end XL
namespace XL
open PySem PySem.Spec PyProof.Rows L2
abbrev sMr : Stmt := topS 34
/-! ### a boat more -/
def fullS (s : Sn) (r : Bool) (k : Int) : Sn := if r = true then ⟨s.rs.set k.toNat (gt s.rs k + 1), s.bs, s.ls⟩ else ⟨s.rs, s.bs.set k.toNat (gt s.bs k + 1), s.ls⟩
theorem full_boats (s : Sn) (r : Bool) (k : Int) : boatsW r (fullS s r k) = (boatsW r s).set k.toNat (gt (boatsW r s) k + 1) := by cases r <;> rfl
theorem full_ls (s : Sn) (r : Bool) (k : Int) : (fullS s r k).ls = s.ls := by cases r <;> rfl
theorem full_alone {s : Sn} {r : Bool} {k : Int} (h : Alone s r) : Alone (fullS s r k) r := by cases r <;> exact h
theorem full_ok {c : Cn} {B : Int} {s : Sn} (ok : okSn c B s) (r : Bool) {k : Int} (hk : inB r c k) : okSn c (B + 1) (fullS s r k) := by
  have hl := boats_len ok r
  have up : ∀ {zs : List Int}, (∀ x ∈ zs, 0 ≤ x ∧ x ≤ B) → ∀ x ∈ zs, 0 ≤ x ∧ x ≤ B + 1 := fun h x hx => by have := h x hx; omega
  have st : ∀ {zs : List Int}, (∀ x ∈ zs, 0 ≤ x ∧ x ≤ B) → (zs.length : Int) = basW r c → ∀ x ∈ zs.set k.toNat (gt zs k + 1), 0 ≤ x ∧ x ≤ B + 1 := fun {zs} h hz x hx => by
    rcases mem_set_or hx with q | q
    · have := h x q; omega
    · have := h _ (gt_mem (zs := zs) (j := k) hk.1 (by rw [hz]; exact hk.2))
      omega
  cases r with
  | true => exact ⟨by show ((s.rs.set _ _).length : Int) = _; rw [List.length_set]; exact ok.r, ok.b, ok.n, st ok.r0 hl, up ok.b0, ok.l0⟩
  | false => exact ⟨ok.r, by show ((s.bs.set _ _).length : Int) = _; rw [List.length_set]; exact ok.b, ok.n, up ok.r0, st ok.b0 hl, ok.l0⟩
theorem full_more {c : Cn} {B : Int} {s : Sn} (ok : okSn c B s) (r : Bool) {k : Int} (hk : inB r c k) {j : Int} (hj : inB r c j) (h : gt (boatsW r s) j > 0) : gt (boatsW r (fullS s r k)) j > 0 := by
  have hl := boats_len ok r
  rw [full_boats]
  by_cases q : j = k
  · subst q
    rw [gt_set_self hj.1 (by rw [hl]; exact hj.2)]; omega
  · have := hj.1; have := hk.1
    rw [gt_set_ne (by omega)]; exact h
theorem full_k {c : Cn} {B : Int} {s : Sn} (ok : okSn c B s) (r : Bool) {k : Int} (hk : inB r c k) : gt (boatsW r (fullS s r k)) k > 0 := by
  have hl := boats_len ok r
  have hm := gt_mem (zs := boatsW r s) (j := k) hk.1 (by rw [hl]; exact hk.2)
  have nn : 0 ≤ gt (boatsW r s) k := by
    cases r with
    | true => exact (ok.r0 _ hm).1
    | false => exact (ok.b0 _ hm).1
  rw [full_boats, gt_set_self hk.1 (by rw [hl]; exact hk.2)]; omega
section
variable {P : Program} {w : World} {K : PySem.W.Frag} {mg : Str → Option Value} {base : Heap}
/-! ### more_right -/
abbrev nMr : List Str := ["_law_ship_way", "_law_lying", "_law_hue", "_law_k", "_law_part", "_law_parts", "_law_fuller", "_law_ahead", "_law_behind_it", "_law_some", "_law_one", "_law_two"]
theorem scMr : FnScope nMr ["_law_ship_way", "_law_lying", "_law_hue", "_law_k"] (defScope sMr) := ⟨rfl, rfl, rfl, by decide +kernel, rfl, by decide +kernel, by decide +kernel⟩
def spMr (K : PySem.W.Frag) : Sp := fun vs H Q _ => ∃ (v u : V) (r : Bool) (j : Int) (c : Cn) (s : Sn) (B : Int), vs = [v, u, .str (wS r), .int j] ∧ Dp K H v (cnD c) ∧ Dp K H u (snD s) ∧ okCn 10 12 c ∧ okSn c B s ∧ Alone s r ∧ inB r c j ∧
  ∀ H' : Hp, Same H H' → Q (.bl true) H'
theorem ok_mr {f fb fh : Addr} {fd fdb fdh : FuncData} {k : Nat} (F : Fun K "_law_more_right" "_law_more_right" sMr f fd) (Fb : Fns P w K mg base k "_law_far_by" ["_law_ship_way", "_law_lying", "_law_hue"] (spFb K) fb fdb) (Hu : Fns P w K mg base k "_law_hues" ["_law_hue"] spHu fh fdh)
    (m_list : mg "list" = none) (m_tuple : mg "tuple" = none) (m_all : mg "all" = none) (m_zip : mg "zip" = none) : FnOk P w K mg base CX0 (k + 1) f fd ["_law_ship_way", "_law_lying", "_law_hue", "_law_k"] (spMr K) := by
  refine F.ok scMr (fun vs H Q E h => ?_) (fun cdv A outer s H vs Q E hr h => ?_)
  · obtain ⟨v, u, r, k, c, s, B, rfl, _⟩ := h
    rfl
  obtain ⟨v, u, r, k, c, s, B, rfl, hc, hu, okc, ok, hal, hk, q⟩ := h
  refine ⟨_, (pss_cons (ps_par (i := 4) (j := 5) rfl scMr.nd rfl rfl (by decide) rfl rfl (pa_cons (pe_ix (r := rIxA K) ix_any (pe_fn Hu hr rfl (pa_cons (pv 2) pa_nil)) pe_int (fun _ _ => rfl)) (pa_cons (pe_lc (own := [("_law_some", 9)]) (g := gName 9) (tt := tYes) rfl scMr.nd (pi_seq (pv 1)) (blkOk_by (own := [("_law_some", 9)]) (N := nMr) (sc := defScope sMr) (by decide +kernel)) (fun _ _ _ _ _ => (pg_name (i := 9) scMr.nd rfl (.inl rfl))) (fun _ _ _ _ _ => pts_nil) (fun _ _ _ _ _ => pe_hide (pe_callTy (r := rLstA K) call_listA rfl m_list boot_list (pa_cons (pv 9) pa_nil)))) pa_nil)) rfl)
    (pss_cons (ps_asg (pe_op op_add (pe_ix (r := rIxA K) ix_any (pe_ix (r := rIxA K) ix_any (pv 5) (pv 4) (fun _ _ => rfl)) (pv 3) (fun _ _ => rfl)) pe_int) (pg_sub (pe_ix (r := rIxA K) ix_any (pv 5) (pv 4) (fun _ _ => rfl)) (pv 3) set_list))
    (pss_cons (ps_set (i := 6) scMr.nd rfl (.inl rfl) (pe_callTy (r := rTupA K) call_tupleA rfl m_tuple boot_tuple (pa_cons (pe_lc (own := [("_law_some", 9)]) (g := gName 9) (tt := tYes) rfl scMr.nd (pi_seq (pv 5)) (blkOk_by (own := [("_law_some", 9)]) (N := nMr) (sc := defScope sMr) (by decide +kernel)) (fun _ _ _ _ _ => (pg_name (i := 9) scMr.nd rfl (.inl rfl))) (fun _ _ _ _ _ => pts_nil) (fun _ _ _ _ _ => pe_hide (pe_callTy (r := rTupA K) call_tupleA rfl m_tuple boot_tuple (pa_cons (pv 9) pa_nil)))) pa_nil)))
    (pss_cons (ps_par (i := 7) (j := 8) rfl scMr.nd rfl rfl (by decide) rfl rfl (pa_cons (pe_fn Fb hr rfl (pa_cons (pv 0) (pa_cons (pv 1) (pa_cons (pv 2) pa_nil)))) (pa_cons (pe_fn Fb hr rfl (pa_cons (pv 0) (pa_cons (pv 6) (pa_cons (pv 2) pa_nil)))) pa_nil)) rfl)
    (pss_cons (ps_if (pt_cmpR op_ne (pe_ix (r := rIxA K) ix_any (pv 8) (pv 3) (fun _ _ => rfl)) pe_int (nomark _)) (pss_one (ps_ret pe_bl)) pss_nil)
    (pss_one (ps_ret (pe_callB (r := rAll K) (cr_all rfl) rfl m_all boot_all (pa_cons (pe_lc (own := [("_law_one", 10), ("_law_two", 11)]) (g := gAny K 2 (gCons (gName 10) (gCons (gName 11) gNil))) (tt := tYes) rfl scMr.nd (pi_z2 rfl m_zip (pa_cons (pv 7) (pa_cons (pv 8) pa_nil))) (blkOk_by (own := [("_law_one", 10), ("_law_two", 11)]) (N := nMr) (sc := defScope sMr) (by decide +kernel)) (fun _ _ _ _ _ => (pg_any rfl (pgs_cons (pg_name (i := 10) scMr.nd rfl (.inl rfl)) (pgs_cons (pg_name (i := 11) scMr.nd rfl (.inl rfl)) pgs_nil)))) (fun _ _ _ _ _ => pts_nil) (fun _ _ _ _ _ => pe_hide (pe_or (pe_cmpR op_lt (pv 10) pe_int (nomark _)) (pe_one (pe_chain op_le op_le pe_int (pv 11) (pv 10)))))) pa_nil))))))))), ?_⟩
  refine ⟨_, rfl, nil_go ⟨r, rfl, fun p np => ?_⟩⟩
  have s1 := same_new np (o := .tup [.int (pI r), .int (pI (!r))])
  have ep : (upd H p (.tup [.int (pI r), .int (pI (!r))])) p = some (.tup [.int (pI r), .int (pI (!r))]) := upd_same
  generalize upd H p (.tup [.int (pI r), .int (pI (!r))]) = H1 at s1 ep
  refine ⟨p, _, _, _, rfl, rfl, .inr (.inl (.inl ep)), rfl, ?_⟩
  obtain ⟨b, br, bb, bl, rfl, hb, hbr, hbb, hbl⟩ := (snAny_t (Dp.same s1 _ hu)).ex
  have hpart : ∀ (j : Nat) (x : V), [V.ref br, V.ref bb, V.ref bl][j]? = some x → ∃ z, x = .ref z ∧ Sq2 K H1 z (((trip s).getD j []).map V.int) := by
    intro j x hx
    match j, hx with
    | 0, hx => exact ⟨br, (Option.some.inj hx).symm, hbr⟩
    | 1, hx => exact ⟨bb, (Option.some.inj hx).symm, hbb⟩
    | 2, hx => exact ⟨bl, (Option.some.inj hx).symm, hbl⟩
    | j + 3, hx => simp at hx
  refine ⟨_, rfl, b, _, rfl, hb, fun J wk => lc_acc wk (fun j acc F => Same H1 F ∧ ∃ ls : List Addr, acc = ls.map V.ref ∧ ls.length = j ∧ Own H1 F (trip s) ls) (by show 3 < sizeLine; decide) ⟨Same.refl _, [], rfl, rfl, ⟨List.Pairwise.nil, fun q l h => by simp at h⟩⟩ (fun j F D acc iv nF => ?_) (fun j x D acc F H' hj nD iv nF hy B hB => ?_) (fun D ys F nD iv nF hyl => ?_)⟩
  · have sD : Same _ (upd F D (.lst acc)) := iv.1.trans (same_new nF)
    exact ⟨fun _ z => sD.seq z, fun z => Same.tup sD z⟩
  · obtain ⟨rfl, hx⟩ := hy
    obtain ⟨sF, ls, rfl, ll, ow⟩ := iv
    obtain ⟨z, rfl, hz⟩ := hpart j x hx
    refine hB _ F rfl nF fun Qt hq => ?_
    refine ⟨_, rfl, z, _, rfl, Same.sq2 sF hz, fun l nl => hq _ _ ⟨sF.trans (same_new nl), ls ++ [l], by rw [List.map_append]; rfl, by rw [List.length_append, ll]; rfl, ?_⟩⟩
    have := ow.snoc sF nl
    rw [ll] at this; exact this
  obtain ⟨sF, ls, rfl, ll, ow⟩ := iv
  obtain ⟨l0, l1, l2, rfl⟩ : ∃ l0 l1 l2, ls = [l0, l1, l2] := by
    match ls, ll with
    | [l0, l1, l2], _ => exact ⟨l0, l1, l2, rfl⟩
  obtain ⟨n0, f0⟩ := ow.at_ 0 l0 rfl
  obtain ⟨n1, f1⟩ := ow.at_ 1 l1 rfl
  obtain ⟨n2, f2⟩ := ow.at_ 2 l2 rfl
  have d01 : l0 ≠ l1 := fun z => by have := ow.nd; rw [z] at this; simp at this
  have d02 : l0 ≠ l2 := fun z => by have := ow.nd; rw [z] at this; simp at this
  have d12 : l1 ≠ l2 := fun z => by have := ow.nd; rw [z] at this; simp at this
  have f0' : F l0 = some (.lst (s.rs.map V.int)) := f0
  have f1' : F l1 = some (.lst (s.bs.map V.int)) := f1
  have f2' : F l2 = some (.lst (s.ls.map V.int)) := f2
  have sD : Same F (upd F D (.lst ([l0, l1, l2].map V.ref))) := same_new nF
  have g0 := sD _ _ f0'
  have g1 := sD _ _ f1'
  have g2 := sD _ _ f2'
  have eD : (upd F D (.lst ([l0, l1, l2].map V.ref))) D = some (.lst [.ref l0, .ref l1, .ref l2]) := upd_same
  have h0D : l0 ≠ D := ne_of_none f0' nF
  have h1D : l1 ≠ D := ne_of_none f1' nF
  have h2D : l2 ≠ D := ne_of_none f2' nF
  have s1D := sF.trans sD
  generalize upd F D (.lst ([l0, l1, l2].map V.ref)) = H2 at sD g0 g1 g2 eD s1D
  refine nil_go ⟨_, _, rfl, ?_⟩
  refine at_s (σ' := [some v, some (.ref b), some (.str (wS r)), some (.int k), some (.int (pI r)), some (.ref D), none, none, none, none, none, none]) rfl ?_
  have hlb := boats_len ok r
  obtain ⟨lw, hlw, ew, hwD, hw2, hnw⟩ : ∃ lw, atI [V.ref l0, V.ref l1, V.ref l2] (pI r) = some (.ref lw) ∧ H2 lw = some (.lst ((boatsW r s).map V.int)) ∧ lw ≠ D ∧ lw ≠ l2 ∧ H1 lw = none := by
    cases r with
    | true => exact ⟨l0, rfl, g0, h0D, d02, n0⟩
    | false => exact ⟨l1, rfl, g1, h1D, d12, n1⟩
  have L1 : k < ((boatsW r s).length : Int) := by rw [hlb]; exact hk.2
  refine ⟨_, rfl, _, rfl, D, _, _, _, rfl, rfl, .inl (SqL.of eD), hlw, _, rfl, lw, _, _, _, rfl, rfl, .inl (SqL.of ew), gt_at hk.1 L1, _, _, rfl, rfl, ?_⟩
  refine ⟨_, rfl, _, rfl, D, _, _, _, rfl, rfl, .inl (SqL.of eD), hlw, _, rfl, lw, _, _, _, rfl, rfl, ew, set_at (x := 0) hk.1 L1, ?_⟩
  rw [set_ints]
  have eD4 : upd H2 lw (.lst (((boatsW r s).set k.toNat (gt (boatsW r s) k + 1)).map V.int)) D = some (.lst [.ref l0, .ref l1, .ref l2]) := by rw [upd_ne (Ne.symm hwD)]; exact eD
  have S4 : Same H1 (upd H2 lw (.lst (((boatsW r s).set k.toNat (gt (boatsW r s) k + 1)).map V.int))) := fun c' o e => by
    rw [upd_ne (ne_of_none e hnw)]; exact s1D _ _ e
  have hl4 : ∀ (j : Nat) (x : V), [V.ref l0, V.ref l1, V.ref l2][j]? = some x → ∃ z, x = .ref z ∧ (upd H2 lw (.lst (((boatsW r s).set k.toNat (gt (boatsW r s) k + 1)).map V.int))) z = some (.lst (((trip (fullS s r k)).getD j []).map V.int)) := by
    intro j x hx
    cases r with
    | true =>
      have ew0 : lw = l0 := by have := Option.some.inj hlw; exact (V.ref.inj this).symm
      subst ew0
      match j, hx with
      | 0, hx => exact ⟨lw, (Option.some.inj hx).symm, by rw [upd_same]; rfl⟩
      | 1, hx => exact ⟨l1, (Option.some.inj hx).symm, by rw [upd_ne (Ne.symm d01)]; exact g1⟩
      | 2, hx => exact ⟨l2, (Option.some.inj hx).symm, by rw [upd_ne (Ne.symm d02)]; exact g2⟩
      | j + 3, hx => simp at hx
    | false =>
      have ew0 : lw = l1 := by have := Option.some.inj hlw; exact (V.ref.inj this).symm
      subst ew0
      match j, hx with
      | 0, hx => exact ⟨l0, (Option.some.inj hx).symm, by rw [upd_ne d01]; exact g0⟩
      | 1, hx => exact ⟨lw, (Option.some.inj hx).symm, by rw [upd_same]; rfl⟩
      | 2, hx => exact ⟨l2, (Option.some.inj hx).symm, by rw [upd_ne (Ne.symm d12)]; exact g2⟩
      | j + 3, hx => simp at hx
  generalize upd H2 lw (.lst (((boatsW r s).set k.toNat (gt (boatsW r s) k + 1)).map V.int)) = H4 at S4 hl4 eD4
  refine ⟨_, rfl, D, _, rfl, .inl (SqL.of eD4), fun J wk => lc_map wk Same (fun a b => a.trans b) (fun j y F => ∃ zs, (trip (fullS s r k))[j]? = some zs ∧ Dp K F y (.tuple (intsD zs))) (fun j y A B s ⟨zs, e, p⟩ => ⟨zs, e, Dp.same s _ p⟩) (by show 3 < sizeLine; decide) (Same.refl _) (fun F D acc sF nF => ?_) (fun j x D acc F H' hj nD sF nF hy B hB => ?_) (fun D2 ys F nD sF nF hyl hR => ?_)⟩
  · have sD : Same _ (upd F D (.lst acc)) := sF.trans (same_new nF)
    exact ⟨fun _ z => sD.seq z, fun z => Same.tup sD z⟩
  · obtain ⟨rfl, hx⟩ := hy
    obtain ⟨z, rfl, hz⟩ := hl4 j x hx
    refine hB _ F rfl nF fun Qt hq => ?_
    have htr : (trip (fullS s r k))[j]? = some ((trip (fullS s r k)).getD j []) := by
      have : j < (trip (fullS s r k)).length := hj
      rw [List.getD_eq_getElem?_getD, List.getElem?_eq_getElem this]; rfl
    exact ⟨_, rfl, z, _, rfl, .inl ⟨SqL.of (sF _ _ hz), fun p np => hq _ _ (same_new np) ⟨_, htr, .tup (.inl (.inl upd_same)) (dp_ints' _)⟩⟩⟩
  obtain ⟨y0, y1, y2, rfl⟩ : ∃ y0 y1 y2, ys = [y0, y1, y2] := by
    match ys, hyl with
    | [y0, y1, y2], _ => exact ⟨y0, y1, y2, rfl⟩
  obtain ⟨z0, e0, p0⟩ := hR 0 y0 rfl
  obtain ⟨z1, e1, p1⟩ := hR 1 y1 rfl
  obtain ⟨z2, e2, p2⟩ := hR 2 y2 rfl
  cases (show some (fullS s r k).rs = some z0 from e0)
  cases (show some (fullS s r k).bs = some z1 from e1)
  cases (show some (fullS s r k).ls = some z2 from e2)
  have sa : Same F (upd F D2 (.lst [y0, y1, y2])) := same_new nF
  refine nil_go ⟨D2, _, rfl, .inl ⟨SqL.of upd_same, fun t nt => ?_⟩⟩
  have sb : Same _ (upd (upd F D2 (.lst [y0, y1, y2])) t (.tup [y0, y1, y2])) := same_new nt
  have sab := sa.trans sb
  have s5 : Same H _ := s1.trans (S4.trans (sF.trans sab))
  have hu' : Dp K (upd (upd F D2 (.lst [y0, y1, y2])) t (.tup [y0, y1, y2])) (.ref t) (snD (fullS s r k)) := .tup (.inl (.inl upd_same)) (.cons (Dp.same sab _ p0) (.cons (Dp.same sab _ p1) (.cons (Dp.same sab _ p2) .nil)))
  generalize upd (upd F D2 (.lst [y0, y1, y2])) t (.tup [y0, y1, y2]) = H5 at s5 hu'
  refine at_g (σ' := [some v, some (.ref b), some (.str (wS r)), some (.int k), some (.int (pI r)), some (.ref D), some (.ref t), none, none, none, none, none]) rfl ?_
  refine ⟨_, rfl, _, rfl, _, rfl, nil_go ⟨v, .ref b, r, c, s, B, rfl, Dp.same s5 _ hc, Dp.same s5 _ hu, okc, ok, hal, fun A1 zs H6 s6 nA fl eA => ?_⟩⟩
  have s6' := s5.trans s6
  refine ⟨_, rfl, _, rfl, _, rfl, nil_go ⟨v, .ref t, r, c, _, _, rfl, Dp.same s6' _ hc, Dp.same s6 _ hu', okc, full_ok ok r hk, full_alone hal, fun A2 zs' H7 s7 nA2 fl' eA2 => ?_⟩⟩
  refine nil_go ⟨_, _, rfl, ?_⟩
  refine at_g (σ' := [some v, some (.ref b), some (.str (wS r)), some (.int k), some (.int (pI r)), some (.ref D), some (.ref t), some (.ref A1), some (.ref A2), none, none, none]) rfl ?_
  obtain ⟨f, rd⟩ := fl.f
  obtain ⟨f', rd'⟩ := fl'.f
  have hz := fl.l; have hz' := fl'.l
  have ez : gt zs' k = 0 := by
    rw [fl'.at_ rd' hk]
    exact fw_some ((rd'.z k).mpr ⟨hk, full_k ok r hk⟩)
  refine ⟨_, rfl, _, rfl, A2, _, _, _, rfl, rfl, .inl (SqL.of eA2), gt_at hk.1 (by rw [hz']; exact hk.2), rfl, _, rfl, ?_⟩
  rw [ez]
  refine iteF ?_
  have eA7 := s7 _ _ eA
  have hnB : basW r c ≤ 10 := by
    cases r with
    | true => exact okc.r2
    | false => exact okc.b2
  refine ⟨_, rfl, _, rfl, nil_go ⟨A1, A2, _, _, rfl, .inl ⟨SqL.of eA7, SqL.of eA2⟩, fun J wk => lc_map wk Same (fun a b => a.trans b) (fun i y F => y = .bl true) (fun i y A B s p => p) (by rw [List.length_map, List.length_map]; exact small1000' (by omega)) (Same.refl _) (fun F D acc sF nF => sF.trans (same_new nF)) (fun i x D acc F H' hi nD sF nF hy' B hB => ?_) (fun D ys F nD sF nF hyl hR => ?_)⟩⟩
  · obtain ⟨T, x1, y1, rfl, nT, rfl, ee1, ee2⟩ := hy'
    have hTD : T ≠ D := fun z => by rw [z, upd_same] at nT; cases nT
    rw [upd_ne hTD] at nT
    obtain ⟨x, ex, rfl⟩ := intz_at ee1
    obtain ⟨y, ey, rfl⟩ := intz_at ee2
    rw [upd_comm hTD]
    refine ⟨T, _, rfl, .inr (.inl (.inl (by rw [upd_ne hTD, upd_same]))), rfl, _, _, rfl, _, _, rfl, rfl, ?_⟩
    refine hB _ (upd F T (.tup [.int x, .int y])) rfl (by rw [upd_ne (Ne.symm hTD)]; exact nF) fun Qt hq => ?_
    have hi' : i < zs.length ∧ i < zs'.length := by rw [List.length_map, List.length_map] at hi; omega
    have ib : inB r c (i : Int) := ⟨by omega, by omega⟩
    have gx : gt zs (i : Int) = x := by
      unfold gt
      rw [show ((i : Int)).toNat = i by omega, List.getD_eq_getElem?_getD, ex]; rfl
    have gy : gt zs' (i : Int) = y := by
      unfold gt
      rw [show ((i : Int)).toNat = i by omega, List.getD_eq_getElem?_getD, ey]; rfl
    rw [fl.at_ rd ib] at gx
    rw [fl'.at_ rd' ib] at gy
    refine ⟨_, rfl, _, _, rfl, rfl, _, rfl, ?_⟩
    by_cases hx : x < 0
    · rw [decide_eq_true hx]
      exact iteT (hq _ _ (same_new nT) rfl)
    · rw [decide_eq_false hx]
      obtain ⟨ks, e1, e2⟩ := fw_ge (f := f) (j := (i : Int)) (by omega)
      obtain ⟨ks', e3, e4⟩ := far_mono rd rd' (full_ls s r k) (fun j hj h => full_more ok r hk hj h) ks.length (i : Int) ks rfl e1
      have e5 := fw_some e3
      refine iteF ⟨_, rfl, _, _, rfl, rfl, _, rfl, ?_⟩
      rw [decide_eq_true (show 0 ≤ y by omega)]
      refine iteT ⟨_, rfl, _, _, rfl, rfl, ?_⟩
      show Qt (.bl (decide (y ≤ x))) _
      rw [decide_eq_true (show y ≤ x by omega)]
      exact hq _ _ (same_new nT) rfl
  · have ey : ys = (List.replicate ys.length true).map V.bl := by
      apply List.ext_getElem?
      intro i
      rw [List.map_replicate, List.getElem?_replicate]
      cases h : ys[i]? with
      | none => rw [if_neg (by have := List.getElem?_eq_none_iff.mp h; omega)]
      | some y => rw [if_pos (List.getElem?_eq_some_iff.mp h).1, hR i y h]
    refine nil_go ⟨D, List.replicate ys.length true, rfl, by rw [← ey]; exact SqL.of upd_same, ?_⟩
    have ea : (List.replicate ys.length true).all id = true := by
      rw [List.all_eq_true]
      intro x hx
      rw [(List.mem_replicate.mp hx).2]; rfl
    rw [ea]
    exact q _ (s6'.trans (s7.trans (sF.trans (same_new nF))))
end
end XL
namespace XL
open PySem PySem.Spec PyProof.Rows L2
abbrev sRight : Stmt := topS 35
/-! ### x is True, x a truth -/
theorem op_isB {X : Cx} : OpR X (compareOp .Is) (fun x y H Q => ∃ a b, x = .bl a ∧ y = .bl b ∧ Q (.bl (decide (a = b))) H) := by
  intro pins s σ H x y v u Q I rx ry h
  obtain ⟨a, b, rfl, rfl, q⟩ := h
  cases rx
  cases ry
  show wpAny _ _ ((isSame (.bool a) (.bool b)) >>= fun z => pure (Value.bool z)) _ _ s
  refine wpAny_bind (wpAny_isSame_plain rfl (wpAny_pure ?_))
  have e : (Value.bool a == Value.bool b) = decide (a = b) := by cases a <;> cases b <;> rfl
  rw [e]
  exact fin_bl I q rfl
theorem slp_mem {c : Cn} {r : Bool} {f : Rf} {j : Nat} (hj : (j : Int) < basW r c) : (j : Int) ∈ natI (slp c r f) ↔ f (j : Int) = none := by
  unfold natI slp
  constructor
  · intro h
    obtain ⟨n, hn, e⟩ := List.mem_map.mp h
    obtain ⟨_, h2⟩ := List.mem_filter.mp hn
    rw [e] at h2
    cases q : f (j : Int) with
    | none => rfl
    | some ks => rw [q] at h2; cases h2
  · intro h
    refine List.mem_map.mpr ⟨j, List.mem_filter.mpr ⟨List.mem_range.mpr (by omega), by rw [h]; rfl⟩, rfl⟩
theorem slp_eq {c : Cn} {r : Bool} {f g : Rf} (h : ∀ j, f j = none ↔ g j = none) : slp c r f = slp c r g := by
  unfold slp
  congr 1
  funext j
  cases q : f (j : Int) with
  | none => rw [(h _).mp q]
  | some ks =>
    cases q2 : g (j : Int) with
    | none => rw [(h _).mpr q2] at q; cases q
    | some k2 => rfl
section
variable {P : Program} {w : World} {K : PySem.W.Frag} {mg : Str → Option Value} {base : Heap}
abbrev nRight : List Str := ["_law_box_here", "_law_ship_way", "_law_hue", "_law_lying", "_law_here", "_law_sleeping", "_law_k"]
theorem scRight : FnScope nRight ["_law_box_here"] (defScope sRight) := ⟨rfl, rfl, rfl, by decide +kernel, rfl, by decide +kernel, by decide +kernel⟩
def spRight : Sp := fun vs H Q _ => ∃ b : Addr, vs = [.ref b] ∧ Bx H b ∧ ∀ H' : Hp, Dr b H H' → Q (.bl true) H'
theorem ok_right {f fc fo fi fs fh fw fl fk fr fm : Addr} {fd fdc fdo fdi fds fdh fdw fdl fdk fdr fdm : FuncData} {k : Nat} (F : Fun K "_law_right" "_law_right" sRight f fd)
    (C : Fns P w K mg base k "_law_canal" ["_law_box_here", "_law_wide", "_law_utmost"] (spCanal K) fc fdc) (Of : Fns P w K mg base k "_law_of" ["_law_box_here", "_law_some"] (spOf K) fo fdo)
    (Si : Fns P w K mg base k "_law_single" ["_law_box_here", "_law_ship_way", "_law_hue", "_law_most"] (spSi K) fi fdi) (As : Fns P w K mg base k "asleep" ["canal", "standing", "water"] (spAs K) fs fds)
    (Hu : Fns P w K mg base k "_law_hues" ["_law_hue"] spHu fh fdh) (Wd : Fns P w K mg base k "_law_waked" ["_law_ship_way", "_law_lying", "_law_hue", "_law_k"] (spWd K) fw fdw)
    (Le : Fns P w K mg base k "leads" ["canal", "one", "other", "water"] (spLe K) fl fdl) (Wo : Fns P w K mg base k "woken" ["canal", "standing", "water", "basin"] (spWo K) fk fdk)
    (Sr : Fns P w K mg base k "_law_steps_right" ["_law_ship_way", "_law_lying", "_law_hue"] (spSr K) fr fdr) (Mr : Fns P w K mg base k "_law_more_right" ["_law_ship_way", "_law_lying", "_law_hue", "_law_k"] (spMr K) fm fdm)
    (m_range : mg "range" = none) : FnOk P w K mg base CX0 (k + 1) f fd ["_law_box_here"] spRight := by
  refine F.ok scRight (fun vs H Q E h => ?_) (fun cdv A outer s H vs Q E hr h => ?_)
  · obtain ⟨b, rfl, _⟩ := h
    rfl
  obtain ⟨b, rfl, hb, q⟩ := h
  refine ⟨_, (pss_cons (ps_par (i := 1) (j := 2) rfl scRight.nd rfl rfl (by decide) rfl rfl (pa_cons (pe_fn C hr rfl (pa_cons (pv 0) (pa_cons pe_int (pa_cons pe_int pa_nil)))) (pa_cons (pe_fn Of hr rfl (pa_cons (pv 0) (pa_cons (pe_lst (pa_cons pe_str (pa_cons pe_str pa_nil))) pa_nil))) pa_nil)) rfl)
    (pss_cons (ps_set (i := 3) scRight.nd rfl (.inl rfl) (pe_fn Si hr rfl (pa_cons (pv 0) (pa_cons (pv 1) (pa_cons (pv 2) (pa_cons pe_int pa_nil))))))
    (pss_cons (ps_par (i := 4) (j := 5) rfl scRight.nd rfl rfl (by decide) rfl rfl (pa_cons (pv 3) (pa_cons (pe_fn As hr rfl (pa_cons (pv 1) (pa_cons (pv 3) (pa_cons (pv 2) pa_nil)))) pa_nil)) rfl)
    (pss_cons (ps_for PassesOwn.never rfl (pi_range1 rfl m_range (pa_cons (pe_ix (r := rIxA K) ix_any (pv 1) (pe_ix (r := rIxA K) ix_any (pe_fn Hu hr rfl (pa_cons (pv 2) pa_nil)) pe_int (fun _ _ => rfl)) (fun _ _ => rfl)) pa_nil)) (pg_name (i := 6) scRight.nd rfl (.inl rfl))
    (pss_cons (ps_if (pt_cmpR op_notIn_seq (pv 6) (pv 5) (by rfl)) (pss_cons (ps_set (i := 4) scRight.nd rfl (.inl rfl) (pe_fn Wd hr rfl (pa_cons (pv 1) (pa_cons (pv 4) (pa_cons (pv 2) (pa_cons (pv 6) pa_nil))))))
    (pss_one (ps_if (PW.pt (pw_or (pt_cmpR op_isN (pv 4) pe_non (nomark _)) (pw_or (pt_cmpR (op_neD hr.units) (pe_fn As hr rfl (pa_cons (pv 1) (pa_cons (pv 4) (pa_cons (pv 2) pa_nil)))) (pv 5) (nomark _)) (pw_or1 (pt_not (pt_val (pe_fn Le hr rfl (pa_cons (pv 1) (pa_cons (pv 3) (pa_cons (pv 4) (pa_cons (pv 2) pa_nil))))))))))) (pss_one (ps_ret pe_bl)) pss_nil))) (pss_one (ps_if (pt_cmpR op_notN (pe_fn Wo hr rfl (pa_cons (pv 1) (pa_cons (pv 4) (pa_cons (pv 2) (pa_cons (pv 6) pa_nil))))) pe_non (nomark _)) (pss_one (ps_ret pe_bl)) pss_nil)))
    (pss_one (ps_if (PW.pt (pw_or (pt_not (pt_val (pe_fn Sr hr rfl (pa_cons (pv 1) (pa_cons (pv 4) (pa_cons (pv 2) pa_nil)))))) (pw_or1 (pt_not (pt_val (pe_fn Mr hr rfl (pa_cons (pv 1) (pa_cons (pv 4) (pa_cons (pv 2) (pa_cons (pv 6) pa_nil)))))))))) (pss_one (ps_ret pe_bl)) pss_nil))))
    (pss_one (ps_ret (pe_cmpR op_isB (pe_fn Le hr rfl (pa_cons (pv 1) (pa_cons (pv 4) (pa_cons (pv 3) (pa_cons (pv 2) pa_nil))))) pe_bl (nomark _)))))))), ?_⟩
  refine ⟨_, rfl, b, 8, 10, rfl, hb, by decide, by decide, by decide, fun c v H1 okc0 d1 hc => ?_⟩
  have okc : okCn 10 12 c := ⟨okc0.r1, by have := okc0.r2; omega, okc0.b1, by have := okc0.b2; omega, by have := okc0.n; omega, okc0.l⟩
  refine ⟨_, rfl, (by show 2 ≤ sizeLine; decide), fun p np => ?_⟩
  have d2 := Dr.new d1.box np (o := .lst [.str "red", .str "blue"])
  have s2 := same_new np (o := .lst [.str "red", .str "blue"])
  have e2 : (upd H1 p (.lst [.str "red", .str "blue"])) p = some (.lst [.str "red", .str "blue"]) := upd_same
  have npb := d1.box.ne np
  generalize upd H1 p (.lst [.str "red", .str "blue"]) = H2 at d2 s2 e2
  refine nil_go ⟨b, p, _, rfl, d2.box, npb, SqL.of e2, (fun z => by cases z), (by show 2 < 1000; decide), fun j x H3 hx d3 => ?_⟩
  obtain ⟨r, rfl⟩ : ∃ r, x = .str (wS r) := by
    match j, hx with
    | 0, hx => exact ⟨true, (Option.some.inj hx).symm⟩
    | 1, hx => exact ⟨false, (Option.some.inj hx).symm⟩
    | j + 2, hx => simp at hx
  refine nil_go ⟨_, _, rfl, ?_⟩
  refine at_g (σ' := [some (.ref b), some v, some (.str (wS r)), none, none, none, none]) rfl ?_
  have d23 := d2.trans d3
  have hc3 := Dp.tp (d23.tp d1.box) _ (noL_cn c) hc
  have d03 := d1.trans d23
  refine ⟨_, rfl, _, rfl, _, rfl, b, v, r, 1, c, rfl, d03.box, hc3, okc, by decide, by decide, fun s u H4 ok hal d4 hu => ?_⟩
  refine at_g (σ' := [some (.ref b), some v, some (.str (wS r)), some u, none, none, none]) rfl ?_
  have hc4 := Dp.tp (d4.tp d03.box) _ (noL_cn c) hc3
  have d04 := d03.trans d4
  refine ⟨_, rfl, _, rfl, _, rfl, _, rfl, nil_go ⟨v, u, r, c, s, 1, rfl, cnAny_t hc4, hu, okc, ok, hal, fun SL f H5 s5 nSL rd eSL => nil_go ⟨_, _, rfl, ?_⟩⟩⟩
  refine at_g (σ' := [some (.ref b), some v, some (.str (wS r)), some u, some u, some (.ref SL), none]) rfl ?_
  have hc5 := Dp.same s5 _ hc4
  have hu5 := Dp.same s5 _ hu
  have d05 := d04.trans (Dr.of d04.box s5)
  have hnB : 1 ≤ basW r c ∧ basW r c ≤ 10 := by
    cases r with
    | true => exact ⟨okc.r1, okc.r2⟩
    | false => exact ⟨okc.b1, okc.b2⟩
  obtain ⟨nb, enb⟩ : ∃ nb : Nat, basW r c = (nb : Int) := ⟨(basW r c).toNat, by omega⟩
  refine ⟨_, rfl, _, rfl, nil_go ⟨r, rfl, fun p np => ?_⟩⟩
  have g6 := same_new np (o := .tup [.int (pI r), .int (pI (!r))])
  have ep : (upd H5 p (.tup [.int (pI r), .int (pI (!r))])) p = some (.tup [.int (pI r), .int (pI (!r))]) := upd_same
  generalize upd H5 p (.tup [.int (pI r), .int (pI (!r))]) = H6 at g6 ep
  obtain ⟨a2, xs2, rfl, ha2, hat2⟩ := cn_at (Dp.same g6 _ hc5) r
  refine ⟨p, _, _, _, rfl, rfl, .inr (.inl (.inl ep)), rfl, a2, _, _, _, rfl, rfl, .inr ha2, hat2, nil_go ⟨_, rfl, by omega, by omega, ?_⟩⟩
  rw [enb]
  refine for_it walk_range (fun i σ G => ∃ (u' : V) (ms : List Mv) (y6 : Option V), σ = [some (.ref b), some (.ref a2), some (.str (wS r)), some u, some u', some (.ref SL), y6] ∧ Same H5 G ∧ okRun c s ms ∧ (∀ m ∈ ms, m.2 = r) ∧ Dp K G u' (snD (runS c s ms))) ⟨u, [], none, rfl, g6, trivial, (fun m hm => by cases hm), Dp.same g6 _ hu5⟩ (fun _ _ _ _ _ => trivial) (fun i x σ G G' hi h hy => ?_) (fun σ G h => ?_)
  · obtain ⟨u', ms, y6, rfl, sG, okr, hw, hu'⟩ := h
    obtain ⟨rfl, rfl⟩ := hy
    have hi' : i < nb := hi
    refine at_g (σ' := [some (.ref b), some (.ref a2), some (.str (wS r)), some u, some u', some (.ref SL), some (.int (i : Int))]) (by show [some (.ref b), some (.ref a2), some (.str (wS r)), some u, some u', some (.ref SL), some (.int (0 + (i : Int)))] = _; rw [Int.zero_add]) ?_
    have hib : inB r c (i : Int) := ⟨by omega, by omega⟩
    have ok' := runS_ok okc ok okr
    have al' := hal.run (c := c) hw
    refine ⟨_, rfl, _, rfl, SL, _, rfl, .inl (SqL.of (sG _ _ eSL)), rfl, flat_ints _, _, rfl, ?_⟩
    have hdom := fun g (rg : Rd c (runS c s ms) r g) => dom_eq okc ok okr hw rd rg (i : Int)
    show (if (!inV (.int (i : Int)) ((natI (slp c r f)).map V.int)) = true then _ else _)
    rw [in_ints]
    by_cases hs : f (i : Int) = none
    · rw [decide_eq_true ((slp_mem hib.2).mpr hs)]
      refine iteF ?_
      refine ⟨_, rfl, _, rfl, _, rfl, _, rfl, nil_go ⟨_, u', r, (i : Int), c, _, _, rfl, cnAny_t (Dp.same sG _ hc5), hu', okc, ok', al', fun g G1 t1 rg => ⟨fun _ => ?_, fun a us ks hk _ => ?_⟩⟩⟩
      · refine ⟨rfl, _, rfl, iteF ?_⟩
        have s9 := sG.trans t1
        have hu9 := Dp.same t1 _ hu'
        have ok9 := ok'
        have al9 := al'
        have okr9 := okr
        have hw9 := hw
        revert hu9 ok9 al9 okr9 hw9
        generalize u' = u9
        generalize ms = ms9
        intro hu9 ok9 al9 okr9 hw9
        refine ⟨_, rfl, _, rfl, _, rfl, nil_go ⟨_, u9, r, c, _, _, rfl, Dp.same s9 _ hc5, hu9, okc, ok9, al9, fun G3 t3 => ⟨true, rfl, iteF ?_⟩⟩⟩
        have s10 := s9.trans t3
        refine ⟨_, rfl, _, rfl, _, rfl, _, rfl, nil_go ⟨_, u9, r, (i : Int), c, _, _, rfl, Dp.same s10 _ hc5, Dp.same t3 _ hu9, okc, ok9, al9, hib, fun G4 t4 => ⟨true, rfl, iteF ?_⟩⟩⟩
        exact ⟨u9, ms9, _, rfl, s10.trans t4, okr9, hw9, Dp.same (t3.trans t4) _ hu9⟩
      · rw [(hdom g rg).mp hs] at hk; cases hk
    · rw [decide_eq_false (fun z => hs ((slp_mem hib.2).mp z))]
      refine iteT ?_
      refine ⟨_, rfl, _, rfl, _, rfl, _, rfl, nil_go ⟨_, u', r, (i : Int), c, _, _, rfl, Dp.same sG _ hc5, hu', okc, ok', al', (fun g rg z => hs ((hdom g rg).mpr z)), fun ms2 u9 G1 t1 okr2 hw2 hu9 => ?_⟩⟩
      have okr9 : okRun c s (ms ++ ms2) := okRun_app.mpr ⟨okr, okr2⟩
      have hw9 : ∀ m ∈ ms ++ ms2, m.2 = r := fun m hm => by
        rcases List.mem_append.mp hm with h | h
        · exact hw m h
        · exact hw2 m h
      rw [← runS_app] at hu9
      have s9 := sG.trans t1
      generalize ms ++ ms2 = ms9 at okr9 hw9 hu9
      have ok9 := runS_ok okc ok okr9
      have al9 := hal.run (c := c) hw9
      refine at_g (σ' := [some (.ref b), some (.ref a2), some (.str (wS r)), some u, some u9, some (.ref SL), some (.int (i : Int))]) rfl ?_
      have hne : u9 ≠ .non := fun z => by rw [z] at hu9; cases hu9
      refine ⟨_, rfl, rfl, _, rfl, ?_⟩
      rw [decide_eq_false hne]
      refine iteF ⟨_, rfl, _, rfl, _, rfl, nil_go ⟨_, u9, r, c, _, _, rfl, cnAny_t (Dp.same s9 _ hc5), hu9, okc, ok9, al9, fun SL2 g G2 t2 nS2 rg eS2 => ?_⟩⟩
      have esl : slp c r g = slp c r f := slp_eq fun j => (dom_eq okc ok okr9 hw9 rd rg j).symm
      rw [esl] at eS2
      have s9' := s9.trans t2
      refine ⟨_, rfl, .list (intsD (natI (slp c r f))), .list (intsD (natI (slp c r f))), .lst (SqL.of eS2) (dp_ints' _), .lst (SqL.of (s9' _ _ eSL)) (dp_ints' _), lints_shaped _, lints_shaped _, _, rfl, ?_⟩
      rw [lints_eqv]
      have hu9' := Dp.same t2 _ hu9
      refine iteF ⟨_, rfl, _, rfl, _, rfl, _, rfl, nil_go ⟨_, u, u9, r, c, s, _, ms9, rfl, cnAny_t (Dp.same s9' _ hc5), Dp.same s9' _ hu5, hu9', okc, ok, okr9, hw9, hal, al9, fun G5 t5 => ⟨true, rfl, iteF ?_⟩⟩⟩
      have s9 := s9'.trans t5
      have hu9 := Dp.same t5 _ hu9'
      refine ⟨_, rfl, _, rfl, _, rfl, nil_go ⟨_, u9, r, c, _, _, rfl, Dp.same s9 _ hc5, hu9, okc, ok9, al9, fun G3 t3 => ⟨true, rfl, iteF ?_⟩⟩⟩
      have s10 := s9.trans t3
      refine ⟨_, rfl, _, rfl, _, rfl, _, rfl, nil_go ⟨_, u9, r, (i : Int), c, _, _, rfl, Dp.same s10 _ hc5, Dp.same t3 _ hu9, okc, ok9, al9, hib, fun G4 t4 => ⟨true, rfl, iteF ?_⟩⟩⟩
      exact ⟨u9, ms9, _, rfl, s10.trans t4, okr9, hw9, Dp.same (t3.trans t4) _ hu9⟩
  · obtain ⟨u', ms, y6, rfl, sG, okr, hw, hu'⟩ := h
    obtain ⟨okb, eb⟩ := run_back okc ok okr
    have ok' := runS_ok okc ok okr
    refine ⟨_, rfl, _, rfl, _, rfl, _, rfl, nil_go ⟨_, u', u, r, c, _, _, ms.reverse, rfl, cnAny_t (Dp.same sG _ hc5), hu', by rw [eb]; exact Dp.same sG _ hu5, okc, ok', okb, run_all hw, hal.run (c := c) hw, by rw [eb]; exact hal, fun G5 t5 => ⟨true, true, rfl, rfl, ?_⟩⟩⟩
    exact q _ (d05.trans (Dr.of d05.box (sG.trans t5)))
end
end XL
namespace XL
open PySem PySem.Spec PyProof.Rows L2
abbrev sLaw : Stmt := topS 36
section
variable {P : Program} {w : World} {K : PySem.W.Frag} {mg : Str → Option Value} {base : Heap}
abbrev nLaw : List Str := ["_law_script", "_law_cells_here", "_law_k", "_law_box_here", "_law_turn"]
theorem scLaw : FnScope nLaw ["_law_script"] (defScope sLaw) := ⟨rfl, rfl, rfl, by decide +kernel, rfl, by decide +kernel, by decide +kernel⟩
def spLaw (K : PySem.W.Frag) : Sp := fun vs H Q _ => ∃ (a : Addr) (ns : List Int), vs = [.ref a] ∧ SqL K H a (ns.map V.int) ∧ ns.length ≤ 63 ∧ ∀ H', Q (.bl true) H'
theorem ok_law {f fc fx fr : Addr} {fd fdc fdx fdr : FuncData} (F : Fun K "law" "law" sLaw f fd)
    (C : Fns P w K mg base 10 "_law_cells" ["_law_script", "_law_utmost"] (spCells K) fc fdc) (B : Fns P w K mg base 10 "_law_box" ["_law_cells_here", "_law_k"] (spBox K) fx fdx)
    (R : FnG P w K mg base 10 fr fdr ["_law_box_here"] spRight) (gR : mg "_law_right" = some (.ref fr)) (kR : PySem.W.keepIn K (.ref fr) = true) (bR : Binds K fdr ["_law_box_here"] []) (me : mg "len" = none) (ma : mg "all" = none) (mr : mg "range" = none) :
    FnG P w K mg base (10 + 1) f fd ["_law_script"] (spLaw K) := by
  refine okG F scLaw (fun vs H Q E h => ?_) (fun cdv A outer s H vs Q E hG hr h => ?_)
  · obtain ⟨a, ns, rfl, _⟩ := h
    rfl
  obtain ⟨a, ns, rfl, ha, hn, q⟩ := h
  refine ⟨_, pss_cons (ps_set (i := 1) scLaw.nd rfl (.inl rfl) (pe_fn C hr rfl (pa_cons (pv 0) (pa_cons pe_int pa_nil))))
    (pss_cons (ps_for PassesOwn.never rfl (pi_range1 rfl mr (pa_cons (pe_callB call_len_seq rfl me PySem.boot_len (pa_cons (pv 1) pa_nil)) pa_nil)) (pg_name (i := 2) scLaw.nd rfl (.inl rfl))
      (pss_cons (ps_set (i := 3) scLaw.nd rfl (.inr rfl) (pe_fn B hr rfl (pa_cons (pv 1) (pa_cons (pv 2) pa_nil))))
      (pss_one (ps_if (pt_not (pt_val (pe_callB (cr_all rfl) rfl ma boot_all (pa_cons (pe_lc (own := [("_law_turn", 4)]) (g := gName 4) (tt := tYes) rfl scLaw.nd (pi_range1 rfl mr (pa_cons pe_int pa_nil)) (blkOk_by (own := [("_law_turn", 4)]) (N := nLaw) (sc := defScope sLaw) (by decide +kernel))
        (fun _ _ _ _ _ => pg_name (i := 4) scLaw.nd rfl (Or.inl rfl)) (fun _ _ _ _ _ => pts_nil) (fun _ _ _ _ _ => pe_hide (pe_callG hG R hr rfl gR kR bR (pa_cons (pv 3) pa_nil)))) pa_nil)))) (pss_one (ps_ret pe_bl)) pss_nil))))
    (pss_one (ps_ret pe_bl))), ?_⟩
  refine ⟨_, rfl, a, ns, 2, rfl, ha, hn, by decide, by decide, fun p zs H1 s1 np ep z1 z2 => ?_⟩
  refine ⟨_, rfl, p, _, rfl, .inl (SqL.of ep), _, rfl, by rw [List.length_map]; omega, by rw [List.length_map]; omega, for_it walk_range (fun i σ H3 => ∃ y2 y3 y4, σ = [some (.ref a), some (.ref p), y2, y3, y4] ∧ H3 p = some (.lst (zs.map V.int))) ⟨none, none, none, rfl, ep⟩ (fun _ _ _ _ _ => trivial) (fun i x σ H3 H4 hi h hy => ?_) (fun σ H3 h => ?_)⟩
  · obtain ⟨y2, y3, y4, rfl, ep3⟩ := h
    obtain ⟨rfl, rfl⟩ := hy
    have hi' : i < zs.length := by rw [List.length_map] at hi; omega
    refine ⟨_, rfl, _, rfl, p, zs, i, by show [V.ref p, V.int (0 + (i : Int))] = _; rw [Int.zero_add], SqL.of ep3, hi', fun b x y nb => ?_⟩
    have hpb : p ≠ b := ne_of_none ep3 nb
    refine at_g (σ' := [some (.ref a), some (.ref p), some (.int (0 + i)), some (.ref b), y4]) rfl ?_
    have bx : Bx (upd H4 b (.lst [.int x, .int y, .int 0])) b := ⟨x, y, 0, upd_same⟩
    refine ⟨3, rfl, by decide, by decide, lc_map walk_range (Dr b) (fun a b => a.trans b) (fun i y F => y = .bl true) (fun i y A B _ p => p) (by decide) (Dr.refl bx) (fun _ _ _ _ _ => trivial) (fun j x D acc F H' hj nD dF nF hy B hB => ?_) (fun D ys F nD dF nF hl hR => ?_)⟩
    · obtain ⟨rfl, rfl⟩ := hy
      refine hB _ F rfl nF fun Qt hq => ?_
      exact ⟨_, rfl, b, rfl, dF.box, fun F' d => hq _ _ d rfl⟩
    · refine ⟨D, List.replicate ys.length true, rfl, ?_, ?_⟩
      · rw [← eq_true_map ys hR]; exact SqL.of upd_same
      · rw [all_true]
        refine ⟨true, rfl, iteF ⟨_, _, _, rfl, ?_⟩⟩
        have e3 : F p = some (.lst (zs.map V.int)) := dF.same p _ hpb (by rw [upd_ne hpb]; exact ep3)
        rw [upd_ne (ne_of_none e3 nF)]; exact e3
  · exact q H3
end

set_option maxHeartbeats 4000000 in
theorem all_mk {l : PySem.W.OpenLaw} {w : World} {K : PySem.W.Frag} {h : Heap} {mg : Str → Option Value} {fa f1 f2 f3 f4 f5 f6 f7 f8 f9 f10 f11 f12 f13 f14 f15 f16 f17 f18 f19 f20 f21 f22 f23 f24 f25 f26 f27 f28 f29 : Addr} (X : K.In h) (G : h.Ns mainGlobals mg) (hfa : mg "law" = some (.ref fa))
    {od1 an1 : Option Addr} {sl1 : Array (Option Value)} {oc1 kV1 dc1 pm1 cd1 ct1 : Value}
    {od2 an2 : Option Addr} {sl2 : Array (Option Value)} {oc2 kV2 dc2 pm2 cd2 ct2 : Value}
    {od3 an3 : Option Addr} {sl3 : Array (Option Value)} {oc3 kV3 dc3 pm3 cd3 ct3 : Value}
    {od4 an4 : Option Addr} {sl4 : Array (Option Value)} {oc4 kV4 dc4 pm4 cd4 ct4 : Value}
    {od5 an5 : Option Addr} {sl5 : Array (Option Value)} {oc5 kV5 dc5 pm5 cd5 ct5 : Value}
    {od6 an6 : Option Addr} {sl6 : Array (Option Value)} {oc6 kV6 dc6 pm6 cd6 ct6 : Value}
    {od7 an7 : Option Addr} {sl7 : Array (Option Value)} {oc7 kV7 dc7 pm7 cd7 ct7 : Value}
    {od8 an8 : Option Addr} {sl8 : Array (Option Value)} {oc8 kV8 dc8 pm8 cd8 ct8 : Value}
    {od9 an9 : Option Addr} {sl9 : Array (Option Value)} {oc9 kV9 dc9 pm9 cd9 ct9 : Value}
    {od10 an10 : Option Addr} {sl10 : Array (Option Value)} {oc10 kV10 dc10 pm10 cd10 ct10 : Value}
    {od11 an11 : Option Addr} {sl11 : Array (Option Value)} {oc11 kV11 dc11 pm11 cd11 ct11 : Value}
    {od12 an12 : Option Addr} {sl12 : Array (Option Value)} {oc12 kV12 dc12 pm12 cd12 ct12 : Value}
    {od13 an13 : Option Addr} {sl13 : Array (Option Value)} {oc13 kV13 dc13 pm13 cd13 ct13 : Value}
    {od14 an14 : Option Addr} {sl14 : Array (Option Value)} {oc14 kV14 dc14 pm14 cd14 ct14 : Value}
    {od15 an15 : Option Addr} {sl15 : Array (Option Value)} {oc15 kV15 dc15 pm15 cd15 ct15 : Value}
    {od16 an16 : Option Addr} {sl16 : Array (Option Value)} {oc16 kV16 dc16 pm16 cd16 ct16 : Value}
    {od17 an17 : Option Addr} {sl17 : Array (Option Value)} {oc17 kV17 dc17 pm17 cd17 ct17 : Value}
    {od18 an18 : Option Addr} {sl18 : Array (Option Value)} {oc18 kV18 dc18 pm18 cd18 ct18 : Value}
    {od19 an19 : Option Addr} {sl19 : Array (Option Value)} {oc19 kV19 dc19 pm19 cd19 ct19 : Value}
    {od20 an20 : Option Addr} {sl20 : Array (Option Value)} {oc20 kV20 dc20 pm20 cd20 ct20 : Value}
    {od21 an21 : Option Addr} {sl21 : Array (Option Value)} {oc21 kV21 dc21 pm21 cd21 ct21 : Value}
    {od22 an22 : Option Addr} {sl22 : Array (Option Value)} {oc22 kV22 dc22 pm22 cd22 ct22 : Value}
    {od23 an23 : Option Addr} {sl23 : Array (Option Value)} {oc23 kV23 dc23 pm23 cd23 ct23 : Value}
    {od24 an24 : Option Addr} {sl24 : Array (Option Value)} {oc24 kV24 dc24 pm24 cd24 ct24 : Value}
    {od25 an25 : Option Addr} {sl25 : Array (Option Value)} {oc25 kV25 dc25 pm25 cd25 ct25 : Value}
    {od26 an26 : Option Addr} {sl26 : Array (Option Value)} {oc26 kV26 dc26 pm26 cd26 ct26 : Value}
    {od27 an27 : Option Addr} {sl27 : Array (Option Value)} {oc27 kV27 dc27 pm27 cd27 ct27 : Value}
    {od28 an28 : Option Addr} {sl28 : Array (Option Value)} {oc28 kV28 dc28 pm28 cd28 ct28 : Value}
    {od29 an29 : Option Addr} {sl29 : Array (Option Value)} {oc29 kV29 dc29 pm29 cd29 ct29 : Value}
    {t_RED t_BLUE : Tok}
    (a1 : PySem.W.nsIn K mainGlobals "basins_of" = some (some (.ref f1)))
    (l1 : K.lookup f1 = some ⟨oc1, od1, .func (PySem.W.fnOf "basins_of" "basins_of" (defArgs sBas) (defBody sBas) (defScope sBas) .none kV1 dc1 pm1 an1 cd1 ct1), sl1⟩)
    (d1 : PySem.W.codeIn K cd1 "basins_of" = true)
    (k1 : PySem.W.keepIn K (.ref f1) = true)
    (a2 : PySem.W.nsIn K mainGlobals "ends_of" = some (some (.ref f2)))
    (l2 : K.lookup f2 = some ⟨oc2, od2, .func (PySem.W.fnOf "ends_of" "ends_of" (defArgs sEnds) (defBody sEnds) (defScope sEnds) .none kV2 dc2 pm2 an2 cd2 ct2), sl2⟩)
    (d2 : PySem.W.codeIn K cd2 "ends_of" = true)
    (k2 : PySem.W.keepIn K (.ref f2) = true)
    (a3 : PySem.W.nsIn K mainGlobals "from_and_to" = some (some (.ref f3)))
    (l3 : K.lookup f3 = some ⟨oc3, od3, .func (PySem.W.fnOf "from_and_to" "from_and_to" (defArgs sFT) (defBody sFT) (defScope sFT) .none kV3 dc3 pm3 an3 cd3 ct3), sl3⟩)
    (d3 : PySem.W.codeIn K cd3 "from_and_to" = true)
    (k3 : PySem.W.keepIn K (.ref f3) = true)
    (a4 : PySem.W.nsIn K mainGlobals "boats_of" = some (some (.ref f4)))
    (l4 : K.lookup f4 = some ⟨oc4, od4, .func (PySem.W.fnOf "boats_of" "boats_of" (defArgs sBoO) (defBody sBoO) (defScope sBoO) .none kV4 dc4 pm4 an4 cd4 ct4), sl4⟩)
    (d4 : PySem.W.codeIn K cd4 "boats_of" = true)
    (k4 : PySem.W.keepIn K (.ref f4) = true)
    (a5 : PySem.W.nsIn K mainGlobals "be_alone" = some (some (.ref f5)))
    (l5 : K.lookup f5 = some ⟨oc5, od5, .func (PySem.W.fnOf "be_alone" "be_alone" (defArgs sAl) (defBody sAl) (defScope sAl) .none kV5 dc5 pm5 an5 cd5 ct5), sl5⟩)
    (d5 : PySem.W.codeIn K cd5 "be_alone" = true)
    (k5 : PySem.W.keepIn K (.ref f5) = true)
    (a6 : PySem.W.nsIn K mainGlobals "roads" = some (some (.ref f6)))
    (l6 : K.lookup f6 = some ⟨oc6, od6, .func (PySem.W.fnOf "roads" "roads" (defArgs sRo) (defBody sRo) (defScope sRo) .none kV6 dc6 pm6 an6 cd6 ct6), sl6⟩)
    (d6 : PySem.W.codeIn K cd6 "roads" = true)
    (k6 : PySem.W.keepIn K (.ref f6) = true)
    (a7 : PySem.W.nsIn K mainGlobals "asleep" = some (some (.ref f7)))
    (l7 : K.lookup f7 = some ⟨oc7, od7, .func (PySem.W.fnOf "asleep" "asleep" (defArgs sAs) (defBody sAs) (defScope sAs) .none kV7 dc7 pm7 an7 cd7 ct7), sl7⟩)
    (d7 : PySem.W.codeIn K cd7 "asleep" = true)
    (k7 : PySem.W.keepIn K (.ref f7) = true)
    (a8 : PySem.W.nsIn K mainGlobals "unlike_locks" = some (some (.ref f8)))
    (l8 : K.lookup f8 = some ⟨oc8, od8, .func (PySem.W.fnOf "unlike_locks" "unlike_locks" (defArgs sUl) (defBody sUl) (defScope sUl) .none kV8 dc8 pm8 an8 cd8 ct8), sl8⟩)
    (d8 : PySem.W.codeIn K cd8 "unlike_locks" = true)
    (k8 : PySem.W.keepIn K (.ref f8) = true)
    (a9 : PySem.W.nsIn K mainGlobals "boats_behind" = some (some (.ref f9)))
    (l9 : K.lookup f9 = some ⟨oc9, od9, .func (PySem.W.fnOf "boats_behind" "boats_behind" (defArgs sBb) (defBody sBb) (defScope sBb) .none kV9 dc9 pm9 an9 cd9 ct9), sl9⟩)
    (d9 : PySem.W.codeIn K cd9 "boats_behind" = true)
    (k9 : PySem.W.keepIn K (.ref f9) = true)
    (a10 : PySem.W.nsIn K mainGlobals "leads" = some (some (.ref f10)))
    (l10 : K.lookup f10 = some ⟨oc10, od10, .func (PySem.W.fnOf "leads" "leads" (defArgs sLe) (defBody sLe) (defScope sLe) .none kV10 dc10 pm10 an10 cd10 ct10), sl10⟩)
    (d10 : PySem.W.codeIn K cd10 "leads" = true)
    (k10 : PySem.W.keepIn K (.ref f10) = true)
    (a11 : PySem.W.nsIn K mainGlobals "woken" = some (some (.ref f11)))
    (l11 : K.lookup f11 = some ⟨oc11, od11, .func (PySem.W.fnOf "woken" "woken" (defArgs sWo) (defBody sWo) (defScope sWo) .none kV11 dc11 pm11 an11 cd11 ct11), sl11⟩)
    (d11 : PySem.W.codeIn K cd11 "woken" = true)
    (k11 : PySem.W.keepIn K (.ref f11) = true)
    (a12 : PySem.W.nsIn K mainGlobals "_law_box" = some (some (.ref f12)))
    (l12 : K.lookup f12 = some ⟨oc12, od12, .func (PySem.W.fnOf "_law_box" "_law_box" (defArgs sBox) (defBody sBox) (defScope sBox) .none kV12 dc12 pm12 an12 cd12 ct12), sl12⟩)
    (d12 : PySem.W.codeIn K cd12 "_law_box" = true)
    (k12 : PySem.W.keepIn K (.ref f12) = true)
    (a13 : PySem.W.nsIn K mainGlobals "_law_take" = some (some (.ref f13)))
    (l13 : K.lookup f13 = some ⟨oc13, od13, .func (PySem.W.fnOf "_law_take" "_law_take" (defArgs sTake) (defBody sTake) (defScope sTake) .none kV13 dc13 pm13 an13 cd13 ct13), sl13⟩)
    (d13 : PySem.W.codeIn K cd13 "_law_take" = true)
    (k13 : PySem.W.keepIn K (.ref f13) = true)
    (a14 : PySem.W.nsIn K mainGlobals "_law_cells" = some (some (.ref f14)))
    (l14 : K.lookup f14 = some ⟨oc14, od14, .func (PySem.W.fnOf "_law_cells" "_law_cells" (defArgs sCells) (defBody sCells) (defScope sCells) .none kV14 dc14 pm14 an14 cd14 ct14), sl14⟩)
    (d14 : PySem.W.codeIn K cd14 "_law_cells" = true)
    (k14 : PySem.W.keepIn K (.ref f14) = true)
    (a15 : PySem.W.nsIn K mainGlobals "_law_of" = some (some (.ref f15)))
    (l15 : K.lookup f15 = some ⟨oc15, od15, .func (PySem.W.fnOf "_law_of" "_law_of" (defArgs sOf) (defBody sOf) (defScope sOf) .none kV15 dc15 pm15 an15 cd15 ct15), sl15⟩)
    (d15 : PySem.W.codeIn K cd15 "_law_of" = true)
    (k15 : PySem.W.keepIn K (.ref f15) = true)
    (a16 : PySem.W.nsIn K mainGlobals "_law_canal" = some (some (.ref f16)))
    (l16 : K.lookup f16 = some ⟨oc16, od16, .func (PySem.W.fnOf "_law_canal" "_law_canal" (defArgs sCanal) (defBody sCanal) (defScope sCanal) .none kV16 dc16 pm16 an16 cd16 ct16), sl16⟩)
    (d16 : PySem.W.codeIn K cd16 "_law_canal" = true)
    (k16 : PySem.W.keepIn K (.ref f16) = true)
    (a17 : PySem.W.nsIn K mainGlobals "_law_from_to" = some (some (.ref f17)))
    (l17 : K.lookup f17 = some ⟨oc17, od17, .func (PySem.W.fnOf "_law_from_to" "_law_from_to" (defArgs sLF) (defBody sLF) (defScope sLF) .none kV17 dc17 pm17 an17 cd17 ct17), sl17⟩)
    (d17 : PySem.W.codeIn K cd17 "_law_from_to" = true)
    (k17 : PySem.W.keepIn K (.ref f17) = true)
    (a18 : PySem.W.nsIn K mainGlobals "_law_steps" = some (some (.ref f18)))
    (l18 : K.lookup f18 = some ⟨oc18, od18, .func (PySem.W.fnOf "_law_steps" "_law_steps" (defArgs sSt) (defBody sSt) (defScope sSt) .none kV18 dc18 pm18 an18 cd18 ct18), sl18⟩)
    (d18 : PySem.W.codeIn K cd18 "_law_steps" = true)
    (k18 : PySem.W.keepIn K (.ref f18) = true)
    (a19 : PySem.W.nsIn K mainGlobals "_law_behind" = some (some (.ref f19)))
    (l19 : K.lookup f19 = some ⟨oc19, od19, .func (PySem.W.fnOf "_law_behind" "_law_behind" (defArgs sBe) (defBody sBe) (defScope sBe) .none kV19 dc19 pm19 an19 cd19 ct19), sl19⟩)
    (d19 : PySem.W.codeIn K cd19 "_law_behind" = true)
    (k19 : PySem.W.keepIn K (.ref f19) = true)
    (a20 : PySem.W.nsIn K mainGlobals "_law_hues" = some (some (.ref f20)))
    (l20 : K.lookup f20 = some ⟨oc20, od20, .func (PySem.W.fnOf "_law_hues" "_law_hues" (defArgs sHu) (defBody sHu) (defScope sHu) .none kV20 dc20 pm20 an20 cd20 ct20), sl20⟩)
    (d20 : PySem.W.codeIn K cd20 "_law_hues" = true)
    (k20 : PySem.W.keepIn K (.ref f20) = true)
    (a21 : PySem.W.nsIn K mainGlobals "_law_single" = some (some (.ref f21)))
    (l21 : K.lookup f21 = some ⟨oc21, od21, .func (PySem.W.fnOf "_law_single" "_law_single" (defArgs sSi) (defBody sSi) (defScope sSi) .none kV21 dc21 pm21 an21 cd21 ct21), sl21⟩)
    (d21 : PySem.W.codeIn K cd21 "_law_single" = true)
    (k21 : PySem.W.keepIn K (.ref f21) = true)
    (a22 : PySem.W.nsIn K mainGlobals "_law_ways_out" = some (some (.ref f22)))
    (l22 : K.lookup f22 = some ⟨oc22, od22, .func (PySem.W.fnOf "_law_ways_out" "_law_ways_out" (defArgs sWa) (defBody sWa) (defScope sWa) .none kV22 dc22 pm22 an22 cd22 ct22), sl22⟩)
    (d22 : PySem.W.codeIn K cd22 "_law_ways_out" = true)
    (k22 : PySem.W.keepIn K (.ref f22) = true)
    (a23 : PySem.W.nsIn K mainGlobals "_law_led_alone" = some (some (.ref f23)))
    (l23 : K.lookup f23 = some ⟨oc23, od23, .func (PySem.W.fnOf "_law_led_alone" "_law_led_alone" (defArgs sLa) (defBody sLa) (defScope sLa) .none kV23 dc23 pm23 an23 cd23 ct23), sl23⟩)
    (d23 : PySem.W.codeIn K cd23 "_law_led_alone" = true)
    (k23 : PySem.W.keepIn K (.ref f23) = true)
    (a24 : PySem.W.nsIn K mainGlobals "_law_waked" = some (some (.ref f24)))
    (l24 : K.lookup f24 = some ⟨oc24, od24, .func (PySem.W.fnOf "_law_waked" "_law_waked" (defArgs sWd) (defBody sWd) (defScope sWd) .none kV24 dc24 pm24 an24 cd24 ct24), sl24⟩)
    (d24 : PySem.W.codeIn K cd24 "_law_waked" = true)
    (k24 : PySem.W.keepIn K (.ref f24) = true)
    (a25 : PySem.W.nsIn K mainGlobals "_law_far_by" = some (some (.ref f25)))
    (l25 : K.lookup f25 = some ⟨oc25, od25, .func (PySem.W.fnOf "_law_far_by" "_law_far_by" (defArgs sFb) (defBody sFb) (defScope sFb) .none kV25 dc25 pm25 an25 cd25 ct25), sl25⟩)
    (d25 : PySem.W.codeIn K cd25 "_law_far_by" = true)
    (k25 : PySem.W.keepIn K (.ref f25) = true)
    (a26 : PySem.W.nsIn K mainGlobals "_law_steps_right" = some (some (.ref f26)))
    (l26 : K.lookup f26 = some ⟨oc26, od26, .func (PySem.W.fnOf "_law_steps_right" "_law_steps_right" (defArgs sSr) (defBody sSr) (defScope sSr) .none kV26 dc26 pm26 an26 cd26 ct26), sl26⟩)
    (d26 : PySem.W.codeIn K cd26 "_law_steps_right" = true)
    (k26 : PySem.W.keepIn K (.ref f26) = true)
    (a27 : PySem.W.nsIn K mainGlobals "_law_more_right" = some (some (.ref f27)))
    (l27 : K.lookup f27 = some ⟨oc27, od27, .func (PySem.W.fnOf "_law_more_right" "_law_more_right" (defArgs sMr) (defBody sMr) (defScope sMr) .none kV27 dc27 pm27 an27 cd27 ct27), sl27⟩)
    (d27 : PySem.W.codeIn K cd27 "_law_more_right" = true)
    (k27 : PySem.W.keepIn K (.ref f27) = true)
    (a28 : PySem.W.nsIn K mainGlobals "_law_right" = some (some (.ref f28)))
    (l28 : K.lookup f28 = some ⟨oc28, od28, .func (PySem.W.fnOf "_law_right" "_law_right" (defArgs sRight) (defBody sRight) (defScope sRight) .none kV28 dc28 pm28 an28 cd28 ct28), sl28⟩)
    (d28 : PySem.W.codeIn K cd28 "_law_right" = true)
    (k28 : PySem.W.keepIn K (.ref f28) = true)
    (a29 : PySem.W.nsIn K mainGlobals "law" = some (some (.ref f29)))
    (l29 : K.lookup f29 = some ⟨oc29, od29, .func (PySem.W.fnOf "law" "law" (defArgs sLaw) (defBody sLaw) (defScope sLaw) .none kV29 dc29 pm29 an29 cd29 ct29), sl29⟩)
    (d29 : PySem.W.codeIn K cd29 "law" = true)
    (k29 : PySem.W.keepIn K (.ref f29) = true)
    (z_isinstance : PySem.W.nsIn K mainGlobals "isinstance" = some none)
    (z_list : PySem.W.nsIn K mainGlobals "list" = some none)
    (z_tuple : PySem.W.nsIn K mainGlobals "tuple" = some none)
    (z_zip : PySem.W.nsIn K mainGlobals "zip" = some none)
    (z_len : PySem.W.nsIn K mainGlobals "len" = some none)
    (z_all : PySem.W.nsIn K mainGlobals "all" = some none)
    (z_any : PySem.W.nsIn K mainGlobals "any" = some none)
    (z_int : PySem.W.nsIn K mainGlobals "int" = some none)
    (z_range : PySem.W.nsIn K mainGlobals "range" = some none)
    (z_enumerate : PySem.W.nsIn K mainGlobals "enumerate" = some none)
    (z_abs : PySem.W.nsIn K mainGlobals "abs" = some none)
    (z_min : PySem.W.nsIn K mainGlobals "min" = some none)
    (v_RED : PySem.W.nsIn K mainGlobals "RED" = some (some (.str "red" t_RED)))
    (v_BLUE : PySem.W.nsIn K mainGlobals "BLUE" = some (some (.str "blue" t_BLUE)))
    : ∃ fd : FuncData, (∀ (s : Shared) (v : Value), BindsTo s fd ⟨[v], []⟩ [("_law_script", v)]) ∧ ∀ base : Heap, K.In base → base.Ns mainGlobals mg → FnG l.prog w K mg base 11 fa fd ["_law_script"] (spLaw K) := by
  have e := hfa.symm.trans (PySem.W.mg_of X G a29)
  cases e
  have F1 := fun_mk (st := sBas) l1 d1 k1
  have b1 := F1.binds (ps := ["canal", "water"]) fun _ _ _ _ _ _ us hl => match us, hl with | [_, _], _ => rfl
  have g1 := PySem.W.mg_of X G a1
  have F2 := fun_mk (st := sEnds) l2 d2 k2
  have b2 := F2.binds (ps := ["lock", "water"]) fun _ _ _ _ _ _ us hl => match us, hl with | [_, _], _ => rfl
  have g2 := PySem.W.mg_of X G a2
  have F3 := fun_mk (st := sFT) l3 d3 k3
  have b3 := F3.binds (ps := ["canal", "standing", "lock", "water"]) fun _ _ _ _ _ _ us hl => match us, hl with | [_, _, _, _], _ => rfl
  have g3 := PySem.W.mg_of X G a3
  have F4 := fun_mk (st := sBoO) l4 d4 k4
  have b4 := F4.binds (ps := ["standing", "water"]) fun _ _ _ _ _ _ us hl => match us, hl with | [_, _], _ => rfl
  have g4 := PySem.W.mg_of X G a4
  have F5 := fun_mk (st := sAl) l5 d5 k5
  have b5 := F5.binds (ps := ["standing", "water"]) fun _ _ _ _ _ _ us hl => match us, hl with | [_, _], _ => rfl
  have g5 := PySem.W.mg_of X G a5
  have F6 := fun_mk (st := sRo) l6 d6 k6
  have b6 := F6.binds (ps := ["canal", "standing", "water"]) fun _ _ _ _ _ _ us hl => match us, hl with | [_, _, _], _ => rfl
  have g6 := PySem.W.mg_of X G a6
  have F7 := fun_mk (st := sAs) l7 d7 k7
  have b7 := F7.binds (ps := ["canal", "standing", "water"]) fun _ _ _ _ _ _ us hl => match us, hl with | [_, _, _], _ => rfl
  have g7 := PySem.W.mg_of X G a7
  have F8 := fun_mk (st := sUl) l8 d8 k8
  have b8 := F8.binds (ps := ["one", "other"]) fun _ _ _ _ _ _ us hl => match us, hl with | [_, _], _ => rfl
  have g8 := PySem.W.mg_of X G a8
  have F9 := fun_mk (st := sBb) l9 d9 k9
  have b9 := F9.binds (ps := ["canal", "one", "other", "water"]) fun _ _ _ _ _ _ us hl => match us, hl with | [_, _, _, _], _ => rfl
  have g9 := PySem.W.mg_of X G a9
  have F10 := fun_mk (st := sLe) l10 d10 k10
  have b10 := F10.binds (ps := ["canal", "one", "other", "water"]) fun _ _ _ _ _ _ us hl => match us, hl with | [_, _, _, _], _ => rfl
  have g10 := PySem.W.mg_of X G a10
  have F11 := fun_mk (st := sWo) l11 d11 k11
  have b11 := F11.binds (ps := ["canal", "standing", "water", "basin"]) fun _ _ _ _ _ _ us hl => match us, hl with | [_, _, _, _], _ => rfl
  have g11 := PySem.W.mg_of X G a11
  have F12 := fun_mk (st := sBox) l12 d12 k12
  have b12 := F12.binds (ps := ["_law_cells_here", "_law_k"]) fun _ _ _ _ _ _ us hl => match us, hl with | [_, _], _ => rfl
  have g12 := PySem.W.mg_of X G a12
  have F13 := fun_mk (st := sTake) l13 d13 k13
  have b13 := F13.binds (ps := ["_law_box_here", "_law_size"]) fun _ _ _ _ _ _ us hl => match us, hl with | [_, _], _ => rfl
  have g13 := PySem.W.mg_of X G a13
  have F14 := fun_mk (st := sCells) l14 d14 k14
  have b14 := F14.binds (ps := ["_law_script", "_law_utmost"]) fun _ _ _ _ _ _ us hl => match us, hl with | [_, _], _ => rfl
  have g14 := PySem.W.mg_of X G a14
  have F15 := fun_mk (st := sOf) l15 d15 k15
  have b15 := F15.binds (ps := ["_law_box_here", "_law_some"]) fun _ _ _ _ _ _ us hl => match us, hl with | [_, _], _ => rfl
  have g15 := PySem.W.mg_of X G a15
  have F16 := fun_mk (st := sCanal) l16 d16 k16
  have b16 := F16.binds (ps := ["_law_box_here", "_law_wide", "_law_utmost"]) fun _ _ _ _ _ _ us hl => match us, hl with | [_, _, _], _ => rfl
  have g16 := PySem.W.mg_of X G a16
  have F17 := fun_mk (st := sLF) l17 d17 k17
  have b17 := F17.binds (ps := ["_law_ship_way", "_law_lying", "_law_hop"]) fun _ _ _ _ _ _ us hl => match us, hl with | [_, _, _], _ => rfl
  have g17 := PySem.W.mg_of X G a17
  have F18 := fun_mk (st := sSt) l18 d18 k18
  have b18 := F18.binds (ps := ["_law_ship_way", "_law_lying"]) fun _ _ _ _ _ _ us hl => match us, hl with | [_, _], _ => rfl
  have g18 := PySem.W.mg_of X G a18
  have F19 := fun_mk (st := sBe) l19 d19 k19
  have b19 := F19.binds (ps := ["_law_ship_way", "_law_lying", "_law_hop"]) fun _ _ _ _ _ _ us hl => match us, hl with | [_, _, _], _ => rfl
  have g19 := PySem.W.mg_of X G a19
  have F20 := fun_mk (st := sHu) l20 d20 k20
  have b20 := F20.binds (ps := ["_law_hue"]) fun _ _ _ _ _ _ us hl => match us, hl with | [_], _ => rfl
  have g20 := PySem.W.mg_of X G a20
  have F21 := fun_mk (st := sSi) l21 d21 k21
  have b21 := F21.binds (ps := ["_law_box_here", "_law_ship_way", "_law_hue", "_law_most"]) fun _ _ _ _ _ _ us hl => match us, hl with | [_, _, _, _], _ => rfl
  have g21 := PySem.W.mg_of X G a21
  have F22 := fun_mk (st := sWa) l22 d22 k22
  have b22 := F22.binds (ps := ["_law_ship_way", "_law_lying", "_law_hue"]) fun _ _ _ _ _ _ us hl => match us, hl with | [_, _, _], _ => rfl
  have g22 := PySem.W.mg_of X G a22
  have F23 := fun_mk (st := sLa) l23 d23 k23
  have b23 := F23.binds (ps := ["_law_ship_way", "_law_lying", "_law_moves", "_law_hue"]) fun _ _ _ _ _ _ us hl => match us, hl with | [_, _, _, _], _ => rfl
  have g23 := PySem.W.mg_of X G a23
  have F24 := fun_mk (st := sWd) l24 d24 k24
  have b24 := F24.binds (ps := ["_law_ship_way", "_law_lying", "_law_hue", "_law_k"]) fun _ _ _ _ _ _ us hl => match us, hl with | [_, _, _, _], _ => rfl
  have g24 := PySem.W.mg_of X G a24
  have F25 := fun_mk (st := sFb) l25 d25 k25
  have b25 := F25.binds (ps := ["_law_ship_way", "_law_lying", "_law_hue"]) fun _ _ _ _ _ _ us hl => match us, hl with | [_, _, _], _ => rfl
  have g25 := PySem.W.mg_of X G a25
  have F26 := fun_mk (st := sSr) l26 d26 k26
  have b26 := F26.binds (ps := ["_law_ship_way", "_law_lying", "_law_hue"]) fun _ _ _ _ _ _ us hl => match us, hl with | [_, _, _], _ => rfl
  have g26 := PySem.W.mg_of X G a26
  have F27 := fun_mk (st := sMr) l27 d27 k27
  have b27 := F27.binds (ps := ["_law_ship_way", "_law_lying", "_law_hue", "_law_k"]) fun _ _ _ _ _ _ us hl => match us, hl with | [_, _, _, _], _ => rfl
  have g27 := PySem.W.mg_of X G a27
  have F28 := fun_mk (st := sRight) l28 d28 k28
  have b28 := F28.binds (ps := ["_law_box_here"]) fun _ _ _ _ _ _ us hl => match us, hl with | [_], _ => rfl
  have g28 := PySem.W.mg_of X G a28
  have F29 := fun_mk (st := sLaw) l29 d29 k29
  have m_isinstance := PySem.W.mg_none_of X G z_isinstance
  have m_list := PySem.W.mg_none_of X G z_list
  have m_tuple := PySem.W.mg_none_of X G z_tuple
  have m_zip := PySem.W.mg_none_of X G z_zip
  have m_len := PySem.W.mg_none_of X G z_len
  have m_all := PySem.W.mg_none_of X G z_all
  have m_any := PySem.W.mg_none_of X G z_any
  have m_int := PySem.W.mg_none_of X G z_int
  have m_range := PySem.W.mg_none_of X G z_range
  have m_enumerate := PySem.W.mg_none_of X G z_enumerate
  have m_abs := PySem.W.mg_none_of X G z_abs
  have m_min := PySem.W.mg_none_of X G z_min
  have c_RED := PySem.W.mg_of X G v_RED
  have c_BLUE := PySem.W.mg_of X G v_BLUE
  refine ⟨PySem.W.fnOf "law" "law" (defArgs sLaw) (defBody sLaw) (defScope sLaw) .none kV29 dc29 pm29 an29 cd29 ct29, fun s v => .of_eq rfl, fun base _ _ => ?_⟩
  have En4 : Fns l.prog w K mg base 4 "ends_of" ["lock", "water"] (spEnds K) f2 _ := ⟨ok_ends (k := 3) F2 c_RED, g2, k2, b2⟩
  have En5 : Fns l.prog w K mg base 5 "ends_of" ["lock", "water"] (spEnds K) f2 _ := ⟨ok_ends (k := 4) F2 c_RED, g2, k2, b2⟩
  have En6 : Fns l.prog w K mg base 6 "ends_of" ["lock", "water"] (spEnds K) f2 _ := ⟨ok_ends (k := 5) F2 c_RED, g2, k2, b2⟩
  have En8 : Fns l.prog w K mg base 8 "ends_of" ["lock", "water"] (spEnds K) f2 _ := ⟨ok_ends (k := 7) F2 c_RED, g2, k2, b2⟩
  have Bo5 : Fns l.prog w K mg base 5 "boats_of" ["standing", "water"] (spBoT K) f4 _ := ⟨ok_bo (k := 4) F4 c_RED, g4, k4, b4⟩
  have Bo6 : Fns l.prog w K mg base 6 "boats_of" ["standing", "water"] (spBoT K) f4 _ := ⟨ok_bo (k := 5) F4 c_RED, g4, k4, b4⟩
  have Bo7 : Fns l.prog w K mg base 7 "boats_of" ["standing", "water"] (spBoT K) f4 _ := ⟨ok_bo (k := 6) F4 c_RED, g4, k4, b4⟩
  have Bo8 : Fns l.prog w K mg base 8 "boats_of" ["standing", "water"] (spBoT K) f4 _ := ⟨ok_bo (k := 7) F4 c_RED, g4, k4, b4⟩
  have Ba7 : Fns l.prog w K mg base 7 "basins_of" ["canal", "water"] (spBas K) f1 _ := ⟨ok_bas (k := 6) F1 c_RED, g1, k1, b1⟩
  have Ba8 : Fns l.prog w K mg base 8 "basins_of" ["canal", "water"] (spBas K) f1 _ := ⟨ok_bas (k := 7) F1 c_RED, g1, k1, b1⟩
  have FT5 : Fns l.prog w K mg base 5 "from_and_to" ["canal", "standing", "lock", "water"] (spFT K) f3 _ := ⟨ok_ft F3 En4, g3, k3, b3⟩
  have FT6 : Fns l.prog w K mg base 6 "from_and_to" ["canal", "standing", "lock", "water"] (spFT K) f3 _ := ⟨ok_ft F3 En5, g3, k3, b3⟩
  have FT7 : Fns l.prog w K mg base 7 "from_and_to" ["canal", "standing", "lock", "water"] (spFT K) f3 _ := ⟨ok_ft F3 En6, g3, k3, b3⟩
  have Al6 : Fns l.prog w K mg base 6 "be_alone" ["standing", "water"] (spAl K) f5 _ := ⟨ok_al F5 Bo5 c_RED c_BLUE m_enumerate, g5, k5, b5⟩
  have Al7 : Fns l.prog w K mg base 7 "be_alone" ["standing", "water"] (spAl K) f5 _ := ⟨ok_al F5 Bo6 c_RED c_BLUE m_enumerate, g5, k5, b5⟩
  have Al8 : Fns l.prog w K mg base 8 "be_alone" ["standing", "water"] (spAl K) f5 _ := ⟨ok_al F5 Bo7 c_RED c_BLUE m_enumerate, g5, k5, b5⟩
  have Ro6 : Fns l.prog w K mg base 6 "roads" ["canal", "standing", "water"] (spRo K) f6 _ := ⟨ok_ro F6 Bo5 FT5 m_enumerate m_range m_len m_min, g6, k6, b6⟩
  have Ro7 : Fns l.prog w K mg base 7 "roads" ["canal", "standing", "water"] (spRo K) f6 _ := ⟨ok_ro F6 Bo6 FT6 m_enumerate m_range m_len m_min, g6, k6, b6⟩
  have Ro8 : Fns l.prog w K mg base 8 "roads" ["canal", "standing", "water"] (spRo K) f6 _ := ⟨ok_ro F6 Bo7 FT7 m_enumerate m_range m_len m_min, g6, k6, b6⟩
  have As8 : Fns l.prog w K mg base 8 "asleep" ["canal", "standing", "water"] (spAs K) f7 _ := ⟨ok_as F7 Al7 Ro7 Ba7 m_range, g7, k7, b7⟩
  have As9 : Fns l.prog w K mg base 9 "asleep" ["canal", "standing", "water"] (spAs K) f7 _ := ⟨ok_as F7 Al8 Ro8 Ba8 m_range, g7, k7, b7⟩
  have Wo7 : Fns l.prog w K mg base 7 "woken" ["canal", "standing", "water", "basin"] (spWo K) f11 _ := ⟨ok_wo F11 Al6 Ro6, g11, k11, b11⟩
  have Wo8 : Fns l.prog w K mg base 8 "woken" ["canal", "standing", "water", "basin"] (spWo K) f11 _ := ⟨ok_wo F11 Al7 Ro7, g11, k11, b11⟩
  have Wo9 : Fns l.prog w K mg base 9 "woken" ["canal", "standing", "water", "basin"] (spWo K) f11 _ := ⟨ok_wo F11 Al8 Ro8, g11, k11, b11⟩
  have Ul7 : Fns l.prog w K mg base 7 "unlike_locks" ["one", "other"] (spUl K) f8 _ := ⟨ok_ul (k := 6) F8 m_enumerate m_zip, g8, k8, b8⟩
  have Ul8 : Fns l.prog w K mg base 8 "unlike_locks" ["one", "other"] (spUl K) f8 _ := ⟨ok_ul (k := 7) F8 m_enumerate m_zip, g8, k8, b8⟩
  have Bb8 : Fns l.prog w K mg base 8 "boats_behind" ["canal", "one", "other", "water"] (spBb K) f9 _ := ⟨ok_bb F9 Bo7 Ul7 FT7 m_list, g9, k9, b9⟩
  have Le9 : Fns l.prog w K mg base 9 "leads" ["canal", "one", "other", "water"] (spLe K) f10 _ := ⟨ok_le F10 Al8 Bb8 Bo8 As8 Ul8 En8 m_list m_any, g10, k10, b10⟩
  have Hu7 : Fns l.prog w K mg base 7 "_law_hues" ["_law_hue"] spHu f20 _ := ⟨ok_hu (k := 6) F20, g20, k20, b20⟩
  have Hu8 : Fns l.prog w K mg base 8 "_law_hues" ["_law_hue"] spHu f20 _ := ⟨ok_hu (k := 7) F20, g20, k20, b20⟩
  have Hu9 : Fns l.prog w K mg base 9 "_law_hues" ["_law_hue"] spHu f20 _ := ⟨ok_hu (k := 8) F20, g20, k20, b20⟩
  have LF6 : Fns l.prog w K mg base 6 "_law_from_to" ["_law_ship_way", "_law_lying", "_law_hop"] (spLF K) f17 _ := ⟨ok_lf (k := 5) F17, g17, k17, b17⟩
  have LF7 : Fns l.prog w K mg base 7 "_law_from_to" ["_law_ship_way", "_law_lying", "_law_hop"] (spLF K) f17 _ := ⟨ok_lf (k := 6) F17, g17, k17, b17⟩
  have Ta8 : Fns l.prog w K mg base 8 "_law_take" ["_law_box_here", "_law_size"] spTake f13 _ := ⟨ok_take (k := 7) F13, g13, k13, b13⟩
  have Of9 : Fns l.prog w K mg base 9 "_law_of" ["_law_box_here", "_law_some"] (spOf K) f15 _ := ⟨ok_of (k := 7) F15 F13 b13 g13 m_len, g15, k15, b15⟩
  have C9 : Fns l.prog w K mg base 9 "_law_canal" ["_law_box_here", "_law_wide", "_law_utmost"] (spCanal K) f16 _ := ⟨ok_canal (k := 6) F16 F13 b13 g13 F15 b15 g15 m_len m_list m_tuple m_range, g16, k16, b16⟩
  have Si9 : Fns l.prog w K mg base 9 "_law_single" ["_law_box_here", "_law_ship_way", "_law_hue", "_law_most"] (spSi K) f21 _ := ⟨ok_si F21 Hu8 Ta8 m_range m_tuple, g21, k21, b21⟩
  have St7 : Fns l.prog w K mg base 7 "_law_steps" ["_law_ship_way", "_law_lying"] (spSt K) f18 _ := ⟨ok_st F18 LF6 m_range m_len m_enumerate, g18, k18, b18⟩
  have Be7 : Fns l.prog w K mg base 7 "_law_behind" ["_law_ship_way", "_law_lying", "_law_hop"] (spBe K) f19 _ := ⟨ok_be F19 LF6 m_list m_int m_tuple, g19, k19, b19⟩
  have Wa8 : Fns l.prog w K mg base 8 "_law_ways_out" ["_law_ship_way", "_law_lying", "_law_hue"] (spWa K) f22 _ := ⟨ok_wa F22 LF7 m_range m_len, g22, k22, b22⟩
  have La8 : Fns l.prog w K mg base 8 "_law_led_alone" ["_law_ship_way", "_law_lying", "_law_moves", "_law_hue"] (spLa K) f23 _ := ⟨ok_la F23 St7 Be7 m_isinstance m_tuple, g23, k23, b23⟩
  have Wd9 : Fns l.prog w K mg base 9 "_law_waked" ["_law_ship_way", "_law_lying", "_law_hue", "_law_k"] (spWd K) f24 _ := ⟨ok_wd F24 Wo8 Hu8 La8 m_len, g24, k24, b24⟩
  have Fb8 : Fns l.prog w K mg base 8 "_law_far_by" ["_law_ship_way", "_law_lying", "_law_hue"] (spFb K) f25 _ := ⟨ok_fb F25 Wo7 Hu7 m_len m_range, g25, k25, b25⟩
  have Sr9 : Fns l.prog w K mg base 9 "_law_steps_right" ["_law_ship_way", "_law_lying", "_law_hue"] (spSr K) f26 _ := ⟨ok_sr F26 Fb8 Wa8 m_len m_range m_all, g26, k26, b26⟩
  have Mr9 : Fns l.prog w K mg base 9 "_law_more_right" ["_law_ship_way", "_law_lying", "_law_hue", "_law_k"] (spMr K) f27 _ := ⟨ok_mr F27 Fb8 Hu8 m_list m_tuple m_all m_zip, g27, k27, b27⟩
  have Ce : Fns l.prog w K mg base 10 "_law_cells" ["_law_script", "_law_utmost"] (spCells K) f14 _ := ⟨ok_cells (k := 9) F14 m_list m_enumerate, g14, k14, b14⟩
  have Bx0 : Fns l.prog w K mg base 10 "_law_box" ["_law_cells_here", "_law_k"] (spBox K) f12 _ := ⟨ok_box (k := 9) F12 m_abs m_int, g12, k12, b12⟩
  have R := FnG.of (ok_right F28 C9 Of9 Si9 As9 Hu9 Wd9 Le9 Wo9 Sr9 Mr9 m_range)
  exact ok_law F29 Ce Bx0 R g28 k28 b28 m_len m_all m_range
end XL
open PySem PySem.W PyProof.Rows
set_option maxRecDepth 100000 in
set_option maxHeartbeats 0 in
theorem PySem.Challenge.cw_crosslocks_k90_whole_wakings_and_the_way_holds : PySem.Challenge.rw_crosslocks_k90_whole_wakings_and_the_way.Holds := by
  w_on; o_law; k_head; (case hw => w_witness2)
  k_fill
  refine XL.walkG (l := PySem.Challenge.rw_crosslocks_k90_whole_wakings_and_the_way) (n := 63) (k := 11) (x := "_law_script") (sp := XL.spLaw) rfl (by decide) rfl ⟨rfl, by decide, by decide⟩ (fun w h Y => PySem.W.kIn_of Y) ?F (fun K H a ns hl _ hS => ⟨a, ns, rfl, hS, hl, fun _ => rfl⟩)
  case F =>
    intro w mg fa h KX G hmg
    refine' XL.all_mk KX G hmg ?a1 ?l1 ?d1 ?k1 ?a2 ?l2 ?d2 ?k2 ?a3 ?l3 ?d3 ?k3 ?a4 ?l4 ?d4 ?k4 ?a5 ?l5 ?d5 ?k5 ?a6 ?l6 ?d6 ?k6 ?a7 ?l7 ?d7 ?k7 ?a8 ?l8 ?d8 ?k8 ?a9 ?l9 ?d9 ?k9 ?a10 ?l10 ?d10 ?k10 ?a11 ?l11 ?d11 ?k11 ?a12 ?l12 ?d12 ?k12 ?a13 ?l13 ?d13 ?k13 ?a14 ?l14 ?d14 ?k14 ?a15 ?l15 ?d15 ?k15 ?a16 ?l16 ?d16 ?k16 ?a17 ?l17 ?d17 ?k17 ?a18 ?l18 ?d18 ?k18 ?a19 ?l19 ?d19 ?k19 ?a20 ?l20 ?d20 ?k20 ?a21 ?l21 ?d21 ?k21 ?a22 ?l22 ?d22 ?k22 ?a23 ?l23 ?d23 ?k23 ?a24 ?l24 ?d24 ?k24 ?a25 ?l25 ?d25 ?k25 ?a26 ?l26 ?d26 ?k26 ?a27 ?l27 ?d27 ?k27 ?a28 ?l28 ?d28 ?k28 ?a29 ?l29 ?d29 ?k29 ?z_isinstance ?z_list ?z_tuple ?z_zip ?z_len ?z_all ?z_any ?z_int ?z_range ?z_enumerate ?z_abs ?z_min ?v_RED ?v_BLUE
    (case a1 => k_is)
    (case l1 => k_is)
    (case d1 => k_is)
    (case k1 => k_is)
    (case a2 => k_is)
    (case l2 => k_is)
    (case d2 => k_is)
    (case k2 => k_is)
    (case a3 => k_is)
    (case l3 => k_is)
    (case d3 => k_is)
    (case k3 => k_is)
    (case a4 => k_is)
    (case l4 => k_is)
    (case d4 => k_is)
    (case k4 => k_is)
    (case a5 => k_is)
    (case l5 => k_is)
    (case d5 => k_is)
    (case k5 => k_is)
    (case a6 => k_is)
    (case l6 => k_is)
    (case d6 => k_is)
    (case k6 => k_is)
    (case a7 => k_is)
    (case l7 => k_is)
    (case d7 => k_is)
    (case k7 => k_is)
    (case a8 => k_is)
    (case l8 => k_is)
    (case d8 => k_is)
    (case k8 => k_is)
    (case a9 => k_is)
    (case l9 => k_is)
    (case d9 => k_is)
    (case k9 => k_is)
    (case a10 => k_is)
    (case l10 => k_is)
    (case d10 => k_is)
    (case k10 => k_is)
    (case a11 => k_is)
    (case l11 => k_is)
    (case d11 => k_is)
    (case k11 => k_is)
    (case a12 => k_is)
    (case l12 => k_is)
    (case d12 => k_is)
    (case k12 => k_is)
    (case a13 => k_is)
    (case l13 => k_is)
    (case d13 => k_is)
    (case k13 => k_is)
    (case a14 => k_is)
    (case l14 => k_is)
    (case d14 => k_is)
    (case k14 => k_is)
    (case a15 => k_is)
    (case l15 => k_is)
    (case d15 => k_is)
    (case k15 => k_is)
    (case a16 => k_is)
    (case l16 => k_is)
    (case d16 => k_is)
    (case k16 => k_is)
    (case a17 => k_is)
    (case l17 => k_is)
    (case d17 => k_is)
    (case k17 => k_is)
    (case a18 => k_is)
    (case l18 => k_is)
    (case d18 => k_is)
    (case k18 => k_is)
    (case a19 => k_is)
    (case l19 => k_is)
    (case d19 => k_is)
    (case k19 => k_is)
    (case a20 => k_is)
    (case l20 => k_is)
    (case d20 => k_is)
    (case k20 => k_is)
    (case a21 => k_is)
    (case l21 => k_is)
    (case d21 => k_is)
    (case k21 => k_is)
    (case a22 => k_is)
    (case l22 => k_is)
    (case d22 => k_is)
    (case k22 => k_is)
    (case a23 => k_is)
    (case l23 => k_is)
    (case d23 => k_is)
    (case k23 => k_is)
    (case a24 => k_is)
    (case l24 => k_is)
    (case d24 => k_is)
    (case k24 => k_is)
    (case a25 => k_is)
    (case l25 => k_is)
    (case d25 => k_is)
    (case k25 => k_is)
    (case a26 => k_is)
    (case l26 => k_is)
    (case d26 => k_is)
    (case k26 => k_is)
    (case a27 => k_is)
    (case l27 => k_is)
    (case d27 => k_is)
    (case k27 => k_is)
    (case a28 => k_is)
    (case l28 => k_is)
    (case d28 => k_is)
    (case k28 => k_is)
    (case a29 => k_is)
    (case l29 => k_is)
    (case d29 => k_is)
    (case k29 => k_is)
    (case z_isinstance => k_is)
    (case z_list => k_is)
    (case z_tuple => k_is)
    (case z_zip => k_is)
    (case z_len => k_is)
    (case z_all => k_is)
    (case z_any => k_is)
    (case z_int => k_is)
    (case z_range => k_is)
    (case z_enumerate => k_is)
    (case z_abs => k_is)
    (case z_min => k_is)
    (case v_RED => k_is)
    (case v_BLUE => k_is)

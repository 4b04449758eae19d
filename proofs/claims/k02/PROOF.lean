import PyProof.Rows.All
import Wide.All
import OpenK.AllK
import Wide.FinOn
import KE.GoesMore
import KE.KDictZip
import PyProof.ListNew
import PyProof.SeqWrite
import KE.GoesEnum
import HandS.ForMost
import HandS.Zip
import PyProof.ReprRoads
import HandS.IsInst
import HandS.TupAny
import HandS.NoneIn
import HandS.Flow
import HandS.Conv
import HandS.Walk
import HandS.ExcValue
import PyProof.ReprLen
import HandS.TupMul
import HandS.Wide
import HandS.Style
import PySem.Challenge.RW_crosslocks_k02_what_standings_are
set_option Elab.async false
set_option linter.all false
set_option maxRecDepth 100000
namespace XL
open PySem PyProof.Rows
section
variable {prog : Program} {w : World} {A : Around} {E : Value → Shared → Prop} {s : Shared} {z TI TO T i1 i2 : Addr}
variable {fp1 fp2 : List Addr} {n1 n2 i : Nat} {P1 P2 : Nat → Value → Prop} {St1 St2 : Nat → Heap → Prop} {a1 a2 : Value} {f : Bool} {oT : Obj}

/-- one more pair while the one given out before is held -/
theorem held_item {Q : Value → Shared → Prop} (S : ZipSep2 z TI TO i1 i2 fp1 fp2)
    (D1 : Draws prog w A i1 fp1 n1 P1 St1) (D2 : Draws prog w A i2 fp2 n2 P2 St2)
    (hz : IsZipHeld s.heap z TI TO T f) (hT : s.heap.get? T = some oT) (hTI : IsTupOf2 s.heap TI (.ref i1) (.ref i2))
    (st1 : St1 i s.heap) (st2 : St2 i s.heap) (l1 : i < n1) (l2 : i < n2)
    (hQ : ∀ x1 x2 h' tk, P1 i x1 → P2 i x2 → IsZipHeld h' z TI TO T true → St1 (i + 1) h' → St2 (i + 1) h' →
      IsTupOf2 h' s.heap.objs.size x1 x2 → h'.objs.size = s.heap.objs.size + 1 →
      (∀ c o, c ≠ z → c ≠ i1 → c ≠ i2 → s.heap.get? c = some o → h'.get? c = some o) →
      Q (.ref s.heap.objs.size) { s with heap := h', toks := tk }) :
    wpAny (model prog w) A (Builtin.«zip.__next__» ⟨[.ref z], []⟩) (fun fin s' => ∃ v, fin = .done (.ret v) ∧ Q v s') E s := by
  obtain ⟨hp, g, d, tk0, os⟩ := s
  show wpAny _ _ (field (.ref z) 2 >>= _) _ _ _
  refine wpAny_bind (wpAny_field hz rfl (x := .bool false) rfl ?_); show wpAny _ _ (field (.ref z) 3 >>= _) _ _ _
  refine wpAny_bind (wpAny_field hz rfl (x := .ref TI) rfl ?_); refine wpAny_bind (wpAny_seqItems hTI rfl ?_)
  show wpAny _ _ (Builtin.SmallTypes.ownedTupleIsFree (.ref z) >>= _) _ _ _
  refine wpAny_bind (wpAny_tupleHeld_zip hz hT fun g0 hz0 hs0 => ?_); simp only [Bool.false_eq_true, if_false]; refine wpAny_bind ?_
  replace hs0 : Heap.SameBut z hp g0 := hs0
  rw [← Array.forIn_toList]; simp only [List.forIn_cons, List.forIn_nil]
  refine wpAny_bind (wpAny_bind (wpAny_holding ?_)); show wpAny _ _ (Builtin.SmallTypes.nextOf (.ref i1) >>= _) _ _ ⟨g0, g, d, tk0, os⟩
  refine wpAny_bind (D1.item i _ _ _ l1 (D1.over st1 hs0 S.zf1) fun x1 p1 tk1 hx1 sn1 hp1 => wpAny_pure ?_)
  replace hp1 : Heap.SameBut i1 g0 p1 := hp1
  refine wpAny_pure ?_
  refine wpAny_bind (wpAny_bind (wpAny_holding ?_)); show wpAny _ _ (Builtin.SmallTypes.nextOf (.ref i2) >>= _) _ _ ⟨p1, g, d, tk1, os⟩
  refine wpAny_bind (D2.item i _ _ _ l2 (D2.over (D2.over st2 hs0 S.zf2) hp1 S.sep1_2) fun x2 p2 tk2 hx2 sn2 hp2 => wpAny_pure ?_)
  replace hp2 : Heap.SameBut i2 p1 p2 := hp2
  refine wpAny_pure (wpAny_pure ?_); show wpAny _ _ (newTuple [x1, x2] >>= _) _ _ _
  refine wpAny_bind (wpAny_newTuple ?_)
  have hsz : p2.objs.size = hp.objs.size := by rw [hp2.1, hp1.1, hs0.1]
  have hz2 : IsZipHeld p2 z TI TO T true := hp2.extBut _ _ S.zi2 (hp1.extBut _ _ S.zi1 hz0)
  have hk : ∀ c o, c ≠ z → c ≠ i1 → c ≠ i2 → hp.get? c = some o → p2.get? c = some o := fun c o c0 c1 c2 e =>
    hp2.extBut _ _ c2 (hp1.extBut _ _ c1 (hs0.extBut _ _ c0 e))
  have j1 : St1 (i + 1) p2 := D1.over sn1 hp2 S.sep2_1
  refine wpAny_pure ⟨_, rfl, ?_⟩; show Q (.ref p2.objs.size) _
  have hpr : IsTupOf2 (p2.push { cls := .type "tuple", data := .seq #[x1, x2] }) p2.objs.size x1 x2 := Heap.get?_push_size _ rfl
  have hz4 : (p2.push { cls := .type "tuple", data := .seq #[x1, x2] }).objs.size = p2.objs.size + 1 := Heap.size_push ..
  rw [hsz] at hpr hz4 ⊢
  exact hQ x1 x2 _ tk2 hx1 hx2 (Heap.get?_push_of_some _ hz2) (D1.frame _ _ _ j1 fun b _ o e => Heap.get?_push_of_some _ e)
    (D2.frame _ _ _ sn2 fun b _ o e => Heap.get?_push_of_some _ e) hpr hz4 fun c o c0 c1 c2 e => Heap.get?_push_of_some _ (hk c o c0 c1 c2 e)

/-- the end while the last pair is held -/
theorem held_end {Q : Fin → Shared → Prop} (S : ZipSep2 z TI TO i1 i2 fp1 fp2)
    (D1 : Draws prog w A i1 fp1 n1 P1 St1) (D2 : Draws prog w A i2 fp2 n2 P2 St2)
    (hz : IsZipHeld s.heap z TI TO T f) (hT : s.heap.get? T = some oT) (hTI : IsTupOf2 s.heap TI (.ref i1) (.ref i2))
    (st1 : St1 i s.heap) (st2 : St2 i s.heap) (e1 : i ≤ n1) (e2 : i ≤ n2) (hend : i = n1 ∨ i = n2)
    (hE : ∀ h' tk e, (∀ c o, c ≠ z → c ≠ i1 → c ≠ i2 → s.heap.get? c = some o → h'.get? c = some o) →
      (∃ o, h'.get? e = some o ∧ o.cls = .type "StopIteration") → E (.ref e) { s with heap := h', toks := tk }) :
    wpAny (model prog w) A (Builtin.«zip.__next__» ⟨[.ref z], []⟩) Q E s := by
  obtain ⟨hp, g, d, tk0, os⟩ := s
  show wpAny _ _ (field (.ref z) 2 >>= _) _ _ _
  refine wpAny_bind (wpAny_field hz rfl (x := .bool false) rfl ?_); show wpAny _ _ (field (.ref z) 3 >>= _) _ _ _
  refine wpAny_bind (wpAny_field hz rfl (x := .ref TI) rfl ?_); refine wpAny_bind (wpAny_seqItems hTI rfl ?_)
  show wpAny _ _ (Builtin.SmallTypes.ownedTupleIsFree (.ref z) >>= _) _ _ _
  refine wpAny_bind (wpAny_tupleHeld_zip hz hT fun g0 hz0 hs0 => ?_); simp only [Bool.false_eq_true, if_false]; refine wpAny_bind ?_
  replace hs0 : Heap.SameBut z hp g0 := hs0
  rw [← Array.forIn_toList]; simp only [List.forIn_cons, List.forIn_nil]
  refine wpAny_bind (wpAny_bind (wpAny_holding ?_)); show wpAny _ _ (Builtin.SmallTypes.nextOf (.ref i1) >>= _) _ _ ⟨g0, g, d, tk0, os⟩
  by_cases l1 : i < n1
  · refine wpAny_bind (D1.item i _ _ _ l1 (D1.over st1 hs0 S.zf1) fun x1 p1 tk1 hx1 sn1 hp1 => wpAny_pure ?_)
    replace hp1 : Heap.SameBut i1 g0 p1 := hp1
    have hi2 : i = n2 := by omega
    refine wpAny_pure ?_
    refine wpAny_bind (wpAny_bind (wpAny_holding ?_)); show wpAny _ _ (Builtin.SmallTypes.nextOf (.ref i2) >>= _) _ _ ⟨p1, g, d, tk1, os⟩
    refine wpAny_bind (D2.done ⟨p1, g, d, tk1, os⟩ _ _ (by rw [← hi2]; exact D2.over (D2.over st2 hs0 S.zf2) hp1 S.sep1_2) fun q e hq he => ?_)
    exact hE q tk1 e (fun c o c0 c1 c2 x => hq _ _ c2 (hp1.extBut _ _ c1 (hs0.extBut _ _ c0 x))) he
  · have hi1 : i = n1 := by omega
    refine wpAny_bind (D1.done ⟨g0, g, d, tk0, os⟩ _ _ (by rw [← hi1]; exact D1.over st1 hs0 S.zf1) fun q e hq he => ?_)
    exact hE q tk0 e (fun c o c0 c1 c2 x => hq _ _ c1 (hs0.extBut _ _ c0 x)) he
end
end XL
namespace XL
open PySem PyProof.Rows
/-- the zip between two nexts: nothing given out yet, or the last pair is held -/
def ZNow (h : Heap) (z TI TO L : Addr) : Prop :=
  (IsZip h z TI TO .none ∧ ∃ a1 a2, IsTupOf2 h TO a1 a2) ∨ ∃ T f oT, IsZipHeld h z TI TO T f ∧ h.get? T = some oT ∧ T ≠ z ∧ T ≠ L
theorem ZNow.typ {s : Shared} {z TI TO L : Addr} (h : ZNow s.heap z TI TO L) : s.TypeIs (.ref z) "zip" := by
  rcases h with ⟨h, _⟩ | ⟨T, f, oT, h, _⟩
  · exact ⟨_, h, rfl⟩
  · exact ⟨_, h, rfl⟩
theorem ZNow.lt {h : Heap} {z TI TO L : Addr} (q : ZNow h z TI TO L) : z < h.objs.size := by
  rcases q with ⟨h, _⟩ | ⟨T, f, oT, h, _⟩
  · exact Heap.lt_size h
  · exact Heap.lt_size h
section
variable {prog : Program} {w : World} {A : Around} {E : Value → Shared → Prop} {s : Shared} {z TI TO L i1 i2 : Addr}
variable {fp1 fp2 : List Addr} {n1 n2 i : Nat} {P1 P2 : Nat → Value → Prop} {St1 St2 : Nat → Heap → Prop}
theorem next_item {Q : Option Value → Shared → Prop} (S : ZipSep2 z TI TO i1 i2 fp1 fp2)
    (D1 : Draws prog w A.in1 i1 fp1 n1 P1 St1) (D2 : Draws prog w A.in1 i2 fp2 n2 P2 St2)
    (hz : ZNow s.heap z TI TO L) (hTI : IsTupOf2 s.heap TI (.ref i1) (.ref i2)) (hL : L < s.heap.objs.size)
    (st1 : St1 i s.heap) (st2 : St2 i s.heap) (l1 : i < n1) (l2 : i < n2)
    (hQ : ∀ x1 x2 h' tk, P1 i x1 → P2 i x2 → ZNow h' z TI TO L → St1 (i + 1) h' → St2 (i + 1) h' →
      IsTupOf2 h' s.heap.objs.size x1 x2 → h'.objs.size = s.heap.objs.size + 1 →
      (∀ c o, c ≠ z → c ≠ TO → c ≠ i1 → c ≠ i2 → s.heap.get? c = some o → h'.get? c = some o) →
      Q (some (.ref s.heap.objs.size)) { s with heap := h', toks := tk }) :
    wpAny (model prog w) A (pyNext (.ref z)) Q E s := by
  have hTy := hz.typ
  have zl : z < s.heap.objs.size := hz.lt
  have zne : s.heap.objs.size ≠ z := Nat.ne_of_gt zl
  have lne : s.heap.objs.size ≠ L := Nat.ne_of_gt hL
  rcases hz with ⟨hz, a1, a2, hTO⟩ | ⟨T, f, oT, hz, hT, hTz, hTL⟩
  · refine wpAny_pyNext_zipD2_item S D1 D2 hz hTI hTO st1 st2 l1 l2 fun x1 x2 h' tk y1 y2 b1 b2 d1 d2 b5 b6 b7 => ?_
    exact hQ x1 x2 h' tk y1 y2 (.inr ⟨s.heap.objs.size, false, _, b1, b5, zne, lne⟩) d1 d2 b5 b6 b7
  · unfold pyNext
    refine wpAny_bind (wpAny_attempt (wpAny_callSpecial?_slot (name := Str.ofString "__next__") hTy F.slot_zip_next
      (wpAny_call_entry F.slot_zip_next hTy F.entry_zip_next (held_item S D1 D2 hz hT hTI st1 st2 l1 l2
        fun x1 x2 h' tk y1 y2 b1 d1 d2 b5 b6 b7 => wpAny_pure ?_) (F.args_zip_next_1 _))))
    have hT' : ∃ o, h'.get? T = some o := by
      by_cases c1 : T = i1
      · rw [c1]; exact D1.live _ _ d1
      · by_cases c2 : T = i2
        · rw [c2]; exact D2.live _ _ d2
        · exact ⟨_, b7 T oT hTz c1 c2 hT⟩
    obtain ⟨o', hT'⟩ := hT'
    exact hQ x1 x2 h' tk y1 y2 (.inr ⟨T, true, o', b1, hT', hTz, hTL⟩) d1 d2 b5 b6 fun c o c0 _ c1 c2 e => b7 c o c0 c1 c2 e
theorem next_end {Q : Option Value → Shared → Prop} (S : ZipSep2 z TI TO i1 i2 fp1 fp2)
    (D1 : Draws prog w A.in1 i1 fp1 n1 P1 St1) (D2 : Draws prog w A.in1 i2 fp2 n2 P2 St2)
    (hz : ZNow s.heap z TI TO L) (hTI : IsTupOf2 s.heap TI (.ref i1) (.ref i2))
    (st1 : St1 i s.heap) (st2 : St2 i s.heap) (e1 : i ≤ n1) (e2 : i ≤ n2) (hend : i = n1 ∨ i = n2)
    (hQ : ∀ h' tk, (∀ c o, c ≠ z → c ≠ TO → c ≠ i1 → c ≠ i2 → s.heap.get? c = some o → h'.get? c = some o) →
      Q none { s with heap := h', toks := tk }) :
    wpAny (model prog w) A (pyNext (.ref z)) Q E s := by
  have hTy := hz.typ
  rcases hz with ⟨hz, a1, a2, hTO⟩ | ⟨T, f, oT, hz, hT, hTz, hTL⟩
  · exact wpAny_pyNext_zipD2_end S D1 D2 hz hTI hTO st1 st2 e1 e2 hend hQ
  · unfold pyNext
    refine wpAny_bind (wpAny_attempt (wpAny_callSpecial?_slot (name := Str.ofString "__next__") hTy F.slot_zip_next
      (wpAny_call_entry F.slot_zip_next hTy F.entry_zip_next (held_end S D1 D2 hz hT hTI st1 st2 e1 e2 hend fun h' tk e hk he => ?_) (F.args_zip_next_1 _))))
    obtain ⟨o, ho, hc⟩ := he
    refine wpAny_bind (wpAny_isInstance (T := "StopIteration") (b := true) ⟨o, ho, hc⟩ isSubtype_stop ?_)
    exact wpAny_pure (hQ _ _ fun c o c0 _ c1 c2 e => hk c o c0 c1 c2 e)
end

/-- the pairs laid so far: at Ts, new, apart from the zip's own cells and the list -/
structure Laid (N L : Nat) (P1 P2 : Nat → Value → Prop) (cells : List Addr) (h : Heap) (Ts : List Addr) : Prop where
  nd : Ts.Nodup
  at_ : ∀ j T, Ts[j]? = some T → N ≤ T ∧ T < h.objs.size ∧ T ≠ L ∧ T ∉ cells ∧ ∃ x y, P1 j x ∧ P2 j y ∧ IsTupOf2 h T x y
theorem Laid.nil {N L : Nat} {P1 P2 : Nat → Value → Prop} {cells : List Addr} {h : Heap} : Laid N L P1 P2 cells h [] := ⟨List.nodup_nil, fun j T e => by simp at e⟩
theorem Laid.over {N L : Nat} {P1 P2 : Nat → Value → Prop} {cells : List Addr} {h h' : Heap} {Ts : List Addr} (q : Laid N L P1 P2 cells h Ts)
    (hs : h.objs.size ≤ h'.objs.size) (hk : ∀ c o, c ∉ cells → c ≠ L → h.get? c = some o → h'.get? c = some o) : Laid N L P1 P2 cells h' Ts :=
  ⟨q.nd, fun j T e => by
    obtain ⟨a, b, c, d, x, y, px, py, t⟩ := q.at_ j T e
    exact ⟨a, Nat.lt_of_lt_of_le b hs, c, d, x, y, px, py, hk _ _ d c t⟩⟩
theorem Laid.push {N L : Nat} {P1 P2 : Nat → Value → Prop} {cells : List Addr} {h h' : Heap} {Ts : List Addr} {x y : Value} (q : Laid N L P1 P2 cells h Ts)
    (hs : h'.objs.size = h.objs.size + 1) (hk : ∀ c o, c ∉ cells → c ≠ L → h.get? c = some o → h'.get? c = some o)
    (hN : N ≤ h.objs.size) (hL : L < h.objs.size) (hc : ∀ c ∈ cells, c < h.objs.size) (px : P1 Ts.length x) (py : P2 Ts.length y) (t : IsTupOf2 h' h.objs.size x y) :
    Laid N L P1 P2 cells h' (Ts ++ [h.objs.size]) := by
  have q' := q.over (h' := h') (by omega) hk
  refine ⟨?_, fun j T e => ?_⟩
  · rw [List.nodup_append]
    refine ⟨q.nd, by simp, fun a ha b hb e => ?_⟩
    simp at hb
    obtain ⟨j, hj⟩ := List.getElem?_of_mem ha
    have := (q.at_ j a hj).2.1
    rw [e, hb] at this
    exact Nat.lt_irrefl _ this
  · by_cases hj : j < Ts.length
    · rw [List.getElem?_append_left hj] at e
      exact q'.at_ j T e
    · rw [List.getElem?_append_right (by omega)] at e
      have hj0 : j - Ts.length = 0 := by
        rcases Nat.eq_zero_or_pos (j - Ts.length) with z | z
        · exact z
        · rw [List.getElem?_eq_none (by simp; omega)] at e
          cases e
      rw [hj0] at e
      have e' : h.objs.size = T := by simpa using e
      subst e'
      have ej : j = Ts.length := by omega
      refine ⟨hN, by rw [hs]; exact Nat.lt_succ_self _, Nat.ne_of_gt hL, fun hm => Nat.lt_irrefl _ (hc _ hm), x, y, ?_, ?_, t⟩
      · rw [ej]; exact px
      · rw [ej]; exact py
section
variable {prog : Program} {w : World} {A : Around} {R : Result → Shared → Prop} {z TI TO i1 i2 : Addr} {N L : Nat}
variable {fp1 fp2 : List Addr} {n1 n2 n : Nat} {P1 P2 : Nat → Value → Prop} {St1 St2 : Nat → Heap → Prop}
theorem loop_zip (S : ZipSep2 z TI TO i1 i2 fp1 fp2) (D1 : Draws prog w A.in1.in1 i1 fp1 n1 P1 St1) (D2 : Draws prog w A.in1.in1 i2 fp2 n2 P2 St2)
    (hn : n = min n1 n2) (hsz : n ≤ sizeLine) (res : Value) (hL1 : L ∉ fp1) (hL2 : L ∉ fp2) (hLz : L ≠ z) (hLTI : L ≠ TI) (hLTO : L ≠ TO) (hNz : N ≤ z) (hNT : N ≤ TO) (hN1 : N ≤ i1) (hN2 : N ≤ i2) (hNL : N ≤ L) :
    ∀ (k : Nat) (s : Shared) (Ts : List Addr) (c : Nat), n - Ts.length = k → Ts.length ≤ n → ZNow s.heap z TI TO L → IsTupOf2 s.heap TI (.ref i1) (.ref i2) → TO < s.heap.objs.size →
      St1 Ts.length s.heap → St2 Ts.length s.heap → N ≤ s.heap.objs.size → s.heap.get? L = some { cls := .type "list", dict := none, data := .seq (Ts.map Value.ref).toArray c, slots := #[] } →
      Laid N L P1 P2 [z, TO, i1, i2] s.heap Ts →
      (∀ h' tk Ts' c', Ts'.length = n → (∀ b o, b < N → s.heap.get? b = some o → h'.get? b = some o) →
        h'.get? L = some { cls := .type "list", dict := none, data := .seq (Ts'.map Value.ref).toArray c', slots := #[] } → Laid N L P1 P2 [z, TO, i1, i2] h' Ts' →
        R (.ok (.ret res)) { s with heap := h', toks := tk }) →
      codeAny (model prog w) A (.builtin "list.extend.loop" ⟨[.ref L, .ref z, res], []⟩) R s := by
  intro k
  have S' := S
  induction k with
  | zero =>
    intro s Ts c hk hle hz hTI hTO st1 st2 hN hLs hld hR
    have hin : Ts.length = n := by omega
    refine codeAny_builtin F.entry_extend_loop ?_
    rw [Around.under_plainId F.plain_extend_loop _]
    show wpAny _ A.in1 (pyNext (.ref z) >>= _) _ _ s
    have hend : Ts.length = n1 ∨ Ts.length = n2 := by omega
    refine wpAny_bind (next_end S D1 D2 hz hTI st1 st2 (by omega) (by omega) hend fun h' tk hk' => ?_)
    have ne : ∀ c, c ∉ [z, TO, i1, i2] → c ≠ z ∧ c ≠ TO ∧ c ≠ i1 ∧ c ≠ i2 := fun c hc => by simpa using hc
    have Li : L ≠ i1 ∧ L ≠ i2 := ⟨fun e => hL1 (e ▸ S.mem1), fun e => hL2 (e ▸ S.mem2)⟩
    refine wpAny_pure (hR h' tk Ts c hin (fun b o hb e => ?_) (hk' L _ hLz hLTO Li.1 Li.2 hLs) ?_)
    · exact hk' b o (Nat.ne_of_lt (Nat.lt_of_lt_of_le hb hNz)) (Nat.ne_of_lt (Nat.lt_of_lt_of_le hb hNT)) (Nat.ne_of_lt (Nat.lt_of_lt_of_le hb hN1)) (Nat.ne_of_lt (Nat.lt_of_lt_of_le hb hN2)) e
    · refine ⟨hld.nd, fun j T e => ?_⟩
      obtain ⟨a, b, c, d, x, y, px, py, t⟩ := hld.at_ j T e
      have t' : IsTupOf2 h' T x y := hk' _ _ (ne T d).1 (ne T d).2.1 (ne T d).2.2.1 (ne T d).2.2.2 t
      exact ⟨a, Heap.lt_size t', c, d, x, y, px, py, t'⟩
  | succ k ih =>
    intro s Ts c hk hle hz hTI hTO st1 st2 hN hLs hld hR
    have hlt1 : Ts.length < n1 := by omega
    have hlt2 : Ts.length < n2 := by omega
    refine codeAny_builtin F.entry_extend_loop ?_
    rw [Around.under_plainId F.plain_extend_loop _]
    show wpAny _ A.in1 (pyNext (.ref z) >>= _) _ _ s
    have hLlt : L < s.heap.objs.size := Heap.lt_size hLs
    refine wpAny_bind (next_item S D1 D2 hz hTI hLlt st1 st2 hlt1 hlt2 fun x1 x2 h' tk px py hz' d1 d2 ht hsz' hk' => ?_)
    have ne : ∀ c, c ∉ [z, TO, i1, i2] → c ≠ z ∧ c ≠ TO ∧ c ≠ i1 ∧ c ≠ i2 := fun c hc => by simpa using hc
    have Li : L ≠ i1 ∧ L ≠ i2 := ⟨fun e => hL1 (e ▸ S.mem1), fun e => hL2 (e ▸ S.mem2)⟩
    have hL' := hk' L _ hLz hLTO Li.1 Li.2 hLs
    have hTI' : IsTupOf2 h' TI (.ref i1) (.ref i2) := hk' TI _ S.TIz S.TITO S.TIi1 S.TIi2 hTI
    have hcells : ∀ b ∈ [z, TO, i1, i2], b < s.heap.objs.size := fun b hb => by
      have hb' : b = z ∨ b = TO ∨ b = i1 ∨ b = i2 := by simpa using hb
      rcases hb' with e | e | e | e
      · rw [e]; exact hz.lt
      · rw [e]; exact hTO
      · rw [e]; obtain ⟨o, q⟩ := D1.live _ _ st1; exact Heap.lt_size q
      · rw [e]; obtain ⟨o, q⟩ := D2.live _ _ st2; exact Heap.lt_size q
    have hld' : Laid N L P1 P2 [z, TO, i1, i2] h' (Ts ++ [s.heap.objs.size]) :=
      hld.push hsz' (fun c o hc _ e => hk' c o (ne c hc).1 (ne c hc).2.1 (ne c hc).2.2.1 (ne c hc).2.2.2 e) hN hLlt hcells px py ht
    show wpAny _ A.in1 (updateSeq L (·.push (Value.ref s.heap.objs.size)) >>= _) _ _ _
    refine wpAny_bind ?_
    have hlen : (Ts ++ [s.heap.objs.size]).length = Ts.length + 1 := by simp
    have hzs : ((Ts.map Value.ref).toArray : Array Value).size = Ts.length := by simp
    refine wpAny_updateSeq hL' rfl (wpAny_pure ⟨plainId_quiet F.plain_extend_loop _, ?_⟩) (by rw [hzs]; omega)
      (by show ((Ts.map Value.ref).toArray.push (Value.ref s.heap.objs.size)).size ≤ sizeLine + 1; rw [Array.size_push, hzs]; omega)
    have hself := Heap.get?_update_self (Obj.mapSeq (·.push (Value.ref s.heap.objs.size))) hL' rfl
    have hoth : ∀ b o, b ≠ L → h'.get? b = some o → (h'.update L (Obj.mapSeq (·.push (Value.ref s.heap.objs.size)))).get? b = some o :=
      fun b o hb e => (Heap.get?_update_other _ _ (Ne.symm hb)).trans e
    have hus : (h'.update L (Obj.mapSeq (·.push (Value.ref s.heap.objs.size)))).objs.size = h'.objs.size := (Heap.SameBut.update ..).1
    obtain ⟨c3, hc3⟩ : ∃ c3, (h'.update L (Obj.mapSeq (·.push (Value.ref s.heap.objs.size)))).get? L = some { cls := .type "list", dict := none, data := .seq ((Ts ++ [s.heap.objs.size]).map Value.ref).toArray c3, slots := #[] } := by
      have eA : ((Ts ++ [s.heap.objs.size]).map Value.ref).toArray = (Ts.map Value.ref).toArray.push (Value.ref s.heap.objs.size) := by simp
      rw [eA, hself]; exact ⟨_, rfl⟩
    refine ih { s with heap := h'.update L (Obj.mapSeq (·.push (Value.ref s.heap.objs.size))), toks := tk } (Ts ++ [s.heap.objs.size]) c3 (by rw [hlen]; omega) (by rw [hlen]; omega) ?_ (hoth TI _ (Ne.symm hLTI) hTI') ?_ ?_ ?_ ?_ ?_ ?_ fun h2 tk2 Ts2 c2 hl2 hk2 hL2' hld2 => ?_
    · rcases hz' with ⟨q, a1, a2, q2⟩ | ⟨T, f, oT, q, q2, q3, q4⟩
      · exact .inl ⟨hoth z _ (Ne.symm hLz) q, a1, a2, hoth TO _ (Ne.symm hLTO) q2⟩
      · exact .inr ⟨T, f, oT, hoth z _ (Ne.symm hLz) q, hoth T _ q4 q2, q3, q4⟩
    · show TO < (h'.update L _).objs.size
      rw [hus, hsz']; exact Nat.lt_succ_of_lt hTO
    · rw [hlen]; exact D1.frame _ _ _ d1 fun b hb o e => hoth b o (fun q => hL1 (q ▸ hb)) e
    · rw [hlen]; exact D2.frame _ _ _ d2 fun b hb o e => hoth b o (fun q => hL2 (q ▸ hb)) e
    · show N ≤ (h'.update L _).objs.size
      rw [hus, hsz']; exact Nat.le_succ_of_le hN
    · exact hc3
    · exact hld'.over (by rw [hus]; exact Nat.le_refl _) fun b o _ hb e => hoth b o hb e
    · refine hR h2 tk2 Ts2 c2 hl2 (fun b o hb e => hk2 b o hb (hoth b o (Nat.ne_of_lt (Nat.lt_of_lt_of_le hb hNL)) ?_)) hL2' hld2
      exact hk' b o (Nat.ne_of_lt (Nat.lt_of_lt_of_le hb hNz)) (Nat.ne_of_lt (Nat.lt_of_lt_of_le hb hNT)) (Nat.ne_of_lt (Nat.lt_of_lt_of_le hb hN1)) (Nat.ne_of_lt (Nat.lt_of_lt_of_le hb hN2)) e
theorem zip_no_len : typeLookup (.type "zip") "__len__" = pure none := am_miss_of_fast (by decide +kernel)
theorem zip_no_hint : typeLookup (.type "zip") "__length_hint__" = pure none := am_miss_of_fast (by decide +kernel)
end
end XL
namespace XL
open PySem PyProof.Rows
section
variable {prog : Program} {w : World} {A : Around} {E : Value → Shared → Prop} {s : Shared}
/-- list(zip(v1, v2)): a new list of new pairs -/
theorem call_list_zip {Q : Value → Shared → Prop} {v1 v2 : Value} {o1 o2 : Obj} {H1 H2 : Heap → Prop} {fp1 fp2 : List Addr} {n1 n2 n : Nat} {P1 P2 : Nat → Value → Prop} {St1 St2 : Nat → Heap → Prop}
    (B1 : Begins v1 o1 H1) (B2 : Begins v2 o2 H2) (h1 : H1 s.heap) (h2 : H2 s.heap) (hf1 : ∀ b ∈ fp1, b < s.heap.objs.size) (hf2 : ∀ b ∈ fp2, b < s.heap.objs.size)
    (D1 : ∀ A', A'.handled = none → Draws prog w A' s.heap.objs.size (s.heap.objs.size :: fp1) n1 P1 St1)
    (D2 : ∀ A', A'.handled = none → Draws prog w A' (s.heap.objs.size + 1) ((s.heap.objs.size + 1) :: fp2) n2 P2 St2)
    (b1 : ∀ h', (∀ b o, s.heap.get? b = some o → h'.get? b = some o) → h'.get? s.heap.objs.size = some o1 → St1 0 h')
    (b2 : ∀ h', (∀ b o, s.heap.get? b = some o → h'.get? b = some o) → h'.get? (s.heap.objs.size + 1) = some o2 → St2 0 h')
    (hA : A.handled = none) (hn : n = min n1 n2) (hz : n ≤ sizeLine)
    (hQ : ∀ (h' : Heap) (tk : Nat) (Ts : List Addr) (c : Nat) (L : Addr), Ts.length = n → (∀ b o, s.heap.get? b = some o → h'.get? b = some o) → s.heap.objs.size ≤ L →
      h'.get? L = some { cls := .type "list", dict := none, data := .seq (Ts.map Value.ref).toArray c, slots := #[] } → Ts.Nodup →
      (∀ j T, Ts[j]? = some T → s.heap.objs.size ≤ T ∧ T ≠ L ∧ ∃ x y, P1 j x ∧ P2 j y ∧ IsTupOf2 h' T x y) → Q (.ref L) { s with heap := h', toks := tk }) :
    wpAny (model prog w) A (call (.type "zip") [v1, v2]) (fun v s1 => wpAny (model prog w) A (call (.type "list") [v]) Q E s1) E s := by
  refine zip_begins2 B1 B2 h1 h2 fun g hz0 hTI hTO e1 e2 hsz hk => ?_
  have hgN : g.objs.size = s.heap.objs.size + 5 := hsz
  generalize hNN : s.heap.objs.size = N at *
  refine callType_codes (Q₁ := fun obj s₁ => obj = .ref g.objs.size ∧ s₁ = { s with heap := g.push { cls := .type "list", data := .seq #[] } }) F.called_list (F.typeCall_list_1 _) F.entry_list_init
    (code_list_new _ ⟨rfl, rfl⟩) fun obj s₁ q₁ => ?_
  obtain ⟨rfl, rfl⟩ := q₁
  have hS : (g.push { cls := .type "list", data := .seq #[] }).get? g.objs.size = some { cls := .type "list", data := .seq #[] } := Heap.get?_push_size _ rfl
  refine ⟨⟨_, hS, rfl⟩, F.args_list_init_2 _ _, ?_⟩
  have SS := zip_sep2 hf1 hf2
  have kp : ∀ b o, g.get? b = some o → (g.push { cls := .type "list", data := .seq #[] }).get? b = some o := fun b o e => Heap.get?_push_of_some _ e
  generalize hG : g.push { cls := .type "list", data := .seq #[] } = G at *
  have hGz : G.objs.size = g.objs.size + 1 := by rw [← hG]; exact Heap.size_push ..
  have hLv : g.objs.size = N + 5 := hgN
  generalize hLL : g.objs.size = L at *
  show wpAny _ _ (do let old ← Builtin.List.listItems (.ref L); Builtin.List.listUpdate (.ref L) (fun _ => #[]); letGo old.toList.reverse; Builtin.List.listExtendWith (.ref L) (.ref (N + 4)) .none) _ _ _
  refine wpAny_bind ?_
  unfold Builtin.List.listItems
  refine wpAny_bind (wpAny_seqItems hS rfl (wpAny_pure ?_))
  show wpAny _ _ (updateSeq L (fun _ => #[]) >>= fun _ => letGo (#[] : Array Value).toList.reverse >>= fun _ => Builtin.List.listExtendWith (.ref L) (.ref (N + 4)) .none) _ _ _
  refine wpAny_bind (wpAny_updateSeq hS rfl ?_)
  have hS₂ := Heap.get?_update_self (Obj.mapSeq (fun _ => (#[] : Array Value))) hS rfl
  have oth : ∀ b o, b ≠ L → G.get? b = some o → (G.update L (Obj.mapSeq (fun _ => (#[] : Array Value)))).get? b = some o :=
    fun b o hb e => (Heap.get?_update_other _ _ (Ne.symm hb)).trans e
  have hG2 : (G.update L (Obj.mapSeq (fun _ => (#[] : Array Value)))).objs.size = G.objs.size := (Heap.SameBut.update ..).1
  generalize hGG : G.update L (Obj.mapSeq (fun _ => (#[] : Array Value))) = G2 at *
  refine wpAny_bind (wpAny_letGo ?_)
  have hNL : N ≤ L := by omega
  have nL : ∀ j : Nat, j < 5 → N + j ≠ L := fun j hj => by omega
  have hz2 : IsZip G2 (N + 4) (N + 2) (N + 3) .none := oth _ _ (nL 4 (by omega)) (kp _ _ hz0)
  have hT2 : IsTupOf2 G2 (N + 2) (.ref N) (.ref (N + 1)) := oth _ _ (nL 2 (by omega)) (kp _ _ hTI)
  have hO2 : IsTupOf2 G2 (N + 3) .none .none := oth _ _ (nL 3 (by omega)) (kp _ _ hTO)
  unfold Builtin.List.listExtendWith
  have hTy : ({ s with heap := G2 } : Shared).TypeIs (.ref (N + 4)) "zip" := ⟨_, hz2, rfl⟩
  refine wpAny_bind (wpAny_typeOf hTy ?_)
  have q1 : Builtin.List.listSameRef (.ref L) (.ref (N + 4)) = false := by simp only [Builtin.List.listSameRef]; exact beq_eq_false_iff_ne.mpr (nL 4 (by omega)).symm
  have q2 : (Value.type "zip" == Value.type "list") = false := by decide
  have q3 : (Value.type "zip" == Value.type "tuple") = false := by decide
  simp only [q1, q2, q3, Bool.or_false, Bool.false_eq_true, if_false]
  refine wpAny_bind (wpAny_pyIter_zip hz2 ?_)
  refine wpAny_bind (wpAny_holding ?_)
  unfold Builtin.List.listLengthHint
  refine wpAny_bind (wpAny_specialOf hTy zip_no_len ?_)
  show wpAny _ _ (specialOf (Value.ref (N + 4)) (Str.ofString "__length_hint__") >>= _) _ _ _
  refine wpAny_bind (wpAny_specialOf hTy zip_no_hint ?_)
  refine wpAny_pure ?_
  show wpAny _ _ (rule "list.extend.makes-room" >>= fun _ => Builtin.List.listTouch (.ref L) >>= fun _ => again (.builtin "list.extend.loop" ⟨[.ref L, .ref (N + 4), .none], []⟩)) _ _ _
  refine wpAny_bind (wpAny_rule ?_)
  refine wpAny_bind ?_
  show wpAny _ _ (updateSeq L (·.push .none) >>= fun _ => updateSeq L (·.pop)) _ _ _
  refine wpAny_bind (wpAny_updateSeq hS₂ rfl ?_)
  have hS₃ := Heap.get?_update_self (Obj.mapSeq (·.push Value.none)) hS₂ rfl
  refine wpAny_updateSeq (hz := by seq_fits) hS₃ rfl ?_
  have hS₄ := Heap.get?_update_self (Obj.mapSeq (·.pop)) hS₃ rfl
  have oth2 : ∀ b o, b ≠ L → G2.get? b = some o → ((G2.update L (Obj.mapSeq (·.push Value.none))).update L (Obj.mapSeq (·.pop))).get? b = some o :=
    fun b o hb e => (Heap.get?_update_other _ _ (Ne.symm hb)).trans ((Heap.get?_update_other _ _ (Ne.symm hb)).trans e)
  have hG3 : ((G2.update L (Obj.mapSeq (·.push Value.none))).update L (Obj.mapSeq (·.pop))).objs.size = G2.objs.size := ((Heap.SameBut.update ..).1).trans ((Heap.SameBut.update ..).1)
  generalize hGGG : (G2.update L (Obj.mapSeq (·.push Value.none))).update L (Obj.mapSeq (·.pop)) = G3 at *
  have old : ∀ b o, s.heap.get? b = some o → G3.get? b = some o := fun b o e => by
    have hb : b < N := by rw [← hNN]; exact Heap.lt_size e
    have hb' : b ≠ L := Nat.ne_of_lt (Nat.lt_of_lt_of_le hb hNL)
    exact oth2 b o hb' (oth b o hb' (kp b o (hk b o e)))
  have at1 : G3.get? N = some o1 := oth2 _ _ (nL 0 (by omega)) (oth _ _ (nL 0 (by omega)) (kp _ _ e1))
  have at2 : G3.get? (N + 1) = some o2 := oth2 _ _ (nL 1 (by omega)) (oth _ _ (nL 1 (by omega)) (kp _ _ e2))
  have hLn1 : L ∉ N :: fp1 := fun hm => by
    rcases List.mem_cons.mp hm with e | hm
    · exact nL 0 (by omega) e.symm
    · exact Nat.lt_irrefl _ (Nat.lt_of_lt_of_le (hf1 _ hm) hNL)
  have hLn2 : L ∉ (N + 1) :: fp2 := fun hm => by
    rcases List.mem_cons.mp hm with e | hm
    · exact nL 1 (by omega) e.symm
    · exact Nat.lt_irrefl _ (Nat.lt_of_lt_of_le (hf2 _ hm) hNL)
  refine wpAny_pure ⟨plainId_quiet F.plain_extend_loop _, loop_zip (A := A.in1) (N := N) (L := L) SS (D1 _ (show A.in1.in1.in1.handled = none from hA)) (D2 _ (show A.in1.in1.in1.handled = none from hA)) hn hz .none hLn1 hLn2 (nL 4 (by omega)).symm (nL 2 (by omega)).symm (nL 3 (by omega)).symm (Nat.le_add_right _ _) (Nat.le_add_right _ _) (Nat.le_refl _) (Nat.le_add_right _ _) (by omega)
    n _ [] _ (by simp) (Nat.zero_le _) (.inl ⟨oth2 _ _ (nL 4 (by omega)) hz2, _, _, oth2 _ _ (nL 3 (by omega)) hO2⟩) (oth2 _ _ (nL 2 (by omega)) hT2) ?_ (b1 G3 old at1) (b2 G3 old at2) ?_ hS₄ .nil fun h' tk Ts c hl hk' hL' hld => ?_⟩
  · show (N + 3 : Nat) < G3.objs.size
    rw [hG3, hG2, hGz]; omega
  · show N ≤ G3.objs.size
    rw [hG3, hG2, hGz]; omega
  · refine ⟨rfl, hQ h' tk Ts c L hl (fun b o e => hk' b o (by rw [← hNN]; exact Heap.lt_size e) (old b o e)) (by omega) hL' hld.nd fun j T e => ?_⟩
    obtain ⟨a, _, b, _, c⟩ := hld.at_ j T e
    exact ⟨a, b, c⟩
end
end XL
namespace XL
open PySem PySem.Spec PyProof.Rows L2
/-- a list or a tuple -/
def Sq2 (K : PySem.W.Frag) (H : Hp) (a : Addr) (xs : List V) : Prop := SqL K H a xs ∨ SqT K H a xs
theorem Same.tup {K : PySem.W.Frag} {H H' : Hp} {a : Addr} {xs : List V} (e : Same H H') (h : SqT K H a xs) : SqT K H' a xs := by
  rcases h with (h | ⟨o, h⟩) | h
  · exact .inl (.inl (e _ _ h))
  · exact .inl (.inr ⟨o, e _ _ h⟩)
  · exact .inr h
theorem Same.sq2 {K : PySem.W.Frag} {H H' : Hp} {a : Addr} {xs : List V} (e : Same H H') (h : Sq2 K H a xs) : Sq2 K H' a xs := h.imp (fun q => e.seq q) (fun q => Same.tup e q)
theorem same_new {H : Hp} {p : Addr} {o : HO} (h : H p = none) : Same H (upd H p o) := fun b x e => by
  rw [upd_ne (ne_of_none e h)]
  exact e
section
variable {X : Cx} {pins : List (Addr × Obj)} {σ : L2.St} {H : Hp} {s : Shared} {a : Addr} {xs : List V}
theorem seq_draws (I : Inv X pins σ H s) (h : Sq2 X.K H a xs) : ∃ (its : List Value) (o : Obj) (B : Heap → Prop) (fp : List Addr), Vals xs its ∧ xs.length ≤ sizeLine ∧ Begins (.ref a) o B ∧ B s.heap ∧
    (∀ b ∈ fp, b < s.heap.objs.size) ∧ ∀ it, s.heap.objs.size ≤ it → ∃ St : Nat → Heap → Prop, (∀ A' : Around, A'.handled = none → Draws X.prog X.w A' it (it :: fp) its.length (fun i v => its[i]? = some v) St) ∧
      ∀ h' : Heap, (∀ b o, s.heap.get? b = some o → h'.get? b = some o) → h'.get? it = some o → St 0 h' := by
  rcases h with h | h
  · obtain ⟨its, rv, p, hz⟩ := I.list h
    have la : a < s.heap.objs.size := p.lt
    refine ⟨its, _, _, [a], rv, hz, begins_list a its.toArray, p.isList, fun b hb => by rw [List.mem_singleton.mp hb]; exact la, fun it hit => ?_⟩
    have hne : a ≠ it := Nat.ne_of_lt (Nat.lt_of_lt_of_le la hit)
    refine ⟨fun i h => h.IsListIter it a i ∧ h.IsList a its.toArray, fun A' hA => ?_, fun h' hk e => ?_⟩
    · have D := Draws.list (prog := X.prog) (w := X.w) hA it a hne its.toArray
      simpa using D
    · exact ⟨⟨_, e, rfl, rfl⟩, p.isList.at fun o q => hk a o q⟩
  · obtain ⟨its, rv, p, hz⟩ := I.tuple h
    have la : a < s.heap.objs.size := by
      obtain ⟨o, e, _⟩ := p
      exact Heap.lt_size e
    have p' : s.heap.IsTuple a its.toArray := p
    refine ⟨its, _, _, [a], rv, hz, begins_tuple a its.toArray, p', fun b hb => by rw [List.mem_singleton.mp hb]; exact la, fun it hit => ?_⟩
    have hne : a ≠ it := Nat.ne_of_lt (Nat.lt_of_lt_of_le la hit)
    refine ⟨fun i h => h.IsTupleIter it a i ∧ h.IsTuple a its.toArray, fun A' hA => ?_, fun h' hk e => ?_⟩
    · have D := Draws.tuple (prog := X.prog) (w := X.w) hA it a hne its.toArray
      simpa using D
    · exact ⟨⟨_, e, rfl, rfl⟩, p'.at fun o q => hk a o q⟩
end
/-- pairs laid at Ts -/
def layP (H : Hp) : List Addr → List V → List V → Hp
  | T :: Ts, x :: xs, y :: ys => upd (layP H Ts xs ys) T (.tup [x, y])
  | _, _, _ => H
theorem layP_off (H : Hp) {c : Addr} : ∀ (Ts : List Addr) (xs ys : List V), c ∉ Ts → layP H Ts xs ys c = H c
  | [], xs, ys, _ => by cases xs <;> cases ys <;> rfl
  | T :: Ts, [], ys, _ => rfl
  | T :: Ts, _ :: _, [], _ => rfl
  | T :: Ts, x :: xs, y :: ys, h => by
    have h1 : c ≠ T := fun e => h (by rw [e]; exact List.mem_cons_self ..)
    show upd (layP H Ts xs ys) T _ c = H c
    rw [upd_ne h1]
    exact layP_off H Ts xs ys fun q => h (List.mem_cons_of_mem _ q)
theorem layP_at (H : Hp) : ∀ (Ts : List Addr) (xs ys : List V) (j : Nat) (T : Addr) (x y : V), Ts.Nodup → Ts[j]? = some T → xs[j]? = some x → ys[j]? = some y → layP H Ts xs ys T = some (.tup [x, y])
  | [], _, _, _, _, _, _, _, h, _, _ => by simp at h
  | T :: Ts, [], _, _, _, _, _, _, _, h, _ => by simp at h
  | T :: Ts, _ :: _, [], _, _, _, _, _, _, _, h => by simp at h
  | T :: Ts, x :: xs, y :: ys, 0, T', x', y', _, h, hx, hy => by
    have e1 : T = T' := Option.some.inj h
    have e2 : x = x' := Option.some.inj hx
    have e3 : y = y' := Option.some.inj hy
    subst e1 e2 e3
    exact upd_same
  | T :: Ts, x :: xs, y :: ys, j + 1, T', x', y', nd, h, hx, hy => by
    have h' : Ts[j]? = some T' := h
    have hne : T' ≠ T := fun e => (List.nodup_cons.mp nd).1 (by rw [← e]; exact List.mem_of_getElem? h')
    show upd (layP H Ts xs ys) T _ T' = _
    rw [upd_ne hne]
    exact layP_at H Ts xs ys j T' x' y' (List.nodup_cons.mp nd).2 h' hx hy
/-- list(zip(e, e2)) -/
def tLZ (K : PySem.W.Frag) (ta : TA) : TE := fun σ H Q => ta σ H fun vs H1 => ∃ a b xs ys, vs = [.ref a, .ref b] ∧ Sq2 K H1 a xs ∧ Sq2 K H1 b ys ∧
  ∀ (L : Addr) (Ts : List Addr) (H2 : Hp), Same H1 H2 → H1 L = none → H2 L = some (.lst (Ts.map V.ref)) → Ts.length = min xs.length ys.length →
    (∀ (j : Nat) (T : Addr), Ts[j]? = some T → ∃ x y, xs[j]? = some x ∧ ys[j]? = some y ∧ H2 T = some (.tup [x, y])) → Q (.ref L) H2
theorem pe_listZip {X : Cx} {e e2 : Expr} {ta : TA} {p p2 pos pos2 : Pos} (hc : X.calm = true) (hg : Gl X "list") (hm : X.mg "list" = none) (hg2 : Gl X "zip") (hm2 : X.mg "zip" = none) (ha : PA X [e, e2] ta)
    (hs : starEach [e, e2] X.env = (false, eval e X.env) :: starEach [e2] X.env := by rfl) (hpl : (backTo pos2 (starEach [e2] X.env)).any (·.1) = false := by rfl)
    (na : starEach [(Expr.Call (.Name "zip" p2) [e, e2] [] pos2)] X.env = (false, eval (.Call (.Name "zip" p2) [e, e2] [] pos2) X.env) :: starEach [] X.env := by rfl) :
    PE X (.Call (.Name "list" p) [.Call (.Name "zip" p2) [e, e2] [] pos2] [] pos) (tLZ X.K ta) := by
  refine ⟨fun pins s σ H Q I h => ?_⟩
  refine Call_ (ld_blt I hg hm boot_list (PyProof.Rows.callWith_type1 (args_cons ?_ na) na))
  obtain ⟨tk0, I0⟩ : ∃ t : Nat, Inv X pins σ H s := ⟨0, I⟩
  refine Call_ (ld_blt I hg2 hm2 PyProof.Rows.boot_zip (PyProof.Rows.callWith_type1 (thn (ha.run pos2 pins s σ H _ I h) fun us s1 ⟨vs, H1, I1, r1, q1⟩ => ?_) hs hpl))
  obtain ⟨a, b, xs, ys, ex, hx, hy, q⟩ := q1
  subst ex
  obtain ⟨u1, u2, rfl, r1, r2⟩ := vals2 r1
  cases (show u1 = Value.ref a from r1)
  cases (show u2 = Value.ref b from r2)
  obtain ⟨its, o1, B1, fp1, rv1, z1, b1, hb1, f1, d1⟩ := seq_draws I1 hx
  obtain ⟨its2, o2, B2, fp2, rv2, z2, b2, hb2, f2, d2⟩ := seq_draws I1 hy
  obtain ⟨St1, D1, s1'⟩ := d1 s1.heap.objs.size (Nat.le_refl _)
  obtain ⟨St2, D2, s2'⟩ := d2 (s1.heap.objs.size + 1) (Nat.le_succ _)
  have l1 := rv1.length
  have l2 := rv2.length
  refine thn (call_list_zip (n := min its.length its2.length) (Q := fun v s2 => ∃ v' H', Inv X pins σ H' s2 ∧ RelV v' v ∧ Q v' H') (E := X.xe) b1 b2 hb1 hb2 f1 f2 D1 D2 s1' s2' (I1.ok.hd hc) rfl (by omega) fun h' tk Ts c L hl hk hLn hL nd hT => ?_) fun v s2 hq => args_nil hq
  have hT' : ∀ (j : Nat) (T : Addr), Ts[j]? = some T → ∃ x y u v, xs[j]? = some x ∧ ys[j]? = some y ∧ RelV x u ∧ RelV y v ∧ s1.heap.objs.size ≤ T ∧ T ≠ L ∧ IsTupOf2 h' T u v := fun j T e => by
    obtain ⟨g1, g2, u, v, pu, pv, t⟩ := hT j T e
    have hj1 : j < xs.length := by
      rw [l1]; exact (List.getElem?_eq_some_iff.mp pu).1
    have hj2 : j < ys.length := by
      rw [l2]; exact (List.getElem?_eq_some_iff.mp pv).1
    obtain ⟨u', eu, ru⟩ := rv1.get (List.getElem?_eq_getElem hj1)
    obtain ⟨v', ev, rv⟩ := rv2.get (List.getElem?_eq_getElem hj2)
    rw [eu] at pu
    rw [ev] at pv
    cases pu
    cases pv
    exact ⟨_, _, _, _, List.getElem?_eq_getElem hj1, List.getElem?_eq_getElem hj2, ru, rv, g1, g2, t⟩
  have hLT : L ∉ Ts := fun hm => by
    obtain ⟨j, e⟩ := List.getElem?_of_mem hm
    obtain ⟨_, _, _, _, _, _, _, _, _, ne, _⟩ := hT' j L e
    exact ne rfl
  have nTs : ∀ c, c < s1.heap.objs.size → c ∉ Ts := fun c hc hm => by
    obtain ⟨j, e⟩ := List.getElem?_of_mem hm
    obtain ⟨_, _, _, _, _, _, _, _, g, _⟩ := hT' j c e
    exact Nat.lt_irrefl _ (Nat.lt_of_lt_of_le hc g)
  have fr : ∀ c, s1.heap.objs.size ≤ c → H1 c = none := fun c hc => I1.hok.fresh hc
  have old : ∀ c o, H1 c = some o → upd (layP H1 Ts xs ys) L (.lst (Ts.map V.ref)) c = some o := fun c o e => by
    have h1 : c ≠ L := fun z => by rw [z, fr L hLn] at e; cases e
    have h2 : c ∉ Ts := fun hm => by
      obtain ⟨j, e'⟩ := List.getElem?_of_mem hm
      obtain ⟨_, _, _, _, _, _, _, _, g, _⟩ := hT' j c e'
      rw [fr c g] at e; cases e
    rw [upd_ne h1, layP_off H1 Ts xs ys h2]; exact e
  have U : Un X.fs [] H1 (upd (layP H1 Ts xs ys) L (.lst (Ts.map V.ref))) s1.heap h' := {
    keep := fun b o e _ _ _ => hk b o e
    slot := fun b o e _ _ _ => ⟨o.slots, hk b o e⟩
    free := fun b o e n _ => by
      have lb := Heap.lt_size e
      rw [upd_ne (Nat.ne_of_lt (Nat.lt_of_lt_of_le lb hLn)), layP_off H1 Ts xs ys (nTs b lb)]; exact n
    there := fun b o e _ => ⟨o, hk b o e⟩
    tups := fun b xs e => old b _ e
    frzs := fun b o u e => old b _ e
    tbls := fun b ps e => ⟨#[], by rw [old b _ e]; simp⟩ }
  have OK : HOk X.prog X.w (upd (layP H1 Ts xs ys) L (.lst (Ts.map V.ref))) h' := fun b o e => by
    by_cases hb : b = L
    · subst hb
      rw [upd_same] at e
      cases e
      refine ⟨by rw [List.length_map, hl]; omega, Ts.map Value.ref, c, ?_, hL⟩
      clear hT hT' hLT nTs old U hL nd hl q
      induction Ts with
      | nil => exact .nil
      | cons T r ih => exact .cons rfl ih
    · rw [upd_ne hb] at e
      by_cases hbT : b ∈ Ts
      · obtain ⟨j, ej⟩ := List.getElem?_of_mem hbT
        obtain ⟨x, y, u, v, ex, ey, ru, rv, g1, g2, t⟩ := hT' j b ej
        rw [layP_at H1 Ts xs ys j b x y nd ej ex ey] at e
        cases e
        exact ⟨by show 2 ≤ sizeLine; decide, [u, v], .cons ru (.cons rv .nil), ⟨_, t, rfl, _, rfl⟩⟩
      · rw [layP_off H1 Ts xs ys hbT] at e
        exact (I1.hok b o e).stay (fun c v _ q => hk c v q) (fun c q => old c _ q) fun c xs q => old c _ q
  refine ⟨.ref L, _, I1.un (t' := tk) U OK, rfl, q L Ts _ (fun c o e => old c o e) (fr L hLn) upd_same (by rw [hl]; omega) fun j T e => ?_⟩
  obtain ⟨x, y, u, v, ex, ey, ru, rv, g1, g2, t⟩ := hT' j T e
  exact ⟨x, y, ex, ey, by rw [upd_ne g2, layP_at H1 Ts xs ys j T x y nd e ex ey]⟩
end XL
namespace XL
open PySem PySem.Spec PyProof.Rows L2
/-- a def that keeps its promise where no repr is under way -/
structure FnG (P : Program) (w : World) (K : PySem.W.Frag) (mg : Str → Option Value) (base : Heap) (k : Nat) (f : Addr) (fd : FuncData) (ps : List Str) (sp : Sp) : Prop where
  len : ∀ vs H Q E, sp vs H Q E → vs.length = ps.length
  run : ∀ (A : Around) (outer : List Env) (s : Shared) (H : Hp) (args : Args) (us : List Value) (vs : List V) (Q : VK) (E : XK),
    A.guards = some [] → Room k A → Env0 P w K mg base A outer s H → BindsTo s fd args (ps.zip us) → Vals vs us → sp vs H Q E →
    codeAny (model P w) A (.call (.ref f) args) (CR CX0 outer P w H s Q E) s
section
variable {P : Program} {w : World} {K : PySem.W.Frag} {mg : Str → Option Value} {base : Heap}
theorem okG {x qual : Str} {st : Stmt} {f : Addr} {fd : FuncData} {N ps : List Str} {k : Nat} {sp : Sp} (F : Fun K x qual st f fd) (S : FnScope N ps (defScope st)) (len : ∀ vs H Q E, sp vs H Q E → vs.length = ps.length)
    (hbody : ∀ (cdv : Value) (A : Around) (outer : List Env) (s : Shared) (H : Hp) (vs : List V) (Q : VK) (E : XK),
      (A.deeper (envOfC qual (defScope st) s.heap.objs.size f cdv)).guards = some [] → Room k (A.deeper (envOfC qual (defScope st) s.heap.objs.size f cdv)) → sp vs H Q E →
      ∃ t, PSs (cxOf CX0 P w K mg base N qual (defScope st) f cdv A outer s H E).nox (defBody st) t ∧ t { nx := fun _ H' => Q .non H', rt := Q } (start N vs) H) : FnG P w K mg base (k + 1) f fd ps sp := by
  obtain ⟨oc, od, kV, doc, pm, an, cdv, ct, osl, rfl, lk, hcd⟩ := F.ex
  refine ⟨len, fun A outer s H args us vs Q E hgd hr e0 hb r hsp => ?_⟩
  have hl := len _ _ _ _ hsp; have KX : K.In s.heap := e0.mod.kin.keeps fun b o e => (e0.bs b o e).1
  have lim : s.heap.NoLimit := e0.mod.nolimit.keeps fun b o e => (e0.bs b o e).1
  have hkind : ∀ y ∈ ps.zip us, (defScope st).names.lookup y.1 = some .local ∨ ((defScope st).names.lookup y.1 = some .cell ∧ ((cellsFrom (s.heap.objs.size + 1) (defScope st).names []).lookup y.1).isSome = true) := fun ⟨n, v⟩ hy => by
    rcases S.par n (List.of_mem_zip hy).1 with q | q
    · exact .inl q
    · exact .inr ⟨q, PySem.W.cellsFrom_some _ _ _ (.inl q)⟩
  refine codeAny_call_function hr.depth (KX _ _ lk) rfl S.co S.gen rfl (PySem.W.codeRec_of KX hcd) (hb _ _ _ _ (wpAny_newFunctionEnv_cells S.kind hkind fun env he s1 x => ?_))
  subst he
  refine ⟨lim.keeps x.toInCall.keep, codeAny_func ?_⟩
  obtain ⟨t, ht, hq⟩ := hbody cdv A outer s H vs Q E hgd (hr.deeper _) hsp
  have I : Inv (cxOf CX0 P w K mg base N qual (defScope st) f cdv A outer s H E) [] (start N vs) H s1 := inv_start S hr.hd e0 hl r x
  refine wpAny_mono (ht.nox.run [] s1 (start N vs) H _ I hq) (fun fl s' hs => ?_) fun e s' hs => hs
  have fin : ∀ {σ' : L2.St} {H' : Hp} {v : V} {u : Value}, Inv (cxOf CX0 P w K mg base N qual (defScope st) f cdv A outer s H E) [] σ' H' s' → RelV v u → Q v H' → CE outer P w H s Q u s' := fun {σ' H' v u} J rv q =>
    ⟨v, H', J.os, J.bare, J.base, J.hok, rv, q⟩
  cases fl with
  | ret u => obtain ⟨v, σ', H', J, rv, q⟩ := hs; exact fin J rv q
  | next => obtain ⟨σ', H', J, q⟩ := hs; exact fin (v := V.non) (u := Value.none) J rfl q
  | brk => obtain ⟨_, _, _, q⟩ := hs; exact False.elim q
  | cont => obtain ⟨_, _, _, q⟩ := hs; exact False.elim q
theorem FnG.of {k : Nat} {f : Addr} {fd : FuncData} {ps : List Str} {sp : Sp} (F : FnOk P w K mg base CX0 k f fd ps sp) : FnG P w K mg base k f fd ps sp :=
  ⟨F.len, fun A outer s H args us vs Q E _ hr e0 hb r h => F.run A outer s H args us vs Q E hr e0 hb r h⟩
end
section
variable {X : Cx} {k : Nat} {f C : Addr} {fd : FuncData} {ps ks : List Str} {sp : Sp} {x m : Str} {p pos apos : Pos} {e o : Expr} {es : List Expr} {ta : TE} {t tk : TA} {kws : List Keyword}
/-- f(e, ..) of such a def -/
theorem pe_callG (hG : X.A.guards = some []) (F : FnG X.prog X.w X.K X.mg X.base k f fd ps sp) (hr : Room k X.A) (hg : Gl X x) (hm : X.mg x = some (.ref f)) (hk : PySem.W.keepIn X.K (.ref f) = true) (hb : Binds X.K fd ps [])
    (ha : PA X (e :: es) t) (hdb : (x == ("__debug__" : Str)) = false := by decide) (he : starEach (e :: es) X.env = (false, eval e X.env) :: starEach es X.env := by rfl)
    (hpl : (backTo pos (starEach es X.env)).any (·.1) = false := by rfl) : PE X (.Call (.Name x p) (e :: es) [] pos) (tCall sp [] E0 t) := by
  refine ⟨fun pins s σ H Q I h => wpAny_Call_Name_kw (ld_glob I hg hm ?_ hdb)⟩
  refine PySem.W.callWith_K (h₀ := X.base) I.ok.mod.kin hk (thn (ha.run pos pins s σ H _ I h) fun us s1 ⟨vs, H1, I1, r, q⟩ => ⟨I1.kIn, ?_⟩) he hpl
  have q' : sp vs H1 Q E0 := by have q2 : sp (vs ++ []) H1 Q E0 := q; rwa [List.append_nil] at q2
  have hl : us.length = ps.length := by rw [← r.length]; exact F.len _ _ _ _ q'
  have hb' : BindsTo s1 fd ⟨us, []⟩ (ps.zip us) := by have b2 := hb s1 us I1.kIn (by rw [List.append_nil]; exact hl); rwa [List.append_nil] at b2
  refine wpAny_call (codeAny_mono (F.run X.A X.stack s1 H1 ⟨us, []⟩ us vs Q E0 hG hr I1.env0 hb' r q') fun r s' hq => ?_)
  cases r with
  | error e => exact False.elim hq
  | ok fl =>
    cases fl with
    | ret u => exact I1.after hq
    | next => exact False.elim hq
    | brk => exact False.elim hq
    | cont => exact False.elim hq
variable {CX : CXT} {E : XK} {g : List Value → List Value → List Value} {gV : List V → List V → List V}
/-- f(k = v, ..), no argument by place -/
theorem pe_callK0 (F : FnOk X.prog X.w X.K X.mg X.base CX k f fd ps sp) (hr : Room k X.A) (hg : Gl X x) (hm : X.mg x = some (.ref f)) (hk : PySem.W.keepIn X.K (.ref f) = true) (hb : KBinds X.K fd ps ks g gV) (hx : Passes CX X E)
    (hkw : PK X kws tk) (hall : (backToKw pos (keywordEach kws X.env)).all (·.1.isSome) = true := by rfl) (hks : (backToKw pos (keywordEach kws X.env)).filterMap (·.1) = ks := by rfl)
    (hdb : (x == ("__debug__" : Str)) = false := by decide)
    (hpl : ((backTo pos (starEach [] X.env)).any (·.1) || (backToKw pos (keywordEach kws X.env)).any (·.1.isNone)) = false := by rfl) :
    PE X (.Call (.Name x p) [] kws pos) (fun σ H Q => tk σ H fun zs H2 => sp (gV [] zs) H2 Q E) := by
  refine ⟨fun pins s σ H Q I h => wpAny_Call_Name_kw (ld_glob I hg hm ?_ hdb)⟩
  refine PySem.W.callWith_KW0 (h₀ := X.base) I.ok.mod.kin hk hall (thn (hkw.run pos pins s σ H _ I h) fun ws s2 ⟨zs, H2, I2, rz, q2⟩ => ⟨I2.kIn, ?_⟩) hpl
  rw [hks]
  exact run_fnk F hr hb hx I2 .nil rz q2
end
/-! ### the head -/
theorem law_callG {P : Program} {w : World} {K : PySem.W.Frag} {mg mb : Str → Option Value} {k : Nat} {fa a : Addr} {fd : FuncData} {x : Str} {sp : Sp} {s₁ : Shared} {vs : List Value} {ns : List Int}
    (KX : K.In s₁.heap) (hns : s₁.heap.Ns mainGlobals mg) (hb : s₁.heap.Ns builtinsNs mb) (hbb : ∀ x : Str, x ≠ "__name__" → mb x = bootBuiltins x) (hlim : s₁.heap.NoLimit) (hg : s₁.gens = #[])
    (ha : s₁.heap.get? a = some { cls := .type "list", data := .seq vs.toArray }) (hi : IntsAre vs ns) (hl : ns.length ≤ sizeLine) (hr : Room k callerA)
    (F : ∀ base : Heap, K.In base → base.Ns mainGlobals mg → FnG P w K mg base k fa fd [x] sp) (hbind : ∀ (s : Shared) (u : Value), BindsTo s fd ⟨[u], []⟩ [(x, u)])
    (hsp : ∀ H : Hp, Only H → SqL K H a (ns.map V.int) → sp [.ref a] H (fun v _ => v = .bl true) fun _ _ _ => False) :
    codeAny (model P w) callerA (.call (.ref fa) ⟨[.ref a], []⟩) (fun r s' => r = .ok (.ret (.bool true)) ∧ OldK s₁.heap s'.heap ∧ s'.os = s₁.os ∧ AllBare s'.gens) s₁ := by
  have rv := vals_ints hi; have lenV := hi.length
  have core : ∀ H : Hp, Only H → SqL K H a (ns.map V.int) → HOk P w H s₁.heap → (∀ b, H b ≠ none → b = a) → (H a ≠ none → K.lookup a = none) → codeAny (model P w) callerA (.call (.ref fa) ⟨[.ref a], []⟩)
      (fun r s' => r = .ok (.ret (.bool true)) ∧ OldK s₁.heap s'.heap ∧ s'.os = s₁.os ∧ AllBare s'.gens) s₁ := by
    intro H hO hS hok hA hK
    have noA : ∀ {b : Addr} {o : Obj} {es : Array DictEntry} {ep : Nat}, s₁.heap.get? b = some o → o.data = .dict es ep → H b = none := by
      intro b o es ep e d
      cases q : H b with
      | none => rfl
      | some u =>
        have e' : b = a := hA b (by rw [q]; simp)
        subst e'; rw [ha] at e; cases e
        exact absurd (show Data.seq vs.toArray _ = Data.dict es ep from d) (by simp)
    have nsK : ∀ {b : Addr} {m : Str → Option Value}, s₁.heap.Ns b m → (hidT s₁.heap H).Ns b m := by
      intro b m hm
      obtain ⟨o, es, ep, e, d, r⟩ := hm
      exact ⟨o, es, ep, hidT_get e (noA e d), d, r⟩
    have hKb : K.In (hidT s₁.heap H) := by
      intro b o e
      refine hidT_get (KX b o e) ?_
      cases q : H b with
      | none => rfl
      | some u =>
        have e' : b = a := hA b (by rw [q]; simp)
        subst e'; rw [hK (by rw [q]; simp)] at e; cases e
    have hM : Mod K mg (hidT s₁.heap H) := by
      obtain ⟨mc, c1, c2⟩ := hlim
      exact ⟨hKb, nsK hns, ⟨mb, nsK hb, hbb⟩, ⟨mc, nsK c1, c2⟩⟩
    have e0 : Env0 P w K mg (hidT s₁.heap H) callerA [] s₁ H := by
      refine ⟨rfl, hM, fun b o e => of_hidT e, Nat.le_of_eq (hidT_size _ _), trivial, fun b hb => ?_, hok, .of_eq hg⟩
      exact absurd (show b ∈ ([] : List Addr) from hb) (by simp)
    refine codeAny_mono ((F _ hKb (nsK hns)).run callerA [] s₁ H ⟨[.ref a], []⟩ [.ref a] [.ref a] _ _ rfl hr e0 (hbind s₁ (.ref a)) (.cons rfl .nil) (hsp H hO hS)) fun r s' h => ?_
    cases r with
    | error e => exact False.elim h
    | ok fl =>
      cases fl with
      | next => exact False.elim h
      | brk => exact False.elim h
      | cont => exact False.elim h
      | ret u =>
        obtain ⟨v, H', os, bare, un, hok', r', q⟩ := h
        have q' : v = .bl true := q
        subst q'
        obtain rfl : u = Value.bool true := r'
        refine ⟨rfl, OldK.of_keep fun b o e => ?_, os, bare⟩
        cases q : H b with
        | none => exact un.keep b o e q (by intro z; exact absurd (show b ∈ ([] : List Addr) from z) (by simp)) (by simp)
        | some u =>
          rcases hO b with z | ⟨ob, xs, z⟩
          · rw [q] at z; cases z
          · have z2 := un.frzs b ob _ z
            obtain ⟨e1, _⟩ := hok b _ z; obtain ⟨e2, _⟩ := hok' b _ z2
            rw [e] at e1; cases e1; exact e2
  cases hk : K.lookup a with
  | some o =>
    have e := KX a o hk
    rw [ha] at e; cases e
    refine core (fun _ => none) (fun _ => .inl rfl) ?_ (fun b u z => nomatch z) (fun b z => absurd rfl z) fun z => absurd rfl z
    exact .inr ⟨_, vs.toArray, _, hk, rfl, rfl, rfl, by rw [List.size_toArray, lenV]; exact hl, by simpa using rv⟩
  | none =>
    refine core (fun b => if b = a then some (.frz { cls := .type "list", data := .seq vs.toArray } (.lst (ns.map V.int))) else none) (fun b => ?_) (.inl (.inr ⟨_, if_pos rfl⟩)) (fun b u z => ?_) (fun b z => ?_) fun _ => hk
    · by_cases hb : b = a
      · exact .inr ⟨_, _, if_pos hb⟩
      · exact .inl (if_neg hb)
    · by_cases hb : b = a
      · have z' := (if_pos hb).symm.trans z
        cases z'; subst hb
        exact ⟨ha, by rw [List.length_map]; exact hl, vs, _, rv, ha⟩
      · have z' := (if_neg hb).symm.trans z
        cases z'
    · by_cases hb : b = a
      · exact hb
      · exact absurd (if_neg hb) z
theorem walkG {l : PySem.W.OpenLaw} {n k : Nat} {q : Program} {loose : List Str} {XP : (Str → Option Value) → Heap → Prop} {YP : World → Heap → Prop} {d : DefRec} {K : Params → PySem.W.Frag} {sp : PySem.W.Frag → Sp} {x : Str}
    (hn : l.most = some n) (hn2 : n ≤ sizeLine) (hdf : d.params.defaults = []) (hr : Room k callerA) (hY : ∀ (w : World) (h : Heap), YP w h → (K w.params).In h)
    (F : ∀ (w : World) (mg : Str → Option Value) (fa : Addr) (h : Heap), (K w.params).In h → h.Ns mainGlobals mg → mg d.name = some (.ref fa) →
      ∃ fd : FuncData, (∀ (s : Shared) (u : Value), BindsTo s fd ⟨[u], []⟩ [(x, u)]) ∧ ∀ base : Heap, (K w.params).In base → base.Ns mainGlobals mg → FnG l.prog w (K w.params) mg base k fa fd [x] (sp (K w.params)))
    (hsp : ∀ (K : PySem.W.Frag) (H : Hp) (a : Addr) (ns : List Int), ns.length ≤ n → Only H → SqL K H a (ns.map V.int) → sp K [.ref a] H (fun v _ => v = .bl true) fun _ _ _ => False) :
    PySem.W.WalkO q loose XP YP l.row.toRowW d [] (fun f vs => PySem.call f vs) := by
  refine Att.attach_call hn hdf fun w s₀ s₁ mg mb fa o pm cd doc a vs ns G Y ho hd hcd hmg hobj hints hlen hg => ?_
  have KX := hY w _ Y
  obtain ⟨fd, hb, hF⟩ := F w mg fa _ KX G.T.g hmg
  exact law_callG KX G.T.g G.T.b G.T.builtins G.T.nolimit hg hobj hints (Nat.le_trans hlen hn2) hr hF hb fun H hO hS => hsp (K w.params) H a ns hlen hO hS
/-! ### repr of data -/
def tRep (K : PySem.W.Frag) (te : TE) : TE := fun σ H Q => te σ H fun x H1 => ∃ a d, x = .ref a ∧ Dp K H1 x d ∧ d.showable = true ∧ d.hasDict = false ∧ d.depth ≤ 50 ∧ d.shown.length ≤ sizeLine ∧ Q (.str d.shown) H1
theorem pe_rep {X : Cx} {k : Nat} {e : Expr} {te : TE} {p pos : Pos} (hG : X.A.guards = some []) (hr : Room k X.A) (hg : Gl X "repr") (hm : X.mg "repr" = none) (hb : bootBuiltins "repr" = some (.builtin "repr")) (ha : PE X e te)
    (he : starEach [e] X.env = (false, eval e X.env) :: starEach [] X.env := by rfl) : PE X (.Call (.Name "repr" p) [e] [] pos) (tRep X.K te) := by
  refine ⟨fun pins s σ H Q I h => wpAny_Call_Name_kw (ld_blt I hg hm hb ?_)⟩
  refine PyProof.Rows.callWith_builtin1 (args_cons (thn (ha.run pins s σ H _ I h) fun u s1 ⟨v, H1, I1, r1, q1⟩ => args_nil ?_) he) he rfl
  obtain ⟨a, d, ex, hd, hs, hno, hdp, hz, q⟩ := q1
  subst ex
  obtain ⟨as, rd⟩ := Dp.reads I1 d _ u hd r1
  cases (show u = Value.ref a from r1)
  have hu := hr.un
  refine repr_of_reads' rd hs (fun z => absurd z (by rw [hno]; decide)) hG (by omega) (fun b o e => e) (fun h' u tk hk => ?_) hz
  exact ⟨.str d.shown, H1, I1.kept hk, ⟨_, rfl⟩, q⟩
end XL
namespace XL
open PySem PySem.Spec PyProof.Rows L2
section
variable {K : PySem.W.Frag} {H H' : Hp}
/-! ### data stays -/
mutual
theorem Dp.same (s : Same H H') : ∀ {v : V} (d : PyData), Dp K H v d → Dp K H' v d
  | _, .none, h => by cases h; exact .non
  | _, .bool b, h => by cases h; exact .bl b
  | _, .int i, h => by cases h; exact .int i
  | _, .str x, h => by cases h; exact .str x
  | _, .list ds, h => by
    cases h with
    | lst hs ha => exact .lst (s.seq hs) (DpAll.same s ds ha)
  | _, .tuple ds, h => by
    cases h with
    | tup hs ha => exact .tup (Same.tup s hs) (DpAll.same s ds ha)
  | _, .dict _, h => by cases h
theorem DpAll.same (s : Same H H') : ∀ {vs : List V} (ds : List PyData), DpAll K H vs ds → DpAll K H' vs ds
  | _, [], h => by cases h; exact .nil
  | _, d :: ds, h => by
    cases h with
    | cons h1 h2 => exact .cons (Dp.same s d h1) (DpAll.same s ds h2)
end
theorem DpAll.length : ∀ {vs : List V} {ds : List PyData}, DpAll K H vs ds → vs.length = ds.length
  | _, _, .nil => rfl
  | _, _, .cons _ h => by rw [List.length_cons, List.length_cons, DpAll.length h]
theorem DpAll.get : ∀ {vs : List V} {ds : List PyData} {i : Nat} {v : V}, DpAll K H vs ds → vs[i]? = some v → ∃ d, ds[i]? = some d ∧ Dp K H v d
  | _, _, i, v, .nil, h => by simp at h
  | _, _, 0, v, .cons a _, h => by cases h; exact ⟨_, rfl, a⟩
  | _, _, i + 1, v, .cons _ r, h => DpAll.get r (i := i) h
theorem DpAll.get' : ∀ {vs : List V} {ds : List PyData} {i : Nat} {d : PyData}, DpAll K H vs ds → ds[i]? = some d → ∃ v, vs[i]? = some v ∧ Dp K H v d
  | _, _, i, v, .nil, h => by simp at h
  | _, _, 0, v, .cons a _, h => by cases h; exact ⟨_, rfl, a⟩
  | _, _, i + 1, v, .cons _ r, h => DpAll.get' r (i := i) h
theorem DpAll.app : ∀ {vs ws : List V} {ds es : List PyData}, DpAll K H vs ds → DpAll K H ws es → DpAll K H (vs ++ ws) (ds ++ es)
  | _, _, _, _, .nil, h => h
  | _, _, _, _, .cons a r, h => .cons a (DpAll.app r h)
theorem DpAll.snoc {vs : List V} {v : V} {ds : List PyData} {d : PyData} (a : DpAll K H vs ds) (h : Dp K H v d) : DpAll K H (vs ++ [v]) (ds ++ [d]) := DpAll.app a (.cons h .nil)
/-! ### kinds -/
def isSeq : PyData → Bool
  | .list _ => true
  | .tuple _ => true
  | _ => false
def tyD : PyData → Value
  | .none => .type "NoneType"
  | .bool _ => .type "bool"
  | .int _ => .type "int"
  | .str _ => .type "str"
  | .list _ => .type "list"
  | .tuple _ => .type "tuple"
  | .dict _ => .type "dict"
theorem tyx_of {v : V} {d : PyData} (h : Dp K H v d) : TyX K H v (tyD d) := by
  cases h with
  | non => exact .base .non
  | bl b => exact .base (.bl b)
  | int i => exact .base (.int i)
  | str x => exact .base (.str x)
  | lst hs _ =>
    rcases hs with (hs | ⟨o, hs⟩) | ⟨o, its, n, hk, hc, _⟩
    · exact .base (.lst hs)
    · exact .base (.frz hs)
    · exact .kList hk hc
  | tup hs _ =>
    rcases hs with (hs | ⟨o, hs⟩) | ⟨o, its, n, hk, hc, _⟩
    · exact .base (.tup hs)
    · exact .fTuple hs
    · exact .kTuple hk hc
theorem kit1 {t : String} {u : String} {b : Bool} (h : kitB t u = some b) : PySem.W.kitOne K (.type t) (.type u) = some b := kit_ty h
theorem kit2 {t u v : String} {a b : Bool} (h : kitB t u = some a) (h2 : kitB t v = some b) : PySem.W.kitAny K (.type t) [.type u, .type v] = some (a || b) := by
  refine kitAny_cons (kit_ty h) (fun e => ?_) (fun e => ?_)
  · subst e
    refine kitAny_cons (kit_ty h2) (fun e => ?_) (fun e => ?_)
    · subst e; rfl
    · subst e; rfl
  · subst e; rfl
theorem seq_kit (d : PyData) (h : ∀ kvs, d ≠ .dict kvs) : PySem.W.kitAny K (tyD d) [.type "list", .type "tuple"] = some (isSeq d) := by
  cases d with
  | none => exact kit2 (a := false) (b := false) (by decide +kernel) (by decide +kernel)
  | bool b => exact kit2 (a := false) (b := false) (by decide +kernel) (by decide +kernel)
  | int i => exact kit2 (a := false) (b := false) (by decide +kernel) (by decide +kernel)
  | str x => exact kit2 (a := false) (b := false) (by decide +kernel) (by decide +kernel)
  | list ds => exact kit2 (a := true) (b := false) (by decide +kernel) (by decide +kernel)
  | tuple ds => exact kit2 (a := false) (b := true) (by decide +kernel) (by decide +kernel)
  | dict kvs => exact absurd rfl (h kvs)
theorem Dp.nodict {v : V} {d : PyData} (h : Dp K H v d) : ∀ kvs, d ≠ .dict kvs := fun kvs e => by subst e; cases h
end
/-! ### data of bounded depth and width -/
def okD : Nat → PyData → Prop
  | 0, _ => False
  | n + 1, .list ds => ds.length ≤ 1000 ∧ ∀ d ∈ ds, okD n d
  | n + 1, .tuple ds => ds.length ≤ 1000 ∧ ∀ d ∈ ds, okD n d
  | _ + 1, _ => True
mutual
/-- lists as tuples -/
def tupD : PyData → PyData
  | .list ds => .tuple (tupDs ds)
  | .tuple ds => .tuple (tupDs ds)
  | .none => .none
  | .bool b => .bool b
  | .int i => .int i
  | .str x => .str x
  | .dict k => .dict k
def tupDs : List PyData → List PyData
  | [] => []
  | d :: ds => tupD d :: tupDs ds
end
mutual
/-- tuples as lists -/
def lstD : PyData → PyData
  | .list ds => .list (lstDs ds)
  | .tuple ds => .list (lstDs ds)
  | .none => .none
  | .bool b => .bool b
  | .int i => .int i
  | .str x => .str x
  | .dict k => .dict k
def lstDs : List PyData → List PyData
  | [] => []
  | d :: ds => lstD d :: lstDs ds
end
theorem tupDs_eq : ∀ ds : List PyData, tupDs ds = ds.map tupD
  | [] => rfl
  | d :: ds => by rw [tupDs, tupDs_eq ds]; rfl
theorem lstDs_eq : ∀ ds : List PyData, lstDs ds = ds.map lstD
  | [] => rfl
  | d :: ds => by rw [lstDs, lstDs_eq ds]; rfl
def itemsD : PyData → List PyData
  | .list ds => ds
  | .tuple ds => ds
  | _ => []
theorem seq_of {K : PySem.W.Frag} {H : Hp} {v : V} {d : PyData} (h : Dp K H v d) (hs : isSeq d = true) : ∃ a xs, v = .ref a ∧ Sq2 K H a xs ∧ DpAll K H xs (itemsD d) := by
  cases h with
  | lst h1 h2 => exact ⟨_, _, rfl, .inl h1, h2⟩
  | tup h1 h2 => exact ⟨_, _, rfl, .inr h1, h2⟩
  | _ => simp [isSeq] at hs
theorem okD_items {n : Nat} {d : PyData} (h : okD (n + 1) d) (hs : isSeq d = true) : (∀ e ∈ itemsD d, okD n e) ∧ (itemsD d).length ≤ 1000 := by
  cases d with
  | list ds => exact ⟨h.2, h.1⟩
  | tuple ds => exact ⟨h.2, h.1⟩
  | _ => simp [isSeq] at hs
theorem small {n : Nat} (h : n ≤ 1000) : n ≤ sizeLine := Nat.le_of_lt (small1000 h)
end XL
namespace XL
open PySem PySem.Spec PyProof.Rows L2
/-! ### a list that is hidden while an expression is evaluated -/
theorem same_delH {H : Hp} {D : Addr} {o : HO} : Same (delH H D) (upd H D o) := fun b x e => by
  by_cases hb : b = D
  · rw [hb, delH_same] at e; cases e
  · rw [delH_ne hb] at e; rw [upd_ne hb]; exact e
theorem delH_none {H : Hp} {D : Addr} (h : H D = none) : delH H D = H := by
  funext b
  by_cases hb : b = D
  · rw [hb, delH_same, h]
  · rw [delH_ne hb]
theorem delH_upd {H : Hp} {D : Addr} {o : HO} (h : H D = none) : delH (upd H D o) D = H := delH_new h
theorem upd_upd {H : Hp} {D : Addr} {o o' : HO} : upd (upd H D o) D o' = upd H D o' := by
  funext b
  by_cases hb : b = D
  · rw [hb, upd_same, upd_same]
  · rw [upd_ne hb, upd_ne hb, upd_ne hb]
theorem upd_comm {H : Hp} {D T : Addr} {o o' : HO} (h : T ≠ D) : upd (upd H D o) T o' = upd (upd H T o') D o := by
  funext b
  by_cases hb : b = D
  · rw [hb, upd_same, upd_ne (fun e => h e.symm), upd_same]
  · by_cases hT : b = T
    · rw [hT, upd_same, upd_ne h, upd_same]
    · rw [upd_ne hT, upd_ne hb, upd_ne hb, upd_ne hT]
section
variable {X : Cx} {pins : List (Addr × Obj)} {σ : L2.St} {H : Hp} {s s' : Shared} {D : Addr} {xs : List V}
theorem Inv.hide (I : Inv X pins σ H s) (hD : H D = some (.lst xs)) : ∃ (its : List Value) (n : Nat), Vals xs its ∧ xs.length ≤ sizeLine ∧
    Inv X ((D, { cls := .type "list", dict := none, data := .seq its.toArray n, slots := #[] }) :: pins) σ (delH H D) s := by
  obtain ⟨hz, its, n, rv, ho⟩ := (show ObjOk X.prog X.w H s.heap D (.lst xs) from I.hok D _ hD)
  have ne : ∀ {b : Addr}, H b = none → b ≠ D := fun {b} h e => by rw [e, hD] at h; cases h
  have hN : ∀ {b : Addr}, H b = none → delH H D b = none := fun {b} h => by rw [delH_ne (ne h)]; exact h
  refine ⟨its, n, rv, hz, ⟨I.ok, I.os, I.bare, ⟨I.base.keep, I.base.slot, fun b o e n hx => hN (I.base.free b o e n hx), I.base.there, fun b ys e => ?_, fun b o u e => ?_, fun b ps e => ?_⟩, I.loc, I.cell, hN I.free, fun x c e => hN (I.freeC x c e), fun p hp => ?_, fun b o e => ?_, I.len⟩⟩
  · have q := I.base.tups b ys e
    rw [delH_ne (fun z => by rw [z, hD] at q; cases q)]; exact q
  · have q := I.base.frzs b o u e
    rw [delH_ne (fun z => by rw [z, hD] at q; cases q)]; exact q
  · obtain ⟨m, q⟩ := I.base.tbls b ps e
    exact ⟨m, by rw [delH_ne (fun z => by rw [z, hD] at q; cases q)]; exact q⟩
  · rcases List.mem_append.mp hp with hp | hp
    · obtain ⟨a1, a2, a3⟩ := I.pin p (List.mem_append_left _ hp)
      exact ⟨a1, hN a2, a3⟩
    · rcases List.mem_cons.mp hp with e | hp
      · subst e
        refine ⟨ho, delH_same, fun e => ?_, fun hf => ?_, fun v e => nomatch e⟩
        · have := I.free; rw [show X.env.locals = D from e.symm, hD] at this; cases this
        · obtain ⟨_, o, q, _⟩ := I.ok.funs.mem hf
          have := I.base.free D o q (I.ok.frf D hf) fun z => I.ok.exfs D z hf
          rw [hD] at this; cases this
      · obtain ⟨a1, a2, a3⟩ := I.pin p (List.mem_append_right _ hp)
        exact ⟨a1, hN a2, a3⟩
  · have hb : b ≠ D := fun z => by rw [z, delH_same] at e; cases e
    rw [delH_ne hb] at e
    refine (I.hok b o e).stay (fun c v _ q => q) (fun c q => ?_) fun c ys q => ?_
    · rw [delH_ne (fun z => by rw [z, hD] at q; cases q)]; exact q
    · rw [delH_ne (fun z => by rw [z, hD] at q; cases q)]; exact q
theorem Inv.unhide {H' : Hp} {its : List Value} {n : Nat} (I : Inv X pins σ H s) (hD : H D = some (.lst xs)) (rv : Vals xs its) (hz : xs.length ≤ sizeLine)
    (J : Inv X ((D, { cls := .type "list", dict := none, data := .seq its.toArray n, slots := #[] }) :: pins) σ H' s') : H' D = none ∧ Inv X pins σ (upd H' D (.lst xs)) s' := by
  obtain ⟨ho, hn, _, _, _⟩ := J.pin (D, _) (List.mem_append_right _ (List.mem_cons_self ..))
  have hn' : H' D = none := hn
  have ne : ∀ {b : Addr}, H b = none → b ≠ D := fun {b} h e => by rw [e, hD] at h; cases h
  refine ⟨hn', ⟨J.ok, J.os, J.bare, ⟨J.base.keep, J.base.slot, fun b o e n hx => ?_, J.base.there, fun b ys e => ?_, fun b o u e => ?_, fun b ps e => ?_⟩, J.loc, J.cell, ?_, fun x c e => ?_, fun p hp => ?_, fun b o e => ?_, J.len⟩⟩
  · rw [upd_ne (ne (I.base.free b o e n hx))]; exact J.base.free b o e n hx
  · have q := J.base.tups b ys e
    rw [upd_ne (fun z => by rw [z, hn'] at q; cases q)]; exact q
  · have q := J.base.frzs b o u e
    rw [upd_ne (fun z => by rw [z, hn'] at q; cases q)]; exact q
  · obtain ⟨m, q⟩ := J.base.tbls b ps e
    exact ⟨m, by rw [upd_ne (fun z => by rw [z, hn'] at q; cases q)]; exact q⟩
  · rw [upd_ne (ne I.free)]; exact J.free
  · rw [upd_ne (ne (I.freeC x c e))]; exact J.freeC x c e
  · obtain ⟨_, a0, _⟩ := I.pin p hp
    have hp' : p ∈ X.pn ++ ((D, ({ cls := .type "list", dict := none, data := .seq its.toArray n, slots := #[] } : Obj)) :: pins) := by
      rcases List.mem_append.mp hp with h | h
      · exact List.mem_append_left _ h
      · exact List.mem_append_right _ (List.mem_cons_of_mem _ h)
    obtain ⟨a1, a2, a3⟩ := J.pin p hp'
    exact ⟨a1, by rw [upd_ne (ne a0)]; exact a2, a3⟩
  · by_cases hb : b = D
    · subst hb
      rw [upd_same] at e
      cases e
      exact ⟨hz, its, n, rv, ho⟩
    · rw [upd_ne hb] at e
      refine (J.hok b o e).stay (fun c v _ q => q) (fun c q => ?_) fun c ys q => ?_
      · rw [upd_ne (fun z => by rw [z, hn'] at q; cases q)]; exact q
      · rw [upd_ne (fun z => by rw [z, hn'] at q; cases q)]; exact q
end
/-- e, evaluated while the list at D is hidden -/
def tHide (t : TE) : TE := fun σ H Q => ∃ D xs, H D = some (.lst xs) ∧ t σ (delH H D) fun v H' => H' D = none → Q v (upd H' D (.lst xs))
theorem pe_hide {X : Cx} {e : Expr} {t : TE} (h : PE X e t) : PE X e (tHide t) := by
  refine ⟨fun pins s σ H Q I q => ?_⟩
  obtain ⟨D, xs, hD, q⟩ := q
  obtain ⟨its, n, rv, hz, J⟩ := Inv.hide I hD
  refine thn (h.run _ s σ _ _ J q) fun u s' hu => ?_
  obtain ⟨v, H', J', r, q'⟩ := hu
  obtain ⟨hn, I'⟩ := Inv.unhide I hD rv hz J'
  exact ⟨v, _, I', r, q' hn⟩
theorem wipe_none {σ : L2.St} {i : Nat} : ∀ {vs : List Nat}, i ∈ vs → (wipe σ vs).set i none = wipe σ vs
  | [], h => by simp at h
  | v :: vs, h => by
    show ((wipe σ vs).set v none).set i none = (wipe σ vs).set v none
    by_cases e : i = v
    · rw [e, List.set_set]
    · have h' : i ∈ vs := by rcases List.mem_cons.mp h with q | q; exact absurd q e; exact q
      rw [List.set_comm _ _ (fun q => e q.symm), wipe_none h']
theorem wipe_put {σ : L2.St} {i : Nat} {x : Option V} : ∀ {vs : List Nat}, i ∉ vs → wipe (σ.set i x) vs = (wipe σ vs).set i x
  | [], _ => rfl
  | v :: vs, h => by
    show (wipe (σ.set i x) vs).set v none = ((wipe σ vs).set v none).set i x
    rw [wipe_put (fun q => h (List.mem_cons_of_mem _ q)), List.set_comm _ _ (fun q => h (by rw [q]; exact List.mem_cons_self ..))]
theorem w1 {σ σ' : L2.St} {i : Nat} {x : Option V} {vs : List Nat} (h : i ∈ vs) (e : wipe σ' vs = wipe σ vs) : wipe (σ'.set i x) vs = wipe σ vs := by
  have key : ∀ {vs : List Nat}, i ∈ vs → wipe (σ'.set i x) vs = wipe σ' vs := by
    intro vs h
    induction vs with
    | nil => simp at h
    | cons v vs ih =>
      show (wipe (σ'.set i x) vs).set v none = (wipe σ' vs).set v none
      by_cases hm : i ∈ vs
      · rw [ih hm]
      · have ev : i = v := by rcases List.mem_cons.mp h with q | q; exact q; exact absurd q hm
        rw [wipe_put hm, ← ev, List.set_set]
  rw [key h, e]
theorem w0 {σ : L2.St} {vs : List Nat} : wipe (wipe σ vs) vs = wipe σ vs := by
  have key : ∀ ws : List Nat, (∀ i ∈ ws, i ∈ vs) → wipe (wipe σ vs) ws = wipe σ vs := by
    intro ws
    induction ws with
    | nil => intro _; rfl
    | cons w ws ih =>
      intro h
      show (wipe (wipe σ vs) ws).set w none = wipe σ vs
      rw [ih (fun i hi => h i (List.mem_cons_of_mem _ hi)), wipe_none (h w (List.mem_cons_self ..))]
  exact key vs fun i h => h
/-- a comprehension that makes one value a turn -/
theorem lc_map {J : It} {n : Nat} {G : Hp → Prop} {Y : Nat → Hp → V → Hp → Prop} (w : Walk J n G Y) (Rl : Hp → Hp → Prop) (tr : ∀ {A B C}, Rl A B → Rl B C → Rl A C)
    (R : Nat → V → Hp → Prop) (st : ∀ i y A B, Rl A B → R i y A → R i y B) {g : TG} {t : TE} {vs : List Nat} {σ : L2.St} {H1 : Hp} {Qd : Addr → Hp → Prop} (hz : n < sizeLine)
    (rf : Rl H1 H1) (hG : ∀ F D acc, Rl H1 F → F D = none → G (upd F D (.lst acc)))
    (hs : ∀ i x D acc F H', i < n → H1 D = none → Rl H1 F → F D = none → Y i (upd F D (.lst acc)) x H' → ∀ B : L2.St → Hp → Prop, (∀ σ2 Fm, wipe σ2 vs = wipe σ vs → Fm D = none →
      (∀ Qt : VK, (∀ y F', Rl F F' → R i y F' → Qt y F') → t σ2 Fm Qt) → B σ2 (upd Fm D (.lst acc))) → g x (wipe σ vs) H' B)
    (hd : ∀ D ys F, H1 D = none → Rl H1 F → F D = none → ys.length = n → (∀ (i : Nat) y, ys[i]? = some y → R i y F) → Qd D (upd F D (.lst ys))) :
    ∀ D, H1 D = none → ∃ W : Nat → Nat → Hp → Prop, (∃ m, W 0 m (upd H1 D (.lst []))) ∧ ∀ i m H, W i m H →
      (J.stop i H ∧ Qd D H) ∨ (J.go i H ∧ ∃ Nx : Hp → Prop, (∀ H', Nx H' → ∃ m', m' < m ∧ W (i + 1) m' H') ∧ ∀ x H', J.yld i H x H' → g x (wipe σ vs) H' fun σ2 H2 => wipe σ2 vs = wipe σ vs ∧ tYes σ2 H2 fun b H3 =>
        if b = true then tHide t σ2 H3 fun y H4 => ∃ acc, H4 D = some (.lst acc) ∧ acc.length < sizeLine ∧ Nx (upd H4 D (.lst (acc ++ [y]))) else Nx H3) := by
  intro D nD
  refine lc_it w (fun i H => ∃ ys F, H = upd F D (.lst ys) ∧ F D = none ∧ Rl H1 F ∧ ys.length = i ∧ ∀ (j : Nat) y, ys[j]? = some y → R j y F) ⟨[], H1, rfl, nD, rf, rfl, fun j y e => by simp at e⟩ ?_ ?_ ?_
  · rintro i H _ ⟨ys, F, rfl, nF, rl, _, _⟩
    exact hG F D ys rl nF
  · rintro i x H H' hi ⟨ys, F, rfl, nF, rl, hl, hR⟩ hy
    refine hs i x D ys F H' hi nD rl nF hy _ fun σ2 Fm hw nm ht => ⟨hw, ?_⟩
    unfold tYes; dsimp only
    rw [if_pos rfl]
    refine ⟨D, ys, upd_same, ?_⟩
    rw [delH_upd nm]
    refine ht _ fun y F' rl' r nF' => ⟨ys, upd_same, by omega, ys ++ [y], F', upd_upd, nF', tr rl rl', by rw [List.length_append, hl]; rfl, fun j z e => ?_⟩
    by_cases hj : j < ys.length
    · rw [List.getElem?_append_left hj] at e
      exact st j z F F' rl' (hR j z e)
    · rw [List.getElem?_append_right (by omega)] at e
      have hj0 : j - ys.length = 0 := by
        rcases Nat.eq_zero_or_pos (j - ys.length) with q | q
        · exact q
        · rw [List.getElem?_eq_none (by simp; omega)] at e; cases e
      rw [hj0] at e
      have e' : y = z := by simpa using e
      have ej : j = i := by omega
      rw [← e', ej]; exact r
  · rintro H ⟨ys, F, rfl, nF, rl, hl, hR⟩
    exact hd D ys F nD rl nF hl hR
/-! ### what is walked: a list or a tuple -/
def iSeq (K : PySem.W.Frag) (tl : TE) : TI := fun σ H R => tl σ H fun x H1 => ∃ a xs, x = .ref a ∧ Sq2 K H1 a xs ∧ ∀ J, Walk J xs.length (fun H => (¬ SqT K H1 a xs → SqL K H1 a xs → SqL K H a xs) ∧ (SqT K H1 a xs → SqT K H a xs)) (YAt xs) → R J H1
theorem pi_seq {X : Cx} {tg l : Expr} {tl : TE} (hl : PE X l tl) : PI X tg l (iSeq X.K tl) := by
  refine ⟨fun pins s σ H R I h => ?_⟩
  refine thn (hl.run pins s σ H _ I h) fun v s1 ⟨x, H1, I1, r1, q1⟩ => ?_
  obtain ⟨a, xs, e, hq, q⟩ := q1
  subst e
  cases r1
  have fp : ∀ b ∈ [s1.heap.objs.size], FpOk X pins H1 b := fun b hb => by
    have e : b = s1.heap.objs.size := by simpa using hb
    subst e
    exact I1.fpOk (Nat.le_refl _) (I1.hok.fresh (Nat.le_refl _))
  by_cases hT : SqT X.K H1 a xs
  rotate_left
  · have hq : SqL X.K H1 a xs := hq.resolve_right hT
    obtain ⟨its, rv, p, hz⟩ := I1.list hq
    refine wpAny_pyIter_list p.isList ⟨s1.heap.objs.size, [s1.heap.objs.size], _, _, H1, rfl, I1.kept (t' := s1.toks) fun b o e => Heap.get?_push_of_some _ e, turn_list a _, ⟨_, Heap.get?_push_size _ rfl, rfl, rfl⟩, fp, q (Itl X.K a) ?_⟩
    exact (walk_list (K := X.K) (a := a) (xs := xs)).mono (fun H g => g.1 hT hq) fun i H x H' _ _ y => y
  · obtain ⟨its, rv, p, hz⟩ := I1.tuple hT
    refine wpAny_pyIter_tuple (show s1.heap.IsTuple a its.toArray from p) ⟨s1.heap.objs.size, [s1.heap.objs.size], _, _, H1, rfl, I1.kept (t' := s1.toks) fun b o e => Heap.get?_push_of_some _ e, turn_tuple a _, ⟨_, Heap.get?_push_size _ rfl, rfl, rfl⟩, fp, q (Itt X.K a) ?_⟩
    exact (walk_tup (K := X.K) (a := a) (xs := xs)).mono (fun H g => g.2 hT) fun i H x H' _ _ y => y
/-- a, b, .. = a list or a tuple -/
def gAny (K : PySem.W.Frag) (n : Nat) (t : TGs) : TG := fun v σ H Q => ∃ a xs, v = .ref a ∧ Sq2 K H a xs ∧ xs.length = n ∧ t xs σ H Q
theorem pg_any {X : Cx} {es : List Expr} {k : Nat} {pos : Pos} {t : TGs} {n : Nat} (hc : X.calm = true) (h : PGs X es t)
    (hn : (assignEach es X.env).length = n := by rfl) (hst : (assignEach es X.env).findIdx? (·.1) = none := by rfl) : PG X (.Tuple es k pos) (gAny X.K n t) := by
  refine ⟨fun pins s σ H v u Q I r hw => ?_⟩
  obtain ⟨a, xs, e, hq, hl, hw⟩ := hw
  rcases hq with hq | hq
  · exact (pg_unl hc h hn hst).run pins s σ H v u Q I r ⟨a, xs, e, hq, hl, hw⟩
  · exact (pg_tup hc h hn hst).run pins s σ H v u Q I r ⟨a, xs, e, hq, hl, hw⟩
end XL
namespace XL
open PySem PySem.Spec PyProof.Rows L2
/-! ### data without lists: it stands while tuples stand -/
structure Tp (H H' : Hp) : Prop where
  t : ∀ a xs, H a = some (.tup xs) → H' a = some (.tup xs)
  f : ∀ a o xs, H a = some (.frz o (.tup xs)) → H' a = some (.frz o (.tup xs))
theorem Tp.of {H H' : Hp} (s : Same H H') : Tp H H' := ⟨fun a xs e => s _ _ e, fun a o xs e => s _ _ e⟩
theorem Tp.trans {A B C : Hp} (p : Tp A B) (q : Tp B C) : Tp A C := ⟨fun a xs e => q.t _ _ (p.t _ _ e), fun a o xs e => q.f _ _ _ (p.f _ _ _ e)⟩
theorem Tp.upd {H : Hp} {a : Addr} {xs : List V} {o : HO} (h : H a = some (.lst xs)) : Tp H (upd H a o) :=
  ⟨fun b ys e => by rw [upd_ne (fun z => by rw [z, h] at e; cases e)]; exact e, fun b o' ys e => by rw [upd_ne (fun z => by rw [z, h] at e; cases e)]; exact e⟩
theorem Tp.sqT {K : PySem.W.Frag} {H H' : Hp} {a : Addr} {xs : List V} (p : Tp H H') (h : SqT K H a xs) : SqT K H' a xs := by
  rcases h with (h | ⟨o, h⟩) | h
  · exact .inl (.inl (p.t _ _ h))
  · exact .inl (.inr ⟨o, p.f _ _ _ h⟩)
  · exact .inr h
mutual
def noL : PyData → Bool
  | .list _ => false
  | .tuple ds => noLs ds
  | _ => true
def noLs : List PyData → Bool
  | [] => true
  | d :: ds => noL d && noLs ds
end
section
variable {K : PySem.W.Frag} {H H' : Hp}
mutual
theorem Dp.tp (p : Tp H H') : ∀ {v : V} (d : PyData), noL d = true → Dp K H v d → Dp K H' v d
  | _, .none, _, h => by cases h; exact .non
  | _, .bool b, _, h => by cases h; exact .bl b
  | _, .int i, _, h => by cases h; exact .int i
  | _, .str x, _, h => by cases h; exact .str x
  | _, .list ds, n, h => by simp [noL] at n
  | _, .tuple ds, n, h => by
    cases h with
    | tup hs ha => exact .tup (p.sqT hs) (DpAll.tp p ds (by simpa [noL] using n) ha)
  | _, .dict _, _, h => by cases h
theorem DpAll.tp (p : Tp H H') : ∀ {vs : List V} (ds : List PyData), noLs ds = true → DpAll K H vs ds → DpAll K H' vs ds
  | _, [], _, h => by cases h; exact .nil
  | _, d :: ds, n, h => by
    cases h with
    | cons h1 h2 =>
      rw [noLs, Bool.and_eq_true] at n
      exact .cons (Dp.tp p d n.1 h1) (DpAll.tp p ds n.2 h2)
end
end
/-! ### canals as data -/
abbrev Lk := Int × Int × Int × Int
def lkD (l : Lk) : PyData := .tuple [.int l.1, .int l.2.1, .int l.2.2.1, .int l.2.2.2]
structure Cn where
  r : Int
  b : Int
  ls : List Lk
def cnD (c : Cn) : PyData := .tuple [.int c.r, .int c.b, .tuple (c.ls.map lkD)]
structure okLk (r b : Int) (l : Lk) : Prop where
  a0 : 0 ≤ l.1
  a1 : l.1 < r
  c0 : 0 ≤ l.2.1
  c1 : l.2.1 < r
  x0 : 0 ≤ l.2.2.1
  x1 : l.2.2.1 < b
  y0 : 0 ≤ l.2.2.2
  y1 : l.2.2.2 < b
structure okCn (wide utmost : Nat) (c : Cn) : Prop where
  r1 : 1 ≤ c.r
  r2 : c.r ≤ wide
  b1 : 1 ≤ c.b
  b2 : c.b ≤ wide
  n : c.ls.length ≤ utmost
  l : ∀ l ∈ c.ls, okLk c.r c.b l
theorem noLs_lk : ∀ ls : List Lk, noLs (ls.map lkD) = true
  | [] => rfl
  | l :: ls => by rw [List.map_cons, noLs, noLs_lk ls]; rfl
theorem noL_cn (c : Cn) : noL (cnD c) = true := by
  show noLs [.int c.r, .int c.b, .tuple (c.ls.map lkD)] = true
  simp [noLs, noL, noLs_lk]
theorem lk_lay (l : Lk) : (lkD l).canLay0 = true := by simp [lkD, PyData.canLay0, PyData.canLayAll0]
theorem lk_depth (l : Lk) : (lkD l).depth = 1 := by simp [lkD, PyData.depth, PyData.depthAll]
theorem lks_lay : ∀ ls : List Lk, PyData.canLayAll0 (ls.map lkD) = true
  | [] => by simp [PyData.canLayAll0]
  | l :: ls => by simp [PyData.canLayAll0, lk_lay l, lks_lay ls]
theorem lks_depth : ∀ ls : List Lk, PyData.depthAll (ls.map lkD) ≤ 1
  | [] => by simp [PyData.depthAll]
  | l :: ls => by
    have h1 := lks_depth ls; have h2 := lk_depth l
    simp only [List.map_cons, PyData.depthAll]; omega
theorem lks_shaped (ls : List Lk) : SeqAt.shaped (.list (ls.map lkD)) = true := by
  have h1 := lks_depth ls
  have h2 : PyData.depth (.list (ls.map lkD)) ≤ 64 := by simp only [PyData.depth]; omega
  show (PyData.canLay0 (.list (ls.map lkD)) && decide (PyData.depth (.list (ls.map lkD)) ≤ 64)) = true
  rw [Bool.and_eq_true]; exact ⟨by simp only [PyData.canLay0]; exact lks_lay ls, decide_eq_true h2⟩
theorem nil_shaped : SeqAt.shaped (.list []) = true := lks_shaped []
theorem eqv_nil (ls : List Lk) : PyData.eqv (.list (ls.map lkD)) (.list []) = ls.isEmpty := by
  cases ls with
  | nil => simp [PyData.eqv, PyData.eqvAll]
  | cons l ls => simp [PyData.eqv, PyData.eqvAll]
end XL
namespace XL
open PySem PySem.Spec PyProof.Rows L2
/-! ### what repr may be asked of -/
structure Shw (x : PyData) (n w : Nat) : Prop where
  s : x.showable = true
  h : x.hasDict = false
  d : x.depth ≤ n
  l : x.leavesShort 13 = true
  g : x.weight ≤ w
structure ShwA (ds : List PyData) (n w : Nat) : Prop where
  s : PyData.showableAll ds = true
  h : PyData.hasDictAll ds = false
  d : PyData.depthAll ds ≤ n
  l : PyData.leavesShortAll 13 ds = true
  g : PyData.weightAll ds ≤ w
theorem shw_int {i : Int} (h : i.natAbs < 10 ^ 12) (n : Nat) : Shw (.int i) n 41 := by
  have hl : i.natAbs ≠ 0 → i.natAbs.log2 < 40 := fun h0 => (Nat.log2_lt h0).mpr (by omega)
  refine ⟨?_, rfl, Nat.zero_le _, ?_, ?_⟩
  · show decide (i.natAbs.log2 < 1920) = true
    refine decide_eq_true ?_
    by_cases h0 : i.natAbs = 0
    · rw [h0]; decide
    · have := hl h0; omega
  · show decide ((PyData.shown (.int i)).length ≤ 13) = true
    exact decide_eq_true (PyData.shown_int_le h)
  · show (if i == 0 then 0 else i.natAbs.log2 + 1) ≤ 41
    split
    · omega
    · rename_i h0
      have : i.natAbs ≠ 0 := fun e => h0 (by rw [Int.natAbs_eq_zero.mp e]; rfl)
      have := hl this; omega
theorem ShwA.nil {n w : Nat} : ShwA [] n w := ⟨rfl, rfl, Nat.zero_le _, rfl, Nat.zero_le _⟩
theorem ShwA.cons {d : PyData} {ds : List PyData} {n w w' : Nat} (a : Shw d n w) (b : ShwA ds n w') : ShwA (d :: ds) n (w + 1 + w') := by
  refine ⟨?_, ?_, ?_, ?_, ?_⟩
  · show (d.showable && PyData.showableAll ds) = true
    rw [a.s, b.s]; rfl
  · show (d.hasDict || PyData.hasDictAll ds) = false
    rw [a.h, b.h]; rfl
  · show max d.depth (PyData.depthAll ds) ≤ n
    exact Nat.max_le.mpr ⟨a.d, b.d⟩
  · show (d.leavesShort 13 && PyData.leavesShortAll 13 ds) = true
    rw [a.l, b.l]; rfl
  · show d.weight + 1 + PyData.weightAll ds ≤ _
    have h1 := a.g; have h2 := b.g; omega
theorem ShwA.of {n w : Nat} : ∀ {ds : List PyData}, (∀ d ∈ ds, Shw d n w) → ShwA ds n (ds.length * (w + 1))
  | [], _ => .nil
  | d :: ds, h => by
    have q := ShwA.cons (h d (List.mem_cons_self ..)) (ShwA.of fun e he => h e (List.mem_cons_of_mem _ he))
    rw [List.length_cons, Nat.succ_mul, Nat.add_comm]; exact q
theorem ShwA.mono {ds : List PyData} {n n' w w' : Nat} (a : ShwA ds n w) (hn : n ≤ n') (hw : w ≤ w') : ShwA ds n' w' := ⟨a.s, a.h, Nat.le_trans a.d hn, a.l, Nat.le_trans a.g hw⟩
theorem Shw.mono {d : PyData} {n n' w w' : Nat} (a : Shw d n w) (hn : n ≤ n') (hw : w ≤ w') : Shw d n' w' := ⟨a.s, a.h, Nat.le_trans a.d hn, a.l, Nat.le_trans a.g hw⟩
theorem ShwA.tup {ds : List PyData} {n w : Nat} (a : ShwA ds n w) : Shw (.tuple ds) (n + 1) w := ⟨a.s, a.h, Nat.succ_le_succ a.d, a.l, a.g⟩
theorem ShwA.lst {ds : List PyData} {n w : Nat} (a : ShwA ds n w) : Shw (.list ds) (n + 1) w := ⟨a.s, a.h, Nat.succ_le_succ a.d, a.l, a.g⟩
theorem Shw.fits {d : PyData} {n w : Nat} (a : Shw d n w) (hw : w ≤ 1048576) : d.shown.length ≤ sizeLine := PyData.shown_fits (B := 13) (by decide) (by decide) a.l (Nat.le_trans a.g (by omega))
theorem shw_lk {r b : Int} {l : Lk} (hr : r ≤ 100) (hb : b ≤ 100) (ok : okLk r b l) : Shw (lkD l) 1 168 := by
  have := ok.a0; have := ok.a1; have := ok.c0; have := ok.c1; have := ok.x0; have := ok.x1; have := ok.y0; have := ok.y1
  exact ((ShwA.cons (shw_int (by omega) 0) (.cons (shw_int (by omega) 0) (.cons (shw_int (by omega) 0) (.cons (shw_int (by omega) 0) (ShwA.nil (w := 0)))))).mono (Nat.le_refl _) (by omega)).tup
theorem shw_cn {c : Cn} (ok : okCn 100 100 c) : Shw (cnD c) 3 17100 := by
  have h1 := ok.r1; have h2 := ok.r2; have h3 := ok.b1; have h4 := ok.b2; have h5 := ok.n
  have hl : ShwA (c.ls.map lkD) 1 16900 := (ShwA.of (n := 1) (w := 168) fun d hd => by
    obtain ⟨l, hm, rfl⟩ := List.mem_map.mp hd
    exact shw_lk (by omega) (by omega) (ok.l l hm)).mono (Nat.le_refl _) (by rw [List.length_map]; omega)
  exact ((ShwA.cons (shw_int (by omega) 2) (.cons (shw_int (by omega) 2) (.cons hl.tup (ShwA.nil (w := 0))))).mono (Nat.le_refl _) (by omega)).tup
theorem shw_ints {zs : List Int} {m : Nat} (h : ∀ z ∈ zs, z.natAbs < 10 ^ 12) (hm : zs.length ≤ m) : Shw (.tuple (zs.map PyData.int)) 1 (m * 42) :=
  ((ShwA.of (n := 0) (w := 41) fun d hd => by
    obtain ⟨z, hz, rfl⟩ := List.mem_map.mp hd
    exact shw_int (h z hz) 0).mono (Nat.le_refl _) (by rw [List.length_map]; exact Nat.mul_le_mul_right _ hm)).tup
end XL
namespace XL
open PySem PySem.Spec PyProof.Rows L2
/-! ### repr of any data -/
def tRep2 (K : PySem.W.Frag) (te : TE) : TE := fun σ H Q => te σ H fun x H1 => ∃ d, Dp K H1 x d ∧ d.showable = true ∧ d.hasDict = false ∧ d.depth ≤ 50 ∧ d.shown.length ≤ sizeLine ∧ Q (.str d.shown) H1
theorem pe_rep2 {X : Cx} {k : Nat} {e : Expr} {te : TE} {p pos : Pos} (hG : X.A.guards = some []) (hr : Room k X.A) (hg : Gl X "repr") (hm : X.mg "repr" = none) (hb : bootBuiltins "repr" = some (.builtin "repr")) (ha : PE X e te)
    (he : starEach [e] X.env = (false, eval e X.env) :: starEach [] X.env := by rfl) : PE X (.Call (.Name "repr" p) [e] [] pos) (tRep2 X.K te) := by
  refine ⟨fun pins s σ H Q I h => wpAny_Call_Name_kw (ld_blt I hg hm hb ?_)⟩
  refine PyProof.Rows.callWith_builtin1 (args_cons (thn (ha.run pins s σ H _ I h) fun u s1 ⟨v, H1, I1, r1, q1⟩ => args_nil ?_) he) he rfl
  obtain ⟨d, hd, hs, hno, hdp, hz, q⟩ := q1
  have hu := hr.un
  have go : ∀ a, v = .ref a → wpAny (model X.prog X.w) X.A (call (.builtin "repr") [u]) (EP X pins σ Q) X.xe s1 := fun a ex => by
    subst ex
    obtain ⟨as, rd⟩ := Dp.reads I1 d _ u hd r1
    cases (show u = Value.ref a from r1)
    refine repr_of_reads' rd hs (fun z => absurd z (by rw [hno]; decide)) hG (by omega) (fun b o e => e) (fun h' u tk hk => ?_) hz
    exact ⟨.str d.shown, H1, I1.kept hk, ⟨_, rfl⟩, q⟩
  cases hd with
  | non => cases r1; exact PySem.P.repr_of_none ⟨.str _, H1, I1.tok _, ⟨_, rfl⟩, q⟩
  | bl b => cases r1; exact PySem.P.repr_of_bool ⟨.str _, H1, I1.tok _, ⟨_, rfl⟩, q⟩
  | int i =>
    obtain ⟨t, rfl⟩ := r1
    exact PySem.P.repr_of_int (of_decide_eq_true hs) ⟨.str _, H1, I1.tok _, ⟨_, rfl⟩, q⟩
  | str x =>
    obtain ⟨t, rfl⟩ := r1
    exact PySem.P.repr_of_str ⟨.str _, H1, I1.tok _, ⟨_, rfl⟩, q⟩ hz
  | lst h1 h2 => exact go _ rfl
  | tup h1 h2 => exact go _ rfl
/-! ### data whose leaves are small -/
mutual
def Gd (m : Nat) : PyData → Prop
  | .none => True
  | .bool _ => True
  | .int i => i.natAbs ≤ m
  | .str x => x.cps.toList.all (fun c => decide (c < 16 ^ 8)) = true
  | .list ds => Gds m ds
  | .tuple ds => Gds m ds
  | .dict _ => False
def Gds (m : Nat) : List PyData → Prop
  | [] => True
  | d :: ds => Gd m d ∧ Gds m ds
end
theorem Gds_iff {m : Nat} : ∀ {ds : List PyData}, Gds m ds ↔ ∀ d ∈ ds, Gd m d
  | [] => by simp [Gds]
  | d :: ds => by rw [Gds, Gds_iff]; simp
mutual
theorem Gd.mono {m m' : Nat} (h : m ≤ m') : ∀ d, Gd m d → Gd m' d
  | .none, _ => trivial
  | .bool _, _ => trivial
  | .int i, g => Nat.le_trans g h
  | .str _, g => g
  | .list ds, g => Gds.mono h ds g
  | .tuple ds, g => Gds.mono h ds g
  | .dict _, g => g.elim
theorem Gds.mono {m m' : Nat} (h : m ≤ m') : ∀ ds, Gds m ds → Gds m' ds
  | [], _ => trivial
  | d :: ds, g => ⟨Gd.mono h d g.1, Gds.mono h ds g.2⟩
end
theorem log_lt {n : Nat} (h : n ≤ 10 ^ 32) : n.log2 < 107 := by
  by_cases h0 : n = 0
  · rw [h0]; decide
  · exact (Nat.log2_lt h0).mpr (Nat.lt_of_le_of_lt h (by decide))
theorem short_int {i : Int} (h : i.natAbs ≤ 10 ^ 32) : (PyData.shown (.int i)).length ≤ 40 := by
  have e := int_text_length_le10 (k := 33) (by decide) (a := i) (Nat.lt_of_le_of_lt h (by decide))
  show (Str.ofString (toString i)).length ≤ 40
  rw [PySem.ofString_length]; omega
mutual
theorem Gd.shows {m : Nat} (h : m ≤ 10 ^ 32) : ∀ d, Gd m d → d.showable = true ∧ d.hasDict = false ∧ d.leavesShort 40 = true
  | .none, _ => ⟨rfl, rfl, rfl⟩
  | .bool _, _ => ⟨rfl, rfl, rfl⟩
  | .int i, g => ⟨decide_eq_true (Nat.lt_trans (log_lt (Nat.le_trans g h)) (by decide)), rfl, decide_eq_true (short_int (Nat.le_trans g h))⟩
  | .str _, g => ⟨rfl, rfl, g⟩
  | .list ds, g => Gds.shows h ds g
  | .tuple ds, g => Gds.shows h ds g
  | .dict _, g => g.elim
theorem Gds.shows {m : Nat} (h : m ≤ 10 ^ 32) : ∀ ds, Gds m ds → PyData.showableAll ds = true ∧ PyData.hasDictAll ds = false ∧ PyData.leavesShortAll 40 ds = true
  | [], _ => ⟨rfl, rfl, rfl⟩
  | d :: ds, g => by
    obtain ⟨a1, a2, a3⟩ := Gd.shows h d g.1
    obtain ⟨b1, b2, b3⟩ := Gds.shows h ds g.2
    refine ⟨?_, ?_, ?_⟩
    · show (d.showable && PyData.showableAll ds) = true
      rw [a1, b1]; rfl
    · show (d.hasDict || PyData.hasDictAll ds) = false
      rw [a2, b2]; rfl
    · show (d.leavesShort 40 && PyData.leavesShortAll 40 ds) = true
      rw [a3, b3]; rfl
end
theorem shown_fits40 {d : PyData} (hl : d.leavesShort 40 = true) (hw : d.weight ≤ 300000) : d.shown.length ≤ sizeLine := by
  have h := PyData.shown_le 40 (by decide) d hl
  rw [sizeLine_eq]
  omega
/-- weights and depths by elements -/
theorem weightAll_app : ∀ xs ys : List PyData, PyData.weightAll (xs ++ ys) = PyData.weightAll xs + PyData.weightAll ys
  | [], ys => by simp [PyData.weightAll]
  | x :: xs, ys => by simp only [List.cons_append, PyData.weightAll, weightAll_app xs ys]; omega
theorem depthAll_app : ∀ xs ys : List PyData, PyData.depthAll (xs ++ ys) = max (PyData.depthAll xs) (PyData.depthAll ys)
  | [], ys => by simp [PyData.depthAll]
  | x :: xs, ys => by simp only [List.cons_append, PyData.depthAll, depthAll_app xs ys]; omega
theorem Gds_app {m : Nat} {xs ys : List PyData} : Gds m (xs ++ ys) ↔ Gds m xs ∧ Gds m ys := by
  rw [Gds_iff, Gds_iff, Gds_iff]
  constructor
  · exact fun h => ⟨fun d hd => h d (List.mem_append_left _ hd), fun d hd => h d (List.mem_append_right _ hd)⟩
  · rintro ⟨h1, h2⟩ d hd
    rcases List.mem_append.mp hd with q | q
    · exact h1 d q
    · exact h2 d q
theorem split_at {α : Type} {xs : List α} {j : Nat} {x : α} (h : xs[j]? = some x) : xs = xs.take j ++ x :: xs.drop (j + 1) := by
  have hj : j < xs.length := by
    rcases Nat.lt_or_ge j xs.length with q | q
    · exact q
    · rw [List.getElem?_eq_none q] at h; cases h
  rw [List.getElem?_eq_getElem hj] at h
  have e : xs[j] = x := Option.some.inj h
  rw [← e, List.getElem_cons_drop, List.take_append_drop]
theorem set_at {α : Type} {xs : List α} {j : Nat} {x y : α} (h : xs[j]? = some x) : xs.set j y = xs.take j ++ y :: xs.drop (j + 1) := by
  have hj : j < xs.length := by
    rcases Nat.lt_or_ge j xs.length with q | q
    · exact q
    · rw [List.getElem?_eq_none q] at h; cases h
  exact List.set_eq_take_append_cons_drop.trans (if_pos hj)
end XL
set_option maxHeartbeats 4000000
namespace XL
open PySem PySem.Spec PyProof.Rows L2
/-- t * 1: t itself -/
theorem tup_mul1 (l : Addr) (items : Array Value) (n : Nat) (dd : Option Addr) (sl : Array (Option Value)) (u : Tok) :
    Meets (Builtin.«tuple.__mul__» ⟨[.ref l, .int 1 u], []⟩) (fun _ R s => s.heap.get? l = some { cls := .type "tuple", dict := dd, data := .seq items n, slots := sl } ∧ R (.ok (.ret (Value.ref l))) s) :=
  .of_wp fun prog w A R s h => by
    obtain ⟨hp, g, d, tk, os⟩ := s
    obtain ⟨hl, h⟩ := h
    have f1 := AutoSeq1.idx_int
    have c1 : (items.isEmpty || (1 : Int) == 1) = true := by rw [Bool.or_eq_true]; exact .inr rfl
    wp_walk using wpAny_loadPart' hl
    exact ⟨_, rfl, h⟩
/-- t * 0 -/
theorem tup_mul0 (l : Addr) (items : Array Value) (n : Nat) (dd : Option Addr) (sl : Array (Option Value)) (u : Tok) (he : items.isEmpty = false) :
    Meets (Builtin.«tuple.__mul__» ⟨[.ref l, .int 0 u], []⟩) (fun _ R s => s.heap.get? l = some { cls := .type "tuple", dict := dd, data := .seq items n, slots := sl } ∧ R (.ok (.ret (Value.ref s.heap.objs.size))) { s with heap := s.heap.push { cls := Value.type "tuple", data := Data.seq #[] }, toks := s.toks }) :=
  .of_wp fun prog w A R s h => by
    obtain ⟨hp, g, d, tk, os⟩ := s
    obtain ⟨hl, h⟩ := h
    have f1 := AutoSeq1.idx_int
    have c1 : (items.isEmpty || (0 : Int) == 1) = false := by rw [he]; rfl
    wp_walk using wpAny_loadPart' hl
    repeat (first
      | (refine wpAny_ite_false (decide_eq_false (by rw [c1]; exact Bool.false_ne_true)) ?_; wp_walk using wpAny_loadPart' hl))
    exact ⟨_, rfl, h⟩
def rRepU (K : PySem.W.Frag) : R2 := fun x y H Q => ∃ l k xs, x = .ref l ∧ y = .int k ∧ SqT K H l xs ∧ xs ≠ [] ∧ 0 ≤ k ∧ k ≤ 1000 ∧ xs.length ≤ 1000 ∧ ∀ p H', Same H H' → SqT K H' p (List.replicate k.toNat xs).flatten → Q (.ref p) H'
theorem op_repU {X : Cx} : OpR X (binaryOp .Mult) (rRepU X.K) := by
  intro pins s σ H x y v u Q I rx ry h
  obtain ⟨l, k, xs, e1, e2, hT, hne, h0, h2, hz, q⟩ := h
  by_cases hk : 2 ≤ k
  · exact op_repT pins s σ H x y v u Q I rx ry ⟨l, k, xs, e1, e2, hT, hne, hk, h2, hz, fun p np => q p _ (fun b o e => by rw [upd_ne (ne_of_none e np)]; exact e) (.inl (.inl upd_same))⟩
  subst e1 e2
  cases rx
  obtain ⟨t, rfl⟩ := ry
  obtain ⟨its, r, ⟨⟨cls, dd, data, sl⟩, ho, hc, n, hd⟩, hs⟩ := I.tuple hT
  simp only at hc hd
  subst hc hd
  have hle : its.length = xs.length := r.length.symm
  have hn : its ≠ [] := fun e => hne (by
    rw [e] at hle
    exact List.eq_nil_of_length_eq_zero hle.symm)
  have hi : its.toArray.isEmpty = false := by
    cases its with
    | nil => exact absurd rfl hn
    | cons a b => rfl
  have hk' : k = 0 ∨ k = 1 := by omega
  rcases hk' with rfl | rfl
  · refine wpAny_binaryOp_repeat_ref (T := "tuple") (U := "int") (by decide) ⟨_, ho, rfl⟩ (fun s' => typeIs_int s' 0 t) noFill_tuple_mul F.fills_int_mul F.slot_int_rmul repeat_tuple F.slot_int_index.lookup
      (call_meets F.slot_int_rmul (typeIs_int s 0 t) F.entry_int_rmul (F.args_int_rmul_2 _ _) (int_rmul_tuple 0 t l its.toArray n dd sl)
        ⟨ho, rfl, ⟨_, ho, rfl⟩, call_meets F.slot_tuple_mul ⟨_, ho, rfl⟩ F.entry_tuple_mul (F.args_tuple_mul_2 _ _) (tup_mul0 l its.toArray n dd sl t hi) ⟨ho, ?_⟩⟩)
    have hf := I.hok.fresh (Nat.le_refl s.heap.objs.size)
    refine ⟨.ref s.heap.objs.size, _, I.laid (t' := s.toks) (o := .tup []) (fun b ob q => Heap.get?_push_of_some _ q) (Nat.le_refl _) ?_, rfl, q _ _ (fun b o e => by rw [upd_ne (ne_of_none e hf)]; exact e) (.inl (.inl upd_same))⟩
    exact ⟨Nat.zero_le _, [], .nil, IsTup.new _ _⟩
  · refine wpAny_binaryOp_repeat_ref (T := "tuple") (U := "int") (by decide) ⟨_, ho, rfl⟩ (fun s' => typeIs_int s' 1 t) noFill_tuple_mul F.fills_int_mul F.slot_int_rmul repeat_tuple F.slot_int_index.lookup
      (call_meets F.slot_int_rmul (typeIs_int s 1 t) F.entry_int_rmul (F.args_int_rmul_2 _ _) (int_rmul_tuple 1 t l its.toArray n dd sl)
        ⟨ho, rfl, ⟨_, ho, rfl⟩, call_meets F.slot_tuple_mul ⟨_, ho, rfl⟩ F.entry_tuple_mul (F.args_tuple_mul_2 _ _) (tup_mul1 l its.toArray n dd sl t) ⟨ho, ?_⟩⟩)
    refine ⟨.ref l, H, I, rfl, q l H (Same.refl _) ?_⟩
    have e : (List.replicate (Int.toNat 1) xs).flatten = xs := by
      show (List.replicate 1 xs).flatten = xs
      simp
    rw [e]; exact hT
end XL
namespace XL
open PySem PySem.Spec PyProof.Rows L2
def topS (i : Nat) : Stmt := PySem.Challenge.pw_crosslocks_k02_what_standings_are.main.body.getD i (.Pass ⟨0, 0, 0, 0⟩)
abbrev sTake : Stmt := topS 12
abbrev sOf : Stmt := topS 13
theorem atI_int {α : Type} {xs : List α} {i : Int} {v : α} (h0 : 0 ≤ i) (h : xs[i.toNat]? = some v) : atI xs i = some v := by
  have q := atI_nat h
  rwa [show ((i.toNat : Nat) : Int) = i by omega] at q
/-! ### the box: a list of three numbers -/
def Bx (H : Hp) (b : Addr) : Prop := ∃ x y z : Int, H b = some (.lst [.int x, .int y, .int z])
/-- all that was tracked but the box is as it was, the box is a box -/
structure Dr (b : Addr) (H H' : Hp) : Prop where
  box : Bx H' b
  same : ∀ a o, a ≠ b → H a = some o → H' a = some o
theorem Dr.refl {b : Addr} {H : Hp} (h : Bx H b) : Dr b H H := ⟨h, fun _ _ _ e => e⟩
theorem Dr.trans {b : Addr} {H H1 H2 : Hp} (p : Dr b H H1) (q : Dr b H1 H2) : Dr b H H2 := ⟨q.box, fun a o n e => q.same a o n (p.same a o n e)⟩
theorem Dr.new {b p : Addr} {H : Hp} {o : HO} (h : Bx H b) (n : H p = none) : Dr b H (upd H p o) := by
  obtain ⟨x, y, z, e⟩ := h
  exact ⟨⟨x, y, z, same_new n b _ e⟩, fun a o _ e => same_new n a o e⟩
theorem Dr.put {b : Addr} {H : Hp} {x y z : Int} : Dr b H (upd H b (.lst [.int x, .int y, .int z])) := ⟨⟨x, y, z, upd_same⟩, fun a o n e => by rw [upd_ne n]; exact e⟩
theorem Dr.of {b : Addr} {H H' : Hp} (h : Bx H b) (s : Same H H') : Dr b H H' := by
  obtain ⟨x, y, z, e⟩ := h
  exact ⟨⟨x, y, z, s _ _ e⟩, fun a o _ e => s a o e⟩
section
variable {P : Program} {w : World} {K : PySem.W.Frag} {mg : Str → Option Value} {base : Heap}
/-! ### _law_take -/
theorem scTake : FnScope ["_law_box_here", "_law_size", "_law_found", "_law_blend"] ["_law_box_here", "_law_size"] (defScope sTake) := ⟨rfl, rfl, rfl, by decide +kernel, rfl, by decide +kernel, by decide +kernel⟩
def spTake : Sp := fun vs H Q _ => ∃ (b : Addr) (n : Int), vs = [.ref b, .int n] ∧ Bx H b ∧ 0 < n ∧ n < 10000000000000 ∧ ∀ (v : Int) (H' : Hp), 0 ≤ v → v < n → Dr b H H' → Q (.int v) H'
theorem fmod_lt {a n : Int} (h : 0 < n) : 0 ≤ a.fmod n ∧ a.fmod n < n := by
  rw [Int.fmod_eq_emod_of_nonneg _ (Int.le_of_lt h)]
  exact ⟨Int.emod_nonneg _ (by omega), Int.emod_lt_of_pos _ h⟩
theorem div_log {n : Int} (h0 : 0 < n) (h1 : n < 10000000000000) : n.natAbs.log2 < 9000 := by
  have : n.natAbs.log2 < 44 := (Nat.log2_lt (by omega)).mpr (Nat.lt_trans (m := 10000000000000) (by omega) (by decide))
  omega
theorem ok_take {f : Addr} {fd : FuncData} {k : Nat} (F : Fun K "_law_take" "_law_take" sTake f fd) : FnOk P w K mg base CX0 (k + 1) f fd ["_law_box_here", "_law_size"] spTake := by
  refine F.ok scTake (fun vs H Q E h => ?_) (fun cdv A outer s H vs Q E hr h => ?_)
  · obtain ⟨b, n, rfl, _⟩ := h
    rfl
  obtain ⟨b, n, rfl, ⟨x, y, z, eb⟩, h0, h1, q⟩ := h
  refine ⟨_, pss_cons (ps_if (pt_cmpR op_gt (pe_ix ix_list (pv 0) pe_int (fun _ _ => rfl)) pe_int (nomark _))
      (pss_cons (ps_set (i := 2) scTake.nd rfl (.inl rfl) (pe_op op_modN (pe_ix ix_list (pv 0) pe_int (fun _ _ => rfl)) (pv 1)))
      (pss_cons (ps_asg (pe_op op_fdivW (pe_ix ix_list (pv 0) pe_int (fun _ _ => rfl)) (pv 1)) (pg_sub (pv 0) pe_int set_list))
      (pss_one (ps_ret (pv 2))))) pss_nil)
    (pss_cons (ps_asg (pe_op op_add (pe_ix ix_list (pv 0) pe_int (fun _ _ => rfl)) pe_int) (pg_sub (pv 0) pe_int set_list))
    (pss_cons (ps_set (i := 3) scTake.nd rfl (.inl rfl) (pe_op op_modN (pe_op op_add (pe_ix ix_list (pv 0) pe_int (fun _ _ => rfl)) (pe_op op_mul pe_int (pe_ix ix_list (pv 0) pe_int (fun _ _ => rfl)))) pe_int))
    (pss_cons (ps_set (i := 3) scTake.nd rfl (.inl rfl) (pe_op op_modN (pe_op op_add (pe_op op_add (pe_op op_mul (pv 3) (pv 3)) (pe_op op_mul pe_int (pe_ix ix_list (pv 0) pe_int (fun _ _ => rfl)))) pe_int) pe_int))
    (pss_cons (ps_set (i := 3) scTake.nd rfl (.inl rfl) (pe_op op_modN (pe_op op_add (pe_op op_mul (pv 3) (pe_op op_add (pe_op op_fdivN (pv 3) pe_int) pe_int)) (pe_ix ix_list (pv 0) pe_int (fun _ _ => rfl))) pe_int))
    (pss_one (ps_ret (pe_op op_modN (pe_op op_fdivN (pv 3) pe_int) (pv 1)))))))), ?_⟩
  have sq : SqL K H b [.int x, .int y, .int z] := SqL.of eb
  -- box[0] > 0
  refine ⟨_, rfl, b, _, _, _, rfl, rfl, sq, rfl, _, _, rfl, rfl, _, rfl, ite2 (fun c => ?_) (fun c => ?_)⟩
  · refine ⟨_, rfl, b, _, _, _, rfl, rfl, sq, rfl, _, rfl, _, _, rfl, rfl, by omega, ?_⟩
    refine ⟨_, rfl, b, _, _, _, rfl, rfl, sq, rfl, _, rfl, _, _, rfl, rfl, ⟨h0, div_log h0 h1⟩, ?_⟩
    refine ⟨_, rfl, b, _, _, 0, rfl, rfl, eb, rfl, ?_⟩
    refine ⟨_, rfl, ?_⟩
    exact q _ _ (fmod_lt h0).1 (fmod_lt h0).2 Dr.put
  · refine ⟨_, rfl, b, _, _, _, rfl, rfl, sq, rfl, _, _, rfl, rfl, ?_⟩
    refine ⟨_, rfl, b, _, _, 2, rfl, rfl, eb, rfl, ?_⟩
    have sq2 : SqL K (upd H b (.lst [.int x, .int y, .int (z + 1)])) b [.int x, .int y, .int (z + 1)] := SqL.of upd_same
    refine ⟨_, rfl, b, _, _, _, rfl, rfl, sq2, rfl, _, rfl, b, _, _, _, rfl, rfl, sq2, rfl, _, _, rfl, rfl, .inl ⟨by decide, by decide⟩, _, _, rfl, rfl, _, _, rfl, rfl, (by show (2305843009213693951 : Int) ≠ 0; decide), ?_⟩
    have m1 := fmod_lt (a := y + 1442695040888963407 * (z + 1)) (n := 2305843009213693951) (by decide)
    refine ⟨_, rfl, _, rfl, _, _, rfl, rfl, .inl ⟨by omega, by omega⟩, _, rfl, b, _, _, _, rfl, rfl, sq2, rfl, _, _, rfl, rfl, .inl ⟨by decide, by decide⟩, _, _, rfl, rfl, _, _, rfl, rfl, _, _, rfl, rfl, (by show (2305843009213693921 : Int) ≠ 0; decide), ?_⟩
    have m2 := fmod_lt (a := (y + 1442695040888963407 * (z + 1)).fmod 2305843009213693951 * (y + 1442695040888963407 * (z + 1)).fmod 2305843009213693951 + 39373 * (z + 1) + 7) (n := 2305843009213693921) (by decide)
    refine ⟨_, rfl, _, rfl, _, _, rfl, rfl, ⟨by decide, by decide⟩, _, _, rfl, rfl, _, _, rfl, rfl, .inl ⟨by omega, by omega⟩, _, rfl, b, _, _, _, rfl, rfl, sq2, rfl, _, _, rfl, rfl, _, _, rfl, rfl, (by show (2305843009213693907 : Int) ≠ 0; decide), ?_⟩
    refine ⟨_, rfl, _, _, rfl, rfl, ⟨by decide, by decide⟩, _, rfl, _, _, rfl, rfl, by omega, ?_⟩
    exact q _ _ (fmod_lt h0).1 (fmod_lt h0).2 Dr.put
/-! ### _law_of -/
theorem scOf : FnScope ["_law_box_here", "_law_some"] ["_law_box_here", "_law_some"] (defScope sOf) := ⟨rfl, rfl, rfl, by decide +kernel, rfl, by decide +kernel, by decide +kernel⟩
def spOf (K : PySem.W.Frag) : Sp := fun vs H Q _ => ∃ (b l : Addr) (xs : List V), vs = [.ref b, .ref l] ∧ Bx H b ∧ l ≠ b ∧ SqL K H l xs ∧ xs ≠ [] ∧ xs.length < 1000 ∧ ∀ (j : Nat) (v : V) (H' : Hp), xs[j]? = some v → Dr b H H' → Q v H'
theorem Dr.sqL {b a : Addr} {H H' : Hp} {xs : List V} (d : Dr b H H') (n : a ≠ b) (h : SqL K H a xs) : SqL K H' a xs := by
  rcases h with (h | ⟨o, h⟩) | h
  · exact .inl (.inl (d.same _ _ n h))
  · exact .inl (.inr ⟨o, d.same _ _ n h⟩)
  · exact .inr h
theorem Dr.sqT {b a : Addr} {H H' : Hp} {xs : List V} (d : Dr b H H') (n : a ≠ b) (h : SqT K H a xs) : SqT K H' a xs := by
  rcases h with (h | ⟨o, h⟩) | h
  · exact .inl (.inl (d.same _ _ n h))
  · exact .inl (.inr ⟨o, d.same _ _ n h⟩)
  · exact .inr h
theorem ok_of {f ft : Addr} {fd fdt : FuncData} {k : Nat} (F : Fun K "_law_of" "_law_of" sOf f fd) (FT : Fun K "_law_take" "_law_take" sTake ft fdt) (bT : Binds K fdt ["_law_box_here", "_law_size"] []) (gT : mg "_law_take" = some (.ref ft)) (ml : mg "len" = none) :
    FnOk P w K mg base CX0 (k + 1 + 1) f fd ["_law_box_here", "_law_some"] (spOf K) := by
  refine F.ok scOf (fun vs H Q E h => ?_) (fun cdv A outer s H vs Q E hr h => ?_)
  · obtain ⟨b, l, xs, rfl, _⟩ := h
    rfl
  obtain ⟨b, l, xs, rfl, hb, hlb, hl, hne, hz, q⟩ := h
  refine ⟨_, pss_one (ps_ret (pe_ix ix_list (pv 1) (pe_call (ok_take (k := k) FT) hr rfl gT FT.kp bT .nil pass0 (pa_cons (pv 0) (pa_cons (pe_callB call_len_seq rfl ml PySem.boot_len (pa_cons (pv 1) pa_nil)) pa_nil))) (fun _ _ => rfl))), ?_⟩
  have hpos : 0 < xs.length := List.length_pos_iff.mpr hne
  refine ⟨_, rfl, _, rfl, _, rfl, l, xs, rfl, .inl hl, b, _, rfl, hb, by omega, by omega, fun v H' v0 v1 d => ?_⟩
  have hj : v.toNat < xs.length := by omega
  have ha : atI xs v = some xs[v.toNat] := atI_int v0 (List.getElem?_eq_getElem hj)
  refine ⟨l, xs, v, _, rfl, rfl, d.sqL hlb hl, ha, ?_⟩
  exact q v.toNat _ _ (List.getElem?_eq_getElem hj) d
end
end XL
namespace XL
open PySem PySem.Spec PyProof.Rows L2
abbrev sLists : Stmt := topS 16
theorem boot_isinstance : bootBuiltins "isinstance" = some (.builtin "isinstance") := by decide +kernel
section
variable {P : Program} {w : World} {K : PySem.W.Frag} {mg : Str → Option Value} {base : Heap}
theorem no_fn {f : Addr} {fd : FuncData} {ps : List Str} {sp : Sp} (no : ∀ vs H Q E, ¬ sp vs H Q E) : FnOk P w K mg base CX0 0 f fd ps sp :=
  ⟨fun vs H Q E h => absurd h (no vs H Q E), fun A outer s H args us vs Q E _ _ _ _ h => absurd h (no vs H Q E)⟩
/-- the values of a list of data, mapped -/
theorem dpall_of {F : Hp} {f : PyData → PyData} : ∀ {ys : List V} {ds : List PyData}, ys.length = ds.length → (∀ (i : Nat) y, ys[i]? = some y → ∃ d, ds[i]? = some d ∧ Dp K F y (f d)) → DpAll K F ys (ds.map f)
  | [], [], _, _ => .nil
  | [], _ :: _, h, _ => by simp at h
  | _ :: _, [], h, _ => by simp at h
  | y :: ys, d :: ds, h, hi => by
    obtain ⟨d', e, p⟩ := hi 0 y rfl
    have e' : d = d' := by simpa using e
    subst e'
    exact .cons p (dpall_of (by simpa using h) fun i z q => by
      have := hi (i + 1) z (by simpa using q)
      simpa using this)
/-! ### _law_lists -/
theorem scLists : FnScope ["_law_what", "_law_part"] ["_law_what"] (defScope sLists) := ⟨rfl, rfl, rfl, by decide +kernel, rfl, by decide +kernel, by decide +kernel⟩
def spLists (K : PySem.W.Frag) (n : Nat) : Sp := fun vs H Q _ => ∃ (v : V) (d : PyData), vs = [v] ∧ Dp K H v d ∧ okD n d ∧ ∀ (v' : V) (H' : Hp), Same H H' → Dp K H' v' (lstD d) → Q v' H'
theorem ok_lists {f : Addr} {fd : FuncData} (F : Fun K "_law_lists" "_law_lists" sLists f fd) (b : Binds K fd ["_law_what"] []) (gF : mg "_law_lists" = some (.ref f)) (mi : mg "isinstance" = none) (ml : mg "list" = none) (mt : mg "tuple" = none) :
    ∀ n : Nat, FnOk P w K mg base CX0 n f fd ["_law_what"] (spLists K n)
  | 0 => no_fn fun vs H Q E ⟨v, d, _, _, h, _⟩ => h
  | n + 1 => by
    have G := ok_lists F b gF mi ml mt n
    refine F.ok scLists (fun vs H Q E h => ?_) (fun cdv A outer s H vs Q E hr h => ?_)
    · obtain ⟨v, d, rfl, _⟩ := h
      rfl
    obtain ⟨v, d, rfl, hd, ok, q⟩ := h
    refine ⟨_, pss_one (ps_ret (pe_ifExp (pt_val (pe_callB call_isiT rfl mi boot_isinstance (pa_cons (pv 0) (pa_cons (pe_tup (pa_cons (pe_bltn (v := .ty "list") rfl ml boot_list rfl) (pa_cons (pe_bltn (v := .ty "tuple") rfl mt boot_tuple rfl) pa_nil))) pa_nil))))
        (pe_lc (own := [("_law_part", 1)]) (g := gName 1) (tt := tYes) rfl scLists.nd (pi_seq (pv 0)) (blkOk_by (own := [("_law_part", 1)]) (N := ["_law_what", "_law_part"]) (sc := defScope sLists) (by decide +kernel))
          (fun _ _ _ _ _ => pg_name (i := 1) scLists.nd rfl (Or.inl rfl)) (fun _ _ _ _ _ => pts_nil) (fun _ _ _ _ _ => pe_hide (pe_call G hr rfl gF F.kp b .nil pass0 (pa_cons (pv 1) pa_nil)))) (pv 0))), ?_⟩
    refine ⟨_, rfl, (by show 2 ≤ sizeLine; decide), fun tp np => ?_⟩
    have s1 : Same H (upd H tp (.tup [.ty "list", .ty "tuple"])) := same_new np
    refine ⟨v, tp, _, tyD d, _, isSeq d, rfl, upd_same, .cons (.ty _) (.cons (.ty _) .nil), tyx_of (Dp.same s1 d hd), seq_kit d (Dp.nodict hd), isSeq d, rfl, ?_⟩
    cases hsq : isSeq d with
    | false =>
      refine iteF ⟨_, rfl, ?_⟩
      have e : lstD d = d := by cases d <;> first | rfl | (simp [isSeq] at hsq)
      exact q _ _ s1 (by rw [e]; exact Dp.same s1 d hd)
    | true =>
      obtain ⟨a, xs, ds, rfl, hs, hall, het, hok, hlen⟩ : ∃ a xs ds, v = .ref a ∧ Sq2 K H a xs ∧ DpAll K H xs ds ∧ lstD d = .list (ds.map lstD) ∧ (∀ e ∈ ds, okD n e) ∧ ds.length ≤ 1000 := by
        cases hd with
        | lst h1 h2 => exact ⟨_, _, _, rfl, .inl h1, h2, by rw [lstD, lstDs_eq], ok.2, ok.1⟩
        | tup h1 h2 => exact ⟨_, _, _, rfl, .inr h1, h2, by rw [lstD, lstDs_eq], ok.2, ok.1⟩
        | _ => simp [isSeq] at hsq
      have hxl : xs.length = ds.length := DpAll.length hall
      refine iteT ⟨_, rfl, a, xs, rfl, Same.sq2 s1 hs, fun J wk => lc_map wk Same (fun a b => a.trans b) (fun i y F => ∃ d, ds[i]? = some d ∧ Dp K F y (lstD d)) (fun i y A B s ⟨d, e, p⟩ => ⟨d, e, Dp.same s _ p⟩) (by rw [hxl]; exact small1000 hlen) (Same.refl _) (fun F D acc sF nF => ?_) (fun i x D acc F H' hi nD sF nF hy B hB => ?_) (fun D ys F nD sF nF hl hR => ?_)⟩
      · have sD : Same _ (upd F D (.lst acc)) := sF.trans (same_new nF)
        exact ⟨fun _ z => sD.seq z, fun z => Same.tup sD z⟩
      · obtain ⟨rfl, hx⟩ := hy
        obtain ⟨e, he, hp⟩ := DpAll.get hall hx
        refine hB _ F rfl nF fun Qt hq => ?_
        refine ⟨x, rfl, x, e, rfl, Dp.same (s1.trans sF) e hp, hok e (List.mem_of_getElem? he), fun v' H' s' p' => hq _ _ s' ⟨e, he, p'⟩⟩
      · have sD : Same F (upd F D (.lst ys)) := same_new nF
        refine q _ _ (s1.trans (sF.trans sD)) ?_
        rw [het]
        exact .lst (SqL.of upd_same) (DpAll.same sD _ (dpall_of (by rw [hl, hxl]) hR))
end
end XL
namespace XL
open PySem PySem.Spec PyProof.Rows L2
abbrev sSame : Stmt := topS 19
theorem boot_all : bootBuiltins "all" = some (.builtin "all") := by decide +kernel
theorem boot_bool' : bootBuiltins "bool" = some (.type "bool") := by decide +kernel
theorem boot_str' : bootBuiltins "str" = some (.type "str") := by decide +kernel
theorem boot_int' : bootBuiltins "int" = some (.type "int") := by decide +kernel
section
variable {P : Program} {w : World} {K : PySem.W.Frag} {mg : Str → Option Value} {base : Heap}
def isBS : PyData → Bool
  | .bool _ => true
  | .str _ => true
  | _ => false
def isB : PyData → Bool
  | .bool _ => true
  | _ => false
theorem kitf {a b : String} (h : kitB a b = some false) : PySem.W.kitOne K (.type a) (.type b) = some false := kit_ty h
theorem kitt {a b : String} (h : kitB a b = some true) : PySem.W.kitOne K (.type a) (.type b) = some true := kit_ty h
theorem kit_list (d : PyData) : ∃ b, PySem.W.kitOne K (tyD d) (.type "list") = some b := by cases d <;> first | exact ⟨false, kitf (by decide +kernel)⟩ | exact ⟨true, kitt (by decide +kernel)⟩
theorem kit_tuple (d : PyData) : ∃ b, PySem.W.kitOne K (tyD d) (.type "tuple") = some b := by cases d <;> first | exact ⟨false, kitf (by decide +kernel)⟩ | exact ⟨true, kitt (by decide +kernel)⟩
theorem kit_bool (d : PyData) : PySem.W.kitOne K (tyD d) (.type "bool") = some (isB d) := by cases d <;> first | exact kitf (by decide +kernel) | exact kitt (by decide +kernel)
theorem kit_int (i : Int) : PySem.W.kitOne K (tyD (.int i)) (.type "int") = some true := kitt (by decide +kernel)
theorem bs_kit (d : PyData) : PySem.W.kitAny K (tyD d) [.type "bool", .type "str"] = some (isBS d) := by
  cases d with
  | none => exact kit2 (a := false) (b := false) (by decide +kernel) (by decide +kernel)
  | bool b => exact kit2 (a := true) (b := false) (by decide +kernel) (by decide +kernel)
  | int i => exact kit2 (a := false) (b := false) (by decide +kernel) (by decide +kernel)
  | str x => exact kit2 (a := false) (b := true) (by decide +kernel) (by decide +kernel)
  | list ds => exact kit2 (a := false) (b := false) (by decide +kernel) (by decide +kernel)
  | tuple ds => exact kit2 (a := false) (b := false) (by decide +kernel) (by decide +kernel)
  | dict kvs => exact kit2 (a := false) (b := false) (by decide +kernel) (by decide +kernel)
theorem all_true : ∀ n : Nat, (List.replicate n true).all id = true
  | 0 => rfl
  | n + 1 => by rw [List.replicate_succ, List.all_cons, all_true n]; rfl
theorem eq_true_map : ∀ (ys : List V), (∀ (i : Nat) y, ys[i]? = some y → y = .bl true) → ys = (List.replicate ys.length true).map V.bl
  | [], _ => rfl
  | y :: ys, h => by
    have h0 := h 0 y rfl
    have r := eq_true_map ys fun i z e => h (i + 1) z (by simpa using e)
    rw [List.length_cons, List.replicate_succ, List.map_cons, ← r, h0]
theorem scSame : FnScope ["_law_found", "_law_due_here", "_law_both", "_law_mine", "_law_yours"] ["_law_found", "_law_due_here"] (defScope sSame) := ⟨rfl, rfl, rfl, by decide +kernel, rfl, by decide +kernel, by decide +kernel⟩
def spSame (K : PySem.W.Frag) (n : Nat) : Sp := fun vs H Q _ => ∃ (v u : V) (d : PyData), vs = [v, u] ∧ Dp K H v d ∧ Dp K H u d ∧ okD n d ∧ ∀ H' : Hp, Same H H' → Q (.bl true) H'
theorem ok_same {f : Addr} {fd : FuncData} (F : Fun K "_law_same" "_law_same" sSame f fd) (b : Binds K fd ["_law_found", "_law_due_here"] []) (gF : mg "_law_same" = some (.ref f)) (mi : mg "isinstance" = none) (ml : mg "list" = none) (mt : mg "tuple" = none)
    (mz : mg "zip" = none) (me : mg "len" = none) (ma : mg "all" = none) (mb : mg "bool" = none) (ms : mg "str" = none) (mn : mg "int" = none) :
    ∀ n : Nat, FnOk P w K mg base CX0 n f fd ["_law_found", "_law_due_here"] (spSame K n)
  | 0 => no_fn fun vs H Q E ⟨v, u, d, _, _, _, h, _⟩ => h
  | n + 1 => by
    have G := ok_same F b gF mi ml mt mz me ma mb ms mn n
    refine F.ok scSame (fun vs H Q E h => ?_) (fun cdv A outer s H vs Q E hr h => ?_)
    · obtain ⟨v, u, d, rfl, _⟩ := h
      rfl
    obtain ⟨v, u, d, rfl, hv, hu, ok, q⟩ := h
    refine ⟨_, pss_cons (ps_if (pt_val (pe_callB call_isiT rfl mi boot_isinstance (pa_cons (pv 1) (pa_cons (pe_tup (pa_cons (pe_bltn (v := .ty "list") rfl ml boot_list rfl) (pa_cons (pe_bltn (v := .ty "tuple") rfl mt boot_tuple rfl) pa_nil))) pa_nil))))
        (pss_cons (ps_if (PW.pt (pw_or (pt_cmpR op_ne (pe_callB call_isi rfl mi boot_isinstance (pa_cons (pv 0) (pa_cons (pe_bltn (v := .ty "list") rfl ml boot_list rfl) pa_nil))) (pe_callB call_isi rfl mi boot_isinstance (pa_cons (pv 1) (pa_cons (pe_bltn (v := .ty "list") rfl ml boot_list rfl) pa_nil))) (nomark _))
              (pw_or1 (pt_cmpR op_ne (pe_callB call_isi rfl mi boot_isinstance (pa_cons (pv 0) (pa_cons (pe_bltn (v := .ty "tuple") rfl mt boot_tuple rfl) pa_nil))) (pe_callB call_isi rfl mi boot_isinstance (pa_cons (pv 1) (pa_cons (pe_bltn (v := .ty "tuple") rfl mt boot_tuple rfl) pa_nil))) (nomark _)))))
            (pss_one (ps_ret pe_bl)) pss_nil)
        (pss_cons (ps_set (i := 2) scSame.nd rfl (.inl rfl) (pe_listZip rfl rfl ml rfl mz (pa_cons (pv 0) (pa_cons (pv 1) pa_nil))))
        (pss_one (ps_ret (pe_and (pe_cmpR op_eq (pe_callB call_len_seq rfl me PySem.boot_len (pa_cons (pv 0) pa_nil)) (pe_callB call_len_seq rfl me PySem.boot_len (pa_cons (pv 1) pa_nil)) (nomark _))
          (pe_one (pe_callB (cr_all rfl) rfl ma boot_all (pa_cons (pe_lc (own := [("_law_mine", 3), ("_law_yours", 4)]) (g := gAny K 2 (gCons (gName 3) (gCons (gName 4) gNil))) (tt := tYes) rfl scSame.nd (pi_seq (pv 2))
            (blkOk_by (own := [("_law_mine", 3), ("_law_yours", 4)]) (N := ["_law_found", "_law_due_here", "_law_both", "_law_mine", "_law_yours"]) (sc := defScope sSame) (by decide +kernel))
            (fun _ _ _ _ _ => pg_any rfl (pgs_cons (pg_name (i := 3) scSame.nd rfl (Or.inl rfl)) (pgs_cons (pg_name (i := 4) scSame.nd rfl (Or.inl rfl)) pgs_nil))) (fun _ _ _ _ _ => pts_nil)
            (fun _ _ _ _ _ => pe_hide (pe_call G hr rfl gF F.kp b .nil pass0 (pa_cons (pv 3) (pa_cons (pv 4) pa_nil))))) pa_nil)))))))) pss_nil)
      (pss_cons (ps_if (PW.pt (pw_or (pt_cmpR op_isN (pv 1) pe_non (nomark _)) (pw_or1 (pt_val (pe_callB call_isiT rfl mi boot_isinstance (pa_cons (pv 1) (pa_cons (pe_tup (pa_cons (pe_bltn (v := .ty "bool") rfl mb boot_bool' rfl) (pa_cons (pe_bltn (v := .ty "str") rfl ms boot_str' rfl) pa_nil))) pa_nil)))))))
          (pss_one (ps_ret (pe_and (pe_cmpR op_eq (pe_callB call_isi rfl mi boot_isinstance (pa_cons (pv 0) (pa_cons (pe_bltn (v := .ty "bool") rfl mb boot_bool' rfl) pa_nil))) (pe_callB call_isi rfl mi boot_isinstance (pa_cons (pv 1) (pa_cons (pe_bltn (v := .ty "bool") rfl mb boot_bool' rfl) pa_nil))) (nomark _))
            (pe_and (pe_cmpR op_eq (pe_cmpR op_isN (pv 0) pe_non (nomark _)) (pe_cmpR op_isN (pv 1) pe_non (nomark _)) (nomark _)) (pe_one (pe_cmpR op_eq (pv 0) (pv 1) (nomark _))))))) pss_nil)
      (pss_one (ps_ret (pe_and (pe_callB call_isi rfl mi boot_isinstance (pa_cons (pv 0) (pa_cons (pe_bltn (v := .ty "int") rfl mn boot_int' rfl) pa_nil)))
        (pe_and (pe_not (pe_callB call_isi rfl mi boot_isinstance (pa_cons (pv 0) (pa_cons (pe_bltn (v := .ty "bool") rfl mb boot_bool' rfl) pa_nil)))) (pe_one (pe_cmpR op_eq (pv 0) (pv 1) (nomark _)))))))), ?_⟩
    refine ⟨_, rfl, (by show 2 ≤ sizeLine; decide), fun tp np => ?_⟩
    have s1 : Same H (upd H tp (.tup [.ty "list", .ty "tuple"])) := same_new np
    have hv1 := Dp.same s1 d hv
    have hu1 := Dp.same s1 d hu
    refine ⟨u, tp, _, tyD d, _, isSeq d, rfl, upd_same, .cons (.ty _) (.cons (.ty _) .nil), tyx_of hu1, seq_kit d (Dp.nodict hu), isSeq d, rfl, ?_⟩
    obtain ⟨kl, ekl⟩ := kit_list (K := K) d
    obtain ⟨kt, ekt⟩ := kit_tuple (K := K) d
    cases hsq : isSeq d with
    | true =>
      refine iteT ?_
      obtain ⟨a, xs, rfl, hs, hall⟩ := seq_of hv hsq
      obtain ⟨a2, xs2, rfl, hs2, hall2⟩ := seq_of hu hsq
      obtain ⟨hok, hlen⟩ := okD_items ok hsq
      have hx1 : xs.length = (itemsD d).length := DpAll.length hall
      have hx2 : xs2.length = (itemsD d).length := DpAll.length hall2
      -- the kinds are alike
      refine ⟨_, rfl, _, _, _, _, kl, rfl, .ty _, tyx_of hv1, ekl, _, rfl, _, _, _, _, kl, rfl, .ty _, tyx_of hu1, ekl, rfl, _, rfl, iteNS rfl ?_⟩
      refine ⟨_, rfl, _, _, _, _, kt, rfl, .ty _, tyx_of hv1, ekt, _, rfl, _, _, _, _, kt, rfl, .ty _, tyx_of hu1, ekt, rfl, _, rfl, iteNS rfl ?_⟩
      -- the pairs
      refine ⟨_, rfl, _, rfl, a, a2, xs, xs2, rfl, Same.sq2 s1 hs, Same.sq2 s1 hs2, fun L Ts H2 s2 nL eL hTl hT => ?_⟩
      have s12 := s1.trans s2
      refine ⟨_, rfl, a, xs, rfl, Same.sq2 s12 hs, _, rfl, a2, xs2, rfl, Same.sq2 s12 hs2, rfl, _, rfl, ?_⟩
      rw [decide_eq_true (show V.int ((xs.length : Nat) : Int) = V.int ((xs2.length : Nat) : Int) by rw [hx1, hx2])]
      have hn : (Ts.map V.ref).length = (itemsD d).length := by rw [List.length_map, hTl, hx1, hx2, Nat.min_self]
      refine iteT ⟨_, rfl, L, Ts.map V.ref, rfl, .inl (SqL.of eL), fun J wk => lc_map wk Same (fun a b => a.trans b) (fun i y F => y = .bl true) (fun i y A B s p => p) (by rw [hn]; exact small1000 hlen) (Same.refl _) (fun F D acc sF nF => ?_) (fun i x D acc F H' hi nD sF nF hy B hB => ?_) (fun D ys F nD sF nF hl hR => ?_)⟩
      · have sD : Same _ (upd F D (.lst acc)) := sF.trans (same_new nF)
        exact ⟨fun _ z => sD.seq z, fun z => Same.tup sD z⟩
      · obtain ⟨rfl, hx⟩ := hy
        have hx' : ∃ T, Ts[i]? = some T ∧ x = .ref T := by
          rw [List.getElem?_map] at hx
          cases e : Ts[i]? with
          | none => rw [e] at hx; cases hx
          | some T => rw [e] at hx; exact ⟨T, rfl, (Option.some.inj hx).symm⟩
        obtain ⟨T, hTi, rfl⟩ := hx'
        obtain ⟨x1, y1, e1, e2, eT⟩ := hT i T hTi
        obtain ⟨d1, ed1, p1⟩ := DpAll.get hall e1
        obtain ⟨d2, ed2, p2⟩ := DpAll.get hall2 e2
        rw [ed1] at ed2
        cases ed2
        refine ⟨T, [x1, y1], rfl, .inr (.inl (.inl (same_new nF _ _ (sF _ _ eT)))), rfl, x1, [y1], rfl, y1, [], rfl, rfl, ?_⟩
        refine hB _ F rfl nF fun Qt hq => ?_
        exact ⟨x1, rfl, y1, rfl, x1, y1, d1, rfl, Dp.same (s12.trans sF) _ p1, Dp.same (s12.trans sF) _ p2, hok _ (List.mem_of_getElem? ed1), fun H' s' => hq _ _ s' rfl⟩
      · refine ⟨D, List.replicate ys.length true, rfl, ?_, ?_⟩
        · rw [← eq_true_map ys hR]; exact SqL.of upd_same
        · rw [all_true]
          exact q _ (s12.trans (sF.trans (same_new nF)))
    | false =>
      refine iteF ?_
      have fin : ∀ H', Same H H' → Q (.bl true) H' := q
      cases d with
      | list ds => simp [isSeq] at hsq
      | tuple ds => simp [isSeq] at hsq
      | dict kvs => cases hv
      | none =>
        cases hv; cases hu
        refine ⟨_, rfl, rfl, _, rfl, iteT (iteT ?_)⟩
        refine ⟨_, rfl, _, _, _, _, _, rfl, .ty _, tyx_of hv1, kit_bool .none, _, rfl, _, _, _, _, _, rfl, .ty _, tyx_of hu1, kit_bool .none, rfl, _, rfl, iteT ?_⟩
        refine ⟨_, rfl, rfl, _, rfl, rfl, rfl, _, rfl, iteT ?_⟩
        refine ⟨_, rfl, _, rfl, rfl, ?_⟩
        exact fin _ s1
      | bool b0 =>
        cases hv; cases hu
        refine ⟨_, rfl, rfl, _, rfl, iteF ?_⟩
        refine ⟨_, rfl, (by show 2 ≤ sizeLine; decide), fun tq nq => ?_⟩
        have s2 : Same H (upd (upd H tp (.tup [.ty "list", .ty "tuple"])) tq (.tup [.ty "bool", .ty "str"])) := s1.trans (same_new nq)
        refine ⟨_, tq, _, _, _, _, rfl, upd_same, .cons (.ty _) (.cons (.ty _) .nil), tyx_of (Dp.bl b0), bs_kit (.bool b0), _, rfl, iteT ?_⟩
        refine ⟨_, rfl, _, _, _, _, _, rfl, .ty _, tyx_of (Dp.bl b0), kit_bool (.bool b0), _, rfl, _, _, _, _, _, rfl, .ty _, tyx_of (Dp.bl b0), kit_bool (.bool b0), rfl, _, rfl, iteT ?_⟩
        refine ⟨_, rfl, rfl, _, rfl, rfl, rfl, _, rfl, iteT ?_⟩
        refine ⟨_, rfl, _, rfl, rfl, ?_⟩
        have e : decide (V.bl b0 = V.bl b0) = true := decide_eq_true rfl
        have e2 := fin _ s2
        rw [← e] at e2
        exact e2
      | str x0 =>
        cases hv; cases hu
        refine ⟨_, rfl, rfl, _, rfl, iteF ?_⟩
        refine ⟨_, rfl, (by show 2 ≤ sizeLine; decide), fun tq nq => ?_⟩
        have s2 : Same H (upd (upd H tp (.tup [.ty "list", .ty "tuple"])) tq (.tup [.ty "bool", .ty "str"])) := s1.trans (same_new nq)
        refine ⟨_, tq, _, _, _, _, rfl, upd_same, .cons (.ty _) (.cons (.ty _) .nil), tyx_of (Dp.str x0), bs_kit (.str x0), _, rfl, iteT ?_⟩
        refine ⟨_, rfl, _, _, _, _, _, rfl, .ty _, tyx_of (Dp.str x0), kit_bool (.str x0), _, rfl, _, _, _, _, _, rfl, .ty _, tyx_of (Dp.str x0), kit_bool (.str x0), rfl, _, rfl, iteT ?_⟩
        refine ⟨_, rfl, rfl, _, rfl, rfl, rfl, _, rfl, iteT ?_⟩
        refine ⟨_, rfl, _, rfl, rfl, ?_⟩
        have e : decide (V.str x0 = V.str x0) = true := decide_eq_true rfl
        have e2 := fin _ s2
        rw [← e] at e2
        exact e2
      | int i0 =>
        cases hv; cases hu
        refine ⟨_, rfl, rfl, _, rfl, iteF ?_⟩
        refine ⟨_, rfl, (by show 2 ≤ sizeLine; decide), fun tq nq => ?_⟩
        have s2 : Same H (upd (upd H tp (.tup [.ty "list", .ty "tuple"])) tq (.tup [.ty "bool", .ty "str"])) := s1.trans (same_new nq)
        refine ⟨_, tq, _, _, _, _, rfl, upd_same, .cons (.ty _) (.cons (.ty _) .nil), tyx_of (Dp.int i0), bs_kit (.int i0), _, rfl, iteF ?_⟩
        refine ⟨_, rfl, _, _, _, _, _, rfl, .ty _, tyx_of (Dp.int i0), kit_int i0, _, rfl, iteT ?_⟩
        refine ⟨_, rfl, _, _, _, _, _, rfl, .ty _, tyx_of (Dp.int i0), kit_bool (.int i0), _, rfl, _, rfl, iteT ?_⟩
        refine ⟨_, rfl, _, rfl, rfl, ?_⟩
        have e : decide (V.int i0 = V.int i0) = true := decide_eq_true rfl
        have e2 := fin _ s2
        rw [← e] at e2
        exact e2
end
end XL
namespace XL
open PySem PySem.Spec PyProof.Rows L2
abbrev sCells : Stmt := topS 20
abbrev sBox : Stmt := topS 21
theorem boot_enumerate' : bootBuiltins "enumerate" = some (.type "enumerate") := by decide +kernel
theorem boot_abs' : bootBuiltins "abs" = some (.builtin "abs") := by decide +kernel
section
variable {P : Program} {w : World} {K : PySem.W.Frag} {mg : Str → Option Value} {base : Heap}
theorem cut_ints (ns : List Int) (lo hi : Option Int) : cutV (ns.map V.int) lo hi = ((ns.drop (HT.sIx ns.length 0 lo)).take (HT.sIx ns.length ns.length hi - HT.sIx ns.length 0 lo)).map V.int := by
  unfold cutV
  rw [List.length_map, List.map_take, List.map_drop]
theorem set_ints : ∀ (zs : List Int) (j : Nat) (v : Int), (zs.map V.int).set j (.int v) = (zs.set j v).map V.int
  | [], _, _ => rfl
  | z :: zs, 0, v => rfl
  | z :: zs, j + 1, v => by
    show .int z :: (zs.map V.int).set j (.int v) = .int z :: (zs.set j v).map V.int
    rw [set_ints zs j v]
/-! ### _law_cells -/
theorem scCells : FnScope ["_law_script", "_law_utmost", "_law_cells_here", "_law_k", "_law_cell"] ["_law_script", "_law_utmost"] (defScope sCells) := ⟨rfl, rfl, rfl, by decide +kernel, rfl, by decide +kernel, by decide +kernel⟩
def spCells (K : PySem.W.Frag) : Sp := fun vs H Q _ => ∃ (a : Addr) (ns : List Int) (m : Nat), vs = [.ref a, .int m] ∧ SqL K H a (ns.map V.int) ∧ ns.length ≤ 63 ∧ 1 ≤ m ∧ m ≤ 5 ∧
  ∀ (p : Addr) (zs : List Int) (H' : Hp), Same H H' → H p = none → H' p = some (.lst (zs.map V.int)) → 1 ≤ zs.length → zs.length ≤ m → Q (.ref p) H'
theorem ok_cells {f : Addr} {fd : FuncData} {k : Nat} (F : Fun K "_law_cells" "_law_cells" sCells f fd) (ml : mg "list" = none) (me : mg "enumerate" = none) : FnOk P w K mg base CX0 (k + 1) f fd ["_law_script", "_law_utmost"] (spCells K) := by
  refine F.ok scCells (fun vs H Q E h => ?_) (fun cdv A outer s H vs Q E hr h => ?_)
  · obtain ⟨a, ns, m, rfl, _⟩ := h
    rfl
  obtain ⟨a, ns, m, rfl, ha, hn, m1, m2, q⟩ := h
  have tail : ∃ t, PSs (cxOf CX0 P w K mg base ["_law_script", "_law_utmost", "_law_cells_here", "_law_k", "_law_cell"] "_law_cells" (defScope sCells) f cdv A outer s H E).nox ((defBody sCells).drop 1) t ∧
      ∀ (c : Addr) (zs : List Int) (H2 : Hp), Same H H2 → H c = none → H2 c = some (.lst (zs.map V.int)) → 1 ≤ zs.length → zs.length ≤ m → (m < ns.length → zs.length = m) →
        t { nx := fun _ H' => Q .non H', rt := Q } [some (.ref a), some (.int m), some (.ref c), none, none] H2 := by
    refine ⟨_, pss_cons (ps_for PassesOwn.never rfl (pi_enum (by rfl) me (pa_cons (pe_slice sl_list (pv 0) (po_some (pv 1)) (po_some pe_int)) pa_nil)) (pg_tup rfl (pgs_cons (pg_name (i := 3) scCells.nd rfl (.inl rfl)) (pgs_cons (pg_name (i := 4) scCells.nd rfl (.inl rfl)) pgs_nil)))
        (pss_one (ps_asg (pe_op op_add (pe_ix ix_list (pv 2) (pe_op op_modN (pv 3) (pv 1)) (fun _ _ => rfl)) (pe_op op_mul (pv 4) (pe_op op_add (pv 3) pe_int))) (pg_sub (pv 2) (pe_op op_modN (pv 3) (pv 1)) set_list))))
      (pss_one (ps_ret (pv 2))), fun c zs H2 s2 nc ec z1 z2 z3 => ?_⟩
    refine ⟨_, rfl, _, rfl, (m : Int), rfl, 63, rfl, a, _, rfl, s2.seq ha, fun p np => ?_⟩
    rw [cut_ints]
    generalize hes : ((ns.drop (HT.sIx ns.length 0 (some (m : Int)))).take (HT.sIx ns.length ns.length (some 63) - HT.sIx ns.length 0 (some (m : Int)))) = es
    have hel : 0 < es.length → m < ns.length := fun h => by
      rw [← hes, List.length_take, List.length_drop, HT.sIx_nat] at h
      omega
    have hel2 : es.length ≤ 63 := by
      rw [← hes, List.length_take, List.length_drop]
      omega
    have s3 : Same H (upd H2 p (.lst (es.map V.int))) := s2.trans (same_new np)
    have cp : c ≠ p := ne_of_none ec np
    refine ⟨p, es.map V.int, rfl, SqL.of upd_same, for_it (walk_enum (xs := es.map V.int)) (fun i σ H3 => ∃ (ws : List Int) (y3 y4 : Option V), σ = [some (.ref a), some (.int m), some (.ref c), y3, y4] ∧ Same H H3 ∧ H3 p = some (.lst (es.map V.int)) ∧ H3 c = some (.lst (ws.map V.int)) ∧ ws.length = zs.length)
      ⟨zs, none, none, rfl, s3, upd_same, by rw [upd_ne cp]; exact ec, rfl⟩ (fun i σ H3 _ h => ?_) (fun i x σ H3 H4 hi h hy => ?_) (fun σ H3 h => ?_)⟩
    · obtain ⟨_, _, _, _, _, e, _⟩ := h
      exact SqL.of e
    · obtain ⟨ws, y3, y4, rfl, sm, ep, ew, wl⟩ := h
      obtain ⟨T, x1, x2, rfl, nT, rfl, e1, e2⟩ := hy
      have hi' : i < es.length := by rw [List.length_map] at hi; exact hi
      have e1' : x1 = .int (i : Nat) := (Option.some.inj e1).symm
      have e2' : x2 = .int es[i] := by
        have e3 : (es.map V.int)[i]? = some x2 := e2
        rw [List.getElem?_map, List.getElem?_eq_getElem hi'] at e3
        exact (Option.some.inj e3).symm
      subst e1' e2'
      have sT : Same H3 (upd H3 T (.tup [.int (i : Nat), .int es[i]])) := same_new nT
      have wm : ws.length = m := by rw [wl]; exact z3 (hel (by omega))
      have fm := fmod_lt (a := (i : Int)) (n := (m : Int)) (by omega)
      have hj : ((i : Int).fmod (m : Int)).toNat < ws.length := by omega
      refine ⟨T, _, rfl, .inl (.inl upd_same), rfl, _, _, rfl, _, _, rfl, rfl, ?_⟩
      have ewT := sT _ _ ew
      have aw : atI (ws.map V.int) ((i : Int).fmod (m : Int)) = some (.int ws[((i : Int).fmod (m : Int)).toNat]) := atI_int fm.1 (by rw [List.getElem?_map, List.getElem?_eq_getElem hj]; rfl)
      refine ⟨_, rfl, _, rfl, _, rfl, _, _, rfl, rfl, by omega, c, _, _, _, rfl, rfl, SqL.of ewT, aw, _, rfl, _, rfl, _, _, rfl, rfl, _, _, rfl, rfl, .inr ⟨by omega, by omega⟩, _, _, rfl, rfl, ?_⟩
      refine ⟨_, rfl, _, rfl, _, rfl, _, _, rfl, rfl, by omega, c, _, _, ((i : Int).fmod (m : Int)).toNat, rfl, rfl, ewT, ?_, ?_⟩
      · unfold ixN
        rw [if_pos fm.1, if_pos (by rw [List.length_map]; omega)]
      · refine ⟨_, _, _, rfl, fun b o e => ?_, ?_, by rw [set_ints, upd_same], by rw [List.length_set]; exact wl⟩
        · rw [upd_ne (ne_of_none e nc)]; exact sT _ _ (sm _ _ e)
        · rw [upd_ne cp.symm]; exact sT _ _ ep
    · obtain ⟨ws, y3, y4, rfl, sm, ep, ew, wl⟩ := h
      exact ⟨_, rfl, q c ws H3 sm nc ew (by omega) (by omega)⟩
  obtain ⟨t, ht, hgo⟩ := tail
  refine ⟨_, pss_cons (ps_set (i := 2) scCells.nd rfl (.inl rfl) (pe_orT (pe_callTy call_list_of rfl ml boot_list (pa_cons (pe_slice sl_list (pv 0) po_none (po_some (pv 1))) pa_nil)) (pe_one (pe_lst (pa_cons pe_int pa_nil))))) ht, ?_⟩
  -- list(script[:utmost])
  refine ⟨_, rfl, _, rfl, (m : Int), rfl, a, _, rfl, ha, fun p np => ?_⟩
  have s1 : Same H (upd H p (.lst (cutV (ns.map V.int) none (some (m : Int))))) := same_new np
  refine ⟨p, _, rfl, .inl (SqL.of upd_same), fun c nc => ?_⟩
  have e0 : cutV (ns.map V.int) none (some (m : Int)) = (ns.take m).map V.int := by
    rw [cut_ints, HT.sIx_none, HT.sIx_nat, List.drop_zero, Nat.sub_zero]
    congr 1
    rcases Nat.le_total m ns.length with h | h
    · rw [Nat.min_eq_left h]
    · rw [Nat.min_eq_right h, List.take_of_length_le (Nat.le_refl _), List.take_of_length_le h]
  rw [e0] at nc s1 ⊢
  have s2 := s1.trans (same_new nc (o := .lst ((ns.take m).map V.int)))
  refine ⟨!((ns.take m).map V.int).isEmpty, .inl ⟨_, SqL.of upd_same, rfl⟩, ?_⟩
  cases hns : ns with
  | nil =>
    have em : ((([] : List Int).take m).map V.int) = [] := by rw [List.take_nil]; rfl
    rw [em]
    refine iteF ⟨(by show 1 ≤ sizeLine; decide), fun c2 nc2 => ?_⟩
    subst hns
    rw [em] at s2
    exact hgo c2 [0] _ (s2.trans (same_new nc2)) (s2.free nc2) upd_same (Nat.le_refl _) m1 (fun h => by simp at h)
  | cons n0 r =>
    obtain ⟨m', rfl⟩ : ∃ m', m = m' + 1 := ⟨m - 1, by omega⟩
    rw [← hns]
    have e1 : (ns.take (m' + 1)).map V.int ≠ [] := by rw [hns]; simp
    have e2 : (!((ns.take (m' + 1)).map V.int).isEmpty) = true := by
      cases h : (ns.take (m' + 1)).map V.int with
      | nil => exact absurd h e1
      | cons _ _ => rfl
    rw [e2]
    have hl : (ns.take (m' + 1)).length = min (m' + 1) ns.length := List.length_take
    have hn1 : 1 ≤ ns.length := by rw [hns]; simp
    exact iteT (hgo c (ns.take (m' + 1)) _ s2 (s1.free nc) upd_same (by omega) (by omega) (fun h => by omega))
/-! ### _law_box -/
theorem b01 (b : Bool) : -2 ^ 64 < (if b = true then (1 : Int) else 0) ∧ (if b = true then (1 : Int) else 0) < 2 ^ 64 := by cases b <;> decide
theorem scBox : FnScope ["_law_cells_here", "_law_k", "_law_cell"] ["_law_cells_here", "_law_k"] (defScope sBox) := ⟨rfl, rfl, rfl, by decide +kernel, rfl, by decide +kernel, by decide +kernel⟩
def spBox (K : PySem.W.Frag) : Sp := fun vs H Q _ => ∃ (a : Addr) (zs : List Int) (k : Nat), vs = [.ref a, .int k] ∧ SqL K H a (zs.map V.int) ∧ k < zs.length ∧
  ∀ (b : Addr) (x y : Int), H b = none → Q (.ref b) (upd H b (.lst [.int x, .int y, .int 0]))
theorem ok_box {f : Addr} {fd : FuncData} {k : Nat} (F : Fun K "_law_box" "_law_box" sBox f fd) (ma : mg "abs" = none) (mi : mg "int" = none) : FnOk P w K mg base CX0 (k + 1) f fd ["_law_cells_here", "_law_k"] (spBox K) := by
  refine F.ok scBox (fun vs H Q E h => ?_) (fun cdv A outer s H vs Q E hr h => ?_)
  · obtain ⟨a, zs, k, rfl, _⟩ := h
    rfl
  obtain ⟨a, zs, k, rfl, ha, hk, q⟩ := h
  refine ⟨_, pss_cons (ps_set (i := 2) scBox.nd rfl (.inl rfl) (pe_ix ix_list (pv 0) (pv 1) (fun _ _ => rfl)))
    (pss_one (ps_ret (pe_lst (pa_cons (pe_op op_mul (pe_callB call_abs rfl ma boot_abs' (pa_cons (pv 2) pa_nil)) (pe_callTy call_int1 rfl mi boot_int' (pa_cons (pe_cmpR op_ge (pe_callB call_abs rfl ma boot_abs' (pa_cons (pv 2) pa_nil)) (pe_op op_pow pe_int pe_int) (nomark _)) pa_nil)))
      (pa_cons (pe_op op_add (pe_op op_add (pe_op op_modN (pv 2) pe_int) (pe_op op_mul pe_int (pv 1))) pe_int) (pa_cons pe_int pa_nil)))))), ?_⟩
  have hx : atI (zs.map V.int) ((k : Nat) : Int) = some (.int zs[k]) := atI_nat (by rw [List.getElem?_map, List.getElem?_eq_getElem hk]; rfl)
  refine ⟨_, rfl, _, rfl, a, _, _, _, rfl, rfl, ha, hx, ?_⟩
  refine ⟨_, rfl, _, rfl, _, rfl, _, rfl, _, _, rfl, rfl, ⟨by decide, by decide, by decide⟩, _, _, rfl, rfl, .inr ⟨_, rfl, _, _, rfl, rfl, .inr ?_, ?_⟩⟩
  · exact b01 _
  · refine ⟨_, rfl, _, _, rfl, rfl, (by show (2305843009213693951 : Int) ≠ 0; decide), _, rfl, _, _, rfl, rfl, .inl ⟨by decide, by decide⟩, _, _, rfl, rfl, _, _, rfl, rfl, (by show 3 ≤ sizeLine; decide), fun b nb => ?_⟩
    exact q b _ _ nb
end
end XL
namespace XL
open PySem PySem.Spec PyProof.Rows L2
abbrev sCanal : Stmt := topS 14
theorem boot_range' : bootBuiltins "range" = some (.type "range") := by decide +kernel
section
variable {P : Program} {w : World} {K : PySem.W.Frag} {mg : Str → Option Value} {base : Heap}
theorem Dr.tp {b : Addr} {H H' : Hp} (h : Bx H b) (d : Dr b H H') : Tp H H' := by
  obtain ⟨x, y, z, e⟩ := h
  exact ⟨fun a xs q => d.same a _ (fun c => by rw [c, e] at q; cases q) q, fun a o xs q => d.same a _ (fun c => by rw [c, e] at q; cases q) q⟩
theorem Bx.ne {b p : Addr} {H : Hp} (h : Bx H b) (n : H p = none) : p ≠ b := fun e => by
  obtain ⟨x, y, z, q⟩ := h
  rw [e, q] at n; cases n
/-- a step besides the box: a new object, or one of ours written -/
theorem Dr.wr {b p : Addr} {H : Hp} {o : HO} (h : Bx H b) (n : p ≠ b) (hs : H p = none) : Dr b H (upd H p o) := Dr.new h hs
abbrev nCanal : List Str := ["_law_box_here", "_law_wide", "_law_utmost", "_law_sizes", "_law_kind", "_law_gates", "_law_k", "_law_ends", "_law_tide", "_law_size"]
theorem scCanal : FnScope nCanal ["_law_box_here", "_law_wide", "_law_utmost"] (defScope sCanal) := ⟨rfl, rfl, rfl, by decide +kernel, rfl, by decide +kernel, by decide +kernel⟩
def spCanal (K : PySem.W.Frag) : Sp := fun vs H Q _ => ∃ (b : Addr) (wide utmost : Nat), vs = [.ref b, .int wide, .int utmost] ∧ Bx H b ∧ 1 ≤ wide ∧ wide ≤ 100 ∧ utmost ≤ 100 ∧
  ∀ (c : Cn) (v : V) (H' : Hp), okCn wide utmost c → Dr b H H' → Dp K H' v (cnD c) → Q v H'
/-- the four ends of a gate -/
def endsV (l : Lk) : List V := [.int l.1, .int l.2.1, .int l.2.2.1, .int l.2.2.2]
theorem dp_lk {H : Hp} {a : Addr} {l : Lk} (h : SqT K H a (endsV l)) : Dp K H (.ref a) (lkD l) := .tup h (.cons (.int _) (.cons (.int _) (.cons (.int _) (.cons (.int _) .nil))))
/-- between two turns: b the box, z the sizes, g the gates -/
structure Gt (K : PySem.W.Frag) (b z g : Addr) (s0 s1 : Int) (n : Nat) (H0 H : Hp) (vs : List V) (ls : List Lk) : Prop where
  box : Bx H b
  old : ∀ a o, a ≠ b → H0 a = some o → H a = some o
  ez : H z = some (.lst [.int s0, .int s1])
  eg : H g = some (.lst vs)
  dp : DpAll K H vs (ls.map lkD)
  len : ls.length = n
  ok : ∀ l ∈ ls, okLk s0 s1 l
theorem Gt.draw {b z g : Addr} {s0 s1 : Int} {n : Nat} {H0 H H' : Hp} {vs : List V} {ls : List Lk} (q : Gt K b z g s0 s1 n H0 H vs ls) (hz : z ≠ b) (hg : g ≠ b) (d : Dr b H H') : Gt K b z g s0 s1 n H0 H' vs ls :=
  ⟨d.box, fun a o na e => d.same a o na (q.old a o na e), d.same _ _ hz q.ez, d.same _ _ hg q.eg, DpAll.tp (d.tp q.box) _ (noLs_lk ls) q.dp, q.len, q.ok⟩
theorem Gt.new {b z g p : Addr} {s0 s1 : Int} {n : Nat} {H0 H : Hp} {vs : List V} {ls : List Lk} {o : HO} (q : Gt K b z g s0 s1 n H0 H vs ls) (hz : z ≠ b) (hg : g ≠ b) (np : H p = none) : Gt K b z g s0 s1 n H0 (upd H p o) vs ls := q.draw hz hg (Dr.new q.box np)
def fbody : Stmt → List Stmt
  | .For _ _ b _ _ => b
  | _ => []
abbrev slC (b : Addr) (wide utmost : Nat) (z : Addr) (kind : Int) (g : Addr) (y6 y7 y8 y9 : Option V) : L2.St := [some (.ref b), some (.int wide), some (.int utmost), some (.ref z), some (.int kind), some (.ref g), y6, y7, y8, y9]
theorem ok_canal {f ft fo : Addr} {fd fdt fdo : FuncData} {k : Nat} (F : Fun K "_law_canal" "_law_canal" sCanal f fd) (FT : Fun K "_law_take" "_law_take" sTake ft fdt) (bT : Binds K fdt ["_law_box_here", "_law_size"] []) (gT : mg "_law_take" = some (.ref ft))
    (FO : Fun K "_law_of" "_law_of" sOf fo fdo) (bO : Binds K fdo ["_law_box_here", "_law_some"] []) (gO : mg "_law_of" = some (.ref fo)) (me : mg "len" = none) (ml : mg "list" = none) (mt : mg "tuple" = none) (mr : mg "range" = none) :
    FnOk P w K mg base CX0 (k + 1 + 1 + 1) f fd ["_law_box_here", "_law_wide", "_law_utmost"] (spCanal K) := by
  have GT : FnOk P w K mg base CX0 (k + 1) ft fdt ["_law_box_here", "_law_size"] spTake := ok_take FT
  have GO : FnOk P w K mg base CX0 (k + 1 + 1) fo fdo ["_law_box_here", "_law_some"] (spOf K) := ok_of FO FT bT gT me
  refine F.ok scCanal (fun vs H Q E h => ?_) (fun cdv A outer s H vs Q E hr h => ?_)
  · obtain ⟨b, wide, utmost, rfl, _⟩ := h
    rfl
  obtain ⟨b, wide, utmost, rfl, hb, w1, w2, u2, q⟩ := h
  have hr1 : Room (k + 1) _ := hr.mono (Nat.le_succ _)
  -- one turn behind the choice of the ends
  have tail : ∃ t, PSs (cxOf CX0 P w K mg base nCanal "_law_canal" (defScope sCanal) f cdv A outer s H E).nox ((fbody ((defBody sCanal).getD 2 (.Pass ⟨0, 0, 0, 0⟩))).drop 1) t ∧
      ∀ (D : Ends) (z g e : Addr) (kind s0 s1 : Int) (i : Nat) (y6 y8 y9 : Option V) (l : Lk) (vs : List V) (ls : List Lk) (H3 : Hp), z ≠ b → g ≠ b → z ≠ g → e ≠ g → H z = none → H g = none → Gt K b z g s0 s1 i H H3 vs ls → i ≤ 200 → H3 e = some (.lst (endsV l)) → okLk s0 s1 l →
        (∀ vs' H4, Gt K b z g s0 s1 (i + 1) H H4 vs' (ls ++ [l]) → D.nx (slC b wide utmost z kind g y6 (some (.ref e)) y8 y9) H4) → t D (slC b wide utmost z kind g y6 (some (.ref e)) y8 y9) H3 := by
    refine ⟨_, pss_one (ps_expr (pe_bm PySem.F.plainAttrs_list PySem.F.slot_list_append PySem.F.type_list_append mt_append (pv 5) (pa_cons (pe_callTy call_tuple_of rfl mt boot_tuple (pa_cons (pv 7) pa_nil)) pa_nil))), ?_⟩
    intro D z g e kind s0 s1 i y6 y8 y9 l vs ls H3 hzb hgb hzg heg nz ng hG hi he hl hnx
    refine ⟨_, rfl, .inl ⟨rfl, _, SqL.of hG.eg⟩, _, rfl, e, _, rfl, .inl ⟨SqL.of he, fun t nt => ?_⟩⟩
    have G1 := hG.new hzb hgb (o := .tup (endsV l)) nt
    have lv : vs.length = i := by rw [DpAll.length hG.dp, List.length_map, hG.len]
    refine ⟨g, _, _, rfl, rfl, G1.eg, ?_, hnx _ _ ⟨?_, ?_, ?_, upd_same, ?_, ?_, ?_⟩⟩
    · rw [lv]; exact small1000 (by omega)
    · obtain ⟨x, y, w, e⟩ := G1.box
      exact ⟨x, y, w, by rw [upd_ne (fun q => hgb q.symm)]; exact e⟩
    · intro a o na e
      rw [upd_ne (ne_of_none e ng)]; exact G1.old a o na e
    · rw [upd_ne hzg]; exact G1.ez
    · rw [List.map_append]
      have tp : Tp _ (upd (upd H3 t (.tup (endsV l))) g (.lst (vs ++ [.ref t]))) := Tp.upd G1.eg
      exact DpAll.app (DpAll.tp tp _ (noLs_lk ls) G1.dp) (.cons (dp_lk (.inl (.inl (tp.t _ _ upd_same)))) .nil)
    · rw [List.length_append, hG.len]; rfl
    · intro l' h
      rcases List.mem_append.mp h with h | h
      · exact hG.ok l' h
      · rw [List.mem_singleton.mp h]; exact hl
  obtain ⟨t, ht, hgo⟩ := tail
  refine ⟨_, pss_cons (ps_par rfl scCanal.nd (i := 3) (j := 4) rfl rfl (by decide) rfl rfl
      (pa_cons (pe_lc (own := [("_law_tide", 8)]) (g := gName 8) (tt := tYes) rfl scCanal.nd (pi_range1 rfl mr (pa_cons pe_int pa_nil)) (blkOk_by (own := [("_law_tide", 8)]) (N := nCanal) (sc := defScope sCanal) (by decide +kernel))
          (fun _ _ _ _ _ => pg_name (i := 8) scCanal.nd rfl (Or.inl rfl)) (fun _ _ _ _ _ => pts_nil) (fun _ _ _ _ _ => pe_hide (pe_op op_add pe_int (pe_call GT hr1 rfl gT FT.kp bT .nil pass0 (pa_cons (pv 0) (pa_cons (pv 1) pa_nil))))))
        (pa_cons (pe_call GT hr1 rfl gT FT.kp bT .nil pass0 (pa_cons (pv 0) (pa_cons pe_int pa_nil))) pa_nil)) rfl)
    (pss_cons (ps_set (i := 5) scCanal.nd rfl (.inl rfl) (pe_lst pa_nil))
    (pss_cons (ps_for PassesOwn.never rfl (pi_range1 rfl mr (pa_cons (pe_call GT hr1 rfl gT FT.kp bT .nil pass0 (pa_cons (pv 0) (pa_cons (pe_op op_add (pv 2) pe_int) pa_nil))) pa_nil)) (pg_name (i := 6) scCanal.nd rfl (.inl rfl))
      (pss_cons (ps_if (PW.pt (pw_and (pt_cmpR op_eq (pv 4) pe_int (nomark _)) (pw_and1 (pt_cmpR (op_neD hr.units) (pv 5) (pe_lst pa_nil) (nomark _)))))
          (pss_one (ps_set (i := 7) scCanal.nd rfl (.inl rfl) (pe_op op_cat (pe_slice sl_list (pe_callTy call_list_of rfl ml boot_list (pa_cons (pe_ix ix_list (pv 5) (pe_un un_neg pe_int) (fun _ _ => rfl)) pa_nil)) po_none (po_some pe_int))
            (pe_lst (pa_cons (pe_call GT hr1 rfl gT FT.kp bT .nil pass0 (pa_cons (pv 0) (pa_cons (pe_ix ix_list (pv 3) pe_int (fun _ _ => rfl)) pa_nil))) (pa_cons (pe_call GT hr1 rfl gT FT.kp bT .nil pass0 (pa_cons (pv 0) (pa_cons (pe_ix ix_list (pv 3) pe_int (fun _ _ => rfl)) pa_nil))) pa_nil))))))
          (pss_one (ps_if (pt_cmpR op_eq (pv 4) pe_int (nomark _))
            (pss_one (ps_set (i := 7) scCanal.nd rfl (.inl rfl) (pe_lst (pa_cons (pe_op op_modN (pv 6) (pe_ix ix_list (pv 3) pe_int (fun _ _ => rfl))) (pa_cons (pe_op op_modN (pe_op op_add (pv 6) pe_int) (pe_ix ix_list (pv 3) pe_int (fun _ _ => rfl)))
              (pa_cons (pe_call GT hr1 rfl gT FT.kp bT .nil pass0 (pa_cons (pv 0) (pa_cons (pe_ix ix_list (pv 3) pe_int (fun _ _ => rfl)) pa_nil))) (pa_cons (pe_call GT hr1 rfl gT FT.kp bT .nil pass0 (pa_cons (pv 0) (pa_cons (pe_ix ix_list (pv 3) pe_int (fun _ _ => rfl)) pa_nil))) pa_nil)))))))
            (pss_one (ps_if (PW.pt (pw_and (pt_cmpR op_eq (pv 4) pe_int (nomark _)) (pw_and1 (pt_cmpR (op_neD hr.units) (pv 5) (pe_lst pa_nil) (nomark _)))))
              (pss_cons (ps_set (i := 7) scCanal.nd rfl (.inl rfl) (pe_callTy call_list_of rfl ml boot_list (pa_cons (pe_call GO hr rfl gO FO.kp bO .nil pass0 (pa_cons (pv 0) (pa_cons (pv 5) pa_nil))) pa_nil)))
                (pss_one (ps_asg pe_int (pg_sub (pv 7) (pe_call GT hr1 rfl gT FT.kp bT .nil pass0 (pa_cons (pv 0) (pa_cons pe_int pa_nil))) set_list))))
              (pss_one (ps_setLc (i := 7) (own := [("_law_size", 9)]) (g := gName 9) (tt := tYes) rfl scCanal.nd rfl rfl (sw_true rfl rfl rfl (by decide +kernel)) (pi_seq (pe_tup (pa_cons (pe_ix ix_list (pv 3) pe_int (fun _ _ => rfl)) (pa_cons (pe_ix ix_list (pv 3) pe_int (fun _ _ => rfl)) (pa_cons (pe_ix ix_list (pv 3) pe_int (fun _ _ => rfl)) (pa_cons (pe_ix ix_list (pv 3) pe_int (fun _ _ => rfl)) pa_nil))))))
                (blkOk_by (own := [("_law_size", 9)]) (N := nCanal) (sc := defScope sCanal) (by decide +kernel)) (fun _ _ _ _ _ => pg_name (i := 9) scCanal.nd rfl (Or.inl rfl)) (fun _ _ _ _ _ => pts_nil)
                (fun _ _ _ _ _ => pe_hide (pe_call GT hr1 rfl gT FT.kp bT .nil pass0 (pa_cons (pv 0) (pa_cons (pv 9) pa_nil)))))))))))
        ht))
    (pss_one (ps_ret (pe_tup (pa_cons (pe_ix ix_list (pv 3) pe_int (fun _ _ => rfl)) (pa_cons (pe_ix ix_list (pv 3) pe_int (fun _ _ => rfl)) (pa_cons (pe_callTy call_tuple_of rfl mt boot_tuple (pa_cons (pv 5) pa_nil)) pa_nil)))))))), ?_⟩
  refine ⟨2, rfl, by decide, by decide, lc_map walk_range (Dr b) (fun a b => a.trans b) (fun i y F => ∃ x : Int, y = .int x ∧ 1 ≤ x ∧ x ≤ wide) (fun i y A B _ p => p) (by decide) (Dr.refl hb) (fun _ _ _ _ _ => trivial) (fun i x D acc F H' hi nD dF nF hy B hB => ?_) (fun z ys F nz dF nF hl hR => ?_)⟩
  · obtain ⟨rfl, rfl⟩ := hy
    refine hB _ F rfl nF fun Qt hq => ?_
    refine ⟨_, rfl, _, rfl, b, _, rfl, dF.box, by omega, by omega, fun v F' v0 v1 d => ⟨_, _, rfl, rfl, hq _ _ d ⟨_, rfl, by omega, by omega⟩⟩⟩
  have hys : ∃ s0 s1 : Int, ys = [.int s0, .int s1] ∧ 1 ≤ s0 ∧ s0 ≤ wide ∧ 1 ≤ s1 ∧ s1 ≤ wide := by
    match ys, hl with
    | [y0, y1], _ =>
      obtain ⟨s0, rfl, a1, a2⟩ := hR 0 y0 rfl
      obtain ⟨s1, rfl, c1, c2⟩ := hR 1 y1 rfl
      exact ⟨s0, s1, rfl, a1, a2, c1, c2⟩
  obtain ⟨s0, s1, rfl, a1, a2, c1, c2⟩ := hys
  have hzb : z ≠ b := hb.ne nz
  have d1 : Dr b H (upd F z (.lst [.int s0, .int s1])) := dF.trans (Dr.new dF.box nF)
  refine ⟨_, rfl, b, 5, rfl, d1.box, by decide, by decide, fun kind H2 k0 k1 d2 => ?_⟩
  refine ⟨_, _, rfl, ?_⟩
  -- gates = []
  refine ⟨(by show 0 ≤ sizeLine; decide), fun g ng => ?_⟩
  have d12 := d1.trans d2
  have ez2 : H2 z = some (.lst [.int s0, .int s1]) := d2.same z _ hzb upd_same
  have hgb : g ≠ b := d2.box.ne ng
  have hzg : z ≠ g := ne_of_none ez2 ng
  have ngH : H g = none := by
    cases e : H g with
    | none => rfl
    | some o => rw [d12.same g o hgb e] at ng; cases ng
  have d3 : Dr b H (upd H2 g (.lst [])) := d12.trans (Dr.new d2.box ng)
  -- the number of gates
  refine ⟨_, rfl, _, rfl, _, _, rfl, rfl, b, _, rfl, d3.box, by omega, by omega, fun n H3 n0 n1 d4 => ?_⟩
  have d34 := d3.trans d4
  have G0 : Gt K b z g s0 s1 0 H H3 [] [] := ⟨d34.box, fun a o na e => d34.same a o na e, d4.same z _ hzb (by rw [upd_ne hzg]; exact ez2), d4.same g _ hgb upd_same, .nil, rfl, fun l h => by simp at h⟩
  refine ⟨n, rfl, by omega, by omega, for_it walk_range (fun i σ H4 => ∃ y6 y7 y8 y9 vs ls, σ = slC b wide utmost z kind g y6 y7 y8 y9 ∧ Gt K b z g s0 s1 i H H4 vs ls) ⟨none, none, none, none, [], [], rfl, G0⟩ (fun _ _ _ _ _ => trivial) (fun i x σ H4 H5 hi h hy => ?_) (fun σ H4 h => ?_)⟩
  · obtain ⟨y6, y7, y8, y9, vs, ls, rfl, hG⟩ := h
    obtain ⟨rfl, rfl⟩ := hy
    have hi2 : i ≤ 200 := by omega
    -- what is left, by the ends that were chosen
    have fin : ∀ (D : Ends) (e : Addr) (l : Lk) (y8 y9 : Option V) (H6 : Hp) (vs : List V) (ls : List Lk), D.nx = (fun σ H4 => ∃ y6 y7 y8 y9 vs ls, σ = slC b wide utmost z kind g y6 y7 y8 y9 ∧ Gt K b z g s0 s1 (i + 1) H H4 vs ls) →
        Gt K b z g s0 s1 i H H6 vs ls → e ≠ g → H6 e = some (.lst (endsV l)) → okLk s0 s1 l → t D (slC b wide utmost z kind g (some (.int (0 + i))) (some (.ref e)) y8 y9) H6 := by
      intro D e l y8 y9 H6 vs ls hD hG heg he hl
      refine hgo D z g e kind s0 s1 i _ y8 y9 l vs ls H6 hzb hgb hzg heg nz ngH hG hi2 he hl fun vs' H7 hG7 => ?_
      rw [hD]
      exact ⟨_, _, _, _, vs', _, rfl, hG7⟩
    -- two draws by the blues' size
    have draw1 : ∀ (H6 : Hp) (vs : List V) (ls : List Lk) (Q' : V → Hp → Prop), Gt K b z g s0 s1 i H H6 vs ls → (∀ (x : Int) (H7 : Hp), 0 ≤ x → x < s1 → Gt K b z g s0 s1 i H H7 vs ls → Dr b H6 H7 → Q' (.int x) H7) →
        spTake ([.ref b, .int s1] ++ []) H6 Q' E0 := by
      intro H6 vs ls Q' hG h
      exact ⟨b, s1, rfl, hG.box, by omega, by omega, fun v H7 v0 v1 d => h v H7 v0 v1 (hG.draw hzb hgb d) d⟩
    -- kind == 1 and gates != []
    have neq : ∀ (H6 : Hp) (vs : List V) (ls : List Lk) (p : Addr) (Q' : Bool → Hp → Prop), Gt K b z g s0 s1 i H H6 vs ls → H6 p = none → (∀ H7, Gt K b z g s0 s1 i H H7 vs ls → Q' (!ls.isEmpty) H7) →
        rNeD K (.ref g) (.ref p) (upd H6 p (.lst [])) (fun v H7 => ∃ k, v = .bl k ∧ Q' k H7) := by
      intro H6 vs ls p Q' hG np h
      have G7 := hG.new hzb hgb (o := .lst []) np
      refine ⟨.list (ls.map lkD), .list [], .lst (SqL.of G7.eg) G7.dp, .lst (SqL.of upd_same) .nil, lks_shaped ls, nil_shaped, _, rfl, ?_⟩
      rw [eqv_nil]
      exact h _ G7
    have fst : ∀ {xs : List V} {l : Lk} {a : Addr} {H6 : Hp}, Dp K H6 (.ref a) (lkD l) → SqT K H6 a (endsV l) := by
      intro xs l a H6 h
      cases h with
      | tup hs ha =>
        cases ha with
        | cons p1 ha => cases p1; cases ha with
          | cons p2 ha => cases p2; cases ha with
            | cons p3 ha => cases p3; cases ha with
              | cons p4 ha => cases p4; cases ha; exact hs
    have lkref : ∀ {v : V} {l : Lk} {H6 : Hp}, Dp K H6 v (lkD l) → ∃ a, v = .ref a ∧ SqT K H6 a (endsV l) := by
      intro v l H6 h
      have h' := h
      cases h with
      | tup hs ha => exact ⟨_, rfl, fst (xs := []) h'⟩
    refine ⟨_, rfl, rfl, _, rfl, ?_⟩
    by_cases hk1 : kind = 1
    · subst hk1
      refine iteT ⟨_, rfl, (by show 0 ≤ sizeLine; decide), fun p np => neq _ vs ls p _ hG np fun H6 G6 => ?_⟩
      cases ls with
      | nil =>
        refine iteF ⟨_, rfl, rfl, _, rfl, iteF ⟨_, rfl, rfl, _, rfl, iteF ?_⟩⟩
        refine ⟨_, rfl, z, _, _, _, rfl, rfl, SqL.of G6.ez, rfl, _, rfl, z, _, _, _, rfl, rfl, SqL.of G6.ez, rfl, _, rfl, z, _, _, _, rfl, rfl, SqL.of G6.ez, rfl, _, rfl, z, _, _, _, rfl, rfl, SqL.of G6.ez, rfl, (by show 4 ≤ sizeLine; decide), fun p np => ?_⟩
        have G8 := G6.new hzb hgb (o := .tup [.int s0, .int s0, .int s1, .int s1]) np
        have hpb : p ≠ b := G6.box.ne np
        refine ⟨p, [.int s0, .int s0, .int s1, .int s1], rfl, .inr (.inl (.inl upd_same)), fun J wk => lc_map wk (Dr b) (fun a b => a.trans b) (fun j y F => ∃ x : Int, y = .int x ∧ 0 ≤ x ∧ ∀ sz : Int, [s0, s0, s1, s1][j]? = some sz → x < sz) (fun j y A B _ p => p) (by show 4 < sizeLine; decide) (Dr.refl G8.box) (fun F D acc dF nF => ?_) (fun j x D acc F H' hj nD dF nF hy B hB => ?_) (fun D ys F nD dF nF hl hR => ?_)⟩
        · exact ⟨fun _ h => (same_new nF).seq (dF.sqL hpb h), fun h => Same.tup (same_new nF) (dF.sqT hpb h)⟩
        · obtain ⟨rfl, hx⟩ := hy
          have hx' : ∃ sz : Int, x = .int sz ∧ [s0, s0, s1, s1][j]? = some sz ∧ 1 ≤ sz ∧ sz ≤ wide := by
            match j, hj, hx with
            | 0, _, hx => exact ⟨s0, (Option.some.inj hx).symm, rfl, a1, a2⟩
            | 1, _, hx => exact ⟨s0, (Option.some.inj hx).symm, rfl, a1, a2⟩
            | 2, _, hx => exact ⟨s1, (Option.some.inj hx).symm, rfl, c1, c2⟩
            | 3, _, hx => exact ⟨s1, (Option.some.inj hx).symm, rfl, c1, c2⟩
          obtain ⟨sz, rfl, hsz, z1, z2⟩ := hx'
          refine hB _ F rfl nF fun Qt hq => ?_
          exact ⟨_, rfl, _, rfl, b, sz, rfl, dF.box, by omega, by omega, fun v F' v0 v1 d => hq _ _ d ⟨v, rfl, v0, fun sz' e => by rw [hsz] at e; cases e; exact v1⟩⟩
        · have hys : ∃ l : Lk, ys = endsV l ∧ okLk s0 s1 l := by
            match ys, hl with
            | [y0, y1, y2, y3], _ =>
              obtain ⟨x0, rfl, p0, q0⟩ := hR 0 _ rfl
              obtain ⟨x1, rfl, p1, q1⟩ := hR 1 _ rfl
              obtain ⟨x2, rfl, p2, q2⟩ := hR 2 _ rfl
              obtain ⟨x3, rfl, p3, q3⟩ := hR 3 _ rfl
              exact ⟨(x0, x1, x2, x3), rfl, ⟨p0, q0 _ rfl, p1, q1 _ rfl, p2, q2 _ rfl, p3, q3 _ rfl⟩⟩
          obtain ⟨l, rfl, okl⟩ := hys
          have G9 := (G8.draw hzb hgb dF).new hzb hgb (o := .lst (endsV l)) nF
          exact fin _ D l _ _ _ _ _ rfl G9 (fun e => by rw [e, G8.eg] at nD; cases nD) upd_same okl
      | cons l0 lr =>
        refine iteT ?_
        obtain ⟨vs', v', rfl⟩ : ∃ vs' v', vs = vs' ++ [v'] := by
          have hv : vs ≠ [] := fun e => by have := DpAll.length G6.dp; rw [e] at this; simp at this
          exact ⟨vs.dropLast, vs.getLast hv, (List.dropLast_concat_getLast hv).symm⟩
        have hvl : (vs' ++ [v']).length = (l0 :: lr).length := by rw [DpAll.length G6.dp, List.length_map]
        obtain ⟨d, ed, pd⟩ := DpAll.get G6.dp (i := vs'.length) (v := v') (by rw [List.getElem?_append_right (Nat.le_refl _), Nat.sub_self]; rfl)
        rw [List.getElem?_map] at ed
        cases el : (l0 :: lr)[vs'.length]? with
        | none => rw [el] at ed; cases ed
        | some l =>
          rw [el] at ed
          cases ed
          have okl := G6.ok l (List.mem_of_getElem? el)
          obtain ⟨a, rfl, ha⟩ := lkref pd
          refine ⟨_, rfl, 1, rfl, g, _, _, _, rfl, rfl, SqL.of G6.eg, atI_last _ _, a, _, rfl, .inr ha, fun c nc => ?_⟩
          have G7 := G6.new hzb hgb (o := .lst (endsV l)) nc
          refine ⟨2, rfl, c, _, rfl, SqL.of upd_same, fun c2 nc2 => ?_⟩
          have G8 := G7.new hzb hgb (o := .lst [.int l.1, .int l.2.1]) nc2
          have hc2b : c2 ≠ b := G7.box.ne nc2
          refine ⟨_, rfl, _, rfl, z, _, _, _, rfl, rfl, SqL.of G8.ez, rfl, b, s1, rfl, G8.box, by omega, by omega, fun x H7 x0 x1 dd1 => ?_⟩
          have G9 := G8.draw hzb hgb dd1
          refine ⟨_, rfl, _, rfl, z, _, _, _, rfl, rfl, SqL.of G9.ez, rfl, b, s1, rfl, G9.box, by omega, by omega, fun y H8 y0 y1 dd2 => ?_⟩
          have G10 := G9.draw hzb hgb dd2
          refine ⟨(by show 2 ≤ sizeLine; decide), fun c3 nc3 => ?_⟩
          have G11 := G10.new hzb hgb (o := .lst [.int x, .int y]) nc3
          have ec2 : H8 c2 = some (.lst [.int l.1, .int l.2.1]) := dd2.same _ _ hc2b (dd1.same _ _ hc2b upd_same)
          refine ⟨c2, c3, [.int l.1, .int l.2.1], [.int x, .int y], rfl, rfl, by rw [upd_ne (ne_of_none ec2 nc3)]; exact ec2, upd_same, (by show 2 + 2 ≤ sizeLine; decide), fun c4 nc4 => ?_⟩
          have G12 := G11.new hzb hgb (o := .lst (endsV (l.1, l.2.1, x, y))) nc4
          exact fin _ c4 (l.1, l.2.1, x, y) _ _ _ _ _ rfl G12 (fun e => by rw [e, G11.eg] at nc4; cases nc4) upd_same ⟨okl.a0, okl.a1, okl.c0, okl.c1, x0, x1, y0, y1⟩
    · have e1 : decide (V.int kind = V.int 1) = false := decide_eq_false fun e => hk1 (V.int.inj e)
      rw [e1]
      refine iteF (iteF ⟨_, rfl, rfl, _, rfl, ?_⟩)
      by_cases hk2 : kind = 2
      · subst hk2
        have f1 := fmod_lt (a := 0 + (i : Int)) (n := s0) (by omega)
        have f2 := fmod_lt (a := 0 + (i : Int) + 1) (n := s0) (by omega)
        refine iteT ⟨_, rfl, _, rfl, z, _, _, _, rfl, rfl, SqL.of hG.ez, rfl, _, _, rfl, rfl, by omega, _, rfl, _, _, rfl, rfl, _, rfl, z, _, _, _, rfl, rfl, SqL.of hG.ez, rfl, _, _, rfl, rfl, by omega, ?_⟩
        refine ⟨_, rfl, _, rfl, z, _, _, _, rfl, rfl, SqL.of hG.ez, rfl, b, s1, rfl, hG.box, by omega, by omega, fun x H7 x0 x1 dd1 => ?_⟩
        have G9 := hG.draw hzb hgb dd1
        refine ⟨_, rfl, _, rfl, z, _, _, _, rfl, rfl, SqL.of G9.ez, rfl, b, s1, rfl, G9.box, by omega, by omega, fun y H8 y0 y1 dd2 => ?_⟩
        have G10 := G9.draw hzb hgb dd2
        refine ⟨(by show 4 ≤ sizeLine; decide), fun c3 nc3 => ?_⟩
        have G11 := G10.new hzb hgb (o := .lst (endsV ((0 + (i : Int)).fmod s0, (0 + (i : Int) + 1).fmod s0, x, y))) nc3
        exact fin _ c3 ((0 + (i : Int)).fmod s0, (0 + (i : Int) + 1).fmod s0, x, y) _ _ _ _ _ rfl G11 (fun e => by rw [e, G10.eg] at nc3; cases nc3) upd_same ⟨f1.1, f1.2, f2.1, f2.2, x0, x1, y0, y1⟩
      · have e2 : decide (V.int kind = V.int 2) = false := decide_eq_false fun e => hk2 (V.int.inj e)
        rw [e2]
        refine iteF ⟨_, rfl, rfl, _, rfl, ?_⟩
        by_cases hk3 : kind = 3
        · subst hk3
          refine iteT ⟨_, rfl, (by show 0 ≤ sizeLine; decide), fun p np => neq _ vs ls p _ hG np fun H6 G6 => ?_⟩
          cases ls with
          | nil =>
            refine iteF ?_
            refine ⟨_, rfl, z, _, _, _, rfl, rfl, SqL.of G6.ez, rfl, _, rfl, z, _, _, _, rfl, rfl, SqL.of G6.ez, rfl, _, rfl, z, _, _, _, rfl, rfl, SqL.of G6.ez, rfl, _, rfl, z, _, _, _, rfl, rfl, SqL.of G6.ez, rfl, (by show 4 ≤ sizeLine; decide), fun p np => ?_⟩
            have G8 := G6.new hzb hgb (o := .tup [.int s0, .int s0, .int s1, .int s1]) np
            have hpb : p ≠ b := G6.box.ne np
            refine ⟨p, [.int s0, .int s0, .int s1, .int s1], rfl, .inr (.inl (.inl upd_same)), fun J wk => lc_map wk (Dr b) (fun a b => a.trans b) (fun j y F => ∃ x : Int, y = .int x ∧ 0 ≤ x ∧ ∀ sz : Int, [s0, s0, s1, s1][j]? = some sz → x < sz) (fun j y A B _ p => p) (by show 4 < sizeLine; decide) (Dr.refl G8.box) (fun F D acc dF nF => ?_) (fun j x D acc F H' hj nD dF nF hy B hB => ?_) (fun D ys F nD dF nF hl hR => ?_)⟩
            · exact ⟨fun _ h => (same_new nF).seq (dF.sqL hpb h), fun h => Same.tup (same_new nF) (dF.sqT hpb h)⟩
            · obtain ⟨rfl, hx⟩ := hy
              have hx' : ∃ sz : Int, x = .int sz ∧ [s0, s0, s1, s1][j]? = some sz ∧ 1 ≤ sz ∧ sz ≤ wide := by
                match j, hj, hx with
                | 0, _, hx => exact ⟨s0, (Option.some.inj hx).symm, rfl, a1, a2⟩
                | 1, _, hx => exact ⟨s0, (Option.some.inj hx).symm, rfl, a1, a2⟩
                | 2, _, hx => exact ⟨s1, (Option.some.inj hx).symm, rfl, c1, c2⟩
                | 3, _, hx => exact ⟨s1, (Option.some.inj hx).symm, rfl, c1, c2⟩
              obtain ⟨sz, rfl, hsz, z1, z2⟩ := hx'
              refine hB _ F rfl nF fun Qt hq => ?_
              exact ⟨_, rfl, _, rfl, b, sz, rfl, dF.box, by omega, by omega, fun v F' v0 v1 d => hq _ _ d ⟨v, rfl, v0, fun sz' e => by rw [hsz] at e; cases e; exact v1⟩⟩
            · have hys : ∃ l : Lk, ys = endsV l ∧ okLk s0 s1 l := by
                match ys, hl with
                | [y0, y1, y2, y3], _ =>
                  obtain ⟨x0, rfl, p0, q0⟩ := hR 0 _ rfl
                  obtain ⟨x1, rfl, p1, q1⟩ := hR 1 _ rfl
                  obtain ⟨x2, rfl, p2, q2⟩ := hR 2 _ rfl
                  obtain ⟨x3, rfl, p3, q3⟩ := hR 3 _ rfl
                  exact ⟨(x0, x1, x2, x3), rfl, ⟨p0, q0 _ rfl, p1, q1 _ rfl, p2, q2 _ rfl, p3, q3 _ rfl⟩⟩
              obtain ⟨l, rfl, okl⟩ := hys
              have G9 := (G8.draw hzb hgb dF).new hzb hgb (o := .lst (endsV l)) nF
              exact fin _ D l _ _ _ _ _ rfl G9 (fun e => by rw [e, G8.eg] at nD; cases nD) upd_same okl
          | cons l0 lr =>
            refine iteT ?_
            have hv : vs ≠ [] := fun e => by have := DpAll.length G6.dp; rw [e] at this; simp at this
            have hvl : vs.length ≤ 200 := by rw [DpAll.length G6.dp, List.length_map, G6.len]; exact hi2
            refine ⟨_, rfl, _, rfl, b, g, vs, rfl, G6.box, hgb, SqL.of G6.eg, hv, by omega, fun j v H7 ej dd => ?_⟩
            have G7 := G6.draw hzb hgb dd
            obtain ⟨d, ed, pd⟩ := DpAll.get G7.dp ej
            rw [List.getElem?_map] at ed
            cases el : (l0 :: lr)[j]? with
            | none => rw [el] at ed; cases ed
            | some l =>
              rw [el] at ed
              cases ed
              have okl := G7.ok l (List.mem_of_getElem? el)
              obtain ⟨a, rfl, ha⟩ := lkref pd
              refine ⟨a, _, rfl, .inr ha, fun c nc => ?_⟩
              have G8 := G7.new hzb hgb (o := .lst (endsV l)) nc
              have hcb : c ≠ b := G7.box.ne nc
              have hcg : c ≠ g := fun e => by rw [e, G7.eg] at nc; cases nc
              have hcz : c ≠ z := fun e => by rw [e, G7.ez] at nc; cases nc
              refine ⟨_, rfl, _, rfl, b, 4, rfl, G8.box, by decide, by decide, fun j2 H9 j0 j1 dd2 => ?_⟩
              have G9 := G8.draw hzb hgb dd2
              have ec : H9 c = some (.lst (endsV l)) := dd2.same c _ hcb upd_same
              refine ⟨c, _, _, j2.toNat, rfl, rfl, ec, ?_, ?_⟩
              · unfold ixN
                rw [if_pos j0, if_pos (by show j2 < 4; exact j1)]
              · have G10 : Gt K b z g s0 s1 i H (upd H9 c (.lst ((endsV l).set j2.toNat (.int 0)))) vs (l0 :: lr) := by
                  refine ⟨?_, fun a o na e => ?_, ?_, ?_, DpAll.tp (Tp.upd ec) _ (noLs_lk _) G9.dp, G9.len, G9.ok⟩
                  · obtain ⟨x, y, w, e⟩ := G9.box
                    exact ⟨x, y, w, by rw [upd_ne (fun q => hcb q.symm)]; exact e⟩
                  · by_cases hac : a = c
                    · exfalso
                      rw [hac] at e
                      rw [G7.old c o hcb e] at nc; cases nc
                    · rw [upd_ne hac]; exact G9.old a o na e
                  · rw [upd_ne (fun q => hcz q.symm)]; exact G9.ez
                  · rw [upd_ne (fun q => hcg q.symm)]; exact G9.eg
                have hset : ∃ l2 : Lk, (endsV l).set j2.toNat (.int 0) = endsV l2 ∧ okLk s0 s1 l2 := by
                  have hj : j2.toNat = 0 ∨ j2.toNat = 1 ∨ j2.toNat = 2 ∨ j2.toNat = 3 := by omega
                  rcases hj with e | e | e | e <;> rw [e]
                  · exact ⟨(0, l.2.1, l.2.2.1, l.2.2.2), rfl, ⟨Int.le_refl 0, by show 0 < s0; omega, okl.c0, okl.c1, okl.x0, okl.x1, okl.y0, okl.y1⟩⟩
                  · exact ⟨(l.1, 0, l.2.2.1, l.2.2.2), rfl, ⟨okl.a0, okl.a1, Int.le_refl 0, by show 0 < s0; omega, okl.x0, okl.x1, okl.y0, okl.y1⟩⟩
                  · exact ⟨(l.1, l.2.1, 0, l.2.2.2), rfl, ⟨okl.a0, okl.a1, okl.c0, okl.c1, Int.le_refl 0, by show 0 < s1; omega, okl.y0, okl.y1⟩⟩
                  · exact ⟨(l.1, l.2.1, l.2.2.1, 0), rfl, ⟨okl.a0, okl.a1, okl.c0, okl.c1, okl.x0, okl.x1, Int.le_refl 0, by show 0 < s1; omega⟩⟩
                obtain ⟨l2, el2, ok2⟩ := hset
                rw [el2] at G10 ⊢
                exact fin _ c l2 _ _ _ _ _ rfl G10 hcg upd_same ok2
        · have e3 : decide (V.int kind = V.int 3) = false := decide_eq_false fun e => hk3 (V.int.inj e)
          rw [e3]
          refine iteF (iteF ?_)
          refine ⟨_, rfl, z, _, _, _, rfl, rfl, SqL.of hG.ez, rfl, _, rfl, z, _, _, _, rfl, rfl, SqL.of hG.ez, rfl, _, rfl, z, _, _, _, rfl, rfl, SqL.of hG.ez, rfl, _, rfl, z, _, _, _, rfl, rfl, SqL.of hG.ez, rfl, (by show 4 ≤ sizeLine; decide), fun p np => ?_⟩
          have G8 := hG.new hzb hgb (o := .tup [.int s0, .int s0, .int s1, .int s1]) np
          have hpb : p ≠ b := hG.box.ne np
          refine ⟨p, [.int s0, .int s0, .int s1, .int s1], rfl, .inr (.inl (.inl upd_same)), fun J wk => lc_map wk (Dr b) (fun a b => a.trans b) (fun j y F => ∃ x : Int, y = .int x ∧ 0 ≤ x ∧ ∀ sz : Int, [s0, s0, s1, s1][j]? = some sz → x < sz) (fun j y A B _ p => p) (by show 4 < sizeLine; decide) (Dr.refl G8.box) (fun F D acc dF nF => ?_) (fun j x D acc F H' hj nD dF nF hy B hB => ?_) (fun D ys F nD dF nF hl hR => ?_)⟩
          · exact ⟨fun _ h => (same_new nF).seq (dF.sqL hpb h), fun h => Same.tup (same_new nF) (dF.sqT hpb h)⟩
          · obtain ⟨rfl, hx⟩ := hy
            have hx' : ∃ sz : Int, x = .int sz ∧ [s0, s0, s1, s1][j]? = some sz ∧ 1 ≤ sz ∧ sz ≤ wide := by
              match j, hj, hx with
              | 0, _, hx => exact ⟨s0, (Option.some.inj hx).symm, rfl, a1, a2⟩
              | 1, _, hx => exact ⟨s0, (Option.some.inj hx).symm, rfl, a1, a2⟩
              | 2, _, hx => exact ⟨s1, (Option.some.inj hx).symm, rfl, c1, c2⟩
              | 3, _, hx => exact ⟨s1, (Option.some.inj hx).symm, rfl, c1, c2⟩
            obtain ⟨sz, rfl, hsz, z1, z2⟩ := hx'
            refine hB _ F rfl nF fun Qt hq => ?_
            exact ⟨_, rfl, _, rfl, b, sz, rfl, dF.box, by omega, by omega, fun v F' v0 v1 d => hq _ _ d ⟨v, rfl, v0, fun sz' e => by rw [hsz] at e; cases e; exact v1⟩⟩
          · have hys : ∃ l : Lk, ys = endsV l ∧ okLk s0 s1 l := by
              match ys, hl with
              | [y0, y1, y2, y3], _ =>
                obtain ⟨x0, rfl, p0, q0⟩ := hR 0 _ rfl
                obtain ⟨x1, rfl, p1, q1⟩ := hR 1 _ rfl
                obtain ⟨x2, rfl, p2, q2⟩ := hR 2 _ rfl
                obtain ⟨x3, rfl, p3, q3⟩ := hR 3 _ rfl
                exact ⟨(x0, x1, x2, x3), rfl, ⟨p0, q0 _ rfl, p1, q1 _ rfl, p2, q2 _ rfl, p3, q3 _ rfl⟩⟩
            obtain ⟨l, rfl, okl⟩ := hys
            have G9 := (G8.draw hzb hgb dF).new hzb hgb (o := .lst (endsV l)) nF
            exact fin _ D l _ _ _ _ _ rfl G9 (fun e => by rw [e, G8.eg] at nD; cases nD) upd_same okl
  · obtain ⟨y6, y7, y8, y9, vs, ls, rfl, hG⟩ := h
    refine ⟨_, rfl, z, _, _, _, rfl, rfl, SqL.of hG.ez, rfl, _, rfl, z, _, _, _, rfl, rfl, SqL.of hG.ez, rfl, _, rfl, g, _, rfl, .inl ⟨SqL.of hG.eg, fun t nt => ?_⟩⟩
    refine ⟨(by show 3 ≤ sizeLine; decide), fun r nr => ?_⟩
    have s1' : Same H4 (upd H4 t (.tup vs)) := same_new nt
    have s2' : Same _ (upd (upd H4 t (.tup vs)) r (.tup [.int s0, .int s1, .ref t])) := same_new nr
    refine q ⟨s0, s1, ls⟩ _ _ ⟨a1, a2, c1, c2, by rw [hG.len]; omega, hG.ok⟩ (Dr.trans (b := b) (H1 := H4) ⟨hG.box, hG.old⟩ (Dr.of hG.box (s1'.trans s2'))) ?_
    exact .tup (.inl (.inl upd_same)) (.cons (.int _) (.cons (.int _) (.cons (.tup (.inl (.inl (s2' _ _ upd_same))) (DpAll.same (s1'.trans s2') _ hG.dp)) .nil)))
end
end XL
namespace XL
open PySem PySem.Spec PyProof.Rows L2
abbrev sLying : Stmt := topS 15
/-! ### standings as data -/
structure Sn where
  rs : List Int
  bs : List Int
  ls : List Int
def intsD (zs : List Int) : List PyData := zs.map PyData.int
def snD (s : Sn) : PyData := .tuple [.tuple (intsD s.rs), .tuple (intsD s.bs), .tuple (intsD s.ls)]
structure okSn (c : Cn) (most : Int) (s : Sn) : Prop where
  r : (s.rs.length : Int) = c.r
  b : (s.bs.length : Int) = c.b
  n : s.ls.length = c.ls.length
  r0 : ∀ x ∈ s.rs, 0 ≤ x ∧ x ≤ most
  b0 : ∀ x ∈ s.bs, 0 ≤ x ∧ x ≤ most
  l0 : ∀ x ∈ s.ls, x = 0 ∨ x = 1
theorem noLs_ints : ∀ zs : List Int, noLs (intsD zs) = true
  | [] => rfl
  | z :: zs => by show noLs (.int z :: intsD zs) = true; rw [noLs, noLs_ints zs]; rfl
theorem noL_sn (s : Sn) : noL (snD s) = true := by
  show noLs [.tuple (intsD s.rs), .tuple (intsD s.bs), .tuple (intsD s.ls)] = true
  simp [noLs, noL, noLs_ints]
section
variable {P : Program} {w : World} {K : PySem.W.Frag} {mg : Str → Option Value} {base : Heap}
theorem dp_ints {H : Hp} : ∀ zs : List Int, DpAll K H (zs.map V.int) (intsD zs)
  | [] => .nil
  | z :: zs => .cons (.int z) (dp_ints zs)
theorem dp_tints {H : Hp} {a : Addr} {zs : List Int} (h : SqT K H a (zs.map V.int)) : Dp K H (.ref a) (.tuple (intsD zs)) := .tup h (dp_ints zs)
theorem ints_of : ∀ {ys : List V}, (∀ (i : Nat) y, ys[i]? = some y → ∃ x : Int, y = .int x) → ∃ zs : List Int, ys = zs.map V.int
  | [], _ => ⟨[], rfl⟩
  | y :: ys, h => by
    obtain ⟨x, rfl⟩ := h 0 y rfl
    obtain ⟨zs, rfl⟩ := ints_of (ys := ys) fun i z e => h (i + 1) z (by simpa using e)
    exact ⟨x :: zs, rfl⟩
theorem cn_of {H : Hp} {v : V} {c : Cn} (h : Dp K H v (cnD c)) : ∃ a g vs, v = .ref a ∧ SqT K H a [.int c.r, .int c.b, .ref g] ∧ SqT K H g vs ∧ DpAll K H vs (c.ls.map lkD) := by
  cases h with
  | tup hs ha =>
    cases ha with
    | cons p1 ha => cases p1; cases ha with
      | cons p2 ha => cases p2; cases ha with
        | cons p3 ha =>
          cases ha
          cases p3 with
          | tup hg hl => exact ⟨_, _, _, rfl, hs, hg, hl⟩
abbrev nLying : List Str := ["_law_box_here", "_law_ship_way", "_law_most", "_law_boats", "_law_size", "_law_basin", "_law_gate"]
theorem scLying : FnScope nLying ["_law_box_here", "_law_ship_way", "_law_most"] (defScope sLying) := ⟨rfl, rfl, rfl, by decide +kernel, rfl, by decide +kernel, by decide +kernel⟩
def spLying (K : PySem.W.Frag) : Sp := fun vs H Q _ => ∃ (b : Addr) (v : V) (c : Cn) (most : Int), vs = [.ref b, v, .int most] ∧ Bx H b ∧ Dp K H v (cnD c) ∧ okCn 100 100 c ∧ 1 ≤ most ∧ most ≤ 1000000000000 ∧
  ∀ (s : Sn) (v' : V) (H' : Hp), okSn c most s → Dr b H H' → Dp K H' v' (snD s) → Q v' H'
theorem ok_lying {f ft fo : Addr} {fd fdt fdo : FuncData} {k : Nat} (F : Fun K "_law_lying" "_law_lying" sLying f fd) (FT : Fun K "_law_take" "_law_take" sTake ft fdt) (bT : Binds K fdt ["_law_box_here", "_law_size"] []) (gT : mg "_law_take" = some (.ref ft))
    (FO : Fun K "_law_of" "_law_of" sOf fo fdo) (bO : Binds K fdo ["_law_box_here", "_law_some"] []) (gO : mg "_law_of" = some (.ref fo)) (me : mg "len" = none) (mt : mg "tuple" = none) (mr : mg "range" = none) :
    FnOk P w K mg base CX0 (k + 1 + 1 + 1) f fd ["_law_box_here", "_law_ship_way", "_law_most"] (spLying K) := by
  have GT : FnOk P w K mg base CX0 (k + 1) ft fdt ["_law_box_here", "_law_size"] spTake := ok_take FT
  have GO : FnOk P w K mg base CX0 (k + 1 + 1) fo fdo ["_law_box_here", "_law_some"] (spOf K) := ok_of FO FT bT gT me
  refine F.ok scLying (fun vs H Q E h => ?_) (fun cdv A outer s H vs Q E hr h => ?_)
  · obtain ⟨b, v, c, most, rfl, _⟩ := h
    rfl
  obtain ⟨b, v, c, most, rfl, hb, hv, okc, m1, m2, q⟩ := h
  have hr1 : Room (k + 1) _ := hr.mono (Nat.le_succ _)
  refine ⟨_, pss_cons (ps_setLc (i := 3) (own := [("_law_size", 4)]) (g := gName 4) (tt := tYes) rfl scLying.nd rfl rfl (sw_true rfl rfl rfl (by decide +kernel)) (pi_seq (pe_slice sl_tupA (pv 1) po_none (po_some pe_int)))
      (blkOk_by (own := [("_law_size", 4)]) (N := nLying) (sc := defScope sLying) (by decide +kernel)) (fun _ _ _ _ _ => pg_name (i := 4) scLying.nd rfl (Or.inl rfl)) (fun _ _ _ _ _ => pts_nil)
      (fun _ _ _ _ _ => pe_hide (pe_lc (own := [("_law_basin", 5)]) (g := gName 5) (tt := tYes) rfl scLying.nd (pi_range1 rfl mr (pa_cons (pv 4) pa_nil)) (blkOk_by (own := [("_law_basin", 5)]) (N := nLying) rfl)
        (fun _ _ _ _ _ => pg_name (i := 5) scLying.nd rfl (Or.inl rfl)) (fun _ _ _ _ _ => pts_nil)
        (fun _ _ _ _ _ => pe_hide (pe_call GO hr rfl gO FO.kp bO .nil pass0 (pa_cons (pv 0) (pa_cons (pe_lst (pa_cons pe_int (pa_cons (pe_call GT hr1 rfl gT FT.kp bT .nil pass0 (pa_cons (pv 0) (pa_cons (pe_op op_add (pv 2) pe_int) pa_nil))) (pa_cons pe_int pa_nil)))) pa_nil)))))))
    (pss_one (ps_ret (pe_tup (pa_cons (pe_callTy call_tuple_of rfl mt boot_tuple (pa_cons (pe_ix ix_list (pv 3) pe_int (fun _ _ => rfl)) pa_nil)) (pa_cons (pe_callTy call_tuple_of rfl mt boot_tuple (pa_cons (pe_ix ix_list (pv 3) pe_int (fun _ _ => rfl)) pa_nil))
      (pa_cons (pe_callTy call_tuple_of rfl mt boot_tuple (pa_cons (pe_lc (own := [("_law_gate", 6)]) (g := gName 6) (tt := tYes) rfl scLying.nd (pi_seq (pe_ix ix_tup (pv 1) pe_int (fun _ _ => rfl))) (blkOk_by (own := [("_law_gate", 6)]) (N := nLying) (sc := defScope sLying) (by decide +kernel))
        (fun _ _ _ _ _ => pg_name (i := 6) scLying.nd rfl (Or.inl rfl)) (fun _ _ _ _ _ => pts_nil) (fun _ _ _ _ _ => pe_hide (pe_call GT hr1 rfl gT FT.kp bT .nil pass0 (pa_cons (pv 0) (pa_cons pe_int pa_nil))))) pa_nil)) pa_nil)))))), ?_⟩
  obtain ⟨a, g, gs, rfl, ha, hg, hgs⟩ := cn_of hv
  -- ship_way[:2]
  refine ⟨_, rfl, 2, rfl, a, _, rfl, ha, fun e => absurd e.2 (by show ¬ (2 = 3); decide), fun _ p np => ?_⟩
  have d1 : Dr b H (upd H p (.tup [.int c.r, .int c.b])) := Dr.new hb np
  have hpb : p ≠ b := hb.ne np
  have okr : 1 ≤ c.r ∧ c.r ≤ 100 := ⟨okc.r1, okc.r2⟩
  have okb : 1 ≤ c.b ∧ c.b ≤ 100 := ⟨okc.b1, okc.b2⟩
  refine ⟨p, [.int c.r, .int c.b], rfl, .inr (.inl (.inl upd_same)), fun J wk => lc_map wk (Dr b) (fun a b => a.trans b)
    (fun i y F => ∃ (l : Addr) (zs : List Int), y = .ref l ∧ l ≠ b ∧ F l = some (.lst (zs.map V.int)) ∧ (∀ n : Int, [c.r, c.b][i]? = some n → (zs.length : Int) = n) ∧ ∀ z ∈ zs, 0 ≤ z ∧ z ≤ most)
    (fun i y A B d ⟨l, zs, e, n, el, r⟩ => ⟨l, zs, e, n, d.same l _ n el, r⟩) (by show 2 < sizeLine; decide) (Dr.refl d1.box) (fun F D acc dF nF => ?_) (fun i x D acc F H' hi nD dF nF hy B hB => ?_) (fun D ys F nD dF nF hl hR => ?_)⟩
  · exact ⟨fun _ h => (same_new nF).seq (dF.sqL hpb h), fun h => Same.tup (same_new nF) (dF.sqT hpb h)⟩
  · obtain ⟨rfl, hx⟩ := hy
    have hx' : ∃ n : Int, x = .int n ∧ [c.r, c.b][i]? = some n ∧ 1 ≤ n ∧ n ≤ 100 := by
      match i, hi, hx with
      | 0, _, hx => exact ⟨c.r, (Option.some.inj hx).symm, rfl, okr⟩
      | 1, _, hx => exact ⟨c.b, (Option.some.inj hx).symm, rfl, okb⟩
    obtain ⟨n, rfl, hn, n1, n2⟩ := hx'
    refine hB _ F rfl nF fun Qt hq => ?_
    -- the inner row
    refine ⟨_, rfl, n, rfl, by omega, by omega, lc_map walk_range (Dr b) (fun a b => a.trans b) (fun j y F => ∃ z : Int, y = .int z ∧ 0 ≤ z ∧ z ≤ most) (fun j y A B _ p => p) (small1000 (by omega)) (Dr.refl dF.box) (fun _ _ _ _ _ => trivial) (fun j x D2 acc2 F2 H2 hj nD2 dF2 nF2 hy B hB => ?_) (fun D2 ys F2 nD2 dF2 nF2 hl hR => ?_)⟩
    · obtain ⟨rfl, rfl⟩ := hy
      refine hB _ F2 rfl nF2 fun Qt hq => ?_
      refine ⟨_, rfl, _, rfl, _, rfl, _, _, rfl, rfl, b, _, rfl, dF2.box, by omega, by omega, fun v F3 v0 v1 d3 => ?_⟩
      refine ⟨(by show 3 ≤ sizeLine; decide), fun l nl => ?_⟩
      have d4 : Dr b F3 (upd F3 l (.lst [.int 0, .int v, .int 1])) := Dr.new d3.box nl
      refine ⟨b, l, [.int 0, .int v, .int 1], rfl, d4.box, d3.box.ne nl, SqL.of upd_same, by simp, by show 3 < 1000; decide, fun j2 u F5 ej d5 => ?_⟩
      refine hq _ _ (d3.trans (d4.trans d5)) ?_
      match j2, ej with
      | 0, ej => exact ⟨0, (Option.some.inj ej).symm, by omega, by omega⟩
      | 1, ej => exact ⟨v, (Option.some.inj ej).symm, v0, by omega⟩
      | 2, ej => exact ⟨1, (Option.some.inj ej).symm, by omega, by omega⟩
    · obtain ⟨zs, rfl⟩ := ints_of fun j y e => let ⟨z, ez, _⟩ := hR j y e; ⟨z, ez⟩
      refine hq _ _ (dF2.trans (Dr.new dF2.box nF2)) ⟨D2, zs, rfl, dF.box.ne nD2, upd_same, fun n' e => ?_, fun z hz => ?_⟩
      · rw [hn] at e; cases e
        rw [List.length_map] at hl
        rw [hl]; omega
      · obtain ⟨j, ej⟩ := List.getElem?_of_mem hz
        obtain ⟨z', e', h1, h2⟩ := hR j (.int z) (by rw [List.getElem?_map, ej]; rfl)
        cases e'
        exact ⟨h1, h2⟩
  · -- boats
    have hys : ∃ (l0 l1 : Addr) (z0 z1 : List Int), ys = [.ref l0, .ref l1] ∧ l0 ≠ b ∧ l1 ≠ b ∧ F l0 = some (.lst (z0.map V.int)) ∧ F l1 = some (.lst (z1.map V.int)) ∧ (z0.length : Int) = c.r ∧ (z1.length : Int) = c.b ∧ (∀ z ∈ z0, 0 ≤ z ∧ z ≤ most) ∧ (∀ z ∈ z1, 0 ≤ z ∧ z ≤ most) := by
      match ys, hl with
      | [y0, y1], _ =>
        obtain ⟨l0, z0, rfl, n0, e0, r0, w0⟩ := hR 0 _ rfl
        obtain ⟨l1, z1, rfl, n1, e1, r1, w1⟩ := hR 1 _ rfl
        exact ⟨l0, l1, z0, z1, rfl, n0, n1, e0, e1, r0 _ rfl, r1 _ rfl, w0, w1⟩
    obtain ⟨l0, l1, z0, z1, rfl, n0, n1, e0, e1, r0, r1, w0, w1⟩ := hys
    have sD : Same F (upd F D (.lst [.ref l0, .ref l1])) := same_new nF
    have dD : Dr b H (upd F D (.lst [.ref l0, .ref l1])) := d1.trans (dF.trans (Dr.new dF.box nF))
    refine ⟨_, rfl, D, _, _, _, rfl, rfl, SqL.of upd_same, rfl, l0, _, rfl, .inl ⟨SqL.of (sD _ _ e0), fun t0 nt0 => ?_⟩⟩
    have s0 : Same _ (upd (upd F D (.lst [.ref l0, .ref l1])) t0 (.tup (z0.map V.int))) := same_new nt0
    refine ⟨_, rfl, D, _, _, _, rfl, rfl, SqL.of (s0 _ _ upd_same), rfl, l1, _, rfl, .inl ⟨SqL.of (s0 _ _ (sD _ _ e1)), fun t1 nt1 => ?_⟩⟩
    have s1 : Same _ (upd (upd (upd F D (.lst [.ref l0, .ref l1])) t0 (.tup (z0.map V.int))) t1 (.tup (z1.map V.int))) := same_new nt1
    have d2 : Dr b H (upd (upd (upd F D (.lst [.ref l0, .ref l1])) t0 (.tup (z0.map V.int))) t1 (.tup (z1.map V.int))) := dD.trans (Dr.of dD.box (s0.trans s1))
    have tpH := Dr.tp hb d2
    have hgb : SqT K _ g gs := tpH.sqT hg
    refine ⟨_, rfl, a, _, _, _, rfl, rfl, tpH.sqT ha, rfl, g, gs, rfl, .inr hgb, fun J wk => lc_map wk (Dr b) (fun a b => a.trans b) (fun j y F => ∃ z : Int, y = .int z ∧ (z = 0 ∨ z = 1)) (fun j y A B _ p => p) (by rw [DpAll.length hgs, List.length_map]; exact small1000 (by have := okc.n; omega)) (Dr.refl d2.box) (fun F2 D2 acc dF2 nF2 => ?_) (fun i x D2 acc F2 H' hi nD2 dF2 nF2 hy B hB => ?_) (fun D2 ys2 F2 nD2 dF2 nF2 hl2 hR2 => ?_)⟩
    · exact ⟨fun n _ => absurd hgb n, fun h => Same.tup (same_new nF2) ((Dr.tp d2.box dF2).sqT h)⟩
    · obtain ⟨rfl, hx⟩ := hy
      refine hB _ F2 rfl nF2 fun Qt hq => ?_
      exact ⟨_, rfl, b, 2, rfl, dF2.box, by decide, by decide, fun v F' v0 v1 d => hq _ _ d ⟨v, rfl, by omega⟩⟩
    · obtain ⟨zs, rfl⟩ := ints_of fun j y e => let ⟨z, ez, _⟩ := hR2 j y e; ⟨z, ez⟩
      refine ⟨D2, _, rfl, .inl ⟨SqL.of upd_same, fun t2 nt2 => ⟨(by show 3 ≤ sizeLine; decide), fun r nr => ?_⟩⟩⟩
      have sa : Same F2 (upd F2 D2 (.lst (zs.map V.int))) := same_new nF2
      have sb : Same _ (upd (upd F2 D2 (.lst (zs.map V.int))) t2 (.tup (zs.map V.int))) := same_new nt2
      have sc : Same _ (upd (upd (upd F2 D2 (.lst (zs.map V.int))) t2 (.tup (zs.map V.int))) r (.tup [.ref t0, .ref t1, .ref t2])) := same_new nr
      have tp3 := (Dr.tp d2.box dF2).trans (Tp.of (sa.trans (sb.trans sc)))
      refine q ⟨z0, z1, zs⟩ _ _ ⟨r0, r1, ?_, w0, w1, fun x hx => ?_⟩ (d2.trans (dF2.trans (Dr.of dF2.box (sa.trans (sb.trans sc))))) ?_
      · rw [List.length_map, DpAll.length hgs, List.length_map] at hl2; exact hl2
      · obtain ⟨j, ej⟩ := List.getElem?_of_mem hx
        obtain ⟨z', e', h1⟩ := hR2 j (.int x) (by rw [List.getElem?_map, ej]; rfl)
        cases e'
        exact h1
      · exact .tup (.inl (.inl upd_same)) (.cons (dp_tints (.inl (.inl (tp3.t _ _ (s1 _ _ upd_same))))) (.cons (dp_tints (.inl (.inl (tp3.t _ _ upd_same)))) (.cons (dp_tints (.inl (.inl (sc _ _ upd_same)))) .nil)))
end
end XL
namespace XL
open PySem PySem.Spec PyProof.Rows L2
abbrev sNum : Stmt := topS 1
abbrev sFrom : Stmt := topS 2
abbrev sPlace : Stmt := topS 3
abbrev sTupOf : Stmt := topS 4
/-! ### helpers -/
theorem PE.imp {X : Cx} {e : Expr} {t t' : TE} (h : PE X e t) (i : ∀ σ H Q, t' σ H Q → t σ H Q) : PE X e t' := ⟨fun pins s σ H Q I q => h.run pins s σ H Q I (i σ H Q q)⟩
theorem at_s {T : L2.St → Hp → Prop} {σ σ' : L2.St} {H : Hp} (e : σ = σ') (h : T σ' H) : T σ H := e ▸ h
theorem at_g {i : Nat} {x : V} {σ σ' : L2.St} {H : Hp} {N : L2.St → Hp → Prop} (e : σ.set i (some x) = σ') (h : N σ' H) : gName i x σ H N := by
  subst e; exact h
structure Fns (P : Program) (w : World) (K : PySem.W.Frag) (mg : Str → Option Value) (base : Heap) (n : Nat) (name : Str) (ps : List Str) (sp : Sp) (f : Addr) (fd : FuncData) : Prop where
  ok : FnOk P w K mg base CX0 n f fd ps sp
  g : mg name = some (.ref f)
  k : PySem.W.keepIn K (.ref f) = true
  b : Binds K fd ps []
theorem pe_fn {X : Cx} {n : Nat} {name : Str} {ps : List Str} {sp : Sp} {f : Addr} {fd : FuncData} {p pos : Pos} {e : Expr} {es : List Expr} {t : TA} (F : Fns X.prog X.w X.K X.mg X.base n name ps sp f fd) (hr : Room n X.A) (hg : Gl X name) (ha : PA X (e :: es) t)
    (hdb : (name == ("__debug__" : Str)) = false := by decide) (he : starEach (e :: es) X.env = (false, eval e X.env) :: starEach es X.env := by rfl) (hpl : (backTo pos (starEach es X.env)).any (·.1) = false := by rfl) (hx : Passes CX0 X E0 := by exact pass0) :
    PE X (.Call (.Name name p) (e :: es) [] pos) (tCall sp [] E0 t) := pe_call F.ok hr hg F.g F.k F.b .nil hx ha hdb he hpl
def intB : PyData → Bool
  | .int _ => true | .bool _ => true | _ => false
def isL : PyData → Bool
  | .list _ => true | _ => false
def isT : PyData → Bool
  | .tuple _ => true | _ => false
section
variable {K : PySem.W.Frag}
theorem kit_intB (d : PyData) : PySem.W.kitOne K (tyD d) (.type "int") = some (intB d) := by cases d <;> first | exact kitf (by decide +kernel) | exact kitt (by decide +kernel)
theorem kit_isL (d : PyData) : PySem.W.kitOne K (tyD d) (.type "list") = some (isL d) := by cases d <;> first | exact kitf (by decide +kernel) | exact kitt (by decide +kernel)
theorem kit_isT (d : PyData) : PySem.W.kitOne K (tyD d) (.type "tuple") = some (isT d) := by cases d <;> first | exact kitf (by decide +kernel) | exact kitt (by decide +kernel)
end
def rIsD (K : PySem.W.Frag) (T : String) (f : PyData → Bool) : List V → Hp → VK → Prop := fun xs H Q => ∃ v d, xs = [v, .ty T] ∧ Dp K H v d ∧ Q (.bl (f d)) H
theorem call_isD {X : Cx} {T : String} {f : PyData → Bool} (hf : ∀ d, PySem.W.kitOne X.K (tyD d) (.type T) = some (f d)) : CallR X (.builtin "isinstance") (rIsD X.K T f) := by
  intro pins s σ H xs us Q I r h
  obtain ⟨v, d, rfl, hd, q⟩ := h
  exact call_isi pins s σ H _ us Q I r ⟨_, _, _, _, _, rfl, .ty _, tyx_of hd, hf d, q⟩
/-- len of a list or tuple of data -/
theorem call_lenD {X : Cx} : CallR X (.builtin "len") (fun xs H Q => ∃ v d, xs = [v] ∧ Dp X.K H v d ∧ isSeq d = true ∧ Q (.int (itemsD d).length) H) := by
  intro pins s σ H xs us Q I r h
  obtain ⟨v, d, rfl, hd, hs, q⟩ := h
  obtain ⟨a, ys, rfl, hq, ha⟩ := seq_of hd hs
  exact call_len_seq pins s σ H _ us Q I r ⟨a, ys, rfl, hq, by rw [DpAll.length ha]; exact q⟩
/-! ### the look -/
def numB : PyData → Bool
  | .int _ => true | _ => false
def fromB (l : Int) : PyData → Bool
  | .int i => decide (l ≤ i) | _ => false
def placeB (n : Int) : PyData → Bool
  | .int i => if 0 ≤ i then decide (i < n) else false
  | _ => false
def tupB (n : Int) : PyData → Bool
  | .tuple ds => decide ((ds.length : Int) = n) | _ => false
section
variable {P : Program} {w : World} {K : PySem.W.Frag} {mg : Str → Option Value} {base : Heap}
theorem scNum : FnScope ["thing"] ["thing"] (defScope sNum) := ⟨rfl, rfl, rfl, by decide +kernel, rfl, by decide +kernel, by decide +kernel⟩
def spNum (K : PySem.W.Frag) : Sp := fun vs H Q _ => ∃ (v : V) (d : PyData), vs = [v] ∧ Dp K H v d ∧ Q (.bl (numB d)) H
theorem num_of {A B : Prop} {d : PyData} (hd : ∀ k, d ≠ .dict k) (h1 : numB d = true → intB d = true → isB d = false → A) (h2 : numB d = false → intB d = false → B) (h3 : numB d = false → intB d = true → isB d = true → A) : if intB d = true then A else B := by
  cases d with
  | int i => exact iteT (h1 rfl rfl rfl)
  | bool b => exact iteT (h3 rfl rfl rfl)
  | dict k => exact absurd rfl (hd k)
  | _ => exact iteF (h2 rfl rfl)
theorem ok_num {f : Addr} {fd : FuncData} {k : Nat} (F : Fun K "is_number" "is_number" sNum f fd) (mi : mg "isinstance" = none) (mn : mg "int" = none) (mb : mg "bool" = none) : FnOk P w K mg base CX0 (k + 1) f fd ["thing"] (spNum K) := by
  refine F.ok scNum (fun vs H Q E h => ?_) (fun cdv A outer s H vs Q E hr h => ?_)
  · obtain ⟨v, d, rfl, _⟩ := h
    rfl
  obtain ⟨v, d, rfl, hd, q⟩ := h
  refine ⟨_, pss_one (ps_ret (pe_and (pe_callB (call_isD kit_intB) rfl mi boot_isinstance (pa_cons (pv 0) (pa_cons (pe_bltn (v := .ty "int") rfl mn boot_int' rfl) pa_nil))) (pe_one (pe_not (pe_callB (call_isD kit_bool) rfl mi boot_isinstance (pa_cons (pv 0) (pa_cons (pe_bltn (v := .ty "bool") rfl mb boot_bool' rfl) pa_nil))))))), ?_⟩
  refine ⟨_, rfl, v, d, rfl, hd, _, rfl, num_of (Dp.nodict hd) (fun e _ e2 => ?_) (fun e e1 => ?_) (fun e _ e2 => ?_)⟩
  · refine ⟨_, rfl, v, d, rfl, hd, _, rfl, ?_⟩
    rw [e] at q; rw [e2]; exact q
  · rw [e] at q; exact q
  · refine ⟨_, rfl, v, d, rfl, hd, _, rfl, ?_⟩
    rw [e] at q; rw [e2]; exact q
/-! ### is_number_from -/
theorem scFrom : FnScope ["thing", "least"] ["thing", "least"] (defScope sFrom) := ⟨rfl, rfl, rfl, by decide +kernel, rfl, by decide +kernel, by decide +kernel⟩
def spFrom (K : PySem.W.Frag) : Sp := fun vs H Q _ => ∃ (v : V) (d : PyData) (l : Int), vs = [v, .int l] ∧ Dp K H v d ∧ Q (.bl (fromB l d)) H
theorem ok_from {f fn : Addr} {fd fdn : FuncData} {k : Nat} (F : Fun K "is_number_from" "is_number_from" sFrom f fd) (N : Fns P w K mg base k "is_number" ["thing"] (spNum K) fn fdn) : FnOk P w K mg base CX0 (k + 1) f fd ["thing", "least"] (spFrom K) := by
  refine F.ok scFrom (fun vs H Q E h => ?_) (fun cdv A outer s H vs Q E hr h => ?_)
  · obtain ⟨v, d, l, rfl, _⟩ := h
    rfl
  obtain ⟨v, d, l, rfl, hd, q⟩ := h
  refine ⟨_, pss_one (ps_ret (pe_and (pe_fn N hr rfl (pa_cons (pv 0) pa_nil)) (pe_one (pe_cmpR op_ge (pv 0) (pv 1) (nomark _))))), ?_⟩
  refine ⟨_, rfl, v, d, rfl, hd, _, rfl, ?_⟩
  cases hd with
  | int i => exact iteT ⟨_, rfl, _, rfl, _, _, rfl, rfl, q⟩
  | _ => exact iteF q
/-! ### is_place -/
theorem scPlace : FnScope ["thing", "many"] ["thing", "many"] (defScope sPlace) := ⟨rfl, rfl, rfl, by decide +kernel, rfl, by decide +kernel, by decide +kernel⟩
def spPlace (K : PySem.W.Frag) : Sp := fun vs H Q _ => ∃ (v : V) (d : PyData) (n : Int), vs = [v, .int n] ∧ Dp K H v d ∧ Q (.bl (placeB n d)) H
theorem ok_place {f fn : Addr} {fd fdn : FuncData} {k : Nat} (F : Fun K "is_place" "is_place" sPlace f fd) (N : Fns P w K mg base k "is_number" ["thing"] (spNum K) fn fdn) : FnOk P w K mg base CX0 (k + 1) f fd ["thing", "many"] (spPlace K) := by
  refine F.ok scPlace (fun vs H Q E h => ?_) (fun cdv A outer s H vs Q E hr h => ?_)
  · obtain ⟨v, d, l, rfl, _⟩ := h
    rfl
  obtain ⟨v, d, l, rfl, hd, q⟩ := h
  refine ⟨_, pss_one (ps_ret (pe_and (pe_fn N hr rfl (pa_cons (pv 0) pa_nil)) (pe_one (pe_chain op_le op_lt pe_int (pv 0) (pv 1))))), ?_⟩
  refine ⟨_, rfl, v, d, rfl, hd, _, rfl, ?_⟩
  cases hd with
  | int i =>
    refine iteT ⟨_, rfl, _, _, rfl, rfl, _, rfl, ?_⟩
    by_cases c : 0 ≤ i
    · have e : placeB l (.int i) = decide (i < l) := if_pos c
      rw [e] at q
      rw [decide_eq_true c]
      exact iteT ⟨_, rfl, _, _, rfl, rfl, q⟩
    · have e : placeB l (.int i) = false := if_neg c
      rw [e] at q
      rw [decide_eq_false c]
      exact iteF q
  | _ => exact iteF q
/-! ### is_tuple_of -/
theorem scTupOf : FnScope ["thing", "many"] ["thing", "many"] (defScope sTupOf) := ⟨rfl, rfl, rfl, by decide +kernel, rfl, by decide +kernel, by decide +kernel⟩
def spTupOf (K : PySem.W.Frag) : Sp := fun vs H Q _ => ∃ (v : V) (d : PyData) (n : Int), vs = [v, .int n] ∧ Dp K H v d ∧ Q (.bl (tupB n d)) H
theorem ok_tupof {f : Addr} {fd : FuncData} {k : Nat} (F : Fun K "is_tuple_of" "is_tuple_of" sTupOf f fd) (mi : mg "isinstance" = none) (mt : mg "tuple" = none) (me : mg "len" = none) : FnOk P w K mg base CX0 (k + 1) f fd ["thing", "many"] (spTupOf K) := by
  refine F.ok scTupOf (fun vs H Q E h => ?_) (fun cdv A outer s H vs Q E hr h => ?_)
  · obtain ⟨v, d, l, rfl, _⟩ := h
    rfl
  obtain ⟨v, d, l, rfl, hd, q⟩ := h
  refine ⟨_, pss_one (ps_ret (pe_and (pe_callB (call_isD kit_isT) rfl mi boot_isinstance (pa_cons (pv 0) (pa_cons (pe_bltn (v := .ty "tuple") rfl mt boot_tuple rfl) pa_nil))) (pe_one (pe_cmpR op_eq (pe_callB call_lenD rfl me PySem.boot_len (pa_cons (pv 0) pa_nil)) (pv 1) (nomark _))))), ?_⟩
  refine ⟨_, rfl, v, d, rfl, hd, _, rfl, ?_⟩
  have hd' := hd
  cases hd with
  | tup h1 h2 =>
    rename_i a xs ds
    refine iteT ⟨_, rfl, _, _, rfl, hd', rfl, _, rfl, rfl, ?_⟩
    have e : decide (V.int ((itemsD (.tuple ds)).length : Int) = V.int l) = tupB l (.tuple ds) := by
      show decide (V.int (ds.length : Int) = V.int l) = decide ((ds.length : Int) = l)
      by_cases c : (ds.length : Int) = l
      · rw [c, decide_eq_true rfl, decide_eq_true rfl]
      · rw [decide_eq_false c, decide_eq_false (fun z => c (V.int.inj z))]
    have q2 := q
    rw [← e] at q2
    exact q2
  | _ => exact iteF q
theorem tup4 {n : Nat} {d : PyData} (h : tupB n d = true) : ∃ ds, d = .tuple ds ∧ ds.length = n := by
  cases d with
  | tuple ds => exact ⟨ds, rfl, by have := of_decide_eq_true h; omega⟩
  | _ => cases h
end
end XL
namespace XL
open PySem PySem.Spec PyProof.Rows L2
abbrev sCount : Stmt := topS 10
abbrev sRow : Stmt := topS 11
theorem len_le_weight : ∀ ds : List PyData, ds.length ≤ PyData.weightAll ds
  | [] => Nat.le_refl _
  | d :: ds => by
    have := len_le_weight ds
    simp only [List.length_cons, PyData.weightAll]; omega
theorem mem_weight : ∀ {ds : List PyData} {d : PyData}, d ∈ ds → d.weight + 1 ≤ PyData.weightAll ds
  | [], _, h => by simp at h
  | e :: ds, d, h => by
    rcases List.mem_cons.mp h with q | q
    · rw [q]; simp only [PyData.weightAll]; omega
    · have := mem_weight q; simp only [PyData.weightAll]; omega
theorem fit_len {n : Nat} (h : n ≤ 300000) : n < sizeLine := by rw [sizeLine_eq]; omega
/-- a list of answers -/
theorem bls_map {f : PyData → Bool} : ∀ {ys : List V} {ds : List PyData}, ys.length = ds.length → (∀ (i : Nat) y, ys[i]? = some y → ∃ d, ds[i]? = some d ∧ y = .bl (f d)) → ys = (ds.map f).map V.bl
  | [], [], _, _ => rfl
  | [], _ :: _, h, _ => by simp at h
  | _ :: _, [], h, _ => by simp at h
  | y :: ys, d :: ds, h, hi => by
    obtain ⟨d', e, p⟩ := hi 0 y rfl
    have e' : d = d' := by simpa using e
    subst e'
    have r := bls_map (f := f) (ys := ys) (ds := ds) (by simpa using h) fun i z q => by
      have := hi (i + 1) z (by simpa using q)
      simpa using this
    rw [List.map_cons, List.map_cons, ← r, p]
theorem all_map {α : Type} {f : α → Bool} : ∀ ds : List α, (ds.map f).all id = ds.all f
  | [] => rfl
  | d :: ds => by rw [List.map_cons, List.all_cons, List.all_cons, all_map ds]; rfl
section
variable {P : Program} {w : World} {K : PySem.W.Frag} {mg : Str → Option Value} {base : Heap}
theorem tup_of {H : Hp} {v : V} {ds : List PyData} (h : Dp K H v (.tuple ds)) : ∃ a xs, v = .ref a ∧ SqT K H a xs ∧ DpAll K H xs ds := by
  cases h with
  | tup h1 h2 => exact ⟨_, _, rfl, h1, h2⟩
/-! ### _law_count -/
theorem scCount : FnScope ["_law_item"] ["_law_item"] (defScope sCount) := ⟨rfl, rfl, rfl, by decide +kernel, rfl, by decide +kernel, by decide +kernel⟩
theorem ok_count {f : Addr} {fd : FuncData} {k : Nat} (F : Fun K "_law_count" "_law_count" sCount f fd) (mi : mg "isinstance" = none) (mn : mg "int" = none) (mb : mg "bool" = none) : FnOk P w K mg base CX0 (k + 1) f fd ["_law_item"] (spNum K) := by
  refine F.ok scCount (fun vs H Q E h => ?_) (fun cdv A outer s H vs Q E hr h => ?_)
  · obtain ⟨v, d, rfl, _⟩ := h
    rfl
  obtain ⟨v, d, rfl, hd, q⟩ := h
  refine ⟨_, pss_one (ps_ret (pe_and (pe_callB (call_isD kit_intB) rfl mi boot_isinstance (pa_cons (pv 0) (pa_cons (pe_bltn (v := .ty "int") rfl mn boot_int' rfl) pa_nil))) (pe_one (pe_not (pe_callB (call_isD kit_bool) rfl mi boot_isinstance (pa_cons (pv 0) (pa_cons (pe_bltn (v := .ty "bool") rfl mb boot_bool' rfl) pa_nil))))))), ?_⟩
  refine ⟨_, rfl, v, d, rfl, hd, _, rfl, num_of (Dp.nodict hd) (fun e _ e2 => ?_) (fun e e1 => ?_) (fun e _ e2 => ?_)⟩
  · refine ⟨_, rfl, v, d, rfl, hd, _, rfl, ?_⟩
    rw [e] at q; rw [e2]; exact q
  · rw [e] at q; exact q
  · refine ⟨_, rfl, v, d, rfl, hd, _, rfl, ?_⟩
    rw [e] at q; rw [e2]; exact q
/-! ### _law_row_of_numbers -/
abbrev nRow : List Str := ["_law_item", "_law_size", "_law_is_list", "_law_fine", "_law_mine"]
theorem scRow : FnScope nRow ["_law_item", "_law_size", "_law_is_list"] (defScope sRow) := ⟨rfl, rfl, rfl, by decide +kernel, rfl, by decide +kernel, by decide +kernel⟩
def rowB (n : Int) : PyData → Bool
  | .tuple ds => decide ((ds.length : Int) = n) && ds.all numB
  | _ => false
def spRow (K : PySem.W.Frag) : Sp := fun vs H Q _ => ∃ (v : V) (d : PyData) (n : Int), vs = [v, .int n, .bl false] ∧ Dp K H v d ∧ d.weight ≤ 300000 ∧ ∀ H', Same H H' → Q (.bl (rowB n d)) H'
theorem ok_row {f fc : Addr} {fd fdc : FuncData} {k : Nat} (F : Fun K "_law_row_of_numbers" "_law_row_of_numbers" sRow f fd) (C : Fns P w K mg base k "_law_count" ["_law_item"] (spNum K) fc fdc) (mi : mg "isinstance" = none) (ml : mg "list" = none) (mt : mg "tuple" = none) (me : mg "len" = none) (ma : mg "all" = none) :
    FnOk P w K mg base CX0 (k + 1) f fd ["_law_item", "_law_size", "_law_is_list"] (spRow K) := by
  refine F.ok scRow (fun vs H Q E h => ?_) (fun cdv A outer s H vs Q E hr h => ?_)
  · obtain ⟨v, d, n, rfl, _⟩ := h
    rfl
  obtain ⟨v, d, n, rfl, hd, hw, q⟩ := h
  refine ⟨_, pss_cons (ps_set (i := 3) scRow.nd rfl (.inl rfl) (pe_ifExp (pt_val (pv 2)) (pe_callB (call_isD kit_isL) rfl mi boot_isinstance (pa_cons (pv 0) (pa_cons (pe_bltn (v := .ty "list") rfl ml boot_list rfl) pa_nil))) (pe_callB (call_isD kit_isT) rfl mi boot_isinstance (pa_cons (pv 0) (pa_cons (pe_bltn (v := .ty "tuple") rfl mt boot_tuple rfl) pa_nil)))))
    (pss_one (ps_ret (pe_and (pv 3) (pe_and (pe_cmpR op_eq (pe_callB call_lenD rfl me PySem.boot_len (pa_cons (pv 0) pa_nil)) (pv 1) (nomark _)) (pe_one (pe_callB (cr_all rfl) rfl ma boot_all (pa_cons (pe_lc (own := [("_law_mine", 4)]) (g := gName 4) (tt := tYes) rfl scRow.nd (pi_seq (pv 0)) (blkOk_by (own := [("_law_mine", 4)]) (N := nRow) (sc := defScope sRow) (by decide +kernel)) (fun _ _ _ _ _ => pg_name (i := 4) scRow.nd rfl (Or.inl rfl)) (fun _ _ _ _ _ => pts_nil)
      (fun _ _ _ _ _ => pe_hide (pe_fn C hr rfl (pa_cons (pv 4) pa_nil)))) pa_nil))))))), ?_⟩
  refine ⟨_, rfl, false, rfl, iteF ⟨_, rfl, v, d, rfl, hd, ?_⟩⟩
  refine at_g (σ' := [some v, some (.int n), some (.bl false), some (.bl (isT d)), none]) rfl ?_
  refine ⟨_, rfl, _, rfl, ?_⟩
  have hd' := hd
  cases hd with
  | tup hs ha =>
    rename_i a xs ds
    have hlen : xs.length = ds.length := DpAll.length ha
    have hls : ds.length ≤ 300000 := Nat.le_trans (len_le_weight ds) hw
    refine iteT ⟨_, rfl, _, _, rfl, hd', rfl, _, rfl, rfl, _, rfl, ?_⟩
    have e0 : decide (V.int ((itemsD (.tuple ds)).length : Int) = V.int n) = decide ((ds.length : Int) = n) := by
      show decide (V.int (ds.length : Int) = V.int n) = _
      by_cases c : (ds.length : Int) = n
      · rw [c, decide_eq_true rfl, decide_eq_true rfl]
      · rw [decide_eq_false c, decide_eq_false (fun z => c (V.int.inj z))]
    rw [e0]
    have e1 : rowB n (.tuple ds) = (decide ((ds.length : Int) = n) && ds.all numB) := rfl
    rw [e1] at q
    cases c : decide ((ds.length : Int) = n) with
    | false => rw [c] at q; exact iteF (q H (Same.refl _))
    | true =>
      rw [c] at q
      refine iteT ⟨_, rfl, a, xs, rfl, .inr hs, fun J wk => lc_map wk Same (fun a b => a.trans b) (fun i y F => ∃ d, ds[i]? = some d ∧ y = .bl (numB d)) (fun i y A B s p => p) (by rw [hlen]; exact fit_len hls) (Same.refl _) (fun F D acc sF nF => ?_) (fun i x D acc F H' hi nD sF nF hy B hB => ?_) (fun D ys F nD sF nF hl hR => ?_)⟩
      · have sD : Same _ (upd F D (.lst acc)) := sF.trans (same_new nF)
        exact ⟨fun _ z => sD.seq z, fun z => Same.tup sD z⟩
      · obtain ⟨rfl, hx⟩ := hy
        obtain ⟨e, he, hp⟩ := DpAll.get ha hx
        refine hB _ F rfl nF fun Qt hq => ?_
        exact ⟨x, rfl, x, e, rfl, Dp.same sF e hp, hq _ _ (Same.refl _) ⟨e, he, rfl⟩⟩
      · have eys := bls_map (f := numB) (by rw [hl, hlen]) hR
        refine ⟨D, ds.map numB, rfl, ?_, ?_⟩
        · rw [← eys]; exact SqL.of upd_same
        · rw [all_map]
          exact q _ (sF.trans (same_new nF))
  | _ => exact iteF (q H (Same.refl _))
end
end XL
namespace XL
open PySem PySem.Spec PyProof.Rows L2 RZ
abbrev sBoats : Stmt := topS 6
abbrev sStands : Stmt := topS 7
abbrev sIsSt : Stmt := topS 8
abbrev sDue : Stmt := topS 22
def boatsB (n : Int) : PyData → Bool
  | .tuple ds => decide ((ds.length : Int) = n) && ds.all (fromB 0)
  | _ => false
def standsB (n : Int) : PyData → Bool
  | .tuple ds => decide ((ds.length : Int) = n) && ds.all (placeB 2)
  | _ => false
def standB (r b n : Int) : PyData → Bool
  | .tuple [x, y, z] => boatsB r x && boatsB b y && standsB n z
  | _ => false
section
variable {P : Program} {w : World} {K : PySem.W.Frag} {mg : Str → Option Value} {base : Heap}
/-- a canal of tuples or of lists -/
structure CnA (K : PySem.W.Frag) (H : Hp) (v : V) (c : Cn) : Prop where
  ex : ∃ a g vs, v = .ref a ∧ Sq2 K H a [.int c.r, .int c.b, .ref g] ∧ Sq2 K H g vs ∧ vs.length = c.ls.length
theorem cnA_t {H : Hp} {v : V} {c : Cn} (h : Dp K H v (cnD c)) : CnA K H v c := by
  obtain ⟨a, g, vs, e, ha, hg, hl⟩ := cn_of h
  exact ⟨a, g, vs, e, .inr ha, .inr hg, by rw [DpAll.length hl, List.length_map]⟩
theorem cnA_l {H : Hp} {v : V} {c : Cn} (h : Dp K H v (lstD (cnD c))) : CnA K H v c := by
  have e : lstD (cnD c) = .list [.int c.r, .int c.b, .list ((c.ls.map lkD).map lstD)] := by
    show PyData.list [.int c.r, .int c.b, .list (lstDs (c.ls.map lkD))] = _
    rw [lstDs_eq]
  rw [e] at h
  cases h with
  | lst hs ha =>
    cases ha with
    | cons p1 ha => cases p1; cases ha with
      | cons p2 ha => cases p2; cases ha with
        | cons p3 ha =>
          cases ha
          cases p3 with
          | lst hg hl => exact ⟨_, _, _, rfl, .inl hs, .inl hg, by rw [DpAll.length hl, List.length_map, List.length_map]⟩
/-- is_tuple_of(thing, many) and all([f(x) for x in thing]) -/
theorem scBoats : FnScope ["thing", "many", "boats"] ["thing", "many"] (defScope sBoats) := ⟨rfl, rfl, rfl, by decide +kernel, rfl, by decide +kernel, by decide +kernel⟩
def spRowF (K : PySem.W.Frag) (g : Int → PyData → Bool) : Sp := fun vs H Q _ => ∃ (v : V) (d : PyData) (n : Int), vs = [v, .int n] ∧ Dp K H v d ∧ d.weight ≤ 300000 ∧ ∀ H', Same H H' → Q (.bl (g n d)) H'
theorem ok_boats {f ft fn : Addr} {fd fdt fdn : FuncData} {k : Nat} (F : Fun K "are_boats" "are_boats" sBoats f fd) (T : Fns P w K mg base k "is_tuple_of" ["thing", "many"] (spTupOf K) ft fdt) (N : Fns P w K mg base k "is_number_from" ["thing", "least"] (spFrom K) fn fdn) (ma : mg "all" = none) :
    FnOk P w K mg base CX0 (k + 1) f fd ["thing", "many"] (spRowF K boatsB) := by
  refine F.ok scBoats (fun vs H Q E h => ?_) (fun cdv A outer s H vs Q E hr h => ?_)
  · obtain ⟨v, d, n, rfl, _⟩ := h
    rfl
  obtain ⟨v, d, n, rfl, hd, hw, q⟩ := h
  refine ⟨_, pss_one (ps_ret (pe_and (pe_fn T hr rfl (pa_cons (pv 0) (pa_cons (pv 1) pa_nil))) (pe_one (pe_callB (cr_all rfl) rfl ma boot_all (pa_cons (pe_lc (own := [("boats", 2)]) (g := gName 2) (tt := tYes) rfl scBoats.nd (pi_seq (pv 0)) (blkOk_by (own := [("boats", 2)]) (N := ["thing", "many", "boats"]) (sc := defScope sBoats) (by decide +kernel)) (fun _ _ _ _ _ => pg_name (i := 2) scBoats.nd rfl (Or.inl rfl)) (fun _ _ _ _ _ => pts_nil)
      (fun _ _ _ _ _ => pe_hide (pe_fn N hr rfl (pa_cons (pv 2) (pa_cons pe_int pa_nil))))) pa_nil))))), ?_⟩
  refine ⟨_, rfl, _, rfl, v, d, n, rfl, hd, _, rfl, ?_⟩
  cases d with
  | tuple ds =>
    obtain ⟨a, xs, rfl, hs, ha⟩ := tup_of hd
    have hlen : xs.length = ds.length := DpAll.length ha
    have hls : ds.length ≤ 300000 := Nat.le_trans (len_le_weight ds) hw
    have e1 : boatsB n (.tuple ds) = (tupB n (.tuple ds) && ds.all (fromB 0)) := rfl
    rw [e1] at q
    cases c : tupB n (.tuple ds) with
    | false => rw [c] at q; exact iteF (q H (Same.refl _))
    | true =>
      rw [c] at q
      refine iteT ⟨_, rfl, a, xs, rfl, .inr hs, fun J wk => lc_map wk Same (fun a b => a.trans b) (fun i y F => ∃ d, ds[i]? = some d ∧ y = .bl (fromB 0 d)) (fun i y A B s p => p) (by rw [hlen]; exact fit_len hls) (Same.refl _) (fun F D acc sF nF => ?_) (fun i x D acc F H' hi nD sF nF hy B hB => ?_) (fun D ys F nD sF nF hl hR => ?_)⟩
      · have sD : Same _ (upd F D (.lst acc)) := sF.trans (same_new nF)
        exact ⟨fun _ z => sD.seq z, fun z => Same.tup sD z⟩
      · obtain ⟨rfl, hx⟩ := hy
        obtain ⟨e, he, hp⟩ := DpAll.get ha hx
        refine hB _ F rfl nF fun Qt hq => ?_
        exact ⟨x, rfl, x, e, 0, rfl, Dp.same sF e hp, hq _ _ (Same.refl _) ⟨e, he, rfl⟩⟩
      · have eys := bls_map (f := fromB 0) (by rw [hl, hlen]) hR
        refine ⟨D, ds.map (fromB 0), rfl, ?_, ?_⟩
        · rw [← eys]; exact SqL.of upd_same
        · rw [all_map]
          exact q _ (sF.trans (same_new nF))
  | _ => exact iteF (q H (Same.refl _))
theorem scStands : FnScope ["thing", "many", "stand"] ["thing", "many"] (defScope sStands) := ⟨rfl, rfl, rfl, by decide +kernel, rfl, by decide +kernel, by decide +kernel⟩
theorem ok_stands {f ft fn : Addr} {fd fdt fdn : FuncData} {k : Nat} (F : Fun K "are_stands" "are_stands" sStands f fd) (T : Fns P w K mg base k "is_tuple_of" ["thing", "many"] (spTupOf K) ft fdt) (N : Fns P w K mg base k "is_place" ["thing", "many"] (spPlace K) fn fdn) (ma : mg "all" = none) :
    FnOk P w K mg base CX0 (k + 1) f fd ["thing", "many"] (spRowF K standsB) := by
  refine F.ok scStands (fun vs H Q E h => ?_) (fun cdv A outer s H vs Q E hr h => ?_)
  · obtain ⟨v, d, n, rfl, _⟩ := h
    rfl
  obtain ⟨v, d, n, rfl, hd, hw, q⟩ := h
  refine ⟨_, pss_one (ps_ret (pe_and (pe_fn T hr rfl (pa_cons (pv 0) (pa_cons (pv 1) pa_nil))) (pe_one (pe_callB (cr_all rfl) rfl ma boot_all (pa_cons (pe_lc (own := [("stand", 2)]) (g := gName 2) (tt := tYes) rfl scStands.nd (pi_seq (pv 0)) (blkOk_by (own := [("stand", 2)]) (N := ["thing", "many", "stand"]) (sc := defScope sStands) (by decide +kernel)) (fun _ _ _ _ _ => pg_name (i := 2) scStands.nd rfl (Or.inl rfl)) (fun _ _ _ _ _ => pts_nil)
      (fun _ _ _ _ _ => pe_hide (pe_fn N hr rfl (pa_cons (pv 2) (pa_cons pe_int pa_nil))))) pa_nil))))), ?_⟩
  refine ⟨_, rfl, _, rfl, v, d, n, rfl, hd, _, rfl, ?_⟩
  cases d with
  | tuple ds =>
    obtain ⟨a, xs, rfl, hs, ha⟩ := tup_of hd
    have hlen : xs.length = ds.length := DpAll.length ha
    have hls : ds.length ≤ 300000 := Nat.le_trans (len_le_weight ds) hw
    have e1 : standsB n (.tuple ds) = (tupB n (.tuple ds) && ds.all (placeB 2)) := rfl
    rw [e1] at q
    cases c : tupB n (.tuple ds) with
    | false => rw [c] at q; exact iteF (q H (Same.refl _))
    | true =>
      rw [c] at q
      refine iteT ⟨_, rfl, a, xs, rfl, .inr hs, fun J wk => lc_map wk Same (fun a b => a.trans b) (fun i y F => ∃ d, ds[i]? = some d ∧ y = .bl (placeB 2 d)) (fun i y A B s p => p) (by rw [hlen]; exact fit_len hls) (Same.refl _) (fun F D acc sF nF => ?_) (fun i x D acc F H' hi nD sF nF hy B hB => ?_) (fun D ys F nD sF nF hl hR => ?_)⟩
      · have sD : Same _ (upd F D (.lst acc)) := sF.trans (same_new nF)
        exact ⟨fun _ z => sD.seq z, fun z => Same.tup sD z⟩
      · obtain ⟨rfl, hx⟩ := hy
        obtain ⟨e, he, hp⟩ := DpAll.get ha hx
        refine hB _ F rfl nF fun Qt hq => ?_
        exact ⟨x, rfl, x, e, 2, rfl, Dp.same sF e hp, hq _ _ (Same.refl _) ⟨e, he, rfl⟩⟩
      · have eys := bls_map (f := placeB 2) (by rw [hl, hlen]) hR
        refine ⟨D, ds.map (placeB 2), rfl, ?_, ?_⟩
        · rw [← eys]; exact SqL.of upd_same
        · rw [all_map]
          exact q _ (sF.trans (same_new nF))
  | _ => exact iteF (q H (Same.refl _))
/-! ### is_standing -/
abbrev nIsSt : List Str := ["canal", "thing", "reds", "blues", "locks", "red_boats", "blue_boats", "stands"]
theorem scIsSt : FnScope nIsSt ["canal", "thing"] (defScope sIsSt) := ⟨rfl, rfl, rfl, by decide +kernel, rfl, by decide +kernel, by decide +kernel⟩
def spIsSt (K : PySem.W.Frag) (An : Hp → V → Cn → Prop) : Sp := fun vs H Q _ => ∃ (vc v : V) (c : Cn) (d : PyData), vs = [vc, v] ∧ An H vc c ∧ Dp K H v d ∧ d.weight ≤ 300000 ∧ ∀ H', Same H H' → Q (.bl (standB c.r c.b c.ls.length d)) H'
theorem mem3_weight {d1 d2 d3 : PyData} (h : PyData.weight (.tuple [d1, d2, d3]) ≤ 300000) : d1.weight ≤ 300000 ∧ d2.weight ≤ 300000 ∧ d3.weight ≤ 300000 := by
  have e : PyData.weight (.tuple [d1, d2, d3]) = d1.weight + 1 + (d2.weight + 1 + (d3.weight + 1 + 0)) := rfl
  omega
theorem ok_isst {f ft fb fs : Addr} {fd fdt fdb fds : FuncData} {k : Nat} (F : Fun K "is_standing" "is_standing" sIsSt f fd) (T : Fns P w K mg base k "is_tuple_of" ["thing", "many"] (spTupOf K) ft fdt) (B : Fns P w K mg base k "are_boats" ["thing", "many"] (spRowF K boatsB) fb fdb)
    (S : Fns P w K mg base k "are_stands" ["thing", "many"] (spRowF K standsB) fs fds) (me : mg "len" = none) : FnOk P w K mg base CX0 (k + 1) f fd ["canal", "thing"] (spIsSt K (CnA K)) := by
  refine F.ok scIsSt (fun vs H Q E h => ?_) (fun cdv A outer s H vs Q E hr h => ?_)
  · obtain ⟨vc, v, c, d, rfl, _⟩ := h
    rfl
  obtain ⟨vc, v, c, d, rfl, hc, hd, hw, q⟩ := h
  obtain ⟨ca, cg, cvs, rfl, hca, hcg, hcl⟩ := hc.ex
  refine ⟨_, pss_cons (ps_if (pt_not (pt_val (pe_fn T hr rfl (pa_cons (pv 1) (pa_cons pe_int pa_nil))))) (pss_one (ps_ret pe_bl)) pss_nil)
    (pss_cons (ps_asg (pv 0) (pg_any rfl (pgs_cons (pg_name (i := 2) scIsSt.nd rfl (.inl rfl)) (pgs_cons (pg_name (i := 3) scIsSt.nd rfl (.inl rfl)) (pgs_cons (pg_name (i := 4) scIsSt.nd rfl (.inl rfl)) pgs_nil)))))
    (pss_cons (ps_asg (pv 1) (pg_tup rfl (pgs_cons (pg_name (i := 5) scIsSt.nd rfl (.inl rfl)) (pgs_cons (pg_name (i := 6) scIsSt.nd rfl (.inl rfl)) (pgs_cons (pg_name (i := 7) scIsSt.nd rfl (.inl rfl)) pgs_nil)))))
    (pss_one (ps_ret (pe_and (pe_fn B hr rfl (pa_cons (pv 5) (pa_cons (pv 2) pa_nil))) (pe_and (pe_fn B hr rfl (pa_cons (pv 6) (pa_cons (pv 3) pa_nil))) (pe_one (pe_fn S hr rfl (pa_cons (pv 7) (pa_cons (pe_callB call_len_seq rfl me PySem.boot_len (pa_cons (pv 4) pa_nil)) pa_nil)))))))))), ?_⟩
  refine ⟨_, rfl, v, d, 3, rfl, hd, _, rfl, ?_⟩
  cases ht : tupB 3 d with
  | false =>
    refine iteT ?_
    have e : standB c.r c.b c.ls.length d = false := by
      unfold standB
      split
      · simp [tupB] at ht
      · rfl
    have q := q H (Same.refl _)
    rw [e] at q
    exact q
  | true =>
    obtain ⟨ds, rfl, hl⟩ := tup4 (n := 3) ht
    match ds, hl, hd, hw, q with
    | [d1, d2, d3], _, hd, hw, q =>
    obtain ⟨w1, w2, w3⟩ := mem3_weight hw
    obtain ⟨a, xs, rfl, hs, ha⟩ := tup_of hd
    cases ha with
    | cons p1 ha => cases ha with
    | cons p2 ha => cases ha with
    | cons p3 ha =>
    cases ha
    rename_i x1 x2 x3
    refine iteF ⟨_, rfl, ca, _, rfl, hca, rfl, _, _, rfl, _, _, rfl, _, _, rfl, rfl, ?_⟩
    refine at_s (σ' := [some (.ref ca), some (.ref a), some (.int c.r), some (.int c.b), some (.ref cg), none, none, none]) rfl ?_
    refine ⟨_, rfl, a, _, rfl, hs, rfl, _, _, rfl, _, _, rfl, _, _, rfl, rfl, ?_⟩
    refine at_s (σ' := [some (.ref ca), some (.ref a), some (.int c.r), some (.int c.b), some (.ref cg), some x1, some x2, some x3]) rfl ?_
    have e : standB c.r c.b c.ls.length (.tuple [d1, d2, d3]) = (boatsB c.r d1 && boatsB c.b d2 && standsB c.ls.length d3) := rfl
    rw [e] at q
    refine ⟨_, rfl, _, rfl, x1, d1, c.r, rfl, p1, w1, fun H1 s1 => ⟨_, rfl, ?_⟩⟩
    cases c1 : boatsB c.r d1 with
    | false => rw [c1] at q; exact iteF (q _ s1)
    | true =>
    rw [c1] at q
    refine iteT ⟨_, rfl, _, rfl, x2, d2, c.b, rfl, Dp.same s1 _ p2, w2, fun H2 s2 => ⟨_, rfl, ?_⟩⟩
    have s12 := s1.trans s2
    cases c2 : boatsB c.b d2 with
    | false => rw [c2] at q; exact iteF (q _ s12)
    | true =>
    rw [c2] at q
    refine iteT ⟨_, rfl, _, rfl, cg, cvs, rfl, Same.sq2 s12 hcg, x3, d3, _, rfl, Dp.same s12 _ p3, w3, fun H3 s3 => ?_⟩
    rw [hcl]
    exact q _ (s12.trans s3)
end
end XL
namespace XL
open PySem PySem.Spec PyProof.Rows L2 RZ
section
variable {P : Program} {w : World} {K : PySem.W.Frag} {mg : Str → Option Value} {base : Heap}
theorem walk_zipT {a b : Addr} {xs ys : List V} {n : Nat} (hn : n = min xs.length ys.length) : Walk (ItzT K a b) n (fun H => SqT K H a xs ∧ SqT K H b ys) (YPair (fun i => xs[i]?) (fun i => ys[i]?)) := by
  subst hn
  refine ⟨fun i _ hi q => ?_, fun _ q => ⟨xs, ys, q.1, q.2, by omega⟩, fun i H v H' _ q y => ?_⟩
  · have h1 : i < xs.length := by omega
    have h2 : i < ys.length := by omega
    exact ⟨xs, ys, xs[i], ys[i], q.1, q.2, by simp [h1], by simp [h2]⟩
  · obtain ⟨T, x, z, h1, h2, h3, h4, h5⟩ := y
    exact ⟨T, x, z, h1, h2, h3, h4 xs q.1, h5 ys q.2⟩
/-! ### _law_beside -/
abbrev nBes : List Str := ["_law_mine", "_law_yours", "_law_on", "_law_more", "_law_gate", "_law_end", "_law_by"]
theorem place_lt (n i : Int) : placeB n (.int i) = (decide (0 ≤ i) && decide (i < n)) := by
  show (if 0 ≤ i then decide (i < n) else false) = _
  by_cases c : 0 ≤ i
  · rw [if_pos c, decide_eq_true c]; rfl
  · rw [if_neg c, decide_eq_false c]; rfl
theorem upd_ne_of {F : Hp} {D T : Addr} {o : HO} (h : upd F D o T = none) : T ≠ D ∧ F T = none := by
  have hn : T ≠ D := fun z => by rw [z, upd_same] at h; cases h
  exact ⟨hn, by rw [upd_ne hn] at h; exact h⟩
theorem bls_idx {f : Nat → PyData → Bool} : ∀ {ys : List V} {ds : List PyData} {k : Nat}, ys.length = ds.length → (∀ (i : Nat) y, ys[i]? = some y → ∃ d, ds[i]? = some d ∧ y = .bl (f (k + i) d)) → ∃ bs : List Bool, ys = bs.map V.bl ∧ bs.length = ds.length ∧ ∀ (i : Nat) b d, bs[i]? = some b → ds[i]? = some d → b = f (k + i) d
  | [], [], _, _, _ => ⟨[], rfl, rfl, fun i b d h _ => by simp at h⟩
  | [], _ :: _, _, h, _ => by simp at h
  | _ :: _, [], _, h, _ => by simp at h
  | y :: ys, d :: ds, k, h, hi => by
    obtain ⟨d', e, p⟩ := hi 0 y rfl
    have e' : d = d' := by simpa using e
    subst e'
    obtain ⟨bs, e1, e2, e3⟩ := bls_idx (f := f) (ys := ys) (ds := ds) (k := k + 1) (by simpa using h) fun i z q => by
      have := hi (i + 1) z (by simpa using q)
      obtain ⟨d, h1, h2⟩ := this
      exact ⟨d, by simpa using h1, by rw [h2]; congr 2; omega⟩
    refine ⟨f k d :: bs, by rw [e1, p]; rfl, by simp [e2], fun i b dd hb hd => ?_⟩
    cases i with
    | zero =>
      have h1 : f k d = b := by simpa using hb
      have h2 : d = dd := by simpa using hd
      rw [← h1, ← h2]; rfl
    | succ i =>
      have := e3 i b dd (by simpa using hb) (by simpa using hd)
      rw [this]; congr 1; omega
theorem num_int {d : PyData} (h : numB d = true) : ∃ i : Int, d = .int i := by
  cases d with
  | int i => exact ⟨i, rfl⟩
  | _ => cases h

def rCatU (K : PySem.W.Frag) : R2 := fun x y H Q => ∃ a b xs ys, x = .ref a ∧ y = .ref b ∧ SqT K H a xs ∧ SqT K H b ys ∧ xs.length + ys.length ≤ sizeLine ∧ ∀ p H', Same H H' → SqT K H' p (xs ++ ys) → Q (.ref p) H'
theorem op_catU {X : Cx} : OpR X (binaryOp .Add) (rCatU X.K) := by
  intro pins s σ H x y v u Q I rx ry h
  obtain ⟨a, b, xs, ys, e1, e2, ha, hb, hz, q⟩ := h
  refine op_catA pins s σ H x y v u Q I rx ry ⟨a, b, xs, ys, e1, e2, ha, hb, hz, fun e => ?_, fun _ e => ?_, fun _ _ p np => ?_⟩
  · subst e; exact q b H (Same.refl _) hb
  · subst e; exact q a H (Same.refl _) (by rw [List.append_nil]; exact ha)
  · exact q p _ (same_new np) (.inl (.inl upd_same))
theorem in01 (i : Int) : inV (.int i) [.int 0, .int 1] = placeB 2 (.int i) := by
  rw [place_lt]
  show ((V.int 0 |> fun y => eqV y (.int i)) || ((V.int 1 |> fun y => eqV y (.int i)) || false)) = _
  have e : ∀ j : Int, eqV (.int j) (.int i) = decide (j = i) := fun j => by
    first
      | rfl
      | (show (j == i) = decide (j = i); rfl)
      | (unfold eqV; by_cases h : j = i <;> simp [h])
  simp only [e, Bool.or_false]
  by_cases h0 : i = 0
  · subst h0; rfl
  · by_cases h1 : i = 1
    · subst h1; rfl
    · rw [decide_eq_false (fun z => h0 z.symm), decide_eq_false (fun z => h1 z.symm)]
      by_cases c : 0 ≤ i
      · rw [decide_eq_true c, decide_eq_false (by omega)]; rfl
      · rw [decide_eq_false c]; rfl
theorem boats_row {n : Int} {d : PyData} (h : rowB n d = false) : boatsB n d = false := by
  cases d with
  | tuple ds =>
    have h2 : (decide ((ds.length : Int) = n) && ds.all numB) = false := h
    show (decide ((ds.length : Int) = n) && ds.all (fromB 0)) = false
    cases c : decide ((ds.length : Int) = n) with
    | false => rfl
    | true =>
      rw [c, Bool.true_and] at h2
      rw [Bool.true_and]
      cases e : ds.all (fromB 0) with
      | false => rfl
      | true =>
        rw [List.all_eq_true] at e
        have : ds.all numB = true := by
          rw [List.all_eq_true]
          intro d hd
          have := e d hd
          cases d <;> first | rfl | (cases this; done)
        rw [this] at h2; cases h2
  | _ => rfl
theorem stands_row {n : Int} {d : PyData} (h : rowB n d = false) : standsB n d = false := by
  cases d with
  | tuple ds =>
    have h2 : (decide ((ds.length : Int) = n) && ds.all numB) = false := h
    show (decide ((ds.length : Int) = n) && ds.all (placeB 2)) = false
    cases c : decide ((ds.length : Int) = n) with
    | false => rfl
    | true =>
      rw [c, Bool.true_and] at h2
      rw [Bool.true_and]
      cases e : ds.all (placeB 2) with
      | false => rfl
      | true =>
        rw [List.all_eq_true] at e
        have : ds.all numB = true := by
          rw [List.all_eq_true]
          intro d hd
          have := e d hd
          cases d <;> first | rfl | (cases this; done)
        rw [this] at h2; cases h2
  | _ => rfl
theorem row_of {n : Int} {d : PyData} (h : rowB n d = true) : ∃ ds, d = .tuple ds ∧ (ds.length : Int) = n ∧ ds.all numB = true := by
  cases d with
  | tuple ds =>
    have h2 : (decide ((ds.length : Int) = n) && ds.all numB) = true := h
    rw [Bool.and_eq_true] at h2
    exact ⟨ds, rfl, of_decide_eq_true h2.1, h2.2⟩
  | _ => cases h
def szJ (r b n : Int) (j : Nat) (d : PyData) : Bool := rowB (match j with | 0 => r | 1 => b | _ => n) d
theorem all3 {bs : List Bool} {r b n : Int} {d1 d2 d3 : PyData} (hl : bs.length = 3) (h : ∀ (i : Nat) c d, bs[i]? = some c → ([d1, d2, d3] : List PyData)[i]? = some d → c = szJ r b n (0 + i) d) : bs.all id = (rowB r d1 && (rowB b d2 && rowB n d3)) := by
  match bs, hl, h with
  | [b1, b2, b3], _, h =>
    have e1 : b1 = rowB r d1 := h 0 b1 _ rfl rfl
    have e2 : b2 = rowB b d2 := h 1 b2 _ rfl rfl
    have e3 : b3 = rowB n d3 := h 2 b3 _ rfl rfl
    rw [e1, e2, e3]
    show (rowB r d1 && (rowB b d2 && (rowB n d3 && true))) = _
    rw [Bool.and_true]
abbrev nDue : List Str := ["_law_ship_way", "_law_item", "_law_sizes", "_law_part", "_law_size", "_law_boats", "_law_high"]
theorem scDue : FnScope nDue ["_law_ship_way", "_law_item"] (defScope sDue) := ⟨rfl, rfl, rfl, by decide +kernel, rfl, by decide +kernel, by decide +kernel⟩
theorem ok_due {f fr : Addr} {fd fdr : FuncData} {k : Nat} (F : Fun K "_law_due" "_law_due" sDue f fd) (R : Fns P w K mg base k "_law_row_of_numbers" ["_law_item", "_law_size", "_law_is_list"] (spRow K) fr fdr)
    (mi : mg "isinstance" = none) (mt : mg "tuple" = none) (me : mg "len" = none) (ma : mg "all" = none) (mz : mg "zip" = none) : FnOk P w K mg base CX0 (k + 1) f fd ["_law_ship_way", "_law_item"] (spIsSt K fun H v c => Dp K H v (cnD c)) := by
  refine F.ok scDue (fun vs H Q E h => ?_) (fun cdv A outer s H vs Q E hr h => ?_)
  · obtain ⟨vc, v, c, d, rfl, _⟩ := h
    rfl
  obtain ⟨vc, v, c, d, rfl, hc, hd, hw, q⟩ := h
  obtain ⟨ca, cg, cvs, rfl, hca, hcg, hcl⟩ := cn_of hc
  have hcn : cvs.length = c.ls.length := by rw [DpAll.length hcl, List.length_map]
  refine ⟨_, (pss_cons (ps_if (PW.pt (pw_or (pt_not (pt_val (pe_callB (call_isD kit_isT) rfl mi boot_isinstance (pa_cons (pv 1) (pa_cons (pe_bltn (v := .ty "tuple") rfl mt boot_tuple rfl) pa_nil))))) (pw_or1 (pt_cmpR op_ne (pe_callB call_lenD rfl me PySem.boot_len (pa_cons (pv 1) pa_nil)) pe_int (nomark _))))) (pss_one (ps_ret pe_bl)) pss_nil)
      (pss_cons (ps_set (i := 2) scDue.nd rfl (.inl rfl) (pe_tup (pa_cons (pe_ix ix_tup (pv 0) pe_int (fun _ _ => rfl)) (pa_cons (pe_ix ix_tup (pv 0) pe_int (fun _ _ => rfl)) (pa_cons (pe_callB call_len_seq rfl me PySem.boot_len (pa_cons (pe_ix ix_tup (pv 0) pe_int (fun _ _ => rfl)) pa_nil)) pa_nil)))))
      (pss_cons (ps_if (pt_not (pt_val (pe_callB (cr_all rfl) rfl ma boot_all (pa_cons (pe_lc (own := [("_law_part", 3), ("_law_size", 4)]) (g := gTup K 2 (gCons (gName 3) (gCons (gName 4) gNil))) (tt := tYes) rfl scDue.nd (pi_zipA rfl mz (pa_cons (pv 1) (pa_cons (pv 2) pa_nil))) (blkOk_by (own := [("_law_part", 3), ("_law_size", 4)]) (N := nDue) (sc := defScope sDue) (by decide +kernel)) (fun _ _ _ _ _ => pg_tup rfl (pgs_cons (pg_name (i := 3) scDue.nd rfl (Or.inl rfl)) (pgs_cons (pg_name (i := 4) scDue.nd rfl (Or.inl rfl)) pgs_nil))) (fun _ _ _ _ _ => pts_nil) (fun _ _ _ _ _ => pe_hide (pe_fn R hr rfl (pa_cons (pv 3) (pa_cons (pv 4) (pa_cons pe_bl pa_nil)))))) pa_nil)))) (pss_one (ps_ret pe_bl)) pss_nil)
      (pss_one (ps_ret (pe_and (pe_callB (cr_all rfl) rfl ma boot_all (pa_cons (pe_lc (own := [("_law_boats", 5)]) (g := gName 5) (tt := tYes) rfl scDue.nd (pi_seq (pe_op op_catU (pe_ix ix_tup (pv 1) pe_int (fun _ _ => rfl)) (pe_ix ix_tup (pv 1) pe_int (fun _ _ => rfl)))) (blkOk_by (own := [("_law_boats", 5)]) (N := nDue) (sc := defScope sDue) (by decide +kernel)) (fun _ _ _ _ _ => pg_name (i := 5) scDue.nd rfl (Or.inl rfl)) (fun _ _ _ _ _ => pts_nil) (fun _ _ _ _ _ => pe_hide (pe_cmpR op_ge (pv 5) pe_int (nomark _)))) pa_nil)) (pe_one (pe_callB (cr_all rfl) rfl ma boot_all (pa_cons (pe_lc (own := [("_law_high", 6)]) (g := gName 6) (tt := tYes) rfl scDue.nd (pi_seq (pe_ix ix_tup (pv 1) pe_int (fun _ _ => rfl))) (blkOk_by (own := [("_law_high", 6)]) (N := nDue) (sc := defScope sDue) (by decide +kernel)) (fun _ _ _ _ _ => pg_name (i := 6) scDue.nd rfl (Or.inl rfl)) (fun _ _ _ _ _ => pts_nil) (fun _ _ _ _ _ => pe_hide (pe_cmpR (r := rIn K false) op_in_seq (pv 6) (pe_tup (pa_cons pe_int (pa_cons pe_int pa_nil))) (by rfl)))) pa_nil))))))))), ?_⟩
  refine ⟨_, rfl, v, d, rfl, hd, _, rfl, ?_⟩
  cases ht : isT d with
  | false =>
    refine iteT (iteT ?_)
    have e : standB c.r c.b c.ls.length d = false := by
      cases d with
      | tuple ds => cases ht
      | _ => rfl
    have q := q H (Same.refl _)
    rw [e] at q
    exact q
  | true =>
  cases d with
  | tuple ds =>
    refine iteF ⟨_, rfl, v, _, rfl, hd, rfl, rfl, _, rfl, ?_⟩
    by_cases hl : ds.length = 3
    rotate_left
    · have e0 : decide (V.int ((itemsD (.tuple ds)).length : Int) = V.int 3) = false := decide_eq_false (fun z => hl (by have z' : (ds.length : Int) = 3 := V.int.inj z; omega))
      rw [e0]
      refine iteT ?_
      have e : standB c.r c.b c.ls.length (.tuple ds) = false := by
        unfold standB
        split
        · rename_i h; cases h; simp at hl
        · rfl
      have q := q H (Same.refl _)
      rw [e] at q
      exact q
    have e0 : decide (V.int ((itemsD (.tuple ds)).length : Int) = V.int 3) = true := decide_eq_true (by show V.int (ds.length : Int) = V.int 3; rw [hl]; rfl)
    rw [e0]
    match ds, hl, hd, hw, q with
    | [d1, d2, d3], _, hd, hw, q =>
    obtain ⟨w1, w2, w3⟩ := mem3_weight hw
    obtain ⟨a, xs0, rfl, hs, ha⟩ := tup_of hd
    have hall := ha
    cases ha with
    | cons p1 ha => cases ha with
    | cons p2 ha => cases ha with
    | cons p3 ha =>
    cases ha
    rename_i x1 x2 x3
    have e : standB c.r c.b c.ls.length (.tuple [d1, d2, d3]) = (boatsB c.r d1 && boatsB c.b d2 && standsB c.ls.length d3) := rfl
    rw [e] at q
    refine iteF ⟨_, rfl, ca, _, 0, _, rfl, rfl, hca, rfl, _, rfl, ca, _, 1, _, rfl, rfl, hca, rfl, _, rfl, ca, _, 2, _, rfl, rfl, hca, rfl, cg, cvs, rfl, .inr hcg, (by show 3 ≤ sizeLine; decide), fun sz nsz => ?_⟩
    refine at_g (σ' := [some (.ref ca), some (.ref a), some (.ref sz), none, none, none, none]) rfl ?_
    rw [hcn]
    have s1 := same_new (o := .tup [.int c.r, .int c.b, .int (c.ls.length : Nat)]) nsz
    have esz : upd H sz (.tup [.int c.r, .int c.b, .int (c.ls.length : Nat)]) sz = some (.tup [.int c.r, .int c.b, .int (c.ls.length : Nat)]) := upd_same
    replace hs := Same.tup s1 hs
    replace hall := DpAll.same s1 _ hall
    replace q := fun H' (z : Same (upd H sz (.tup [.int c.r, .int c.b, .int (c.ls.length : Nat)])) H') => q H' (s1.trans z)
    generalize upd H sz (.tup [.int c.r, .int c.b, .int (c.ls.length : Nat)]) = G at esz hs hall q ⊢
    clear s1 nsz hd p1 p2 p3
    have hsz : SqT K G sz [.int c.r, .int c.b, .int (c.ls.length : Nat)] := .inl (.inl esz)
    refine ⟨_, rfl, _, rfl, a, sz, [x1, x2, x3], _, rfl, .inr ⟨hs, hsz, lc_map (walk_zipT (K := K) (a := a) (b := sz) (xs := [x1, x2, x3]) (ys := [.int c.r, .int c.b, .int (c.ls.length : Nat)]) (n := 3) rfl) Same (fun a b => a.trans b) (fun j y F => ∃ d, ([d1, d2, d3] : List PyData)[j]? = some d ∧ y = .bl (szJ c.r c.b c.ls.length (0 + j) d)) (fun i y A B s p => p) (by decide) (Same.refl _) (fun F D acc sF nF => ?_) (fun j x D acc F H' hj nD sF nF hy B hB => ?_) (fun D ys F nD sF nF hl hR => ?_)⟩⟩
    · have sD := sF.trans (same_new (o := .lst acc) nF)
      exact ⟨Same.tup sD hs, Same.tup sD hsz⟩
    · obtain ⟨T, z1, z2, rfl, nT, rfl, e1, e2⟩ := hy
      obtain ⟨nTD, nT'⟩ := upd_ne_of nT
      refine ⟨T, _, rfl, .inl (.inl upd_same), rfl, _, _, rfl, _, _, rfl, rfl, ?_⟩
      rw [upd_comm nTD]
      have sT := same_new (o := .tup [z1, z2]) nT'
      refine hB _ (upd F T (.tup [z1, z2])) rfl (by rw [upd_ne nTD.symm]; exact nF) fun Qt hq => ?_
      have h1 : ([x1, x2, x3] : List V)[j]? = some z1 := e1
      obtain ⟨dd, hdd, hpd⟩ := DpAll.get hall h1
      have hwd : dd.weight ≤ 300000 := by
        have := mem_weight (List.mem_of_getElem? hdd)
        have e : PyData.weight (.tuple [d1, d2, d3]) = PyData.weightAll [d1, d2, d3] := rfl
        omega
      have h2 : ∃ n : Int, z2 = .int n ∧ szJ c.r c.b c.ls.length (0 + j) dd = rowB n dd := by
        match j, hj, e2 with
        | 0, _, e2 => exact ⟨c.r, (Option.some.inj e2).symm, rfl⟩
        | 1, _, e2 => exact ⟨c.b, (Option.some.inj e2).symm, rfl⟩
        | 2, _, e2 => exact ⟨c.ls.length, (Option.some.inj e2).symm, rfl⟩
      obtain ⟨n, rfl, en⟩ := h2
      exact ⟨_, rfl, _, rfl, z1, dd, n, rfl, Dp.same (sF.trans sT) _ hpd, hwd, fun H2 s2 => hq _ _ (sT.trans s2) ⟨dd, hdd, by rw [en]⟩⟩
    obtain ⟨bl, eb1, eb2, eb3⟩ := bls_idx (f := szJ c.r c.b c.ls.length) (k := 0) (ds := [d1, d2, d3]) hl hR
    have eL := all3 eb2 eb3
    have sD := sF.trans (same_new (o := .lst ys) nF)
    refine ⟨D, bl, rfl, ?_, ?_⟩
    · rw [← eb1]; exact SqL.of upd_same
    rw [eL]
    refine ⟨_, rfl, ?_⟩
    cases r1 : rowB c.r d1 with
    | false => rw [boats_row r1] at q; exact iteT (q _ sD)
    | true =>
    cases r2 : rowB c.b d2 with
    | false => rw [boats_row r2, Bool.and_false] at q; exact iteT (q _ sD)
    | true =>
    cases r3 : rowB c.ls.length d3 with
    | false => rw [stands_row r3, Bool.and_false] at q; exact iteT (q _ sD)
    | true =>
    obtain ⟨ds1, rfl, l1, n1⟩ := row_of r1
    obtain ⟨ds2, rfl, l2, n2⟩ := row_of r2
    obtain ⟨ds3, rfl, l3, n3⟩ := row_of r3
    have eb : (boatsB c.r (.tuple ds1) && boatsB c.b (.tuple ds2) && standsB c.ls.length (.tuple ds3)) = ((ds1 ++ ds2).all (fromB 0) && ds3.all (placeB 2)) := by
      show ((decide ((ds1.length : Int) = c.r) && ds1.all (fromB 0)) && (decide ((ds2.length : Int) = c.b) && ds2.all (fromB 0)) && (decide ((ds3.length : Int) = (c.ls.length : Int)) && ds3.all (placeB 2))) = _
      rw [decide_eq_true l1, decide_eq_true l2, decide_eq_true l3, Bool.true_and, Bool.true_and, Bool.true_and, List.all_append]
    rw [eb] at q
    replace hs := Same.tup sD hs
    replace hall := DpAll.same sD _ hall
    replace q := fun H' (z : Same (upd F D (.lst ys)) H') => q H' (sD.trans z)
    generalize upd F D (.lst ys) = G2 at hs hall q ⊢
    clear sD sF nF nD eb1 hR eL hsz esz
    cases hall with
    | cons p1 ha => cases ha with
    | cons p2 ha => cases ha with
    | cons p3 ha =>
    cases ha
    obtain ⟨a1, xs1, rfl, hs1, ha1⟩ := tup_of p1
    obtain ⟨a2, xs2, rfl, hs2, ha2⟩ := tup_of p2
    obtain ⟨a3, xs3, rfl, hs3, ha3⟩ := tup_of p3
    have k1 := len_le_weight ds1
    have k2 := len_le_weight ds2
    have k3 := len_le_weight ds3
    have v1 : PyData.weight (.tuple ds1) = PyData.weightAll ds1 := rfl
    have v2 : PyData.weight (.tuple ds2) = PyData.weightAll ds2 := rfl
    have v3 : PyData.weight (.tuple ds3) = PyData.weightAll ds3 := rfl
    have x1l := DpAll.length ha1
    have x2l := DpAll.length ha2
    have x3l := DpAll.length ha3
    have wsum : ds1.length + ds2.length ≤ 300000 := by
      have e : PyData.weight (.tuple [.tuple ds1, .tuple ds2, .tuple ds3]) = PyData.weightAll ds1 + 1 + (PyData.weightAll ds2 + 1 + (PyData.weightAll ds3 + 1 + 0)) := rfl
      omega
    refine iteF ⟨_, rfl, a, _, 0, _, rfl, rfl, hs, rfl, _, rfl, a, _, 1, _, rfl, rfl, hs, rfl, a1, a2, xs1, xs2, rfl, rfl, hs1, hs2, (by rw [sizeLine_eq]; omega), fun p H5 s5 hp => ?_⟩
    have cat : DpAll K H5 (xs1 ++ xs2) (ds1 ++ ds2) := DpAll.same s5 _ (DpAll.app ha1 ha2)
    have numc : ∀ d ∈ ds1 ++ ds2, numB d = true := fun d hd => by
      rcases List.mem_append.mp hd with z | z
      · exact List.all_eq_true.mp n1 d z
      · exact List.all_eq_true.mp n2 d z
    refine ⟨p, xs1 ++ xs2, rfl, .inr hp, fun J wk => lc_map wk Same (fun a b => a.trans b) (fun i y F => ∃ d, (ds1 ++ ds2)[i]? = some d ∧ y = .bl (fromB 0 d)) (fun i y A B s p => p) (by rw [List.length_append]; exact fit_len (by omega)) (Same.refl _) (fun F D acc sF nF => ?_) (fun i x D acc F H' hi nD sF nF hy B hB => ?_) (fun D ys F nD sF nF hl hR => ?_)⟩
    · have sD : Same _ (upd F D (.lst acc)) := sF.trans (same_new nF)
      exact ⟨fun _ z => sD.seq z, fun z => Same.tup sD z⟩
    · obtain ⟨rfl, hx⟩ := hy
      obtain ⟨e, he, hpe⟩ := DpAll.get cat hx
      obtain ⟨i0, rfl⟩ := num_int (numc e (List.mem_of_getElem? he))
      cases hpe
      refine hB _ F rfl nF fun Qt hq => ?_
      exact ⟨_, rfl, _, _, rfl, rfl, hq _ _ (Same.refl _) ⟨_, he, rfl⟩⟩
    have eys := bls_map (f := fromB 0) (by rw [hl, List.length_append, List.length_append]; omega) hR
    have sD2 := s5.trans (sF.trans (same_new (o := .lst ys) nF))
    refine ⟨D, (ds1 ++ ds2).map (fromB 0), rfl, ?_, ?_⟩
    · rw [← eys]; exact SqL.of upd_same
    rw [all_map]
    refine ⟨_, rfl, ?_⟩
    cases cA : (ds1 ++ ds2).all (fromB 0) with
    | false => rw [cA] at q; exact iteF (q _ sD2)
    | true =>
    rw [cA] at q
    have hs3' := Same.tup sD2 hs3
    refine iteT ⟨_, rfl, a, _, 2, _, rfl, rfl, Same.tup sD2 hs, rfl, a3, xs3, rfl, .inr hs3', fun J wk => lc_map wk Same (fun a b => a.trans b) (fun i y F => ∃ d, ds3[i]? = some d ∧ y = .bl (placeB 2 d)) (fun i y A B s p => p) (by rw [x3l]; exact fit_len (by omega)) (Same.refl _) (fun F D acc sF nF => ?_) (fun i x D acc F H' hi nD sF nF hy B hB => ?_) (fun D ys F nD sF nF hl hR => ?_)⟩
    · have sD : Same _ (upd F D (.lst acc)) := sF.trans (same_new nF)
      exact ⟨fun _ z => sD.seq z, fun z => Same.tup sD z⟩
    · obtain ⟨rfl, hx⟩ := hy
      obtain ⟨e, he, hpe⟩ := DpAll.get ha3 hx
      obtain ⟨i0, rfl⟩ := num_int (List.all_eq_true.mp n3 e (List.mem_of_getElem? he))
      cases hpe
      refine hB _ F rfl nF fun Qt hq => ?_
      refine ⟨_, rfl, (by show 2 ≤ sizeLine; decide), fun t nt => ⟨t, _, rfl, .inr (.inl (.inl upd_same)), rfl, rfl, hq _ _ (same_new nt) ⟨_, he, ?_⟩⟩⟩
      exact congrArg V.bl (in01 i0)
    have eys3 := bls_map (f := placeB 2) (by rw [hl, x3l]) hR
    refine ⟨D, ds3.map (placeB 2), rfl, ?_, ?_⟩
    · rw [← eys3]; exact SqL.of upd_same
    rw [all_map]
    exact q _ (sD2.trans (sF.trans (same_new nF)))
  | _ => cases ht
end
end XL
namespace XL
open PySem PySem.Spec PyProof.Rows L2
abbrev sOdd : Stmt := topS 17
/-! ### data apart from the box -/
theorem same_del {b : Addr} {H H' : Hp} (s : Same H H') : Same (delH H b) (delH H' b) := fun a o e => by
  by_cases h : a = b
  · rw [h, delH_same] at e; cases e
  · rw [delH_ne h] at e ⊢; exact s a o e
theorem Dr.del {b : Addr} {H H' : Hp} (d : Dr b H H') : Same (delH H b) (delH H' b) := fun a o e => by
  by_cases h : a = b
  · rw [h, delH_same] at e; cases e
  · rw [delH_ne h] at e ⊢; exact d.same a o h e
theorem del_same {b : Addr} {H : Hp} : Same (delH H b) H := fun a o e => by
  by_cases h : a = b
  · rw [h, delH_same] at e; cases e
  · rw [delH_ne h] at e; exact e
theorem del_at {b a : Addr} {H : Hp} {o : HO} (h : a ≠ b) (e : H a = some o) : delH H b a = some o := by rw [delH_ne h]; exact e
theorem bx_ne {b a : Addr} {H : Hp} (h : Bx H b) (n : H a = none) : a ≠ b := fun z => by
  obtain ⟨_, _, _, e⟩ := h
  rw [z, e] at n; cases n
theorem Bx.same {b : Addr} {H H' : Hp} (h : Bx H b) (s : Same H H') : Bx H' b := by
  obtain ⟨x, y, z, e⟩ := h
  exact ⟨x, y, z, s _ _ e⟩
theorem dp_lst {K : PySem.W.Frag} {b a : Addr} {H : Hp} {xs : List V} {ds : List PyData} (h : a ≠ b) (e : H a = some (.lst xs)) (d : DpAll K (delH H b) xs ds) : Dp K (delH H b) (.ref a) (.list ds) := .lst (SqL.of (del_at h e)) d
theorem dp_tup {K : PySem.W.Frag} {b a : Addr} {H : Hp} {xs : List V} {ds : List PyData} (h : a ≠ b) (e : H a = some (.tup xs)) (d : DpAll K (delH H b) xs ds) : Dp K (delH H b) (.ref a) (.tuple ds) := .tup (.inl (.inl (del_at h e))) d
section
variable {P : Program} {w : World} {K : PySem.W.Frag} {mg : Str → Option Value} {base : Heap}
theorem scOdd : FnScope ["_law_box_here", "_law_some"] ["_law_box_here"] (defScope sOdd) := ⟨rfl, rfl, rfl, by decide +kernel, rfl, by decide +kernel, by decide +kernel⟩
structure Sm (m n w : Nat) (d : PyData) : Prop where
  g : Gd m d
  dp : d.depth ≤ n
  wt : d.weight ≤ w
def spOdd (K : PySem.W.Frag) : Sp := fun vs H Q _ => ∃ b : Addr, vs = [.ref b] ∧ Bx H b ∧ ∀ v d H', Dr b H H' → Dp K (delH H' b) v d → Sm (10 ^ 30) 1 200 d → Q v H'
def oddsD : List PyData := [.none, .bool true, .bool false, .int 0, .int 1, .int 2, .int (-1), .int 3, .str "red", .str "", .str "a", .tuple [], .list [], .tuple [.int 0], .list [.int 0], .tuple [.int 0, .int 1], .list [.int 1, .int 0], .tuple [.int 0, .int 0, .int 0, .int 0], .int (10 ^ 30)]
theorem odds_sm : ∀ d ∈ oddsD, Sm (10 ^ 30) 1 200 d := by
  intro d hd
  have key : ∀ d ∈ oddsD, d.depth ≤ 1 ∧ d.weight ≤ 200 := by decide +kernel
  refine ⟨?_, (key d hd).1, (key d hd).2⟩
  simp only [oddsD, List.mem_cons, List.not_mem_nil, or_false] at hd
  rcases hd with rfl | rfl | rfl | rfl | rfl | rfl | rfl | rfl | rfl | rfl | rfl | rfl | rfl | rfl | rfl | rfl | rfl | rfl | rfl <;> first | exact trivial | (simp only [Gd, Gds]; decide)
theorem ok_odd {f fo : Addr} {fd fdo : FuncData} {k : Nat} (F : Fun K "_law_odd" "_law_odd" sOdd f fd) (O : Fns P w K mg base k "_law_of" ["_law_box_here", "_law_some"] (spOf K) fo fdo) : FnOk P w K mg base CX0 (k + 1) f fd ["_law_box_here"] (spOdd K) := by
  refine F.ok scOdd (fun vs H Q E h => ?_) (fun cdv A outer s H vs Q E hr h => ?_)
  · obtain ⟨b, rfl, _⟩ := h
    rfl
  obtain ⟨b, rfl, hb, q⟩ := h
  refine ⟨_, pss_cons (ps_set (i := 1) scOdd.nd rfl (.inl rfl) (pe_lst (pa_cons pe_non (pa_cons pe_bl (pa_cons pe_bl (pa_cons pe_int (pa_cons pe_int (pa_cons pe_int (pa_cons (pe_un un_neg pe_int) (pa_cons pe_int (pa_cons pe_str (pa_cons pe_str (pa_cons pe_str (pa_cons (pe_tup pa_nil) (pa_cons (pe_lst pa_nil) (pa_cons (pe_tup (pa_cons pe_int pa_nil)) (pa_cons (pe_lst (pa_cons pe_int pa_nil)) (pa_cons (pe_tup (pa_cons pe_int (pa_cons pe_int pa_nil))) (pa_cons (pe_lst (pa_cons pe_int (pa_cons pe_int pa_nil))) (pa_cons (pe_tup (pa_cons pe_int (pa_cons pe_int (pa_cons pe_int (pa_cons pe_int pa_nil))))) pa_nil))))))))))))))))))))
    (pss_one (ps_ret (pe_fn O hr rfl (pa_cons (pv 0) (pa_cons (pe_op op_cat (pv 1) (pe_lst (pa_cons (pe_op op_pow pe_int pe_int) pa_nil))) pa_nil))))), ?_⟩
  refine ⟨_, rfl, (by show 0 ≤ sizeLine; decide), fun p1 n1 => ?_⟩
  refine ⟨(by show 0 ≤ sizeLine; decide), fun p2 n2 => ?_⟩
  refine ⟨(by show 1 ≤ sizeLine; decide), fun p3 n3 => ?_⟩
  refine ⟨(by show 1 ≤ sizeLine; decide), fun p4 n4 => ?_⟩
  refine ⟨(by show 2 ≤ sizeLine; decide), fun p5 n5 => ?_⟩
  refine ⟨(by show 2 ≤ sizeLine; decide), fun p6 n6 => ?_⟩
  refine ⟨(by show 4 ≤ sizeLine; decide), fun p7 n7 => ?_⟩
  refine ⟨(by show 18 ≤ sizeLine; decide), fun l1 m1 => ?_⟩
  refine ⟨_, rfl, _, rfl, _, _, rfl, rfl, ⟨by decide, by decide, by decide⟩, (by show 1 ≤ sizeLine; decide), fun l2 m2 => ?_⟩
  refine ⟨l1, l2, _, _, rfl, rfl, same_new m2 _ _ upd_same, upd_same, (by show 19 ≤ sizeLine; decide), fun l3 m3 => ?_⟩
  have s1 := same_new (o := .tup []) n1
  have s2 := same_new (o := .lst []) n2
  have s3 := same_new (o := .tup [.int 0]) n3
  have s4 := same_new (o := .lst [.int 0]) n4
  have s5 := same_new (o := .tup [.int 0, .int 1]) n5
  have s6 := same_new (o := .lst [.int 1, .int 0]) n6
  have s7 := same_new (o := .tup [.int 0, .int 0, .int 0, .int 0]) n7
  have s8 := same_new (o := .lst [.non, .bl true, .bl false, .int 0, .int 1, .int 2, .int (-1), .int 3, .str "red", .str "", .str "a", .ref p1, .ref p2, .ref p3, .ref p4, .ref p5, .ref p6, .ref p7]) m1
  have s9 := same_new (o := .lst [.int (10 ^ Int.toNat 30)]) m2
  have s10 := same_new (o := .lst ([.non, .bl true, .bl false, .int 0, .int 1, .int 2, .int (-1), .int 3, .str "red", .str "", .str "a", .ref p1, .ref p2, .ref p3, .ref p4, .ref p5, .ref p6, .ref p7] ++ [.int (10 ^ Int.toNat 30)])) m3
  have t10 := s10
  have t9 := s9.trans t10
  have t8 := s8.trans t9
  have t7 := s7.trans t8
  have t6 := s6.trans t7
  have t5 := s5.trans t6
  have t4 := s4.trans t5
  have t3 := s3.trans t4
  have t2 := s2.trans t3
  have t1 := s1.trans t2
  have hB := hb.same t1
  have b1 := bx_ne hb n1
  have b2 := bx_ne (hb.same s1) n2
  have b3 := bx_ne (hb.same (s1.trans s2)) n3
  have b4 := bx_ne (hb.same ((s1.trans s2).trans s3)) n4
  have b5 := bx_ne (hb.same (((s1.trans s2).trans s3).trans s4)) n5
  have b6 := bx_ne (hb.same ((((s1.trans s2).trans s3).trans s4).trans s5)) n6
  have b7 := bx_ne (hb.same (((((s1.trans s2).trans s3).trans s4).trans s5).trans s6)) n7
  have bl := bx_ne (hb.same ((((((((s1.trans s2).trans s3).trans s4).trans s5).trans s6).trans s7).trans s8).trans s9)) m3
  refine ⟨b, l3, _, rfl, hB, bl, SqL.of upd_same, (fun z => nomatch z), (by show 19 < 1000; decide), fun j v H' hv dr => ?_⟩
  have all : DpAll K (delH _ b) _ oddsD := (.cons .non (.cons (.bl _) (.cons (.bl _) (.cons (.int _) (.cons (.int _) (.cons (.int _) (.cons (.int _) (.cons (.int _) (.cons (.str _) (.cons (.str _) (.cons (.str _) (.cons (dp_tup b1 (t2 _ _ upd_same) .nil) (.cons (dp_lst b2 (t3 _ _ upd_same) .nil) (.cons (dp_tup b3 (t4 _ _ upd_same) (.cons (.int _) .nil)) (.cons (dp_lst b4 (t5 _ _ upd_same) (.cons (.int _) .nil)) (.cons (dp_tup b5 (t6 _ _ upd_same) (.cons (.int _) (.cons (.int _) .nil))) (.cons (dp_lst b6 (t7 _ _ upd_same) (.cons (.int _) (.cons (.int _) .nil))) (.cons (dp_tup b7 (t8 _ _ upd_same) (.cons (.int _) (.cons (.int _) (.cons (.int _) (.cons (.int _) .nil))))) (.cons (.int _) .nil)))))))))))))))))))
  obtain ⟨d, hd, hp⟩ := DpAll.get all hv
  exact q v d H' ((Dr.of hb t1).trans dr) (Dp.same dr.del _ hp) (odds_sm d (List.mem_of_getElem? hd))
end
end XL
namespace XL
open PySem PySem.Spec PyProof.Rows L2
abbrev sOth : Stmt := topS 18
section
variable {K : PySem.W.Frag} {H : Hp}
theorem DpAll.take : ∀ {xs : List V} {ds : List PyData} (j : Nat), DpAll K H xs ds → DpAll K H (xs.take j) (ds.take j)
  | _, _, 0, _ => by rw [List.take_zero, List.take_zero]; exact .nil
  | _, _, j + 1, .nil => .nil
  | _, _, j + 1, .cons a r => .cons a (DpAll.take j r)
theorem DpAll.drop : ∀ {xs : List V} {ds : List PyData} (j : Nat), DpAll K H xs ds → DpAll K H (xs.drop j) (ds.drop j)
  | _, _, 0, h => h
  | _, _, j + 1, .nil => .nil
  | _, _, j + 1, .cons a r => DpAll.drop j r
theorem DpAll.put : ∀ {xs : List V} {ds : List PyData} {v : V} {d : PyData} (j : Nat), DpAll K H xs ds → Dp K H v d → DpAll K H (xs.set j v) (ds.set j d)
  | _, _, _, _, 0, .nil, _ => .nil
  | _, _, _, _, 0, .cons a r, h => .cons h r
  | _, _, _, _, j + 1, .nil, _ => .nil
  | _, _, _, _, j + 1, .cons a r, h => .cons a (DpAll.put j r h)
end
theorem cut_to (xs : List V) (j : Nat) : cutV xs none (some (j : Int)) = xs.take j := by
  unfold cutV
  rw [HT.sIx_none, HT.sIx_nat, List.drop_zero, Nat.sub_zero]
  rcases Nat.le_total j xs.length with h | h
  · rw [Nat.min_eq_left h]
  · rw [Nat.min_eq_right h, List.take_of_length_le (Nat.le_refl _), List.take_of_length_le h]
theorem cut_from (xs : List V) (j : Nat) : cutV xs (some (j : Int)) none = xs.drop j := by
  unfold cutV
  rw [HT.sIx_none, HT.sIx_nat]
  rcases Nat.le_total j xs.length with h | h
  · rw [Nat.min_eq_left h, List.take_of_length_le (by rw [List.length_drop]; omega)]
  · rw [Nat.min_eq_right h, List.drop_of_length_le (Nat.le_refl _), List.drop_of_length_le h, List.take_nil]
theorem cut_one (xs : List V) (j : Nat) (h : j < xs.length) : cutV xs (some (j : Int)) (some ((j : Int) + 1)) = (xs.drop j).take 1 := by
  unfold cutV
  rw [show ((j : Int) + 1) = ((j + 1 : Nat) : Int) by omega, HT.sIx_nat, HT.sIx_nat, Nat.min_eq_left (by omega), Nat.min_eq_left (by omega), show j + 1 - j = 1 by omega]
/-! ### what a bend leaves -/
theorem depth_l (ds : List PyData) : PyData.depth (.list ds) = PyData.depthAll ds + 1 := by simp [PyData.depth]
theorem depth_t (ds : List PyData) : PyData.depth (.tuple ds) = PyData.depthAll ds + 1 := by simp [PyData.depth]
structure SmA (m n w : Nat) (ds : List PyData) : Prop where
  g : Gds m ds
  dp : PyData.depthAll ds ≤ n
  wt : PyData.weightAll ds ≤ w
theorem SmA.lst {m n w : Nat} {ds : List PyData} (h : SmA m n w ds) : Sm m (n + 1) w (.list ds) := ⟨h.g, by rw [depth_l]; have := h.dp; omega, h.wt⟩
theorem SmA.tup {m n w : Nat} {ds : List PyData} (h : SmA m n w ds) : Sm m (n + 1) w (.tuple ds) := ⟨h.g, by rw [depth_t]; have := h.dp; omega, h.wt⟩
theorem bend0 {m : Nat} {ds : List PyData} {j : Nat} {e : PyData} (h : ds[j]? = some e) (g : Gds m ds) : SmA m (PyData.depthAll ds) (PyData.weightAll ds) (ds.take j ++ ds.drop (j + 1)) := by
  have e0 := split_at h
  have g' := g
  rw [e0] at g'
  rw [Gds_app] at g'
  have w0 : PyData.weightAll ds = PyData.weightAll (ds.take j) + (e.weight + 1 + PyData.weightAll (ds.drop (j + 1))) := by
    conv => lhs; rw [e0, weightAll_app]
    rfl
  have d0 : PyData.depthAll ds = max (PyData.depthAll (ds.take j)) (max e.depth (PyData.depthAll (ds.drop (j + 1)))) := by
    conv => lhs; rw [e0, depthAll_app]
    rfl
  refine ⟨Gds_app.mpr ⟨g'.1, g'.2.2⟩, ?_, ?_⟩
  · rw [depthAll_app]; omega
  · rw [weightAll_app]; omega
theorem bend1 {m : Nat} {ds : List PyData} {j : Nat} {e : PyData} (h : ds[j]? = some e) (g : Gds m ds) : SmA m (PyData.depthAll ds) (2 * PyData.weightAll ds) ((ds.take j ++ (ds.drop j).take 1) ++ ds.drop j) := by
  have e0 := split_at h
  have hd : ds.drop j = e :: ds.drop (j + 1) := by
    have hj : j < ds.length := by
      rcases Nat.lt_or_ge j ds.length with q | q
      · exact q
      · rw [List.getElem?_eq_none q] at h; cases h
    rw [List.getElem?_eq_getElem hj] at h
    rw [← Option.some.inj h, List.getElem_cons_drop]
  have g' := g
  rw [e0] at g'
  rw [Gds_app] at g'
  have w0 : PyData.weightAll ds = PyData.weightAll (ds.take j) + (e.weight + 1 + PyData.weightAll (ds.drop (j + 1))) := by
    conv => lhs; rw [e0, weightAll_app]
    rfl
  have d0 : PyData.depthAll ds = max (PyData.depthAll (ds.take j)) (max e.depth (PyData.depthAll (ds.drop (j + 1)))) := by
    conv => lhs; rw [e0, depthAll_app]
    rfl
  rw [hd]
  have t1 : (e :: ds.drop (j + 1)).take 1 = [e] := rfl
  rw [t1]
  refine ⟨Gds_app.mpr ⟨Gds_app.mpr ⟨g'.1, g'.2.1, trivial⟩, g'.2⟩, ?_, ?_⟩
  · rw [depthAll_app, depthAll_app]
    have a1 : PyData.depthAll [e] = max e.depth 0 := rfl
    have a2 : PyData.depthAll (e :: ds.drop (j + 1)) = max e.depth (PyData.depthAll (ds.drop (j + 1))) := rfl
    omega
  · rw [weightAll_app, weightAll_app]
    have a1 : PyData.weightAll [e] = e.weight + 1 + 0 := rfl
    have a2 : PyData.weightAll (e :: ds.drop (j + 1)) = e.weight + 1 + PyData.weightAll (ds.drop (j + 1)) := rfl
    omega
theorem bend3 {m m' : Nat} {ds : List PyData} {j : Nat} {e e' : PyData} (h : ds[j]? = some e) (g : Gds m ds) (hm : m ≤ m') (s : Sm m' (e.depth + 1) (2 * e.weight + 200) e') : SmA m' (PyData.depthAll ds + 1) (2 * PyData.weightAll ds + 200) (ds.set j e') := by
  have e0 := split_at h
  have g' := Gds.mono hm _ g
  rw [e0] at g'
  rw [Gds_app] at g'
  have w0 : PyData.weightAll ds = PyData.weightAll (ds.take j) + (e.weight + 1 + PyData.weightAll (ds.drop (j + 1))) := by
    conv => lhs; rw [e0, weightAll_app]
    rfl
  have d0 : PyData.depthAll ds = max (PyData.depthAll (ds.take j)) (max e.depth (PyData.depthAll (ds.drop (j + 1)))) := by
    conv => lhs; rw [e0, depthAll_app]
    rfl
  have s1 := s.dp
  have s2 := s.wt
  rw [set_at h]
  refine ⟨Gds_app.mpr ⟨g'.1, s.g, g'.2.2⟩, ?_, ?_⟩
  · rw [depthAll_app]
    have a2 : PyData.depthAll (e' :: ds.drop (j + 1)) = max e'.depth (PyData.depthAll (ds.drop (j + 1))) := rfl
    omega
  · rw [weightAll_app]
    have a2 : PyData.weightAll (e' :: ds.drop (j + 1)) = e'.weight + 1 + PyData.weightAll (ds.drop (j + 1)) := rfl
    omega
theorem Sm.up {m m' n n' w w' : Nat} {d : PyData} (s : Sm m n w d) (hm : m ≤ m') (hn : n ≤ n') (hw : w ≤ w') : Sm m' n' w' d := ⟨Gd.mono hm _ s.g, Nat.le_trans s.dp hn, Nat.le_trans s.wt hw⟩
theorem sm_int {m : Nat} {i : Int} (h : i.natAbs ≤ m) (hm : m ≤ 10 ^ 32) : Sm m 0 200 (.int i) := by
  refine ⟨h, Nat.zero_le _, ?_⟩
  show (if i == 0 then 0 else i.natAbs.log2 + 1) ≤ 200
  have := log_lt (Nat.le_trans h hm)
  split <;> omega
theorem sm_str {m : Nat} {i : Int} (h : i.natAbs ≤ m) (hm : m ≤ 10 ^ 32) : Sm m 0 200 (.str (Str.ofString (toString i))) := by
  refine ⟨?_, Nat.zero_le _, ?_⟩
  · show (Str.ofString (toString i)).cps.toList.all (fun c => decide (c < 16 ^ 8)) = true
    rw [PySem.Str.ofString_eq_toList]
    rw [List.all_eq_true]
    intro c hc
    have hc' : c ∈ (toString i).toList.map Char.toNat := hc
    obtain ⟨ch, _, rfl⟩ := List.mem_map.mp hc'
    refine decide_eq_true (Nat.lt_of_lt_of_le (m := 4294967296) ?_ (by decide))
    exact ch.val.toNat_lt
  · show (Str.ofString (toString i)).length ≤ 200
    have := short_int (Nat.le_trans h hm)
    have e : (PyData.shown (.int i)).length = (Str.ofString (toString i)).length := rfl
    omega
end XL
namespace XL
open PySem PySem.Spec PyProof.Rows L2
/-- f(e, ..) while the list at D is hidden -/
theorem pe_callH {X : Cx} {k : Nat} {f : Addr} {fd : FuncData} {ps : List Str} {sp : Sp} {x : Str} {p pos : Pos} {e : Expr} {es : List Expr} {t : TA} (F : FnOk X.prog X.w X.K X.mg X.base CX0 k f fd ps sp) (hr : Room k X.A) (hg : Gl X x) (hm : X.mg x = some (.ref f)) (hk : PySem.W.keepIn X.K (.ref f) = true) (hb : Binds X.K fd ps [])
    (ha : PA X (e :: es) t) (hdb : (x == ("__debug__" : Str)) = false := by decide) (he : starEach (e :: es) X.env = (false, eval e X.env) :: starEach es X.env := by rfl)
    (hpl : (backTo pos (starEach es X.env)).any (·.1) = false := by rfl) : PE X (.Call (.Name x p) (e :: es) [] pos) (fun σ H Q => t σ H fun vs H1 => ∃ D xs, H1 D = some (.lst xs) ∧ sp vs (delH H1 D) (fun v H' => H' D = none → Q v (upd H' D (.lst xs))) E0) := by
  refine ⟨fun pins s σ H Q I h => wpAny_Call_Name_kw (ld_glob I hg hm ?_ hdb)⟩
  refine PySem.W.callWith_K (h₀ := X.base) I.ok.mod.kin hk (thn (ha.run pos pins s σ H _ I h) fun us s1 ⟨vs, H1, I1, r, D, xs, hD, q⟩ => ⟨I1.kIn, ?_⟩) he hpl
  have hl : us.length = ps.length := by rw [← r.length]; exact F.len _ _ _ _ q
  have hb' : BindsTo s1 fd ⟨us, []⟩ (ps.zip us) := by have b2 := hb s1 us I1.kIn (by rw [List.append_nil]; exact hl); rwa [List.append_nil] at b2
  obtain ⟨its, n, rv, hz, J⟩ := Inv.hide I1 hD
  refine wpAny_call (codeAny_mono (F.run X.A X.stack s1 _ ⟨us, []⟩ us vs _ E0 hr J.env0 hb' r q) fun r s' hq => ?_)
  cases r with
  | error e => exact False.elim hq
  | ok fl =>
    cases fl with
    | ret u =>
      obtain ⟨v, H', J', rv', q'⟩ := J.after hq
      obtain ⟨hn, I'⟩ := Inv.unhide I1 hD rv hz J'
      exact ⟨v, _, I', rv', q' hn⟩
    | next => exact False.elim hq
    | brk => exact False.elim hq
    | cont => exact False.elim hq
def ifBody (s : Stmt) : List Stmt := match s with
  | .If _ b _ _ => b
  | _ => []
section
variable {P : Program} {w : World} {K : PySem.W.Frag} {mg : Str → Option Value} {base : Heap}
theorem no_fnk {k : Nat} {f : Addr} {fd : FuncData} {ps : List Str} {sp : Sp} (no : ∀ vs H Q E, ¬ sp vs H Q E) : FnOk P w K mg base CX0 k f fd ps sp :=
  ⟨fun vs H Q E h => absurd h (no vs H Q E), fun A outer s H args us vs Q E _ _ _ _ h => absurd h (no vs H Q E)⟩
theorem fn_up {k n : Nat} {f : Addr} {fd : FuncData} {ps : List Str} {sp : Sp} (h : k ≤ n) (F : FnOk P w K mg base CX0 k f fd ps sp) : FnOk P w K mg base CX0 n f fd ps sp :=
  ⟨F.len, fun A outer s H args us vs Q E hr e0 hb r q => F.run A outer s H args us vs Q E (hr.mono h) e0 hb r q⟩
theorem Fns.up {k n : Nat} {name : Str} {f : Addr} {fd : FuncData} {ps : List Str} {sp : Sp} (h : k ≤ n) (F : Fns P w K mg base k name ps sp f fd) : Fns P w K mg base n name ps sp f fd := ⟨fn_up h F.ok, F.g, F.k, F.b⟩
abbrev nOth : List Str := ["_law_box_here", "_law_what", "_law_spot", "_law_kind", "_law_some"]
theorem scOth : FnScope nOth ["_law_box_here", "_law_what"] (defScope sOth) := ⟨rfl, rfl, rfl, by decide +kernel, rfl, by decide +kernel, by decide +kernel⟩
def spOth (K : PySem.W.Frag) (n : Nat) : Sp := fun vs H Q _ => ∃ (b : Addr) (v : V) (d : PyData) (m : Nat), vs = [.ref b, v] ∧ Bx H b ∧ Dp K (delH H b) v d ∧ Gd m d ∧ 10 ^ 30 ≤ m ∧ 2 * m + 3 ≤ 10 ^ 32 ∧ d.depth < n ∧ d.weight ≤ 100000 ∧
  ∀ v' d' H', Dr b H H' → Dp K (delH H' b) v' d' → Sm (2 * m + 3) (d.depth + 1) (2 * d.weight + 200) d' → Q v' H'
theorem ok_oth {f ft fo : Addr} {fd fdt fdo : FuncData} (F : Fun K "_law_otherwise" "_law_otherwise" sOth f fd) (b : Binds K fd ["_law_box_here", "_law_what"] []) (gF : mg "_law_otherwise" = some (.ref f))
    (T0 : Fns P w K mg base 3 "_law_take" ["_law_box_here", "_law_size"] spTake ft fdt) (O0 : Fns P w K mg base 3 "_law_odd" ["_law_box_here"] (spOdd K) fo fdo)
    (mi : mg "isinstance" = none) (ml : mg "list" = none) (mt : mg "tuple" = none) (me : mg "len" = none) (mb : mg "bool" = none) (ms : mg "str" = none) (mn : mg "int" = none) :
    ∀ n : Nat, FnOk P w K mg base CX0 (n + 3) f fd ["_law_box_here", "_law_what"] (spOth K n)
  | 0 => no_fnk fun vs H Q E ⟨b, v, d, m, _, _, _, _, _, _, h, _⟩ => absurd h (Nat.not_lt_zero _)
  | n + 1 => by
    have G := ok_oth F b gF T0 O0 mi ml mt me mb ms mn n
    have T := T0.up (show 3 ≤ n + 3 by omega)
    have O := O0.up (show 3 ≤ n + 3 by omega)
    refine F.ok scOth (fun vs H Q E h => ?_) (fun cdv A outer s H vs Q E hr h => ?_)
    · obtain ⟨b, v, d, m, rfl, _⟩ := h
      rfl
    obtain ⟨bx, v, d, m, rfl, hb, hd, hg, hm1, hm2, hdp, hwt, q⟩ := h
    have tail : ∃ t, PSs (cxOf CX0 P w K mg base nOth "_law_otherwise" (defScope sOth) f cdv A outer s H E).nox ((defBody sOth).drop 1) t ∧
        ∀ (H1 : Hp), Dr bx H H1 → t { nx := fun _ H' => Q .non H', rt := Q } [some (.ref bx), some v, none, none, none] H1 := by
      refine ⟨_, (pss_cons (ps_if (PW.pt (pw_and (pt_val (pe_callB (call_isD kit_intB) rfl mi boot_isinstance (pa_cons (pv 1) (pa_cons (pe_bltn (v := .ty "int") rfl mn boot_int' rfl) pa_nil)))) (pw_and (pt_not (pt_val (pe_callB (call_isD kit_bool) rfl mi boot_isinstance (pa_cons (pv 1) (pa_cons (pe_bltn (v := .ty "bool") rfl mb boot_bool' rfl) pa_nil))))) (pw_and1 (pt_cmpR op_gt (pe_fn T hr rfl (pa_cons (pv 0) (pa_cons pe_int pa_nil))) pe_int (nomark _)))))) (pss_one (ps_ret (pe_ix ix_list (pe_lst (pa_cons (pe_op op_add (pv 1) pe_int) (pa_cons (pe_op op_sub (pv 1) pe_int) (pa_cons (pe_op op_sub pe_int (pv 1)) (pa_cons (pe_cmpR op_eq (pv 1) pe_int (nomark _)) (pa_cons (pe_callTy call_str_int rfl ms boot_str' (pa_cons (pv 1) pa_nil)) (pa_cons (pe_op op_mul pe_int (pv 1)) (pa_cons (pe_op op_add (pv 1) pe_int) pa_nil)))))))) (pe_fn T hr rfl (pa_cons (pv 0) (pa_cons pe_int pa_nil))) (fun _ _ => rfl)))) pss_nil)
      (pss_one (ps_ret (pe_fn O hr rfl (pa_cons (pv 0) pa_nil))))), fun H1 d1 => ?_⟩
      have hd1 : Dp K H1 v d := Dp.same del_same _ (Dp.same d1.del _ hd)
      refine ⟨_, rfl, v, d, rfl, hd1, _, rfl, ?_⟩
      cases hd with
      | int i =>
        have hi : i.natAbs ≤ m := hg
        refine iteT ⟨_, rfl, _, _, rfl, hd1, _, rfl, iteT ⟨_, rfl, bx, 3, rfl, d1.box, by decide, by decide, fun v3 H3 _ _ d3 => ⟨_, _, rfl, rfl, _, rfl, ite2 (fun c => ?_) (fun c => ?_)⟩⟩⟩
        · refine ⟨_, rfl, _, _, rfl, rfl, _, rfl, _, _, rfl, rfl, _, rfl, _, _, rfl, rfl, _, rfl, rfl, _, rfl, i, rfl, Nat.lt_trans (log_lt (show i.natAbs ≤ 10 ^ 32 by omega)) (by decide), _, rfl, _, _, rfl, rfl, .inl ⟨by decide, by decide⟩, _, rfl, _, _, rfl, rfl, (by show 7 ≤ sizeLine; decide), fun l nl => ?_⟩
          have d13 := d1.trans d3
          have lb := bx_ne d13.box nl
          have d14 := d13.trans (Dr.new (o := .lst [.int (i + 1), .int (i - 1), .int (0 - i), .bl (decide (V.int i = V.int 1)), .str (Str.ofString (toString i)), .int (2 * i), .int (i + 3)]) d13.box nl)
          refine ⟨_, rfl, bx, 7, rfl, d14.box, by decide, by decide, fun v7 H7 h0 h1 d7 => ?_⟩
          have el : H7 l = some (.lst [.int (i + 1), .int (i - 1), .int (0 - i), .bl (decide (V.int i = V.int 1)), .str (Str.ofString (toString i)), .int (2 * i), .int (i + 3)]) := d7.same l _ lb upd_same
          have all : DpAll K (delH H7 bx) [.int (i + 1), .int (i - 1), .int (0 - i), .bl (decide (V.int i = V.int 1)), .str (Str.ofString (toString i)), .int (2 * i), .int (i + 3)] [.int (i + 1), .int (i - 1), .int (0 - i), .bool (decide (V.int i = V.int 1)), .str (Str.ofString (toString i)), .int (2 * i), .int (i + 3)] :=
            .cons (.int _) (.cons (.int _) (.cons (.int _) (.cons (.bl _) (.cons (.str _) (.cons (.int _) (.cons (.int _) .nil))))))
          have hj : v7.toNat < ([.int (i + 1), .int (i - 1), .int (0 - i), .bl (decide (V.int i = V.int 1)), .str (Str.ofString (toString i)), .int (2 * i), .int (i + 3)] : List V).length := by show v7.toNat < 7; omega
          have ex := List.getElem?_eq_getElem hj
          obtain ⟨d', ed', hp'⟩ := DpAll.get all ex
          refine ⟨l, _, v7, _, rfl, rfl, SqL.of el, atI_int h0 ex, q _ d' H7 (d14.trans d7) hp' ?_⟩
          have smi : ∀ z : Int, z.natAbs ≤ 2 * m + 3 → Sm (2 * m + 3) (PyData.depth (.int i) + 1) (2 * PyData.weight (.int i) + 200) (.int z) := fun z hz => (sm_int hz hm2).up (Nat.le_refl _) (Nat.zero_le _) (by omega)
          have hmem := List.mem_of_getElem? ed'
          simp only [List.mem_cons, List.not_mem_nil, or_false] at hmem
          rcases hmem with rfl | rfl | rfl | rfl | rfl | rfl | rfl
          · exact smi _ (by omega)
          · exact smi _ (by omega)
          · exact smi _ (by omega)
          · exact ⟨trivial, Nat.zero_le _, Nat.zero_le _⟩
          · exact (sm_str (show i.natAbs ≤ 2 * m + 3 by omega) hm2).up (Nat.le_refl _) (Nat.zero_le _) (by omega)
          · exact smi _ (by omega)
          · exact smi _ (by omega)
        · exact ⟨_, rfl, bx, rfl, (d1.trans d3).box, fun v' d' H' dr hp sm => q _ _ _ ((d1.trans d3).trans dr) hp (sm.up (by omega) (by omega) (by omega))⟩
      | bl c => exact iteT ⟨_, rfl, _, _, rfl, hd1, _, rfl, iteF (iteF ⟨_, rfl, bx, rfl, d1.box, fun v' d' H' dr hp sm => q _ _ _ (d1.trans dr) hp (sm.up (by omega) (by omega) (by omega))⟩)⟩
      | _ => exact iteF (iteF ⟨_, rfl, bx, rfl, d1.box, fun v' d' H' dr hp sm => q _ _ _ (d1.trans dr) hp (sm.up (by omega) (by omega) (by omega))⟩)
    obtain ⟨t, ht, hgo⟩ := tail
    have tail2 : ∃ t, PSs (cxOf CX0 P w K mg base nOth "_law_otherwise" (defScope sOth) f cdv A outer s H E).nox ((ifBody ((defBody sOth).headD (.Pass ⟨0, 0, 0, 0⟩))).drop 3) t ∧
        ∀ (D : Ends) (H1 : Hp) (l : Addr) (s1 k1 : V) (xs : List V) (ds : List PyData), D.rt = Q → isSeq d = true → Dr bx H H1 → H1 l = some (.lst xs) → l ≠ bx → DpAll K (delH H1 bx) xs ds → SmA (2 * m + 3) (PyData.depthAll (itemsD d) + 1) (2 * d.weight + 200) ds → t D [some (.ref bx), some v, some s1, some k1, some (.ref l)] H1 := by
      refine ⟨_, (pss_one (ps_ret (pe_ifExp (pt_val (pe_callB (call_isD kit_isL) rfl mi boot_isinstance (pa_cons (pv 1) (pa_cons (pe_bltn (v := .ty "list") rfl ml boot_list rfl) pa_nil)))) (pv 4) (pe_callTy call_tuple_of rfl mt boot_tuple (pa_cons (pv 4) pa_nil))))), fun D H1 l s1 k1 xs ds hD hsq d1 el lb hall sm => ?_⟩
      have hd1 : Dp K H1 v d := Dp.same del_same _ (Dp.same d1.del _ hd)
      have hdep : PyData.depthAll (itemsD d) + 1 = d.depth := by
        cases d with
        | list ds => exact (depth_l ds).symm
        | tuple ds => exact (depth_t ds).symm
        | _ => cases hsq
      refine ⟨_, rfl, v, d, rfl, hd1, _, rfl, ?_⟩
      cases hL : isL d with
      | true =>
        refine iteT ⟨_, rfl, ?_⟩
        rw [hD]
        refine q _ (.list ds) H1 d1 (dp_lst lb el hall) ?_
        have := sm.lst
        rw [hdep] at this; exact this
      | false =>
        refine iteF ⟨_, rfl, l, xs, rfl, .inl ⟨SqL.of el, fun t nt => ?_⟩⟩
        rw [hD]
        have sT := same_new (o := .tup xs) nt
        refine q _ (.tuple ds) _ (d1.trans (Dr.of d1.box sT)) (dp_tup (bx_ne d1.box nt) upd_same (DpAll.same (same_del sT) _ hall)) ?_
        have := sm.tup
        rw [hdep] at this; exact this
    obtain ⟨t2, ht2, hgo2⟩ := tail2
    refine ⟨_, pss_cons (ps_if (PW.pt (pw_and (pt_val (pe_callB call_isiT rfl mi boot_isinstance (pa_cons (pv 1) (pa_cons (pe_tup (pa_cons (pe_bltn (v := .ty "list") rfl ml boot_list rfl) (pa_cons (pe_bltn (v := .ty "tuple") rfl mt boot_tuple rfl) pa_nil))) pa_nil)))) (pw_and (pt_cmpR op_gt (pe_callB call_lenD rfl me PySem.boot_len (pa_cons (pv 1) pa_nil)) pe_int (nomark _)) (pw_and1 (pt_cmpR op_gt (pe_fn T hr rfl (pa_cons (pv 0) (pa_cons pe_int pa_nil))) pe_int (nomark _)))))) (pss_cons (ps_par rfl scOth.nd (i := 2) (j := 3) rfl rfl (by decide) rfl rfl (pa_cons (pe_fn T hr rfl (pa_cons (pv 0) (pa_cons (pe_callB call_lenD rfl me PySem.boot_len (pa_cons (pv 1) pa_nil)) pa_nil))) (pa_cons (pe_fn T hr rfl (pa_cons (pv 0) (pa_cons pe_int pa_nil))) pa_nil)) rfl)
      (pss_cons (ps_set (i := 4) scOth.nd rfl (.inl rfl) (pe_callTy call_list_of rfl ml boot_list (pa_cons (pv 1) pa_nil)))
      (pss_cons (ps_if (pt_cmpR op_eq (pv 3) pe_int (nomark _)) (pss_one (ps_set (i := 4) scOth.nd rfl (.inl rfl) (pe_op op_cat (pe_slice sl_list (pv 4) po_none (po_some (pv 2))) (pe_slice sl_list (pv 4) (po_some (pe_op op_add (pv 2) pe_int)) po_none)))) (pss_one (ps_if (pt_cmpR op_eq (pv 3) pe_int (nomark _)) (pss_one (ps_set (i := 4) scOth.nd rfl (.inl rfl) (pe_op op_cat (pe_op op_cat (pe_slice sl_list (pv 4) po_none (po_some (pv 2))) (pe_slice sl_list (pv 4) (po_some (pv 2)) (po_some (pe_op op_add (pv 2) pe_int)))) (pe_slice sl_list (pv 4) (po_some (pv 2)) po_none)))) (pss_one (ps_if (pt_cmpR op_eq (pv 3) pe_int (nomark _)) (pss_one (ps_ret (pe_ifExp (pt_val (pe_callB (call_isD kit_isL) rfl mi boot_isinstance (pa_cons (pv 1) (pa_cons (pe_bltn (v := .ty "list") rfl ml boot_list rfl) pa_nil)))) (pe_callTy call_tuple_of rfl mt boot_tuple (pa_cons (pv 4) pa_nil)) (pv 4)))) (pss_one (ps_asg (pe_callH G hr rfl gF F.kp b (pa_cons (pv 0) (pa_cons (pe_ix ix_list (pv 4) (pv 2) (fun _ _ => rfl)) pa_nil))) (pg_sub (pv 4) (pv 2) set_list))))))))
      ht2))) pss_nil) ht, ?_⟩
    refine ⟨_, rfl, (by show 2 ≤ sizeLine; decide), fun tp np => ?_⟩
    have stp := same_new (o := .tup [.ty "list", .ty "tuple"]) np
    have dtp := Dr.of hb stp
    have hdtp := Dp.same (same_del stp) _ hd
    refine ⟨v, tp, _, tyD d, _, isSeq d, rfl, upd_same, .cons (.ty _) (.cons (.ty _) .nil), tyx_of (Dp.same del_same _ hdtp), seq_kit d (Dp.nodict hd), isSeq d, rfl, ?_⟩
    cases hsq : isSeq d with
    | false => exact iteF (iteF (hgo _ dtp))
    | true =>
    refine iteT ⟨_, rfl, v, d, rfl, Dp.same del_same _ hdtp, hsq, _, _, rfl, rfl, _, rfl, ite2 (fun c => ?_) (fun c => iteF (hgo _ dtp))⟩
    refine ⟨_, rfl, bx, 5, rfl, dtp.box, by decide, by decide, fun v5 H5 _ _ d5 => ⟨_, _, rfl, rfl, _, rfl, ite2 (fun c5 => ?_) (fun c5 => hgo _ (dtp.trans d5))⟩⟩
    have dr5 := dtp.trans d5
    have hlen1 : 0 < (itemsD d).length := by have c' : (0 : Int) < ((itemsD d).length : Int) := of_decide_eq_true c; omega
    have hlen2 : (itemsD d).length ≤ d.weight := by
      cases d with
      | list ds => exact len_le_weight ds
      | tuple ds => exact len_le_weight ds
      | _ => cases hsq
    -- spot, kind
    refine ⟨_, rfl, _, rfl, v, d, rfl, Dp.same del_same _ (Dp.same dr5.del _ hd), hsq, bx, _, rfl, dr5.box, by omega, by omega, fun sp H6 s60 s61 d6 => ⟨_, rfl, bx, 9, rfl, d6.box, by decide, by decide, fun kd H7 k0 k1 d7 => ⟨_, _, rfl, ?_⟩⟩⟩
    refine at_s (σ' := [some (.ref bx), some v, some (.int sp), some (.int kd), none]) rfl ?_
    have dr7 := (dr5.trans d6).trans d7
    obtain ⟨j, rfl⟩ : ∃ j : Nat, sp = (j : Int) := ⟨sp.toNat, by omega⟩
    have hj : j < (itemsD d).length := by omega
    clear d7 d6 dr5 d5 dtp hdtp stp np c5 s60 s61
    have hd7 := Dp.same dr7.del _ hd
    obtain ⟨a, xs, ev, hs, hall⟩ := seq_of hd7 hsq
    subst ev
    have hxl : xs.length = (itemsD d).length := DpAll.length hall
    have hxs : xs.length ≤ 100000 := by omega
    -- some = list(what)
    refine ⟨_, rfl, a, xs, rfl, Same.sq2 del_same hs, fun l nl => ?_⟩
    refine at_g (σ' := [some (.ref bx), some (.ref a), some (.int (j : Int)), some (.int kd), some (.ref l)]) rfl ?_
    have sl := same_new (o := .lst xs) nl
    have lb := bx_ne dr7.box nl
    have dr8 := dr7.trans (Dr.of dr7.box sl)
    have hall8 := DpAll.same (same_del sl) _ hall
    have el : upd H7 l (.lst xs) l = some (.lst xs) := upd_same
    obtain ⟨H8, eH8⟩ : ∃ H8, upd H7 l (.lst xs) = H8 := ⟨_, rfl⟩
    rw [eH8] at dr8 hall8 el ⊢
    obtain ⟨e, he⟩ : ∃ e, (itemsD d)[j]? = some e := ⟨_, List.getElem?_eq_getElem hj⟩
    have hgs : Gds m (itemsD d) := by
      cases d with
      | list ds => exact hg
      | tuple ds => exact hg
      | _ => cases hsq
    have hwd : d.weight = PyData.weightAll (itemsD d) := by
      cases d with
      | list ds => rfl
      | tuple ds => rfl
      | _ => cases hsq
    have hddp : d.depth = PyData.depthAll (itemsD d) + 1 := by
      cases d with
      | list ds => exact depth_l ds
      | tuple ds => exact depth_t ds
      | _ => cases hsq
    have hmm : m ≤ 2 * m + 3 := by omega
    refine ⟨_, rfl, rfl, _, rfl, ite2 (fun c0 => ?_) (fun c0 => ?_)⟩
    · -- fewer
      refine ⟨_, rfl, _, rfl, (j : Int), rfl, l, xs, rfl, SqL.of el, fun p1 n1 => ?_⟩
      rw [cut_to]
      refine ⟨_, rfl, _, rfl, _, _, rfl, rfl, ((j : Int) + 1), rfl, l, xs, rfl, SqL.of (same_new n1 _ _ el), fun p2 n2 => ?_⟩
      rw [show ((j : Int) + 1) = ((j + 1 : Nat) : Int) by omega, cut_from]
      have s1 := same_new (o := .lst (xs.take j)) n1
      have s2 := same_new (o := .lst (xs.drop (j + 1))) n2
      refine ⟨p1, p2, _, _, rfl, rfl, s2 _ _ upd_same, upd_same, (by rw [List.length_take, List.length_drop, sizeLine_eq]; omega), fun p3 n3 => ?_⟩
      have s3 := same_new (o := .lst (xs.take j ++ xs.drop (j + 1))) n3
      have s123 := (s1.trans s2).trans s3
      refine at_g (σ' := [some (.ref bx), some (.ref a), some (.int (j : Int)), some (.int kd), some (.ref p3)]) rfl ?_
      have dr9 := dr8.trans (Dr.of dr8.box s123)
      have a8 := DpAll.same (same_del s123) _ hall8
      refine hgo2 _ _ p3 _ _ _ (((itemsD d).take j) ++ ((itemsD d).drop (j + 1))) rfl hsq dr9 upd_same (bx_ne (dr8.box.same (s1.trans s2)) n3) (DpAll.app (DpAll.take j a8) (DpAll.drop (j + 1) a8)) ?_
      have b0 := bend0 he hgs
      exact ⟨Gds.mono hmm _ b0.g, by have := b0.dp; omega, by have := b0.wt; omega⟩
    refine ⟨_, rfl, rfl, _, rfl, ite2 (fun c1 => ?_) (fun c1 => ?_)⟩
    · -- one twice
      refine ⟨_, rfl, _, rfl, (j : Int), rfl, l, xs, rfl, SqL.of el, fun p1 n1 => ?_⟩
      rw [cut_to]
      refine ⟨_, rfl, _, rfl, (j : Int), rfl, _, rfl, _, _, rfl, rfl, ((j : Int) + 1), rfl, l, xs, rfl, SqL.of (same_new n1 _ _ el), fun p2 n2 => ?_⟩
      rw [cut_one xs j (by omega)]
      have s1 := same_new (o := .lst (xs.take j)) n1
      have s2 := same_new (o := .lst ((xs.drop j).take 1)) n2
      refine ⟨p1, p2, _, _, rfl, rfl, s2 _ _ upd_same, upd_same, (by rw [List.length_take, List.length_take, List.length_drop, sizeLine_eq]; omega), fun p3 n3 => ?_⟩
      have s3 := same_new (o := .lst (xs.take j ++ (xs.drop j).take 1)) n3
      have s13 := (s1.trans s2).trans s3
      refine ⟨_, rfl, _, rfl, (j : Int), rfl, l, xs, rfl, SqL.of (s13 _ _ el), fun p4 n4 => ?_⟩
      rw [cut_from]
      have s4 := same_new (o := .lst (xs.drop j)) n4
      refine ⟨p3, p4, _, _, rfl, rfl, s4 _ _ upd_same, upd_same, (by rw [List.length_append, List.length_take, List.length_take, List.length_drop, sizeLine_eq]; omega), fun p5 n5 => ?_⟩
      have s5 := same_new (o := .lst ((xs.take j ++ (xs.drop j).take 1) ++ xs.drop j)) n5
      have s15 := (s13.trans s4).trans s5
      refine at_g (σ' := [some (.ref bx), some (.ref a), some (.int (j : Int)), some (.int kd), some (.ref p5)]) rfl ?_
      have dr9 := dr8.trans (Dr.of dr8.box s15)
      have a8 := DpAll.same (same_del s15) _ hall8
      refine hgo2 _ _ p5 _ _ _ ((((itemsD d).take j) ++ ((itemsD d).drop j).take 1) ++ ((itemsD d).drop j)) rfl hsq dr9 upd_same (bx_ne (dr8.box.same (s13.trans s4)) n5) (DpAll.app (DpAll.app (DpAll.take j a8) (DpAll.take 1 (DpAll.drop j a8))) (DpAll.drop j a8)) ?_
      have b0 := bend1 he hgs
      exact ⟨Gds.mono hmm _ b0.g, by have := b0.dp; omega, by have := b0.wt; omega⟩
    refine ⟨_, rfl, rfl, _, rfl, ite2 (fun c2 => ?_) (fun c2 => ?_)⟩
    · -- a list for a tuple, a tuple for a list
      have hd8 := Dp.same dr8.del _ hd
      have smS : SmA (2 * m + 3) (PyData.depthAll (itemsD d)) (2 * d.weight + 200) (itemsD d) := ⟨Gds.mono hmm _ hgs, Nat.le_refl _, by omega⟩
      refine ⟨_, rfl, _, d, rfl, Dp.same del_same _ hd8, _, rfl, ?_⟩
      cases hL : isL d with
      | true =>
        refine iteT ⟨_, rfl, l, xs, rfl, .inl ⟨SqL.of el, fun t nt => ?_⟩⟩
        have sT := same_new (o := .tup xs) nt
        refine q _ (.tuple (itemsD d)) _ (dr8.trans (Dr.of dr8.box sT)) (dp_tup (bx_ne dr8.box nt) upd_same (DpAll.same (same_del sT) _ hall8)) ?_
        exact smS.tup.up (Nat.le_refl _) (by omega) (Nat.le_refl _)
      | false =>
        refine iteF ⟨_, rfl, ?_⟩
        exact q _ (.list (itemsD d)) _ dr8 (dp_lst lb el hall8) (smS.lst.up (Nat.le_refl _) (by omega) (Nat.le_refl _))
    · -- bent within
      subst eH8
      obtain ⟨x, hx, hpx⟩ := DpAll.get' hall he
      have hge : Gd m e := Gds_iff.mp hgs e (List.mem_of_getElem? he)
      have hwe := mem_weight (List.mem_of_getElem? he)
      have hde : e.depth ≤ PyData.depthAll (itemsD d) := by
        have e0 := split_at he
        have d0 : PyData.depthAll (itemsD d) = max (PyData.depthAll ((itemsD d).take j)) (max e.depth (PyData.depthAll ((itemsD d).drop (j + 1)))) := by
          conv => lhs; rw [e0, depthAll_app]
          rfl
        omega
      refine ⟨_, rfl, _, rfl, _, rfl, l, xs, _, x, rfl, rfl, SqL.of el, atI_nat hx, l, xs, el, ?_⟩
      rw [delH_upd nl]
      refine ⟨bx, x, e, m, rfl, dr7.box, hpx, hge, hm1, hm2, by omega, by omega, fun v' d' H9 dr9 hp9 sm9 nl9 => ?_⟩
      refine ⟨_, rfl, _, rfl, l, xs, _, j, rfl, rfl, upd_same, ?_, ?_⟩
      · unfold ixN
        rw [if_pos (by omega), if_pos (by omega)]
        rfl
      rw [upd_upd]
      have s9 := same_new (o := .lst (xs.set j v')) nl9
      have dr10 := (dr7.trans dr9).trans (Dr.of dr9.box s9)
      have sb := bend3 he hgs hmm sm9
      refine hgo2 _ _ l _ _ _ ((itemsD d).set j d') rfl hsq dr10 upd_same lb (DpAll.same (same_del s9) _ (DpAll.put j (DpAll.same dr9.del _ hall) hp9)) ?_
      exact ⟨sb.g, sb.dp, by have := sb.wt; omega⟩
end
end XL
namespace XL
open PySem PySem.Spec PyProof.Rows L2
abbrev sRight : Stmt := topS 23
theorem boot_repr' : bootBuiltins "repr" = some (.builtin "repr") := by decide +kernel
/-! ### constants -/
def tCst (K : PySem.W.Frag) (d : PyData) : TE := fun σ H Q => ∀ v H', Same H H' → (∀ b, H b ≠ none → Dp K (delH H' b) v d) → Q v H'
def tCsts (K : PySem.W.Frag) (ds : List PyData) : TA := fun σ H Q => ∀ vs H', Same H H' → vs.length = ds.length → (∀ b, H b ≠ none → DpAll K (delH H' b) vs ds) → Q vs H'
theorem same_some {H H' : Hp} {b : Addr} (s : Same H H') (h : H b ≠ none) : H' b ≠ none := fun z => by
  cases e : H b with
  | none => exact h e
  | some o => rw [s _ _ e] at z; cases z
section
variable {X : Cx} {e : Expr} {es : List Expr} {d : PyData} {ds : List PyData} {k : Nat} {pos : Pos}
theorem PA.imp {t t' : TA} (h : PA X es t) (i : ∀ σ H Q, t' σ H Q → t σ H Q) : PA X es t' := ⟨fun pos pins s σ H Q I q => h.run pos pins s σ H Q I (i σ H Q q)⟩
theorem pe_cInt {i : Int} {j : Nat} : PE X (.Constant (.int i) j pos) (tCst X.K (.int i)) := PE.imp pe_int fun σ H Q h => h _ _ (Same.refl _) fun b _ => .int i
theorem pe_cBl {i : Bool} {j : Nat} : PE X (.Constant (.bool i) j pos) (tCst X.K (.bool i)) := PE.imp pe_bl fun σ H Q h => h _ _ (Same.refl _) fun b _ => .bl i
theorem pa_c0 : PA X [] (tCsts X.K []) := PA.imp pa_nil fun σ H Q h => h _ _ (Same.refl _) rfl fun b _ => .nil
theorem pa_c (h1 : PE X e (tCst X.K d)) (h2 : PA X es (tCsts X.K ds)) (hs : starEach (e :: es) X.env = (false, eval e X.env) :: starEach es X.env := by rfl) : PA X (e :: es) (tCsts X.K (d :: ds)) :=
  PA.imp (pa_cons h1 h2 hs) fun σ H Q h => fun v H1 s1 p1 vs H2 s2 l2 p2 => h (v :: vs) H2 (s1.trans s2) (by simp [l2]) fun b hb => .cons (Dp.same (same_del s2) _ (p1 b hb)) (p2 b (same_some s1 hb))
theorem pe_cTup (h : PA X es (tCsts X.K ds)) (hl : ds.length ≤ 1000 := by decide) : PE X (.Tuple es k pos) (tCst X.K (.tuple ds)) :=
  PE.imp (pe_tup h) fun σ H Q q => fun vs H1 s1 l1 p1 => ⟨by rw [l1]; exact Nat.le_of_lt (small1000 hl), fun p np => q (.ref p) _ (s1.trans (same_new np)) fun b hb => by
    have hb1 := same_some s1 hb
    have hn : p ≠ b := fun z => hb1 (by rw [← z]; exact np)
    exact dp_tup hn upd_same (DpAll.same (same_del (same_new np)) _ (p1 b hb))⟩
end
/-! ### sizes -/
mutual
theorem lst_gd {m : Nat} : ∀ d, Gd m d → Gd m (lstD d)
  | .none, g => g
  | .bool _, g => g
  | .int _, g => g
  | .str _, g => g
  | .list ds, g => lst_gds ds g
  | .tuple ds, g => lst_gds ds g
  | .dict _, g => g
theorem lst_gds {m : Nat} : ∀ ds, Gds m ds → Gds m (lstDs ds)
  | [], _ => trivial
  | d :: ds, g => ⟨lst_gd d g.1, lst_gds ds g.2⟩
end
mutual
theorem lst_wt : ∀ d : PyData, (lstD d).weight = d.weight
  | .none => rfl
  | .bool _ => rfl
  | .int _ => rfl
  | .str _ => rfl
  | .list ds => lst_wts ds
  | .tuple ds => lst_wts ds
  | .dict _ => rfl
theorem lst_wts : ∀ ds : List PyData, PyData.weightAll (lstDs ds) = PyData.weightAll ds
  | [] => rfl
  | d :: ds => by rw [lstDs, PyData.weightAll, PyData.weightAll, lst_wt d, lst_wts ds]
end
mutual
theorem lst_dp : ∀ d : PyData, (lstD d).depth = d.depth
  | .none => rfl
  | .bool _ => rfl
  | .int _ => rfl
  | .str _ => rfl
  | .list ds => by rw [lstD, depth_l, depth_l, lst_dps ds]
  | .tuple ds => by rw [lstD, depth_l, depth_t, lst_dps ds]
  | .dict _ => rfl
theorem lst_dps : ∀ ds : List PyData, PyData.depthAll (lstDs ds) = PyData.depthAll ds
  | [] => rfl
  | d :: ds => by rw [lstDs, PyData.depthAll, PyData.depthAll, lst_dp d, lst_dps ds]
end
theorem Sm.lst' {m n w : Nat} {d : PyData} (s : Sm m n w d) : Sm m n w (lstD d) := ⟨lst_gd d s.g, by rw [lst_dp]; exact s.dp, by rw [lst_wt]; exact s.wt⟩
theorem tp_del {b : Addr} {H : Hp} (h : Bx H b) : Tp H (delH H b) := by
  obtain ⟨x, y, z, e⟩ := h
  exact ⟨fun a xs q => by rw [delH_ne (fun w => by rw [w, e] at q; cases q)]; exact q, fun a o xs q => by rw [delH_ne (fun w => by rw [w, e] at q; cases q)]; exact q⟩
/-- the last items' bounds -/
abbrev Sq (d : PyData) : Prop := Sm (4 * 10 ^ 30 + 9) 5 69000 d
theorem Sq.show {d : PyData} (s : Sq d) : d.showable = true ∧ d.hasDict = false ∧ d.depth ≤ 50 ∧ d.shown.length ≤ sizeLine ∧ d.weight ≤ 300000 := by
  obtain ⟨a, b, c⟩ := Gd.shows (m := 4 * 10 ^ 30 + 9) (by decide) d s.g
  have := s.dp; have := s.wt
  exact ⟨a, b, by omega, shown_fits40 c (by omega), by omega⟩
end XL
namespace XL
open PySem PySem.Spec PyProof.Rows L2
theorem gds_ints {m : Nat} {zs : List Int} (h : ∀ z ∈ zs, z.natAbs ≤ m) : Gds m (intsD zs) := by
  rw [Gds_iff]
  intro d hd
  obtain ⟨z, hz, rfl⟩ := List.mem_map.mp hd
  exact h z hz
theorem wts_ints : ∀ {zs : List Int}, (∀ z ∈ zs, z.natAbs ≤ 10 ^ 13) → PyData.weightAll (intsD zs) ≤ zs.length * 50
  | [], _ => Nat.zero_le _
  | z :: zs, h => by
    have ih := wts_ints (zs := zs) fun y hy => h y (List.mem_cons_of_mem _ hy)
    have hz := h z (List.mem_cons_self ..)
    have e : PyData.weightAll (intsD (z :: zs)) = (PyData.int z).weight + 1 + PyData.weightAll (intsD zs) := rfl
    have e2 : (PyData.int z).weight ≤ 48 := by
      show (if z == 0 then 0 else z.natAbs.log2 + 1) ≤ 48
      split
      · omega
      · by_cases h0 : z.natAbs = 0
        · rw [h0]; decide
        · have : z.natAbs.log2 < 47 := (Nat.log2_lt h0).mpr (Nat.lt_of_le_of_lt hz (by decide))
          omega
    rw [e, List.length_cons, Nat.succ_mul]
    omega
theorem dps_ints : ∀ zs : List Int, PyData.depthAll (intsD zs) = 0
  | [] => rfl
  | z :: zs => by
    have e : PyData.depthAll (intsD (z :: zs)) = max (PyData.int z).depth (PyData.depthAll (intsD zs)) := rfl
    rw [e, dps_ints zs]; rfl
structure SnB (s : Sn) : Prop where
  r : s.rs.length ≤ 10
  b : s.bs.length ≤ 10
  l : s.ls.length ≤ 10
  r0 : ∀ z ∈ s.rs, z.natAbs ≤ 10 ^ 13
  b0 : ∀ z ∈ s.bs, z.natAbs ≤ 10 ^ 13
  l0 : ∀ z ∈ s.ls, z.natAbs ≤ 10 ^ 13
theorem sm_sn {s : Sn} (h : SnB s) : Sm (10 ^ 30) 2 2000 (snD s) := by
  have h1 := wts_ints h.r0; have h2 := wts_ints h.b0; have h3 := wts_ints h.l0
  have k1 := h.r; have k2 := h.b; have k3 := h.l
  refine ⟨⟨gds_ints fun z hz => Nat.le_trans (h.r0 z hz) (by decide), gds_ints fun z hz => Nat.le_trans (h.b0 z hz) (by decide), gds_ints fun z hz => Nat.le_trans (h.l0 z hz) (by decide), trivial⟩, ?_, ?_⟩
  · rw [snD, depth_t]
    have e : PyData.depthAll [.tuple (intsD s.rs), .tuple (intsD s.bs), .tuple (intsD s.ls)] = max (PyData.depth (.tuple (intsD s.rs))) (max (PyData.depth (.tuple (intsD s.bs))) (max (PyData.depth (.tuple (intsD s.ls))) 0)) := rfl
    rw [e, depth_t, depth_t, depth_t, dps_ints, dps_ints, dps_ints]
    decide
  · have e : PyData.weight (snD s) = PyData.weightAll (intsD s.rs) + 1 + (PyData.weightAll (intsD s.bs) + 1 + (PyData.weightAll (intsD s.ls) + 1 + 0)) := rfl
    omega
theorem snb_of {c : Cn} {m : Int} {s : Sn} {wd u : Nat} (okc : okCn wd u c) (hw : wd ≤ 10) (hu : u ≤ 10) (hm : m ≤ 10 ^ 12) (ok : okSn c m s) : SnB s := by
  have h1 := okc.r2; have h2 := okc.b2; have h3 := okc.n
  have k1 := ok.r; have k2 := ok.b; have k3 := ok.n
  refine ⟨by omega, by omega, by omega, fun z hz => ?_, fun z hz => ?_, fun z hz => ?_⟩
  · have := ok.r0 z hz; omega
  · have := ok.b0 z hz; omega
  · rcases ok.l0 z hz with e | e <;> rw [e] <;> decide
theorem all_ints {f : PyData → Bool} {zs : List Int} (h : ∀ z ∈ zs, f (.int z) = true) : (intsD zs).all f = true := by
  rw [List.all_eq_true]
  intro d hd
  obtain ⟨z, hz, rfl⟩ := List.mem_map.mp hd
  exact h z hz
theorem stand_sn {c : Cn} {m : Int} {s : Sn} (ok : okSn c m s) : standB c.r c.b c.ls.length (snD s) = true := by
  show ((decide (((intsD s.rs).length : Int) = c.r) && (intsD s.rs).all (fromB 0)) && (decide (((intsD s.bs).length : Int) = c.b) && (intsD s.bs).all (fromB 0)) && (decide (((intsD s.ls).length : Int) = (c.ls.length : Int)) && (intsD s.ls).all (placeB 2))) = true
  have e1 : ((intsD s.rs).length : Int) = c.r := by rw [intsD, List.length_map]; exact ok.r
  have e2 : ((intsD s.bs).length : Int) = c.b := by rw [intsD, List.length_map]; exact ok.b
  have e3 : ((intsD s.ls).length : Int) = (c.ls.length : Int) := by rw [intsD, List.length_map, ok.n]
  rw [decide_eq_true e1, decide_eq_true e2, decide_eq_true e3, all_ints (f := fromB 0) (fun z hz => decide_eq_true (ok.r0 z hz).1), all_ints (f := fromB 0) (fun z hz => decide_eq_true (ok.b0 z hz).1), all_ints (f := placeB 2) (fun z hz => by rcases ok.l0 z hz with e | e <;> rw [e] <;> rfl)]
  rfl
theorem Tp.del {K : PySem.W.Frag} {b p : Addr} {H : Hp} {xs : List V} (h : Bx H b) (hs : SqT K H p xs) : SqT K (delH H b) p xs := (tp_del h).sqT hs
end XL
namespace XL
open PySem PySem.Spec PyProof.Rows L2
theorem sn_of' {K : PySem.W.Frag} {H : Hp} {v : V} {s : Sn} (h : Dp K H v (snD s)) : ∃ a x y z, v = .ref a ∧ SqT K H a [x, y, z] ∧ Dp K H x (.tuple (intsD s.rs)) ∧ Dp K H y (.tuple (intsD s.bs)) ∧ Dp K H z (.tuple (intsD s.ls)) := by
  cases h with
  | tup hs ha =>
    cases ha with
    | cons p1 ha => cases ha with
      | cons p2 ha => cases ha with
        | cons p3 ha =>
          cases ha
          exact ⟨_, _, _, _, rfl, hs, p1, p2, p3⟩
theorem ints_dp {K : PySem.W.Frag} {H : Hp} : ∀ {vs : List V} {zs : List Int}, DpAll K H vs (intsD zs) → vs = zs.map V.int
  | _, [], h => by cases h; rfl
  | _, z :: zs, h => by
    cases h with
    | cons a r =>
      cases a
      rw [ints_dp r]; rfl
theorem dbl_eq : ∀ {ys : List V} {zs : List Int}, ys.length = zs.length → (∀ (i : Nat) y, ys[i]? = some y → ∃ z : Int, zs[i]? = some z ∧ y = .int (2 * z)) → ys = (zs.map fun z => 2 * z).map V.int
  | [], [], _, _ => rfl
  | [], _ :: _, h, _ => by simp at h
  | _ :: _, [], h, _ => by simp at h
  | y :: ys, z :: zs, h, hi => by
    obtain ⟨z', e, p⟩ := hi 0 y rfl
    have e' : z = z' := by simpa using e
    subst e'
    have r := dbl_eq (ys := ys) (zs := zs) (by simpa using h) fun i w q => by
      have := hi (i + 1) w (by simpa using q)
      simpa using this
    rw [List.map_cons, List.map_cons, ← r, p]
theorem rep_two : ∀ n : Nat, (List.replicate n [V.int 2]).flatten = (List.replicate n (2 : Int)).map V.int
  | 0 => rfl
  | n + 1 => by rw [List.replicate_succ, List.flatten_cons, rep_two n, List.replicate_succ]; rfl
theorem some_all {K : PySem.W.Frag} {F : Hp} {P : PyData → Prop} : ∀ (zs : List V), (∀ z ∈ zs, ∃ d, Dp K F z d ∧ P d) → ∃ es, DpAll K F zs es ∧ ∀ d ∈ es, P d
  | [], _ => ⟨[], .nil, fun d h => by simp at h⟩
  | z :: zs, h => by
    obtain ⟨d, p, m⟩ := h z (List.mem_cons_self ..)
    obtain ⟨es, a, b⟩ := some_all zs fun y hy => h y (List.mem_cons_of_mem _ hy)
    exact ⟨d :: es, .cons p a, fun e he => by
      rcases List.mem_cons.mp he with q | q
      · rw [q]; exact m
      · exact b e q⟩
theorem sm_two {s : Sn} (h : SnB s) : Sm (10 ^ 30) 2 2000 (.tuple [.tuple (intsD s.rs), .tuple (intsD s.bs)]) := by
  have h1 := wts_ints h.r0; have h2 := wts_ints h.b0
  have k1 := h.r; have k2 := h.b
  refine ⟨⟨gds_ints fun z hz => Nat.le_trans (h.r0 z hz) (by decide), gds_ints fun z hz => Nat.le_trans (h.b0 z hz) (by decide), trivial⟩, ?_, ?_⟩
  · rw [depth_t]
    have e : PyData.depthAll [.tuple (intsD s.rs), .tuple (intsD s.bs)] = max (PyData.depth (.tuple (intsD s.rs))) (max (PyData.depth (.tuple (intsD s.bs))) 0) := rfl
    rw [e, depth_t, depth_t, dps_ints, dps_ints]
    decide
  · have e : PyData.weight (.tuple [.tuple (intsD s.rs), .tuple (intsD s.bs)]) = PyData.weightAll (intsD s.rs) + 1 + (PyData.weightAll (intsD s.bs) + 1 + 0) := rfl
    omega
theorem sm_four {s : Sn} (h : SnB s) : Sm (10 ^ 30) 2 2000 (.tuple ([.tuple (intsD s.rs), .tuple (intsD s.bs), .tuple (intsD s.ls)] ++ [.tuple []])) := by
  have h1 := wts_ints h.r0; have h2 := wts_ints h.b0; have h3 := wts_ints h.l0
  have k1 := h.r; have k2 := h.b; have k3 := h.l
  refine ⟨⟨gds_ints fun z hz => Nat.le_trans (h.r0 z hz) (by decide), gds_ints fun z hz => Nat.le_trans (h.b0 z hz) (by decide), gds_ints fun z hz => Nat.le_trans (h.l0 z hz) (by decide), trivial, trivial⟩, ?_, ?_⟩
  · rw [depth_t]
    have e : PyData.depthAll ([.tuple (intsD s.rs), .tuple (intsD s.bs), .tuple (intsD s.ls)] ++ [.tuple []]) = max (PyData.depth (.tuple (intsD s.rs))) (max (PyData.depth (.tuple (intsD s.bs))) (max (PyData.depth (.tuple (intsD s.ls))) (max (PyData.depth (.tuple [])) 0))) := rfl
    rw [e, depth_t, depth_t, depth_t, depth_t, dps_ints, dps_ints, dps_ints]
    decide
  · have e : PyData.weight (.tuple ([.tuple (intsD s.rs), .tuple (intsD s.bs), .tuple (intsD s.ls)] ++ [.tuple []])) = PyData.weightAll (intsD s.rs) + 1 + (PyData.weightAll (intsD s.bs) + 1 + (PyData.weightAll (intsD s.ls) + 1 + (0 + 1 + 0))) := rfl
    omega
end XL
namespace XL
open PySem PySem.Spec PyProof.Rows L2
section
variable {P : Program} {w : World} {K : PySem.W.Frag} {mg : Str → Option Value} {base : Heap}
abbrev nRight : List Str := ["_law_box_here", "_law_ship_way", "_law_lying_here", "_law_yours", "_law_some", "_law_high", "_law_turn", "_law_bent", "_law_item", "_law_shown_so", "_law_due_here", "_law_told"]
theorem scRight : FnScope nRight ["_law_box_here"] (defScope sRight) := ⟨rfl, rfl, rfl, by decide +kernel, rfl, by decide +kernel, by decide +kernel⟩
def spRight : Sp := fun vs H Q _ => ∃ b : Addr, vs = [.ref b] ∧ Bx H b ∧ ∀ H' : Hp, Dr b H H' → Q (.bl true) H'
def g2 : List α → List α → List α
  | [], [x, y] => [y, x]
  | _, _ => []
theorem kb2 {x qual p q : Str} {st : Stmt} {f : Addr} {fd : FuncData} (F : Fun K x qual st f fd)
    (h : ∀ (kV doc pm : Value) (an : Option Addr) (cdv ct v u : Value), bindArgs (PySem.W.fnOf x qual (defArgs st) (defBody st) (defScope st) .none kV doc pm an cdv ct) ⟨[], [(q, v), (p, u)]⟩ = pure [(p, u), (q, v)]) : KBinds K fd [p, q] [q, p] g2 g2 := by
  obtain ⟨oc, od, kV, doc, pm, an, cdv, ct, osl, rfl, lk, hcd⟩ := F.ex
  refine ⟨fun s us ws _ hl => ?_, fun {vs us zs ws} r1 r2 => ?_⟩
  · match us, ws, hl with
    | [], [v, u], _ => exact .of_eq (h kV doc pm an cdv ct v u)
  · cases r1 with
    | nil =>
      cases r2 with
      | nil => exact .nil
      | cons a r =>
        cases r with
        | nil => exact .nil
        | cons a2 r =>
          cases r with
          | nil => exact .cons a2 (.cons a .nil)
          | cons _ _ => exact .nil
    | cons _ _ => exact .nil
theorem ok_right {f f1 f2 f3 f4 f5 f6 f7 f8 f9 f10 : Addr} {fd fd1 fd2 fd3 fd4 fd5 fd6 fd7 fd8 fd9 fd10 : FuncData} (F : Fun K "_law_right" "_law_right" sRight f fd)
    (Ca : Fns P w K mg base 9 "_law_canal" ["_law_box_here", "_law_wide", "_law_utmost"] (spCanal K) f1 fd1) (Li : Fns P w K mg base 9 "_law_lists" ["_law_what"] (spLists K 9) f2 fd2)
    (Ot : Fns P w K mg base 9 "_law_otherwise" ["_law_box_here", "_law_what"] (spOth K 6) f3 fd3) (Ta : Fns P w K mg base 9 "_law_take" ["_law_box_here", "_law_size"] spTake f4 fd4)
    (Od : Fns P w K mg base 9 "_law_odd" ["_law_box_here"] (spOdd K) f5 fd5) (Du : Fns P w K mg base 9 "_law_due" ["_law_ship_way", "_law_item"] (spIsSt K fun H v c => Dp K H v (cnD c)) f6 fd6) (Is : Fns P w K mg base 9 "is_standing" ["canal", "thing"] (spIsSt K (CnA K)) f7 fd7)
    (Sa : Fns P w K mg base 9 "_law_same" ["_law_found", "_law_due_here"] (spSame K 9) f8 fd8) (Ly : Fns P w K mg base 9 "_law_lying" ["_law_box_here", "_law_ship_way", "_law_most"] (spLying K) f9 fd9) (Of : Fns P w K mg base 9 "_law_of" ["_law_box_here", "_law_some"] (spOf K) f10 fd10)
    (kI : KBinds K fd7 ["canal", "thing"] ["thing", "canal"] g2 g2) (mp : mg "repr" = none) (mr : mg "range" = none) (mt : mg "tuple" = none) (me : mg "len" = none) :
    FnG P w K mg base 10 f fd ["_law_box_here"] spRight := by
  refine okG F scRight (fun vs H Q E h => ?_) (fun cdv A outer s H vs Q E hG hr h => ?_)
  · obtain ⟨b, rfl, _⟩ := h
    rfl
  obtain ⟨b, rfl, hb, q⟩ := h
  refine ⟨_, (pss_cons (ps_set (i := 1) scRight.nd rfl (.inl rfl) (pe_fn Ca hr rfl (pa_cons (pv 0) (pa_cons pe_int (pa_cons pe_int pa_nil)))))
      (pss_cons (ps_set (i := 2) scRight.nd rfl (.inl rfl) (pe_fn Ly hr rfl (pa_cons (pv 0) (pa_cons (pv 1) (pa_cons (pe_fn Of hr rfl (pa_cons (pv 0) (pa_cons (pe_lst (pa_cons pe_int (pa_cons (pe_op op_pow pe_int pe_int) pa_nil))) pa_nil))) pa_nil)))))
      (pss_cons (ps_set (i := 3) scRight.nd rfl (.inl rfl) (pe_fn Ca hr rfl (pa_cons (pv 0) (pa_cons pe_int (pa_cons pe_int pa_nil)))))
      (pss_cons (ps_set (i := 4) scRight.nd rfl (.inl rfl) (pe_lst (pa_cons (pv 2) (pa_cons (pe_callH Li.ok hr rfl Li.g Li.k Li.b (pa_cons (pv 2) pa_nil)) (pa_cons (pe_fn Ly hr rfl (pa_cons (pv 0) (pa_cons (pv 3) (pa_cons pe_int pa_nil)))) (pa_cons (pe_slice sl_tup (pv 2) po_none (po_some pe_int)) (pa_cons (pe_op op_catU (pv 2) (pe_cTup (pa_c (pe_cTup pa_c0) pa_c0))) pa_nil)))))))
      (pss_cons (ps_expr (pe_bm PySem.F.plainAttrs_list PySem.F.slot_list_append PySem.F.type_list_append mt_append (pv 4) (pa_cons (pe_hide (pe_tup (pa_cons (pe_ix ix_tup (pv 2) pe_int (fun _ _ => rfl)) (pa_cons (pe_ix ix_tup (pv 2) pe_int (fun _ _ => rfl)) (pa_cons (pe_ix ix_tup (pv 2) pe_int (fun _ _ => rfl)) pa_nil))))) pa_nil)))
      (pss_cons (ps_expr (pe_bm PySem.F.plainAttrs_list PySem.F.slot_list_append PySem.F.type_list_append mt_append (pv 4) (pa_cons (pe_hide (pe_tup (pa_cons (pe_ix ix_tup (pv 2) pe_int (fun _ _ => rfl)) (pa_cons (pe_ix ix_tup (pv 2) pe_int (fun _ _ => rfl)) (pa_cons (pe_callTy call_tuple_of rfl mt boot_tuple (pa_cons (pe_lc (own := [("_law_high", 5)]) (g := gName 5) (tt := tYes) rfl scRight.nd (pi_seq (pe_ix ix_tup (pv 2) pe_int (fun _ _ => rfl))) (blkOk_by (own := [("_law_high", 5)]) (N := nRight) (sc := defScope sRight) (by decide +kernel)) (fun _ _ _ _ _ => pg_name (i := 5) scRight.nd rfl (Or.inl rfl)) (fun _ _ _ _ _ => pts_nil) (fun _ _ _ _ _ => pe_hide (pe_op op_mul pe_int (pv 5)))) pa_nil)) pa_nil))))) pa_nil)))
      (pss_cons (ps_expr (pe_bm PySem.F.plainAttrs_list PySem.F.slot_list_append PySem.F.type_list_append mt_append (pv 4) (pa_cons (pe_hide (pe_tup (pa_cons (pe_ix ix_tup (pv 2) pe_int (fun _ _ => rfl)) (pa_cons (pe_ix ix_tup (pv 2) pe_int (fun _ _ => rfl)) (pa_cons (pe_op op_repU (pe_tup (pa_cons pe_int pa_nil)) (pe_callB call_len_seq rfl me PySem.boot_len (pa_cons (pe_ix ix_tup (pv 2) pe_int (fun _ _ => rfl)) pa_nil))) pa_nil))))) pa_nil)))
      (pss_cons (ps_for PassesOwn.never rfl (pi_range1 rfl mr (pa_cons pe_int pa_nil)) (pg_name (i := 6) scRight.nd rfl (.inl rfl))
      (pss_cons (ps_set (i := 7) scRight.nd rfl (.inl rfl) (pe_callH Ot.ok hr rfl Ot.g Ot.k Ot.b (pa_cons (pv 0) (pa_cons (pv 2) pa_nil))))
      (pss_one (ps_expr (pe_bm PySem.F.plainAttrs_list PySem.F.slot_list_append PySem.F.type_list_append mt_append (pv 4) (pa_cons (pe_ifExp (pt_cmpR op_eq (pe_callH Ta.ok hr rfl Ta.g Ta.k Ta.b (pa_cons (pv 0) (pa_cons pe_int pa_nil))) pe_int (nomark _)) (pe_callH Ot.ok hr rfl Ot.g Ot.k Ot.b (pa_cons (pv 0) (pa_cons (pv 7) pa_nil))) (pv 7)) pa_nil))))))
      (pss_cons (ps_set (i := 4) scRight.nd rfl (.inl rfl) (pe_op op_cat (pv 4) (pe_lc (own := [("_law_turn", 6)]) (g := gName 6) (tt := tYes) rfl scRight.nd (pi_range1 rfl mr (pa_cons pe_int pa_nil)) (blkOk_by (own := [("_law_turn", 6)]) (N := nRight) (sc := defScope sRight) (by decide +kernel)) (fun _ _ _ _ _ => pg_name (i := 6) scRight.nd rfl (Or.inl rfl)) (fun _ _ _ _ _ => pts_nil) (fun _ _ _ _ _ => pe_hide (pe_fn Od hr rfl (pa_cons (pv 0) pa_nil))))))
      (pss_cons (ps_for PassesOwn.never rfl (pi_seq (pv 4)) (pg_name (i := 8) scRight.nd rfl (.inl rfl))
      (pss_cons (ps_par rfl scRight.nd (i := 9) (j := 10) rfl rfl (by decide) rfl rfl (pa_cons (pe_rep2 hG hr rfl mp boot_repr' (pv 8)) (pa_cons (pe_fn Du hr rfl (pa_cons (pv 1) (pa_cons (pv 8) pa_nil))) pa_nil)) rfl)
      (pss_cons (ps_set (i := 11) scRight.nd rfl (.inl rfl) (pe_lst (pa_cons (pe_fn Is hr rfl (pa_cons (pv 1) (pa_cons (pv 8) pa_nil))) (pa_cons (pe_callK0 Is.ok hr rfl Is.g Is.k kI pass0 (pk_cons (pv 8) (pk_cons (pe_fn Li hr rfl (pa_cons (pv 1) pa_nil)) pk_nil))) pa_nil))))
      (pss_one (ps_if (PW.pt (pw_or (pt_not (pt_val (pe_fn Sa hr rfl (pa_cons (pv 11) (pa_cons (pe_lst (pa_cons (pv 10) (pa_cons (pv 10) pa_nil))) pa_nil))))) (pw_or1 (pt_cmpR op_ne (pe_rep2 hG hr rfl mp boot_repr' (pv 8)) (pv 9) (nomark _))))) (pss_one (ps_ret pe_bl)) pss_nil)))))
      (pss_one (ps_ret (pe_cmpR op_isBl (pe_fn Is hr rfl (pa_cons (pv 1) (pa_cons (pv 2) pa_nil))) pe_bl (nomark _)))))))))))))), ?_⟩
  -- the canal
  refine ⟨_, rfl, b, 8, 10, rfl, hb, by decide, by decide, by decide, fun c vw H1 okc d1 hc => ?_⟩
  refine at_g (σ' := [some (.ref b), some vw, none, none, none, none, none, none, none, none, none, none]) rfl ?_
  have hcd := Dp.tp (tp_del d1.box) _ (noL_cn c) hc
  have wid : okCn 100 100 c := ⟨okc.r1, by have := okc.r2; omega, okc.b1, by have := okc.b2; omega, by have := okc.n; omega, okc.l⟩
  -- the standing
  refine ⟨_, rfl, _, rfl, _, rfl, _, _, rfl, rfl, ⟨by decide, by decide, by decide⟩, (by show 2 ≤ sizeLine; decide), fun lm nm => ?_⟩
  have dm := Dr.new (o := .lst [.int 3, .int (10 ^ Int.toNat 12)]) d1.box nm
  refine ⟨b, lm, _, rfl, dm.box, bx_ne d1.box nm, SqL.of upd_same, (fun z => nomatch z), (by show 2 < 1000; decide), fun j vm H2 hv d2 => ?_⟩
  obtain ⟨most, evm, hm1, hm2⟩ : ∃ most : Int, vm = .int most ∧ 1 ≤ most ∧ most ≤ 1000000000000 := by
    match j, hv with
    | 0, hv => exact ⟨3, (Option.some.inj hv).symm, by decide, by decide⟩
    | 1, hv => exact ⟨10 ^ Int.toNat 12, (Option.some.inj hv).symm, by decide, by decide⟩
    | n + 2, hv => cases hv
  subst evm
  have d12 := d1.trans (dm.trans d2)
  have hc2 := Dp.same (dm.trans d2).del _ hcd
  refine ⟨b, vw, c, most, rfl, d2.box, Dp.same del_same _ hc2, wid, hm1, hm2, fun sn vl H3 oks d3 hsn => ?_⟩
  refine at_g (σ' := [some (.ref b), some vw, some vl, none, none, none, none, none, none, none, none, none]) rfl ?_
  have hs3 := Dp.tp (tp_del d3.box) _ (noL_sn sn) hsn
  have hc3 := Dp.same d3.del _ hc2
  have d13 := d12.trans d3
  have sb := snb_of okc (by decide) (by decide) (by omega) oks
  have smc := sm_sn sb
  clear hc2 hcd hsn hc d12 dm nm hv d2 d3
  -- another canal
  refine ⟨_, rfl, b, 4, 4, rfl, d13.box, by decide, by decide, by decide, fun c2 vy H4 okc2 d4 hcy => ?_⟩
  refine at_g (σ' := [some (.ref b), some vw, some vl, some vy, none, none, none, none, none, none, none, none]) rfl ?_
  have hy4 := Dp.tp (tp_del d4.box) _ (noL_cn c2) hcy
  have hs4 := Dp.same d4.del _ hs3
  have hc4 := Dp.same d4.del _ hc3
  have d14 := d13.trans d4
  have wid2 : okCn 100 100 c2 := ⟨okc2.r1, by have := okc2.r2; omega, okc2.b1, by have := okc2.b2; omega, by have := okc2.n; omega, okc2.l⟩
  clear hs3 hc3 hcy d4 d13
  obtain ⟨x0, y0, z0, eb⟩ := d14.box
  have okc9 : okD 9 (cnD c) := ⟨by show 3 ≤ 1000; decide, fun d hd => by
    simp only [List.mem_cons, List.not_mem_nil, or_false] at hd
    rcases hd with rfl | rfl | rfl
    · exact trivial
    · exact trivial
    · refine ⟨by rw [List.length_map]; have := okc.n; omega, fun e he => ?_⟩
      obtain ⟨l, _, rfl⟩ := List.mem_map.mp he
      exact ⟨by show 4 ≤ 1000; decide, fun d h => by
        simp only [List.mem_cons, List.not_mem_nil, or_false] at h
        rcases h with rfl | rfl | rfl | rfl <;> exact trivial⟩⟩
  have okI : ∀ zs : List Int, zs.length ≤ 10 → okD 8 (.tuple (intsD zs)) := fun zs h => ⟨by rw [intsD, List.length_map]; omega, fun e he => by
    obtain ⟨z, _, rfl⟩ := List.mem_map.mp he
    exact trivial⟩
  have oks9 : okD 9 (snD sn) := ⟨by show 3 ≤ 1000; decide, fun d hd => by
    simp only [List.mem_cons, List.not_mem_nil, or_false] at hd
    rcases hd with rfl | rfl | rfl
    · exact okI _ sb.r
    · exact okI _ sb.b
    · exact okI _ sb.l⟩
  -- some = [..]
  refine ⟨_, rfl, _, rfl, b, _, eb, vl, snD sn, rfl, hs4, oks9, fun vli G1 sg hvli nb => ?_⟩
  have hvl' : Dp K (delH (upd G1 b (.lst [.int x0, .int y0, .int z0])) b) vli (lstD (snD sn)) := by rw [delH_upd nb]; exact hvli
  have hs' : Dp K (delH (upd G1 b (.lst [.int x0, .int y0, .int z0])) b) vl (snD sn) := by rw [delH_upd nb]; exact Dp.same sg _ hs4
  have hc' : Dp K (delH (upd G1 b (.lst [.int x0, .int y0, .int z0])) b) vw (cnD c) := by rw [delH_upd nb]; exact Dp.same sg _ hc4
  have hy' : Dp K (delH (upd G1 b (.lst [.int x0, .int y0, .int z0])) b) vy (cnD c2) := by rw [delH_upd nb]; exact Dp.same sg _ hy4
  have d2 : Dr b H (upd G1 b (.lst [.int x0, .int y0, .int z0])) := d14.trans ⟨⟨x0, y0, z0, upd_same⟩, fun a o na ea => by rw [upd_ne na]; exact sg a o (by rw [delH_ne na]; exact ea)⟩
  generalize upd G1 b (.lst [.int x0, .int y0, .int z0]) = G2 at hvl' hs' hc' hy' d2 ⊢
  clear hvli hs4 hc4 hy4 sg nb eb d14
  refine ⟨_, rfl, _, rfl, b, vy, c2, 3, rfl, d2.box, Dp.same del_same _ hy', wid2, by decide, by decide, fun sn2 v2 H5 oks2 d5 hsn2 => ?_⟩
  have h25 := Dp.tp (tp_del d5.box) _ (noL_sn sn2) hsn2
  replace hvl' := Dp.same d5.del _ hvl'
  replace hs' := Dp.same d5.del _ hs'
  replace hc' := Dp.same d5.del _ hc'
  have d6 := d2.trans d5
  have sb2 := snb_of okc2 (by decide) (by decide) (by decide) oks2
  clear hsn2 hy' d2 d5
  obtain ⟨la, lr, lb, ll, elv, hla, hlr, hlb, hll⟩ := sn_of' hs'
  subst elv
  refine ⟨_, rfl, 2, rfl, la, _, rfl, Same.tup del_same hla, (show ¬ (HT.sIx 3 0 none = 0 ∧ HT.sIx 3 3 (some 2) = 3) from by decide), fun p np => ?_⟩
  have cut2 : cutV [lr, lb, ll] none (some 2) = [lr, lb] := rfl
  rw [cut2]
  have sp := same_new (o := .tup [lr, lb]) np
  have pb := bx_ne d6.box np
  have e4 : Dp K (delH (upd H5 p (.tup [lr, lb])) b) (.ref p) (.tuple [.tuple (intsD sn.rs), .tuple (intsD sn.bs)]) := dp_tup pb upd_same (.cons (Dp.same (same_del sp) _ hlr) (.cons (Dp.same (same_del sp) _ hlb) .nil))
  replace hvl' := Dp.same (same_del sp) _ hvl'
  replace hs' := Dp.same (same_del sp) _ hs'
  replace hc' := Dp.same (same_del sp) _ hc'
  replace h25 := Dp.same (same_del sp) _ h25
  replace hla := Same.tup (same_del sp) hla
  replace hlr := Dp.same (same_del sp) _ hlr
  replace hlb := Dp.same (same_del sp) _ hlb
  replace hll := Dp.same (same_del sp) _ hll
  replace d6 := d6.trans (Dr.of d6.box sp)
  generalize upd H5 p (.tup [lr, lb]) = G5 at e4 hvl' hs' hc' h25 hla hlr hlb hll d6 ⊢
  clear sp np
  refine ⟨_, rfl, fun wv G6 s6 p6 => ?_⟩
  have nb5 : G5 b ≠ none := by
    obtain ⟨_, _, _, e⟩ := d6.box
    rw [e]; exact fun z => nomatch z
  obtain ⟨aw, ws, ew, hws, haw⟩ := tup_of (p6 b nb5)
  subst ew
  have wl : ws.length = 1 := DpAll.length haw
  refine ⟨la, aw, _, ws, rfl, rfl, Same.tup (same_del s6 |>.trans del_same) hla, Same.tup del_same hws, (by rw [wl]; show 4 ≤ sizeLine; decide), fun p5 G7 s7 hp5 => ⟨(by show 5 ≤ sizeLine; decide), fun l nl => ?_⟩⟩
  have s67 := s6.trans s7
  have d7 := d6.trans (Dr.of d6.box s67)
  have e5 : Dp K (delH G7 b) (.ref p5) (.tuple ([.tuple (intsD sn.rs), .tuple (intsD sn.bs), .tuple (intsD sn.ls)] ++ [.tuple []])) :=
    .tup (Tp.del d7.box hp5) (DpAll.app (.cons (Dp.same (same_del s67) _ hlr) (.cons (Dp.same (same_del s67) _ hlb) (.cons (Dp.same (same_del s67) _ hll) .nil))) (DpAll.same (same_del s7) _ haw))
  have all5 : DpAll K (delH G7 b) [.ref la, vli, v2, .ref p, .ref p5] [snD sn, lstD (snD sn), snD sn2, .tuple [.tuple (intsD sn.rs), .tuple (intsD sn.bs)], .tuple ([.tuple (intsD sn.rs), .tuple (intsD sn.bs), .tuple (intsD sn.ls)] ++ [.tuple []])] :=
    .cons (Dp.same (same_del s67) _ hs') (.cons (Dp.same (same_del s67) _ hvl') (.cons (Dp.same (same_del s67) _ h25) (.cons (Dp.same (same_del s67) _ e4) (.cons e5 .nil))))
  have smq : Sq (snD sn) := smc.up (by decide) (by decide) (by decide)
  have sq5 : ∀ d ∈ [snD sn, lstD (snD sn), snD sn2, .tuple [.tuple (intsD sn.rs), .tuple (intsD sn.bs)], .tuple ([.tuple (intsD sn.rs), .tuple (intsD sn.bs), .tuple (intsD sn.ls)] ++ [.tuple []])], Sq d := by
    intro d hd
    simp only [List.mem_cons, List.not_mem_nil, or_false] at hd
    rcases hd with rfl | rfl | rfl | rfl | rfl
    · exact smq
    · exact smq.lst'
    · exact (sm_sn sb2).up (by decide) (by decide) (by decide)
    · exact (sm_two sb).up (by decide) (by decide) (by decide)
    · exact (sm_four sb).up (by decide) (by decide) (by decide)
  have hcF := Dp.same (same_del s67) _ hc'
  have hsF := Dp.same (same_del s67) _ hs'
  replace hla := Same.tup (same_del s67) hla
  replace hlr := Dp.same (same_del s67) _ hlr
  replace hlb := Dp.same (same_del s67) _ hlb
  replace hll := Dp.same (same_del s67) _ hll
  have len5 : ([.ref la, vli, v2, .ref p, .ref p5] : List V).length = 5 := rfl
  refine at_g (σ' := [some (.ref b), some vw, some (.ref la), some vy, some (.ref l), none, none, none, none, none, none, none]) rfl ?_
  generalize ([.ref la, vli, v2, .ref p, .ref p5] : List V) = xs5 at all5 len5 ⊢
  generalize [snD sn, lstD (snD sn), snD sn2, .tuple [.tuple (intsD sn.rs), .tuple (intsD sn.bs)], .tuple ([.tuple (intsD sn.rs), .tuple (intsD sn.bs), .tuple (intsD sn.ls)] ++ [.tuple []])] = ds5 at all5 sq5
  clear s67 s7 s6 hp5 hws haw p6 e4 e5 hvl' h25 hs' hc' nb5 wl d6 sb2 oks2
  -- the waters in one another's place
  have hlaF := Same.tup (K := K) (del_same (b := b)) hla
  refine ⟨_, rfl, .inl ⟨rfl, _, SqL.of upd_same⟩, l, xs5, upd_same, ?_⟩
  rw [delH_upd nl]
  refine ⟨_, rfl, la, _, 1, lb, rfl, rfl, hlaF, rfl, _, rfl, la, _, 0, lr, rfl, rfl, hlaF, rfl, _, rfl, la, _, 2, ll, rfl, rfl, hlaF, rfl, (by show 3 ≤ sizeLine; decide), fun t1 n1 nl1 => ?_⟩
  have s1 := same_new (o := .tup [lb, lr, ll]) n1
  have q1 : Dp K (delH (upd G7 t1 (.tup [lb, lr, ll])) b) (.ref t1) (snD ⟨sn.bs, sn.rs, sn.ls⟩) := dp_tup (bx_ne d7.box n1) upd_same (.cons (Dp.same (same_del s1) _ hlb) (.cons (Dp.same (same_del s1) _ hlr) (.cons (Dp.same (same_del s1) _ hll) .nil)))
  refine ⟨l, xs5, _, rfl, rfl, upd_same, (by rw [len5]; decide), ?_⟩
  rw [upd_upd]
  have all6 := DpAll.snoc (DpAll.same (same_del s1) _ all5) q1
  have d8 := d7.trans (Dr.of d7.box s1)
  replace hcF := Dp.same (same_del s1) _ hcF
  replace hsF := Dp.same (same_del s1) _ hsF
  replace hla := Same.tup (same_del s1) hla
  replace hlr := Dp.same (same_del s1) _ hlr
  replace hlb := Dp.same (same_del s1) _ hlb
  replace hll := Dp.same (same_del s1) _ hll
  have sq6 : ∀ d ∈ ds5 ++ [snD ⟨sn.bs, sn.rs, sn.ls⟩], Sq d := fun d hd => by
    rcases List.mem_append.mp hd with z | z
    · exact sq5 d z
    · rw [List.mem_singleton.mp z]; exact (sm_sn (s := ⟨sn.bs, sn.rs, sn.ls⟩) ⟨sb.b, sb.r, sb.l, sb.b0, sb.r0, sb.l0⟩).up (by decide) (by decide) (by decide)
  generalize upd G7 t1 (.tup [lb, lr, ll]) = G8 at nl1 all6 d8 hcF hsF hla hlr hlb hll ⊢
  have len6 : (xs5 ++ [V.ref t1]).length = 6 := by rw [List.length_append, len5]; rfl
  generalize xs5 ++ [V.ref t1] = xs6 at all6 len6 ⊢
  generalize ds5 ++ [snD ⟨sn.bs, sn.rs, sn.ls⟩] = ds6 at all6 sq6
  clear s1 n1 q1 all5 sq5 d7 hlaF nl
  -- twice as high
  have hlaF := Same.tup (K := K) (del_same (b := b)) hla
  obtain ⟨al, vsl, ell, hal, hvl⟩ := tup_of hll
  subst ell
  have evs := ints_dp hvl
  subst evs
  refine ⟨_, rfl, .inl ⟨rfl, _, SqL.of upd_same⟩, l, xs6, upd_same, ?_⟩
  rw [delH_upd nl1]
  have halF := Same.tup (K := K) (del_same (b := b)) hal
  refine ⟨_, rfl, la, _, 0, lr, rfl, rfl, hlaF, rfl, _, rfl, la, _, 1, lb, rfl, rfl, hlaF, rfl, _, rfl, la, _, 2, _, rfl, rfl, hlaF, rfl, al, _, rfl, .inr halF, fun J wk => lc_map wk Same (fun a b => a.trans b) (fun i y F => ∃ z : Int, sn.ls[i]? = some z ∧ y = .int (2 * z)) (fun i y A B s p => p) (by rw [List.length_map]; have := sb.l; rw [sizeLine_eq]; omega) (Same.refl _) (fun F D acc sF nF => ?_) (fun i x D acc F H' hi nD sF nF hy B hB => ?_) (fun D ys F nD sF nF hl hR => ?_)⟩
  · have sD : Same _ (upd F D (.lst acc)) := sF.trans (same_new nF)
    exact ⟨fun _ z => sD.seq z, fun z => Same.tup sD z⟩
  · obtain ⟨rfl, hx⟩ := hy
    rw [List.getElem?_map] at hx
    obtain ⟨z, ez, rfl⟩ : ∃ z, sn.ls[i]? = some z ∧ x = .int z := by
      cases e : sn.ls[i]? with
      | none => rw [e] at hx; cases hx
      | some z => rw [e] at hx; exact ⟨z, rfl, (Option.some.inj hx).symm⟩
    refine hB _ F rfl nF fun Qt hq => ?_
    exact ⟨_, rfl, _, _, rfl, rfl, .inl ⟨by decide, by decide⟩, hq _ _ (Same.refl _) ⟨z, ez, rfl⟩⟩
  have eys : ys = (sn.ls.map fun z => 2 * z).map V.int := dbl_eq (by rw [hl, List.length_map]) hR
  subst eys
  have sD := sF.trans (same_new (o := .lst ((sn.ls.map fun z => 2 * z).map V.int)) nF)
  refine ⟨D, _, rfl, .inl ⟨SqL.of upd_same, fun t2 n2 => ⟨(by show 3 ≤ sizeLine; decide), fun t3 n3 nl3 => ?_⟩⟩⟩
  have s2 := sD.trans (same_new (o := .tup ((sn.ls.map fun z => 2 * z).map V.int)) n2)
  have s3 := s2.trans (same_new (o := .tup [lr, lb, .ref t2]) n3)
  have st3 := same_new (o := .tup [lr, lb, .ref t2]) n3
  have b2 := bx_ne (d8.box.same sD) n2
  have b3 := bx_ne (d8.box.same s2) n3
  have q2 : Dp K (delH (upd (upd (upd F D (.lst ((sn.ls.map fun z => 2 * z).map V.int))) t2 (.tup ((sn.ls.map fun z => 2 * z).map V.int))) t3 (.tup [lr, lb, .ref t2])) b) (.ref t3) (snD ⟨sn.rs, sn.bs, sn.ls.map fun z => 2 * z⟩) :=
    dp_tup b3 upd_same (.cons (Dp.same (same_del s3) _ hlr) (.cons (Dp.same (same_del s3) _ hlb) (.cons (dp_tup b2 (st3 _ _ upd_same) (dp_ints _)) .nil)))
  refine ⟨l, xs6, _, rfl, rfl, upd_same, (by rw [len6]; decide), ?_⟩
  rw [upd_upd]
  have all7 := DpAll.snoc (DpAll.same (same_del s3) _ all6) q2
  have d9 := d8.trans (Dr.of d8.box s3)
  replace hcF := Dp.same (same_del s3) _ hcF
  replace hsF := Dp.same (same_del s3) _ hsF
  replace hla := Same.tup (same_del s3) hla
  replace hal := Same.tup (same_del s3) hal
  replace hlr := Dp.same (same_del s3) _ hlr
  replace hlb := Dp.same (same_del s3) _ hlb
  have sq7 : ∀ d ∈ ds6 ++ [snD ⟨sn.rs, sn.bs, sn.ls.map fun z => 2 * z⟩], Sq d := fun d hd => by
    rcases List.mem_append.mp hd with z | z
    · exact sq6 d z
    · rw [List.mem_singleton.mp z]
      refine (sm_sn (s := ⟨sn.rs, sn.bs, sn.ls.map fun z => 2 * z⟩) ⟨sb.r, sb.b, by show (sn.ls.map _).length ≤ 10; rw [List.length_map]; exact sb.l, sb.r0, sb.b0, fun y hy => ?_⟩).up (by decide) (by decide) (by decide)
      obtain ⟨z0, hz0, rfl⟩ := List.mem_map.mp hy
      rcases oks.l0 z0 hz0 with e | e <;> rw [e] <;> decide
  generalize upd (upd (upd F D (.lst ((sn.ls.map fun z => 2 * z).map V.int))) t2 (.tup ((sn.ls.map fun z => 2 * z).map V.int))) t3 (.tup [lr, lb, .ref t2]) = G9 at nl3 all7 d9 hcF hsF hla hal hlr hlb ⊢
  have len7 : (xs6 ++ [V.ref t3]).length = 7 := by rw [List.length_append, len6]; rfl
  generalize xs6 ++ [V.ref t3] = xs7 at all7 len7 ⊢
  generalize ds6 ++ [snD ⟨sn.rs, sn.bs, sn.ls.map fun z => 2 * z⟩] = ds7 at all7 sq7
  clear s3 s2 sD st3 b2 b3 q2 n3 n2 hR hl nF sF nD wk all6 sq6 d8 hlaF halF hvl hll nl1
  -- all of them two
  have hlaF := Same.tup (K := K) (del_same (b := b)) hla
  have halF := Same.tup (K := K) (del_same (b := b)) hal
  refine ⟨_, rfl, .inl ⟨rfl, _, SqL.of upd_same⟩, l, xs7, upd_same, ?_⟩
  rw [delH_upd nl3]
  refine ⟨_, rfl, la, _, 0, lr, rfl, rfl, hlaF, rfl, _, rfl, la, _, 1, lb, rfl, rfl, hlaF, rfl, (by show 1 ≤ sizeLine; decide), fun t4 n4 => ?_⟩
  have s4 := same_new (o := .tup [.int 2]) n4
  refine ⟨_, rfl, la, _, 2, _, rfl, rfl, Same.tup s4 hlaF, rfl, al, _, rfl, .inr (Same.tup s4 halF), t4, _, [.int 2], rfl, rfl, .inl (.inl upd_same), (fun z => nomatch z), (by rw [List.length_map]; omega), (by rw [List.length_map]; have := sb.l; omega), (by show 1 ≤ 1000; decide), fun p6 GA sA hp6 => ⟨(by show 3 ≤ sizeLine; decide), fun t5 n5 nl5 => ?_⟩⟩
  rw [List.length_map, Int.toNat_natCast, rep_two] at hp6
  have sAA := s4.trans sA
  have s5 := sAA.trans (same_new (o := .tup [lr, lb, .ref p6]) n5)
  have s5' := same_new (o := .tup [lr, lb, .ref p6]) n5
  have dA := d9.trans (Dr.of d9.box sAA)
  have q3 : Dp K (delH (upd GA t5 (.tup [lr, lb, .ref p6])) b) (.ref t5) (snD ⟨sn.rs, sn.bs, List.replicate sn.ls.length 2⟩) :=
    dp_tup (bx_ne dA.box n5) upd_same (.cons (Dp.same (same_del s5) _ hlr) (.cons (Dp.same (same_del s5) _ hlb) (.cons (.tup (Same.tup (same_del s5') (Tp.del dA.box hp6)) (dp_ints _)) .nil)))
  refine ⟨l, xs7, _, rfl, rfl, upd_same, (by rw [len7]; decide), ?_⟩
  rw [upd_upd]
  have all8 := DpAll.snoc (DpAll.same (same_del s5) _ all7) q3
  have dB := d9.trans (Dr.of d9.box s5)
  have hcB := Dp.same (same_del s5) _ hcF
  have hsB := Dp.same (same_del s5) _ hsF
  have sq8 : ∀ d ∈ ds7 ++ [snD ⟨sn.rs, sn.bs, List.replicate sn.ls.length 2⟩], Sq d := fun d hd => by
    rcases List.mem_append.mp hd with z | z
    · exact sq7 d z
    · rw [List.mem_singleton.mp z]
      refine (sm_sn (s := ⟨sn.rs, sn.bs, List.replicate sn.ls.length 2⟩) ⟨sb.r, sb.b, by show (List.replicate _ _).length ≤ 10; rw [List.length_replicate]; exact sb.l, sb.r0, sb.b0, fun y hy => ?_⟩).up (by decide) (by decide) (by decide)
      rw [(List.mem_replicate.mp hy).2]; decide
  generalize upd GA t5 (.tup [lr, lb, .ref p6]) = F0 at nl5 all8 dB hcB hsB ⊢
  have len8 : (xs7 ++ [V.ref t5]).length = 8 := by rw [List.length_append, len7]; rfl
  generalize xs7 ++ [V.ref t5] = xs8 at all8 len8 ⊢
  generalize ds7 ++ [snD ⟨sn.rs, sn.bs, List.replicate sn.ls.length 2⟩] = ds8 at all8 sq8
  clear s5 s5' sAA s4 sA hp6 n5 n4 q3 dA all7 sq7 d9 hlaF halF hla hal hlr hlb hcF hsF nl3
  -- the bends
  refine ⟨24, rfl, by decide, by decide, for_it walk_range (fun i σ H3 => ∃ (y6 y7 : Option V) (xs : List V) (ds : List PyData) (Fh : Hp), σ = [some (.ref b), some vw, some (.ref la), some vy, some (.ref l), none, y6, y7, none, none, none, none] ∧ H3 = upd Fh l (.lst xs) ∧ Fh l = none ∧ Dr b H Fh ∧ Dp K (delH Fh b) vw (cnD c) ∧ Dp K (delH Fh b) (.ref la) (snD sn) ∧ DpAll K (delH Fh b) xs ds ∧ (∀ d ∈ ds, Sq d) ∧ xs.length = 8 + i)
    ⟨none, none, xs8, ds8, F0, rfl, rfl, nl5, dB, hcB, hsB, all8, sq8, len8⟩ (fun _ _ _ _ _ => trivial) (fun i x σ H3 H4 hi h hy => ?_) (fun σ H3 h => ?_)⟩
  · obtain ⟨y6, y7, xs, ds, Fh, rfl, rfl, nF, dF, hcF, hsF, hall, hsq, hln⟩ := h
    obtain ⟨rfl, rfl⟩ := hy
    have hi' : i < 24 := hi
    refine at_g (σ' := [some (.ref b), some vw, some (.ref la), some vy, some (.ref l), none, some (.int (0 + i)), y7, none, none, none, none]) rfl ?_
    refine ⟨_, rfl, _, rfl, l, xs, upd_same, ?_⟩
    rw [delH_upd nF]
    refine ⟨b, .ref la, snD sn, 10 ^ 30, rfl, dF.box, hsF, smc.g, Nat.le_refl _, by decide, by have := smc.dp; omega, by have := smc.wt; omega, fun v1 e1 F1 r1 p1 m1 n1 => ?_⟩
    refine at_g (σ' := [some (.ref b), some vw, some (.ref la), some vy, some (.ref l), none, some (.int (0 + i)), some v1, none, none, none, none]) rfl ?_
    have m1d := m1.dp
    have m1w := m1.wt
    have smd := smc.dp
    have smw := smc.wt
    refine ⟨_, rfl, .inl ⟨rfl, _, SqL.of upd_same⟩, _, rfl, l, xs, upd_same, ?_⟩
    rw [delH_upd n1]
    refine ⟨b, 3, rfl, r1.box, by decide, by decide, fun v3 F2 _ _ r2 n2 => ⟨rfl, _, rfl, ite2 (fun c3 => ?_) (fun c3 => ?_)⟩⟩
    · refine ⟨_, rfl, _, rfl, l, xs, upd_same, ?_⟩
      rw [delH_upd n2]
      refine ⟨b, v1, e1, 2 * 10 ^ 30 + 3, rfl, r2.box, Dp.same r2.del _ p1, m1.g, by decide, by decide, by omega, by omega, fun v5 e5 F5 r5 p5 m5 n5 => ?_⟩
      refine ⟨l, xs, _, rfl, rfl, upd_same, (by rw [hln, sizeLine_eq]; omega), ?_⟩
      rw [upd_upd]
      have r15 := (r1.trans r2).trans r5
      refine ⟨_, _, xs ++ [v5], ds ++ [e5], F5, rfl, rfl, n5, dF.trans r15, Dp.same r15.del _ hcF, Dp.same r15.del _ hsF, DpAll.snoc (DpAll.same r15.del _ hall) p5, fun d hd => ?_, by rw [List.length_append, hln]; rfl⟩
      rcases List.mem_append.mp hd with z | z
      · exact hsq d z
      · rw [List.mem_singleton.mp z]
        exact m5.up (by decide) (by omega) (by omega)
    · refine ⟨_, rfl, l, xs, _, rfl, rfl, upd_same, (by rw [hln, sizeLine_eq]; omega), ?_⟩
      rw [upd_upd]
      have r12 := r1.trans r2
      refine ⟨_, _, xs ++ [v1], ds ++ [e1], F2, rfl, rfl, n2, dF.trans r12, Dp.same r12.del _ hcF, Dp.same r12.del _ hsF, DpAll.snoc (DpAll.same r12.del _ hall) (Dp.same r2.del _ p1), fun d hd => ?_, by rw [List.length_append, hln]; rfl⟩
      rcases List.mem_append.mp hd with z | z
      · exact hsq d z
      · rw [List.mem_singleton.mp z]
        exact m1.up (by decide) (by omega) (by omega)
  · obtain ⟨y6, y7, xs, ds, Fh, rfl, rfl, nF, dF, hcF, hsF, hall, hsq, hln⟩ := h
    have sF := same_new (o := .lst xs) nF
    have eL : upd Fh l (.lst xs) l = some (.lst xs) := upd_same
    have lb := bx_ne dF.box nF
    replace dF := dF.trans (Dr.of dF.box sF)
    replace hcF := Dp.same (same_del sF) _ hcF
    replace hsF := Dp.same (same_del sF) _ hsF
    replace hall := DpAll.same (same_del sF) _ hall
    generalize upd Fh l (.lst xs) = G at eL dF hcF hsF hall ⊢
    clear sF nF
    refine ⟨_, rfl, 4, rfl, by decide, by decide, lc_map walk_range (Dr b) (fun a b => a.trans b) (fun i y F' => ∃ d, Dp K (delH F' b) y d ∧ Sq d) (fun i y A B s ⟨d, p, z⟩ => ⟨d, Dp.same s.del _ p, z⟩) (by decide) (Dr.refl dF.box) (fun _ _ _ _ _ => trivial) (fun i x D acc F' H' hi nD rF nF hy B hB => ?_) (fun D ys F' nD rF nF hl hR => ?_)⟩
    · obtain ⟨rfl, rfl⟩ := hy
      refine hB _ F' rfl nF fun Qt hq => ?_
      exact ⟨_, rfl, b, rfl, rF.box, fun v d H' r p m => hq _ _ r ⟨d, p, m.up (by decide) (by decide) (by decide)⟩⟩
    obtain ⟨es, hes, hsq2⟩ := some_all (K := K) (F := delH F' b) (P := Sq) ys fun z hz => by
      obtain ⟨i, hi⟩ := List.mem_iff_getElem?.mp hz
      exact hR i z hi
    have sD := same_new (o := .lst ys) nF
    have eL' : upd F' D (.lst ys) l = some (.lst xs) := sD _ _ (rF.same l _ lb eL)
    refine ⟨l, D, _, _, rfl, rfl, eL', upd_same, (by rw [hl, hln, sizeLine_eq]; decide), fun l4 n4 => ?_⟩
    have s4 := same_new (o := .lst (xs ++ ys)) n4
    have dr4 := (dF.trans rF).trans (Dr.of rF.box (sD.trans s4))
    have hc4 := Dp.same (same_del (sD.trans s4)) _ (Dp.same rF.del _ hcF)
    have hs4 := Dp.same (same_del (sD.trans s4)) _ (Dp.same rF.del _ hsF)
    have hall4 := DpAll.same (same_del (sD.trans s4)) _ (DpAll.app (DpAll.same rF.del _ hall) hes)
    have hsq4 : ∀ d ∈ ds ++ es, Sq d := fun d hd => by
      rcases List.mem_append.mp hd with z | z
      · exact hsq d z
      · exact hsq2 d z
    have e4 : upd (upd F' D (.lst ys)) l4 (.lst (xs ++ ys)) l4 = some (.lst (xs ++ ys)) := upd_same
    refine at_g (σ' := [some (.ref b), some vw, some (.ref la), some vy, some (.ref l4), none, y6, y7, none, none, none, none]) rfl ?_
    generalize upd (upd F' D (.lst ys)) l4 (.lst (xs ++ ys)) = G4 at dr4 hc4 hs4 hall4 e4 ⊢
    generalize xs ++ ys = zs at hall4 e4
    generalize ds ++ es = ds4 at hall4 hsq4
    clear s4 eL' sD hes hsq2 hR hl nF rF nD hall hcF hsF dF eL
    -- the items
    have hcG : Dp K G4 vw (cnD c) := Dp.same del_same _ hc4
    refine ⟨_, rfl, l4, zs, rfl, .inl (SqL.of e4), fun J wk => for_it wk (fun i σ H' => ∃ y8 y9 yA yB : Option V, σ = [some (.ref b), some vw, some (.ref la), some vy, some (.ref l4), none, y6, y7, y8, y9, yA, yB] ∧ Same G4 H')
      ⟨none, none, none, none, rfl, Same.refl _⟩ (fun i σ H' _ h => ?_) (fun i x σ H3 H4 hi h hy => ?_) (fun σ H3 h => ?_)⟩
    · obtain ⟨_, _, _, _, _, z⟩ := h
      exact ⟨fun _ w => z.seq w, fun w => Same.tup z w⟩
    · obtain ⟨y8, y9, yA, yB, rfl, s3⟩ := h
      obtain ⟨rfl, hx⟩ := hy
      obtain ⟨e, he, hpe⟩ := DpAll.get hall4 hx
      obtain ⟨w1, w2, w3, w4, w5⟩ := (hsq4 e (List.mem_of_getElem? he)).show
      have hp4 : Dp K G4 x e := Dp.same del_same _ hpe
      refine at_g (σ' := [some (.ref b), some vw, some (.ref la), some vy, some (.ref l4), none, y6, y7, some x, y9, yA, yB]) rfl ?_
      refine ⟨_, rfl, e, Dp.same s3 _ hp4, w1, w2, w3, w4, _, rfl, _, rfl, vw, x, c, e, rfl, Dp.same s3 _ hcG, Dp.same s3 _ hp4, w5, fun H5 s5 => ⟨_, _, rfl, ?_⟩⟩
      refine at_s (σ' := [some (.ref b), some vw, some (.ref la), some vy, some (.ref l4), none, y6, y7, some x, some (.str e.shown), some (.bl (standB c.r c.b c.ls.length e)), yB]) rfl ?_
      have s35 := s3.trans s5
      refine ⟨_, rfl, _, rfl, vw, x, c, e, rfl, cnA_t (Dp.same s35 _ hcG), Dp.same s35 _ hp4, w5, fun H6 s6 => ?_⟩
      have s36 := s35.trans s6
      refine ⟨_, rfl, _, rfl, vw, cnD c, rfl, Dp.same s36 _ hcG, okc9, fun vli H7 s7 hvli => ?_⟩
      have s37 := s36.trans s7
      refine ⟨vli, x, c, e, rfl, cnA_l hvli, Dp.same s37 _ hp4, w5, fun H8 s8 => ⟨(by show 2 ≤ sizeLine; decide), fun lt nt => ?_⟩⟩
      have s38 := (s37.trans s8).trans (same_new (o := .lst [.bl (standB c.r c.b c.ls.length e), .bl (standB c.r c.b c.ls.length e)]) nt)
      generalize hbb : standB c.r c.b c.ls.length e = bb at s38 ⊢
      refine at_g (σ' := [some (.ref b), some vw, some (.ref la), some vy, some (.ref l4), none, y6, y7, some x, some (.str e.shown), some (.bl bb), some (.ref lt)]) rfl ?_
      have elt : upd H8 lt (.lst [.bl bb, .bl bb]) lt = some (.lst [.bl bb, .bl bb]) := upd_same
      generalize upd H8 lt (.lst [.bl bb, .bl bb]) = H9 at s38 elt ⊢
      refine ⟨_, rfl, _, rfl, _, rfl, (by show 2 ≤ sizeLine; decide), fun lb2 nlb => ?_⟩
      have sb3 := same_new (o := .lst [.bl bb, .bl bb]) nlb
      have two : ∀ {Hh : Hp}, DpAll K Hh [.bl bb, .bl bb] [.bool bb, .bool bb] := .cons (.bl _) (.cons (.bl _) .nil)
      refine ⟨.ref lt, .ref lb2, .list [.bool bb, .bool bb], rfl, .lst (SqL.of (sb3 _ _ elt)) two, .lst (SqL.of upd_same) two, ⟨by show 2 ≤ 1000; decide, fun d hd => ?_⟩, fun HA sA => ⟨true, rfl, iteF ?_⟩⟩
      · simp only [List.mem_cons, List.not_mem_nil, or_false] at hd
        rcases hd with rfl | rfl <;> exact trivial
      have s3A := s38.trans (sb3.trans sA)
      refine ⟨_, rfl, e, Dp.same s3A _ hp4, w1, w2, w3, w4, _, rfl, rfl, _, rfl, ?_⟩
      have ed : decide (V.str e.shown = V.str e.shown) = true := decide_eq_true rfl
      rw [ed]
      exact iteF ⟨_, _, _, _, rfl, s3A⟩
    · obtain ⟨y8, y9, yA, yB, rfl, s3⟩ := h
      refine ⟨_, rfl, _, rfl, vw, .ref la, c, snD sn, rfl, cnA_t (Dp.same s3 _ hcG), Dp.same s3 _ (Dp.same del_same _ hs4), by have := smc.wt; omega, fun H9 s9 => ⟨_, _, rfl, rfl, ?_⟩⟩
      rw [stand_sn oks]
      exact q _ (dr4.trans (Dr.of dr4.box (s3.trans s9)))

end
end XL
namespace XL
open PySem PySem.Spec PyProof.Rows L2
abbrev sLaw : Stmt := topS 24
section
variable {P : Program} {w : World} {K : PySem.W.Frag} {mg : Str → Option Value} {base : Heap}
abbrev nLaw : List Str := ["_law_script", "_law_cells_here", "_law_k"]
theorem scLaw : FnScope nLaw ["_law_script"] (defScope sLaw) := ⟨rfl, rfl, rfl, by decide +kernel, rfl, by decide +kernel, by decide +kernel⟩
def spLaw (K : PySem.W.Frag) : Sp := fun vs H Q _ => ∃ (a : Addr) (ns : List Int), vs = [.ref a] ∧ SqL K H a (ns.map V.int) ∧ ns.length ≤ 63 ∧ ∀ H', Q (.bl true) H'
theorem ok_law {f fc fx fr : Addr} {fd fdc fdx fdr : FuncData} (F : Fun K "law" "law" sLaw f fd)
    (C : Fns P w K mg base 10 "_law_cells" ["_law_script", "_law_utmost"] (spCells K) fc fdc) (B : Fns P w K mg base 10 "_law_box" ["_law_cells_here", "_law_k"] (spBox K) fx fdx)
    (R : FnG P w K mg base 10 fr fdr ["_law_box_here"] spRight) (gR : mg "_law_right" = some (.ref fr)) (kR : PySem.W.keepIn K (.ref fr) = true) (bR : Binds K fdr ["_law_box_here"] []) (me : mg "len" = none) (ma : mg "all" = none) (mr : mg "range" = none) :
    FnG P w K mg base 11 f fd ["_law_script"] (spLaw K) := by
  refine okG F scLaw (fun vs H Q E h => ?_) (fun cdv A outer s H vs Q E hG hr h => ?_)
  · obtain ⟨a, ns, rfl, _⟩ := h
    rfl
  obtain ⟨a, ns, rfl, ha, hn, q⟩ := h
  refine ⟨_, pss_cons (ps_set (i := 1) scLaw.nd rfl (.inr rfl) (pe_fn C hr rfl (pa_cons (pv 0) (pa_cons pe_int pa_nil))))
    (pss_one (ps_ret (pe_callB (cr_all rfl) rfl ma boot_all (pa_cons (pe_lc (own := [("_law_k", 2)]) (g := gName 2) (tt := tYes) rfl scLaw.nd (pi_range1 rfl mr (pa_cons (pe_callB call_len_seq rfl me PySem.boot_len (pa_cons (pv 1) pa_nil)) pa_nil)) (blkOk_by (own := [("_law_k", 2)]) (N := nLaw) (sc := defScope sLaw) (by decide +kernel))
        (fun _ _ _ _ _ => pg_name (i := 2) scLaw.nd rfl (Or.inl rfl)) (fun _ _ _ _ _ => pts_nil) (fun _ _ _ _ _ => pe_hide (pe_callG hG R hr rfl gR kR bR (pa_cons (pe_fn B hr rfl (pa_cons (pv 1) (pa_cons (pv 2) pa_nil))) pa_nil)))) pa_nil)))), ?_⟩
  refine ⟨_, rfl, a, ns, 3, rfl, ha, hn, by decide, by decide, fun p zs H1 s1 np ep z1 z2 => ?_⟩
  refine at_g (σ' := [some (.ref a), some (.ref p), none]) rfl ?_
  refine ⟨_, rfl, p, _, rfl, .inl (SqL.of ep), _, rfl, by rw [List.length_map]; omega, by rw [List.length_map]; omega, lc_map walk_range Same (fun a b => a.trans b) (fun i y F => y = .bl true) (fun i y A B _ p => p) (by rw [List.length_map]; exact Nat.lt_of_le_of_lt z2 (by decide)) (Same.refl _) (fun _ _ _ _ _ => trivial) (fun j x D acc F H' hj nD sF nF hy B hB => ?_) (fun D ys F nD sF nF hl hR => ?_)⟩
  · obtain ⟨rfl, rfl⟩ := hy
    have hj' : j < zs.length := by rw [List.length_map] at hj; omega
    refine hB _ F rfl nF fun Qt hq => ?_
    refine ⟨_, rfl, _, rfl, p, zs, j, by show [V.ref p, V.int (0 + (j : Int))] = _; rw [Int.zero_add], SqL.of (sF _ _ ep), hj', fun b x y nb => ?_⟩
    refine ⟨b, rfl, ⟨x, y, 0, upd_same⟩, fun F' d => hq _ _ (fun c o e => ?_) rfl⟩
    have hc : c ≠ b := ne_of_none e nb
    exact d.same c o hc (by rw [upd_ne hc]; exact e)
  · refine ⟨D, List.replicate ys.length true, rfl, ?_, ?_⟩
    · rw [← eq_true_map ys hR]; exact SqL.of upd_same
    · rw [all_true]
      exact q _
end
set_option maxHeartbeats 8000000 in
theorem all_mk {l : PySem.W.OpenLaw} {w : World} {K : PySem.W.Frag} {h : Heap} {mg : Str → Option Value} {fa f1 f2 f3 f4 f5 f6 f7 f8 f9 f10 f11 f12 f13 f14 f15 f16 f17 f18 f19 f20 f21 f22 : Addr} (X : K.In h) (G : h.Ns mainGlobals mg) (hfa : mg "law" = some (.ref fa))
    {od1 an1 : Option Addr} {sl1 : Array (Option Value)} {oc1 kV1 dc1 pm1 cd1 ct1 : Value}
    {od2 an2 : Option Addr} {sl2 : Array (Option Value)} {oc2 kV2 dc2 pm2 cd2 ct2 : Value}
    {od3 an3 : Option Addr} {sl3 : Array (Option Value)} {oc3 kV3 dc3 pm3 cd3 ct3 : Value}
    {od4 an4 : Option Addr} {sl4 : Array (Option Value)} {oc4 kV4 dc4 pm4 cd4 ct4 : Value}
    {od5 an5 : Option Addr} {sl5 : Array (Option Value)} {oc5 kV5 dc5 pm5 cd5 ct5 : Value}
    {od6 an6 : Option Addr} {sl6 : Array (Option Value)} {oc6 kV6 dc6 pm6 cd6 ct6 : Value}
    {od7 an7 : Option Addr} {sl7 : Array (Option Value)} {oc7 kV7 dc7 pm7 cd7 ct7 : Value}
    {od8 an8 : Option Addr} {sl8 : Array (Option Value)} {oc8 kV8 dc8 pm8 cd8 ct8 : Value}
    {od9 an9 : Option Addr} {sl9 : Array (Option Value)} {oc9 kV9 dc9 pm9 cd9 ct9 : Value}
    {od10 an10 : Option Addr} {sl10 : Array (Option Value)} {oc10 kV10 dc10 pm10 cd10 ct10 : Value}
    {od11 an11 : Option Addr} {sl11 : Array (Option Value)} {oc11 kV11 dc11 pm11 cd11 ct11 : Value}
    {od12 an12 : Option Addr} {sl12 : Array (Option Value)} {oc12 kV12 dc12 pm12 cd12 ct12 : Value}
    {od13 an13 : Option Addr} {sl13 : Array (Option Value)} {oc13 kV13 dc13 pm13 cd13 ct13 : Value}
    {od14 an14 : Option Addr} {sl14 : Array (Option Value)} {oc14 kV14 dc14 pm14 cd14 ct14 : Value}
    {od15 an15 : Option Addr} {sl15 : Array (Option Value)} {oc15 kV15 dc15 pm15 cd15 ct15 : Value}
    {od16 an16 : Option Addr} {sl16 : Array (Option Value)} {oc16 kV16 dc16 pm16 cd16 ct16 : Value}
    {od17 an17 : Option Addr} {sl17 : Array (Option Value)} {oc17 kV17 dc17 pm17 cd17 ct17 : Value}
    {od18 an18 : Option Addr} {sl18 : Array (Option Value)} {oc18 kV18 dc18 pm18 cd18 ct18 : Value}
    {od19 an19 : Option Addr} {sl19 : Array (Option Value)} {oc19 kV19 dc19 pm19 cd19 ct19 : Value}
    {od20 an20 : Option Addr} {sl20 : Array (Option Value)} {oc20 kV20 dc20 pm20 cd20 ct20 : Value}
    {od21 an21 : Option Addr} {sl21 : Array (Option Value)} {oc21 kV21 dc21 pm21 cd21 ct21 : Value}
    {od22 an22 : Option Addr} {sl22 : Array (Option Value)} {oc22 kV22 dc22 pm22 cd22 ct22 : Value}
    (a1 : PySem.W.nsIn K mainGlobals "is_number" = some (some (.ref f1)))
    (l1 : K.lookup f1 = some ⟨oc1, od1, .func (PySem.W.fnOf "is_number" "is_number" (defArgs sNum) (defBody sNum) (defScope sNum) .none kV1 dc1 pm1 an1 cd1 ct1), sl1⟩)
    (d1 : PySem.W.codeIn K cd1 "is_number" = true)
    (k1 : PySem.W.keepIn K (.ref f1) = true)
    (a2 : PySem.W.nsIn K mainGlobals "is_number_from" = some (some (.ref f2)))
    (l2 : K.lookup f2 = some ⟨oc2, od2, .func (PySem.W.fnOf "is_number_from" "is_number_from" (defArgs sFrom) (defBody sFrom) (defScope sFrom) .none kV2 dc2 pm2 an2 cd2 ct2), sl2⟩)
    (d2 : PySem.W.codeIn K cd2 "is_number_from" = true)
    (k2 : PySem.W.keepIn K (.ref f2) = true)
    (a3 : PySem.W.nsIn K mainGlobals "is_place" = some (some (.ref f3)))
    (l3 : K.lookup f3 = some ⟨oc3, od3, .func (PySem.W.fnOf "is_place" "is_place" (defArgs sPlace) (defBody sPlace) (defScope sPlace) .none kV3 dc3 pm3 an3 cd3 ct3), sl3⟩)
    (d3 : PySem.W.codeIn K cd3 "is_place" = true)
    (k3 : PySem.W.keepIn K (.ref f3) = true)
    (a4 : PySem.W.nsIn K mainGlobals "is_tuple_of" = some (some (.ref f4)))
    (l4 : K.lookup f4 = some ⟨oc4, od4, .func (PySem.W.fnOf "is_tuple_of" "is_tuple_of" (defArgs sTupOf) (defBody sTupOf) (defScope sTupOf) .none kV4 dc4 pm4 an4 cd4 ct4), sl4⟩)
    (d4 : PySem.W.codeIn K cd4 "is_tuple_of" = true)
    (k4 : PySem.W.keepIn K (.ref f4) = true)
    (a5 : PySem.W.nsIn K mainGlobals "are_boats" = some (some (.ref f5)))
    (l5 : K.lookup f5 = some ⟨oc5, od5, .func (PySem.W.fnOf "are_boats" "are_boats" (defArgs sBoats) (defBody sBoats) (defScope sBoats) .none kV5 dc5 pm5 an5 cd5 ct5), sl5⟩)
    (d5 : PySem.W.codeIn K cd5 "are_boats" = true)
    (k5 : PySem.W.keepIn K (.ref f5) = true)
    (a6 : PySem.W.nsIn K mainGlobals "are_stands" = some (some (.ref f6)))
    (l6 : K.lookup f6 = some ⟨oc6, od6, .func (PySem.W.fnOf "are_stands" "are_stands" (defArgs sStands) (defBody sStands) (defScope sStands) .none kV6 dc6 pm6 an6 cd6 ct6), sl6⟩)
    (d6 : PySem.W.codeIn K cd6 "are_stands" = true)
    (k6 : PySem.W.keepIn K (.ref f6) = true)
    (a7 : PySem.W.nsIn K mainGlobals "is_standing" = some (some (.ref f7)))
    (l7 : K.lookup f7 = some ⟨oc7, od7, .func (PySem.W.fnOf "is_standing" "is_standing" (defArgs sIsSt) (defBody sIsSt) (defScope sIsSt) .none kV7 dc7 pm7 an7 cd7 ct7), sl7⟩)
    (d7 : PySem.W.codeIn K cd7 "is_standing" = true)
    (k7 : PySem.W.keepIn K (.ref f7) = true)
    (a8 : PySem.W.nsIn K mainGlobals "_law_count" = some (some (.ref f8)))
    (l8 : K.lookup f8 = some ⟨oc8, od8, .func (PySem.W.fnOf "_law_count" "_law_count" (defArgs sCount) (defBody sCount) (defScope sCount) .none kV8 dc8 pm8 an8 cd8 ct8), sl8⟩)
    (d8 : PySem.W.codeIn K cd8 "_law_count" = true)
    (k8 : PySem.W.keepIn K (.ref f8) = true)
    (a9 : PySem.W.nsIn K mainGlobals "_law_row_of_numbers" = some (some (.ref f9)))
    (l9 : K.lookup f9 = some ⟨oc9, od9, .func (PySem.W.fnOf "_law_row_of_numbers" "_law_row_of_numbers" (defArgs sRow) (defBody sRow) (defScope sRow) .none kV9 dc9 pm9 an9 cd9 ct9), sl9⟩)
    (d9 : PySem.W.codeIn K cd9 "_law_row_of_numbers" = true)
    (k9 : PySem.W.keepIn K (.ref f9) = true)
    (a10 : PySem.W.nsIn K mainGlobals "_law_take" = some (some (.ref f10)))
    (l10 : K.lookup f10 = some ⟨oc10, od10, .func (PySem.W.fnOf "_law_take" "_law_take" (defArgs sTake) (defBody sTake) (defScope sTake) .none kV10 dc10 pm10 an10 cd10 ct10), sl10⟩)
    (d10 : PySem.W.codeIn K cd10 "_law_take" = true)
    (k10 : PySem.W.keepIn K (.ref f10) = true)
    (a11 : PySem.W.nsIn K mainGlobals "_law_of" = some (some (.ref f11)))
    (l11 : K.lookup f11 = some ⟨oc11, od11, .func (PySem.W.fnOf "_law_of" "_law_of" (defArgs sOf) (defBody sOf) (defScope sOf) .none kV11 dc11 pm11 an11 cd11 ct11), sl11⟩)
    (d11 : PySem.W.codeIn K cd11 "_law_of" = true)
    (k11 : PySem.W.keepIn K (.ref f11) = true)
    (a12 : PySem.W.nsIn K mainGlobals "_law_canal" = some (some (.ref f12)))
    (l12 : K.lookup f12 = some ⟨oc12, od12, .func (PySem.W.fnOf "_law_canal" "_law_canal" (defArgs sCanal) (defBody sCanal) (defScope sCanal) .none kV12 dc12 pm12 an12 cd12 ct12), sl12⟩)
    (d12 : PySem.W.codeIn K cd12 "_law_canal" = true)
    (k12 : PySem.W.keepIn K (.ref f12) = true)
    (a13 : PySem.W.nsIn K mainGlobals "_law_lying" = some (some (.ref f13)))
    (l13 : K.lookup f13 = some ⟨oc13, od13, .func (PySem.W.fnOf "_law_lying" "_law_lying" (defArgs sLying) (defBody sLying) (defScope sLying) .none kV13 dc13 pm13 an13 cd13 ct13), sl13⟩)
    (d13 : PySem.W.codeIn K cd13 "_law_lying" = true)
    (k13 : PySem.W.keepIn K (.ref f13) = true)
    (a14 : PySem.W.nsIn K mainGlobals "_law_lists" = some (some (.ref f14)))
    (l14 : K.lookup f14 = some ⟨oc14, od14, .func (PySem.W.fnOf "_law_lists" "_law_lists" (defArgs sLists) (defBody sLists) (defScope sLists) .none kV14 dc14 pm14 an14 cd14 ct14), sl14⟩)
    (d14 : PySem.W.codeIn K cd14 "_law_lists" = true)
    (k14 : PySem.W.keepIn K (.ref f14) = true)
    (a15 : PySem.W.nsIn K mainGlobals "_law_odd" = some (some (.ref f15)))
    (l15 : K.lookup f15 = some ⟨oc15, od15, .func (PySem.W.fnOf "_law_odd" "_law_odd" (defArgs sOdd) (defBody sOdd) (defScope sOdd) .none kV15 dc15 pm15 an15 cd15 ct15), sl15⟩)
    (d15 : PySem.W.codeIn K cd15 "_law_odd" = true)
    (k15 : PySem.W.keepIn K (.ref f15) = true)
    (a16 : PySem.W.nsIn K mainGlobals "_law_otherwise" = some (some (.ref f16)))
    (l16 : K.lookup f16 = some ⟨oc16, od16, .func (PySem.W.fnOf "_law_otherwise" "_law_otherwise" (defArgs sOth) (defBody sOth) (defScope sOth) .none kV16 dc16 pm16 an16 cd16 ct16), sl16⟩)
    (d16 : PySem.W.codeIn K cd16 "_law_otherwise" = true)
    (k16 : PySem.W.keepIn K (.ref f16) = true)
    (a17 : PySem.W.nsIn K mainGlobals "_law_same" = some (some (.ref f17)))
    (l17 : K.lookup f17 = some ⟨oc17, od17, .func (PySem.W.fnOf "_law_same" "_law_same" (defArgs sSame) (defBody sSame) (defScope sSame) .none kV17 dc17 pm17 an17 cd17 ct17), sl17⟩)
    (d17 : PySem.W.codeIn K cd17 "_law_same" = true)
    (k17 : PySem.W.keepIn K (.ref f17) = true)
    (a18 : PySem.W.nsIn K mainGlobals "_law_cells" = some (some (.ref f18)))
    (l18 : K.lookup f18 = some ⟨oc18, od18, .func (PySem.W.fnOf "_law_cells" "_law_cells" (defArgs sCells) (defBody sCells) (defScope sCells) .none kV18 dc18 pm18 an18 cd18 ct18), sl18⟩)
    (d18 : PySem.W.codeIn K cd18 "_law_cells" = true)
    (k18 : PySem.W.keepIn K (.ref f18) = true)
    (a19 : PySem.W.nsIn K mainGlobals "_law_box" = some (some (.ref f19)))
    (l19 : K.lookup f19 = some ⟨oc19, od19, .func (PySem.W.fnOf "_law_box" "_law_box" (defArgs sBox) (defBody sBox) (defScope sBox) .none kV19 dc19 pm19 an19 cd19 ct19), sl19⟩)
    (d19 : PySem.W.codeIn K cd19 "_law_box" = true)
    (k19 : PySem.W.keepIn K (.ref f19) = true)
    (a20 : PySem.W.nsIn K mainGlobals "_law_due" = some (some (.ref f20)))
    (l20 : K.lookup f20 = some ⟨oc20, od20, .func (PySem.W.fnOf "_law_due" "_law_due" (defArgs sDue) (defBody sDue) (defScope sDue) .none kV20 dc20 pm20 an20 cd20 ct20), sl20⟩)
    (d20 : PySem.W.codeIn K cd20 "_law_due" = true)
    (k20 : PySem.W.keepIn K (.ref f20) = true)
    (a21 : PySem.W.nsIn K mainGlobals "_law_right" = some (some (.ref f21)))
    (l21 : K.lookup f21 = some ⟨oc21, od21, .func (PySem.W.fnOf "_law_right" "_law_right" (defArgs sRight) (defBody sRight) (defScope sRight) .none kV21 dc21 pm21 an21 cd21 ct21), sl21⟩)
    (d21 : PySem.W.codeIn K cd21 "_law_right" = true)
    (k21 : PySem.W.keepIn K (.ref f21) = true)
    (a22 : PySem.W.nsIn K mainGlobals "law" = some (some (.ref f22)))
    (l22 : K.lookup f22 = some ⟨oc22, od22, .func (PySem.W.fnOf "law" "law" (defArgs sLaw) (defBody sLaw) (defScope sLaw) .none kV22 dc22 pm22 an22 cd22 ct22), sl22⟩)
    (d22 : PySem.W.codeIn K cd22 "law" = true)
    (k22 : PySem.W.keepIn K (.ref f22) = true)
    (z1 : PySem.W.nsIn K mainGlobals "isinstance" = some none)
    (z2 : PySem.W.nsIn K mainGlobals "list" = some none)
    (z3 : PySem.W.nsIn K mainGlobals "tuple" = some none)
    (z4 : PySem.W.nsIn K mainGlobals "zip" = some none)
    (z5 : PySem.W.nsIn K mainGlobals "len" = some none)
    (z6 : PySem.W.nsIn K mainGlobals "all" = some none)
    (z7 : PySem.W.nsIn K mainGlobals "bool" = some none)
    (z8 : PySem.W.nsIn K mainGlobals "str" = some none)
    (z9 : PySem.W.nsIn K mainGlobals "int" = some none)
    (z10 : PySem.W.nsIn K mainGlobals "range" = some none)
    (z11 : PySem.W.nsIn K mainGlobals "enumerate" = some none)
    (z12 : PySem.W.nsIn K mainGlobals "abs" = some none)
    (z13 : PySem.W.nsIn K mainGlobals "repr" = some none)
    : ∃ fd : FuncData, (∀ (s : Shared) (v : Value), BindsTo s fd ⟨[v], []⟩ [("_law_script", v)]) ∧ ∀ base : Heap, K.In base → base.Ns mainGlobals mg → FnG l.prog w K mg base 11 fa fd ["_law_script"] (spLaw K) := by
  have e := hfa.symm.trans (PySem.W.mg_of X G a22)
  cases e
  have F1 := fun_mk (st := sNum) l1 d1 k1
  have b1 := F1.binds (ps := ["thing"]) fun _ _ _ _ _ _ us hl => match us, hl with | [_], _ => rfl
  have g1 := PySem.W.mg_of X G a1
  have F2 := fun_mk (st := sFrom) l2 d2 k2
  have b2 := F2.binds (ps := ["thing", "least"]) fun _ _ _ _ _ _ us hl => match us, hl with | [_, _], _ => rfl
  have g2 := PySem.W.mg_of X G a2
  have F3 := fun_mk (st := sPlace) l3 d3 k3
  have b3 := F3.binds (ps := ["thing", "many"]) fun _ _ _ _ _ _ us hl => match us, hl with | [_, _], _ => rfl
  have g3 := PySem.W.mg_of X G a3
  have F4 := fun_mk (st := sTupOf) l4 d4 k4
  have b4 := F4.binds (ps := ["thing", "many"]) fun _ _ _ _ _ _ us hl => match us, hl with | [_, _], _ => rfl
  have g4 := PySem.W.mg_of X G a4
  have F5 := fun_mk (st := sBoats) l5 d5 k5
  have b5 := F5.binds (ps := ["thing", "many"]) fun _ _ _ _ _ _ us hl => match us, hl with | [_, _], _ => rfl
  have g5 := PySem.W.mg_of X G a5
  have F6 := fun_mk (st := sStands) l6 d6 k6
  have b6 := F6.binds (ps := ["thing", "many"]) fun _ _ _ _ _ _ us hl => match us, hl with | [_, _], _ => rfl
  have g6 := PySem.W.mg_of X G a6
  have F7 := fun_mk (st := sIsSt) l7 d7 k7
  have b7 := F7.binds (ps := ["canal", "thing"]) fun _ _ _ _ _ _ us hl => match us, hl with | [_, _], _ => rfl
  have g7 := PySem.W.mg_of X G a7
  have F8 := fun_mk (st := sCount) l8 d8 k8
  have b8 := F8.binds (ps := ["_law_item"]) fun _ _ _ _ _ _ us hl => match us, hl with | [_], _ => rfl
  have g8 := PySem.W.mg_of X G a8
  have F9 := fun_mk (st := sRow) l9 d9 k9
  have b9 := F9.binds (ps := ["_law_item", "_law_size", "_law_is_list"]) fun _ _ _ _ _ _ us hl => match us, hl with | [_, _, _], _ => rfl
  have g9 := PySem.W.mg_of X G a9
  have F10 := fun_mk (st := sTake) l10 d10 k10
  have b10 := F10.binds (ps := ["_law_box_here", "_law_size"]) fun _ _ _ _ _ _ us hl => match us, hl with | [_, _], _ => rfl
  have g10 := PySem.W.mg_of X G a10
  have F11 := fun_mk (st := sOf) l11 d11 k11
  have b11 := F11.binds (ps := ["_law_box_here", "_law_some"]) fun _ _ _ _ _ _ us hl => match us, hl with | [_, _], _ => rfl
  have g11 := PySem.W.mg_of X G a11
  have F12 := fun_mk (st := sCanal) l12 d12 k12
  have b12 := F12.binds (ps := ["_law_box_here", "_law_wide", "_law_utmost"]) fun _ _ _ _ _ _ us hl => match us, hl with | [_, _, _], _ => rfl
  have g12 := PySem.W.mg_of X G a12
  have F13 := fun_mk (st := sLying) l13 d13 k13
  have b13 := F13.binds (ps := ["_law_box_here", "_law_ship_way", "_law_most"]) fun _ _ _ _ _ _ us hl => match us, hl with | [_, _, _], _ => rfl
  have g13 := PySem.W.mg_of X G a13
  have F14 := fun_mk (st := sLists) l14 d14 k14
  have b14 := F14.binds (ps := ["_law_what"]) fun _ _ _ _ _ _ us hl => match us, hl with | [_], _ => rfl
  have g14 := PySem.W.mg_of X G a14
  have F15 := fun_mk (st := sOdd) l15 d15 k15
  have b15 := F15.binds (ps := ["_law_box_here"]) fun _ _ _ _ _ _ us hl => match us, hl with | [_], _ => rfl
  have g15 := PySem.W.mg_of X G a15
  have F16 := fun_mk (st := sOth) l16 d16 k16
  have b16 := F16.binds (ps := ["_law_box_here", "_law_what"]) fun _ _ _ _ _ _ us hl => match us, hl with | [_, _], _ => rfl
  have g16 := PySem.W.mg_of X G a16
  have F17 := fun_mk (st := sSame) l17 d17 k17
  have b17 := F17.binds (ps := ["_law_found", "_law_due_here"]) fun _ _ _ _ _ _ us hl => match us, hl with | [_, _], _ => rfl
  have g17 := PySem.W.mg_of X G a17
  have F18 := fun_mk (st := sCells) l18 d18 k18
  have b18 := F18.binds (ps := ["_law_script", "_law_utmost"]) fun _ _ _ _ _ _ us hl => match us, hl with | [_, _], _ => rfl
  have g18 := PySem.W.mg_of X G a18
  have F19 := fun_mk (st := sBox) l19 d19 k19
  have b19 := F19.binds (ps := ["_law_cells_here", "_law_k"]) fun _ _ _ _ _ _ us hl => match us, hl with | [_, _], _ => rfl
  have g19 := PySem.W.mg_of X G a19
  have F20 := fun_mk (st := sDue) l20 d20 k20
  have b20 := F20.binds (ps := ["_law_ship_way", "_law_item"]) fun _ _ _ _ _ _ us hl => match us, hl with | [_, _], _ => rfl
  have g20 := PySem.W.mg_of X G a20
  have F21 := fun_mk (st := sRight) l21 d21 k21
  have b21 := F21.binds (ps := ["_law_box_here"]) fun _ _ _ _ _ _ us hl => match us, hl with | [_], _ => rfl
  have g21 := PySem.W.mg_of X G a21
  have F22 := fun_mk (st := sLaw) l22 d22 k22
  have m1 := PySem.W.mg_none_of X G z1
  have m2 := PySem.W.mg_none_of X G z2
  have m3 := PySem.W.mg_none_of X G z3
  have m4 := PySem.W.mg_none_of X G z4
  have m5 := PySem.W.mg_none_of X G z5
  have m6 := PySem.W.mg_none_of X G z6
  have m7 := PySem.W.mg_none_of X G z7
  have m8 := PySem.W.mg_none_of X G z8
  have m9 := PySem.W.mg_none_of X G z9
  have m10 := PySem.W.mg_none_of X G z10
  have m11 := PySem.W.mg_none_of X G z11
  have m12 := PySem.W.mg_none_of X G z12
  have m13 := PySem.W.mg_none_of X G z13
  refine ⟨PySem.W.fnOf "law" "law" (defArgs sLaw) (defBody sLaw) (defScope sLaw) .none kV22 dc22 pm22 an22 cd22 ct22, fun s v => .of_eq rfl, fun base _ _ => ?_⟩
  have N1 : Fns l.prog w K mg base 1 "is_number" ["thing"] (spNum K) f1 _ := ⟨ok_num (k := 0) F1 m1 m9 m7, g1, k1, b1⟩
  have N2 : Fns l.prog w K mg base 2 "is_number_from" ["thing", "least"] (spFrom K) f2 _ := ⟨ok_from (k := 1) F2 N1, g2, k2, b2⟩
  have N3 : Fns l.prog w K mg base 2 "is_place" ["thing", "many"] (spPlace K) f3 _ := ⟨ok_place (k := 1) F3 N1, g3, k3, b3⟩
  have N4 : Fns l.prog w K mg base 1 "is_tuple_of" ["thing", "many"] (spTupOf K) f4 _ := ⟨ok_tupof (k := 0) F4 m1 m3 m5, g4, k4, b4⟩
  have N5 : Fns l.prog w K mg base 3 "are_boats" ["thing", "many"] (spRowF K boatsB) f5 _ := ⟨ok_boats (k := 2) F5 (N4.up (by decide)) N2 m6, g5, k5, b5⟩
  have N6 : Fns l.prog w K mg base 3 "are_stands" ["thing", "many"] (spRowF K standsB) f6 _ := ⟨ok_stands (k := 2) F6 (N4.up (by decide)) N3 m6, g6, k6, b6⟩
  have NS : Fns l.prog w K mg base 4 "is_standing" ["canal", "thing"] (spIsSt K (CnA K)) f7 _ := ⟨ok_isst (k := 3) F7 (N4.up (by decide)) N5 N6 m5, g7, k7, b7⟩
  have N7 : Fns l.prog w K mg base 1 "_law_count" ["_law_item"] (spNum K) f8 _ := ⟨ok_count (k := 0) F8 m1 m9 m7, g8, k8, b8⟩
  have N8 : Fns l.prog w K mg base 2 "_law_row_of_numbers" ["_law_item", "_law_size", "_law_is_list"] (spRow K) f9 _ := ⟨ok_row (k := 1) F9 N7 m1 m2 m3 m5 m6, g9, k9, b9⟩
  have N9 : Fns l.prog w K mg base 3 "_law_due" ["_law_ship_way", "_law_item"] (spIsSt K fun H v c => Dp K H v (cnD c)) f20 _ := ⟨ok_due (k := 2) F20 N8 m1 m3 m5 m6 m4, g20, k20, b20⟩
  have Ta : Fns l.prog w K mg base 1 "_law_take" ["_law_box_here", "_law_size"] (spTake) f10 _ := ⟨ok_take (k := 0) F10, g10, k10, b10⟩
  have Of : Fns l.prog w K mg base 2 "_law_of" ["_law_box_here", "_law_some"] (spOf K) f11 _ := ⟨ok_of (k := 0) F11 F10 b10 g10 m5, g11, k11, b11⟩
  have Od : Fns l.prog w K mg base 3 "_law_odd" ["_law_box_here"] (spOdd K) f15 _ := ⟨ok_odd (k := 2) F15 Of, g15, k15, b15⟩
  have Ot : Fns l.prog w K mg base 9 "_law_otherwise" ["_law_box_here", "_law_what"] (spOth K 6) f16 _ := ⟨ok_oth F16 b16 g16 (Ta.up (by decide)) Od m1 m2 m3 m5 m7 m8 m9 6, g16, k16, b16⟩
  have Ca : Fns l.prog w K mg base 9 "_law_canal" ["_law_box_here", "_law_wide", "_law_utmost"] (spCanal K) f12 _ := ⟨ok_canal (k := 6) F12 F10 b10 g10 F11 b11 g11 m5 m2 m3 m10, g12, k12, b12⟩
  have Ly : Fns l.prog w K mg base 9 "_law_lying" ["_law_box_here", "_law_ship_way", "_law_most"] (spLying K) f13 _ := ⟨ok_lying (k := 6) F13 F10 b10 g10 F11 b11 g11 m5 m3 m10, g13, k13, b13⟩
  have Li : Fns l.prog w K mg base 9 "_law_lists" ["_law_what"] (spLists K 9) f14 _ := ⟨ok_lists F14 b14 g14 m1 m2 m3 9, g14, k14, b14⟩
  have Sa : Fns l.prog w K mg base 9 "_law_same" ["_law_found", "_law_due_here"] (spSame K 9) f17 _ := ⟨ok_same F17 b17 g17 m1 m2 m3 m4 m5 m6 m7 m8 m9 9, g17, k17, b17⟩
  have Ce : Fns l.prog w K mg base 10 "_law_cells" ["_law_script", "_law_utmost"] (spCells K) f18 _ := ⟨ok_cells (k := 9) F18 m2 m11, g18, k18, b18⟩
  have Bo : Fns l.prog w K mg base 10 "_law_box" ["_law_cells_here", "_law_k"] (spBox K) f19 _ := ⟨ok_box (k := 9) F19 m12 m9, g19, k19, b19⟩
  have R := ok_right F21 Ca Li Ot (Ta.up (by decide)) (Od.up (by decide)) (N9.up (by decide)) (NS.up (by decide)) Sa Ly (Of.up (by decide)) (kb2 F7 fun _ _ _ _ _ _ _ _ => rfl) m13 m10 m3 m5
  exact ok_law F22 Ce Bo R g21 k21 b21 m5 m6 m10
end XL
open PySem PySem.W PyProof.Rows
set_option maxRecDepth 100000 in
set_option maxHeartbeats 0 in
theorem PySem.Challenge.cw_crosslocks_k02_what_standings_are_holds : PySem.Challenge.rw_crosslocks_k02_what_standings_are.Holds := by
  w_on; o_law; k_head; (case hw => w_witness2)
  k_fill
  refine XL.walkG (l := PySem.Challenge.rw_crosslocks_k02_what_standings_are) (n := 63) (k := 11) (x := "_law_script") (sp := XL.spLaw) rfl (by decide) rfl ⟨rfl, by decide, by decide⟩ (fun w h Y => PySem.W.kIn_of Y) ?F (fun K H a ns hl _ hS => ⟨a, ns, rfl, hS, hl, fun _ => rfl⟩)
  case F =>
    intro w mg fa h KX G hmg
    refine' XL.all_mk KX G hmg ?a1 ?l1 ?d1 ?k1 ?a2 ?l2 ?d2 ?k2 ?a3 ?l3 ?d3 ?k3 ?a4 ?l4 ?d4 ?k4 ?a5 ?l5 ?d5 ?k5 ?a6 ?l6 ?d6 ?k6 ?a7 ?l7 ?d7 ?k7 ?a8 ?l8 ?d8 ?k8 ?a9 ?l9 ?d9 ?k9 ?a10 ?l10 ?d10 ?k10 ?a11 ?l11 ?d11 ?k11 ?a12 ?l12 ?d12 ?k12 ?a13 ?l13 ?d13 ?k13 ?a14 ?l14 ?d14 ?k14 ?a15 ?l15 ?d15 ?k15 ?a16 ?l16 ?d16 ?k16 ?a17 ?l17 ?d17 ?k17 ?a18 ?l18 ?d18 ?k18 ?a19 ?l19 ?d19 ?k19 ?a20 ?l20 ?d20 ?k20 ?a21 ?l21 ?d21 ?k21 ?a22 ?l22 ?d22 ?k22 ?z1 ?z2 ?z3 ?z4 ?z5 ?z6 ?z7 ?z8 ?z9 ?z10 ?z11 ?z12 ?z13
    (case a1 => k_is)
    (case l1 => k_is)
    (case d1 => k_is)
    (case k1 => k_is)
    (case a2 => k_is)
    (case l2 => k_is)
    (case d2 => k_is)
    (case k2 => k_is)
    (case a3 => k_is)
    (case l3 => k_is)
    (case d3 => k_is)
    (case k3 => k_is)
    (case a4 => k_is)
    (case l4 => k_is)
    (case d4 => k_is)
    (case k4 => k_is)
    (case a5 => k_is)
    (case l5 => k_is)
    (case d5 => k_is)
    (case k5 => k_is)
    (case a6 => k_is)
    (case l6 => k_is)
    (case d6 => k_is)
    (case k6 => k_is)
    (case a7 => k_is)
    (case l7 => k_is)
    (case d7 => k_is)
    (case k7 => k_is)
    (case a8 => k_is)
    (case l8 => k_is)
    (case d8 => k_is)
    (case k8 => k_is)
    (case a9 => k_is)
    (case l9 => k_is)
    (case d9 => k_is)
    (case k9 => k_is)
    (case a10 => k_is)
    (case l10 => k_is)
    (case d10 => k_is)
    (case k10 => k_is)
    (case a11 => k_is)
    (case l11 => k_is)
    (case d11 => k_is)
    (case k11 => k_is)
    (case a12 => k_is)
    (case l12 => k_is)
    (case d12 => k_is)
    (case k12 => k_is)
    (case a13 => k_is)
    (case l13 => k_is)
    (case d13 => k_is)
    (case k13 => k_is)
    (case a14 => k_is)
    (case l14 => k_is)
    (case d14 => k_is)
    (case k14 => k_is)
    (case a15 => k_is)
    (case l15 => k_is)
    (case d15 => k_is)
    (case k15 => k_is)
    (case a16 => k_is)
    (case l16 => k_is)
    (case d16 => k_is)
    (case k16 => k_is)
    (case a17 => k_is)
    (case l17 => k_is)
    (case d17 => k_is)
    (case k17 => k_is)
    (case a18 => k_is)
    (case l18 => k_is)
    (case d18 => k_is)
    (case k18 => k_is)
    (case a19 => k_is)
    (case l19 => k_is)
    (case d19 => k_is)
    (case k19 => k_is)
    (case a20 => k_is)
    (case l20 => k_is)
    (case d20 => k_is)
    (case k20 => k_is)
    (case a21 => k_is)
    (case l21 => k_is)
    (case d21 => k_is)
    (case k21 => k_is)
    (case a22 => k_is)
    (case l22 => k_is)
    (case d22 => k_is)
    (case k22 => k_is)
    (case z1 => k_is)
    (case z2 => k_is)
    (case z3 => k_is)
    (case z4 => k_is)
    (case z5 => k_is)
    (case z6 => k_is)
    (case z7 => k_is)
    (case z8 => k_is)
    (case z9 => k_is)
    (case z10 => k_is)
    (case z11 => k_is)
    (case z12 => k_is)
    (case z13 => k_is)

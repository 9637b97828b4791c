import PyProof.Rows.All
import HandS.ForMost
import HandS.Zip
import HandS.Walk
import HandS.Deep
import HandS.Strs
import HandS.ExcIs
import HandS.ExcField
import PyProof.Rows.ReprR
import HandS.Exc
import HandS.ExcOwn
import HandS.CallSlots
import HandS.OwnEq
import HandS.IsInst
import HandS.ExcInit
import HandS.WordsExc
import HandS.TryMany
import HandS.Defaults
import HandS.Style
import HandS.SortRule
import HandS.Conv
import HandS.TupAny
import HandS.TupSets
import HandS.Property
import HandS.Rev
import HandS.Evl
import HandS.Wide
import HandS.Head3
import KE.Datum
import HandS.Gcd
import HandS.List
import HandS.Iter
import KE.GoesEnum
import HandS.WideBits
import HandS.Lambda
import HandS.Nested
import HandS.TryOnly
import PyProof.P3Eq
import HandS.ExcInitHot
import HandS.SuiteRaise
import HandS.ExcCtx
import HandS.HotCalls
import HandS.Comp
import PyProof.Seq
import HandS.Ends
import HandS.HeadEnd
import PySem.Challenge.RW_sheetproofs_k26_whole_ranks_weights_and
set_option Elab.async false
set_option linter.all false
set_option maxRecDepth 100000
set_option maxHeartbeats 4000000
/-! zip of two sequences, each a list or a tuple -/
namespace RZM
open PySem
open PySem.Sem (wp)
def SIter (t : Bool) (h : Heap) (it l : Addr) (i : Nat) : Prop := match t with
  | true => h.IsTupleIter it l i
  | false => h.IsListIter it l i
def SSeq (t : Bool) (h : Heap) (l : Addr) (xs : Array Value) : Prop := match t with
  | true => h.IsTuple l xs
  | false => h.IsList l xs
def itName (t : Bool) : String := match t with
  | true => "tuple_iterator"
  | false => "list_iterator"
section
variable {t : Bool} {h h' : Heap} {a b l : Addr} {i : Nat} {xs : Array Value}
theorem SIter.extBut (x : SIter t h a l i) (hs : Heap.ExtBut b h h') (hab : a ≠ b) : SIter t h' a l i := by
  cases t with
  | true => exact Heap.IsTupleIter.extBut x hs hab
  | false => exact Heap.IsListIter.extBut x hs hab
theorem SSeq.extBut (x : SSeq t h a xs) (hs : Heap.ExtBut b h h') (hab : a ≠ b) : SSeq t h' a xs := by
  cases t with
  | true => exact Heap.IsTuple.extBut x hs hab
  | false => exact Heap.IsList.extBut x hs hab
theorem SIter.at (x : SIter t h a l i) (e : ∀ o, h.get? a = some o → h'.get? a = some o) : SIter t h' a l i := by
  cases t with
  | true => exact Heap.IsTupleIter.at x e
  | false => exact Heap.IsListIter.at x e
theorem SIter.obj (x : SIter t h a l i) : ∃ o, h.get? a = some o ∧ ∀ v, o.data ≠ .cell v := by
  cases t with
  | true =>
    obtain ⟨o, e, _, d⟩ := (show h.IsTupleIter a l i from x)
    exact ⟨o, e, fun v z => by rw [d] at z; cases z⟩
  | false =>
    obtain ⟨o, e, _, d⟩ := (show h.IsListIter a l i from x)
    exact ⟨o, e, fun v z => by rw [d] at z; cases z⟩
theorem SIter.lt (x : SIter t h a l i) : a < h.objs.size := by
  obtain ⟨o, e, _⟩ := x.obj
  exact Heap.lt_size e
theorem SSeq.lt (x : SSeq t h a xs) : a < h.objs.size := by
  cases t with
  | true =>
    obtain ⟨o, e, _⟩ := (show h.IsTuple a xs from x)
    exact Heap.lt_size e
  | false =>
    obtain ⟨o, e, _⟩ := (show h.IsList a xs from x)
    exact Heap.lt_size e
end
section
variable {prog : Program} {w : World} {A : Around} {E : Value → Shared → Prop} {s : Shared}
theorem nextOf_S_item {t : Bool} {it l : Addr} {i : Nat} {items : Array Value} {x : Value} {Q : Value → Shared → Prop} (hit : SIter t s.heap it l i) (hl : SSeq t s.heap l items) (hx : items[i]? = some x)
    (hQ : ∀ h', SIter t h' it l (i + 1) → Heap.SameBut it s.heap h' → Q x { s with heap := h' }) : wpAny (model prog w) A (Builtin.SmallTypes.nextOf (.ref it)) Q E s := by
  cases t with
  | true => exact RZ.nextOf_tuple_item hit hl hx hQ
  | false => exact wpAny_nextOf_list_item hit hl hx hQ
theorem nextOf_S_end {t : Bool} {it l : Addr} {i : Nat} {items : Array Value} {Q : Value → Shared → Prop} (hh : A.handled = none) (hit : SIter t s.heap it l i) (hl : SSeq t s.heap l items) (hx : items[i]? = none)
    (hE : ∀ h' e, Heap.ExtBut it s.heap h' → (∃ o, h'.get? e = some o ∧ o.cls = .type "StopIteration") → E (.ref e) { s with heap := h' }) : wpAny (model prog w) A (Builtin.SmallTypes.nextOf (.ref it)) Q E s := by
  cases t with
  | true => exact RZ.nextOf_tuple_end hh hit hl hx hE
  | false => exact wpAny_nextOf_list_end hh hit hl hx hE
theorem zipS_next_item {t1 t2 : Bool} {z TI TO i1 i2 l1 l2 : Addr} {k1 k2 : Nat} {xs ys : Array Value} {x y a b : Value} {Q : Value → Shared → Prop} (D : ZipApart z TI TO i1 i2 l1 l2)
    (hz : IsZip s.heap z TI TO .none) (hTI : IsPair s.heap TI (.ref i1) (.ref i2)) (hTO : IsPair s.heap TO a b)
    (h1 : SIter t1 s.heap i1 l1 k1) (h2 : SIter t2 s.heap i2 l2 k2) (hl1 : SSeq t1 s.heap l1 xs) (hl2 : SSeq t2 s.heap l2 ys) (hx : xs[k1]? = some x) (hy : ys[k2]? = some y)
    (hQ : ∀ h', IsZip h' z TI TO (rawInt s.heap.objs.size) → IsPair h' TO x y → SIter t1 h' i1 l1 (k1 + 1) → SIter t2 h' i2 l2 (k2 + 1) → IsPair h' s.heap.objs.size x y → h'.objs.size = s.heap.objs.size + 1 →
      (∀ c o, c ≠ z → c ≠ TO → c ≠ i1 → c ≠ i2 → s.heap.get? c = some o → h'.get? c = some o) → Q (.ref s.heap.objs.size) { s with heap := h' }) :
    wpAny (model prog w) A (Builtin.«zip.__next__» ⟨[.ref z], []⟩) (fun fin s' => ∃ v, fin = .done (.ret v) ∧ Q v s') E s := by
  show wpAny _ _ (field (.ref z) 2 >>= _) _ _ _
  refine wpAny_bind (wpAny_field hz rfl (x := .bool false) rfl ?_)
  show wpAny _ _ (field (.ref z) 3 >>= _) _ _ _
  refine wpAny_bind (wpAny_field hz rfl (x := .ref TI) rfl ?_)
  refine wpAny_bind (wpAny_seqItems hTI rfl ?_)
  show wpAny _ _ (Builtin.SmallTypes.ownedTupleIsFree (.ref z) >>= _) _ _ _
  refine wpAny_bind ?_
  unfold Builtin.SmallTypes.ownedTupleIsFree
  refine wpAny_bind (wpAny_field hz rfl (x := .none) rfl (wpAny_pure ?_))
  simp only [if_true]
  refine wpAny_bind (wpAny_rule ?_)
  refine wpAny_bind (wpAny_field hz rfl (x := .ref TO) rfl ?_)
  refine wpAny_bind (wpAny_setField_rec hz (by simp) fun h₁ hz₁ hs₁ => ?_)
  replace hz₁ : IsZip h₁ z TI TO .ellipsis := hz₁
  refine wpAny_bind ?_
  simp only [List.zipIdx_cons, List.zipIdx_nil, List.forIn_cons, List.forIn_nil]

  refine wpAny_bind (wpAny_bind (wpAny_onRaise ?_))
  show wpAny _ _ (Builtin.SmallTypes.nextOf (.ref i1) >>= _) _ _ _
  refine wpAny_bind (nextOf_S_item (h1.extBut hs₁.extBut D.i1z) (hl1.extBut hs₁.extBut D.l1z) hx fun h₂ h1₂ hs₂ => wpAny_pure ?_)
  have hTO₂ : IsPair h₂ TO a b := hs₂.extBut _ _ D.TOi1 (hs₁.extBut _ _ D.TOz hTO)
  refine wpAny_bind (wpAny_seqItems hTO₂ rfl ?_)
  refine wpAny_bind (wpAny_updateSeq_pair hTO₂ fun h₃ hTO₃ hs₃ => ?_)
  replace hTO₃ : IsPair h₃ TO x b := hTO₃
  refine wpAny_bind (wpAny_letGo (wpAny_pure ?_))

  refine wpAny_bind (wpAny_bind (wpAny_onRaise ?_))
  show wpAny _ _ (Builtin.SmallTypes.nextOf (.ref i2) >>= _) _ _ _
  refine wpAny_bind (nextOf_S_item (((h2.extBut hs₁.extBut D.i2z).extBut hs₂.extBut D.i12.symm).extBut hs₃.extBut D.TOi2.symm)
    (((hl2.extBut hs₁.extBut D.l2z).extBut hs₂.extBut D.l2i1).extBut hs₃.extBut D.l2TO) hy fun h₄ h2₄ hs₄ => wpAny_pure ?_)
  have hTO₄ : IsPair h₄ TO x b := hs₄.extBut _ _ D.TOi2 hTO₃
  refine wpAny_bind (wpAny_seqItems hTO₄ rfl ?_)
  refine wpAny_bind (wpAny_updateSeq_pair hTO₄ fun h₅ hTO₅ hs₅ => ?_)
  replace hTO₅ : IsPair h₅ TO x y := hTO₅
  refine wpAny_bind (wpAny_letGo (wpAny_pure (wpAny_pure ?_)))

  refine wpAny_bind (wpAny_seqItems hTO₅ rfl ?_)
  refine wpAny_bind (wpAny_newTuple ?_)
  have hsz : h₅.objs.size = s.heap.objs.size := by rw [hs₅.1, hs₄.1, hs₃.1, hs₂.1, hs₁.1]
  have hz₅ : IsZip h₅ z TI TO .ellipsis := hs₅.extBut _ _ D.TOz.symm (hs₄.extBut _ _ D.i2z.symm (hs₃.extBut _ _ D.TOz.symm (hs₂.extBut _ _ D.i1z.symm hz₁)))
  have hk₅ : ∀ c o, c ≠ z → c ≠ TO → c ≠ i1 → c ≠ i2 → s.heap.get? c = some o → h₅.get? c = some o := fun c o c1 c2 c3 c4 e =>
    hs₅.extBut _ _ c2 (hs₄.extBut _ _ c4 (hs₃.extBut _ _ c2 (hs₂.extBut _ _ c3 (hs₁.extBut _ _ c1 e))))
  have h1₅ : SIter t1 h₅ i1 l1 (k1 + 1) := ((h1₂.extBut hs₃.extBut D.TOi1.symm).extBut hs₄.extBut D.i12).extBut hs₅.extBut D.TOi1.symm
  have h2₅ : SIter t2 h₅ i2 l2 (k2 + 1) := h2₄.extBut hs₅.extBut D.TOi2.symm
  have hzlt : z < h₅.objs.size := Heap.lt_size hz₅
  have hTOlt : TO < h₅.objs.size := Heap.lt_size hTO₅
  have hi1lt : i1 < h₅.objs.size := by exact h1₅.lt
  have hi2lt : i2 < h₅.objs.size := by exact h2₅.lt
  show wpAny _ _ (Builtin.SmallTypes.ownedTupleHandOut (.ref z) (.ref h₅.objs.size) >>= _) _ _ _
  refine wpAny_bind ?_
  unfold Builtin.SmallTypes.ownedTupleHandOut
  have hz₆ : IsZip (h₅.push { cls := .type "tuple", data := .seq #[x, y] }) z TI TO .ellipsis := Heap.get?_push_of_some _ hz₅
  refine wpAny_bind (wpAny_setField_rec hz₆ (by simp) fun h₇ hz₇ hs₇ => ?_)
  replace hz₇ : IsZip h₇ z TI TO (rawInt h₅.objs.size) := hz₇
  refine wpAny_setField_rec hz₇ (by simp) fun h₈ hz₈ hs₈ => ?_
  replace hz₈ : IsZip h₈ z TI TO (rawInt h₅.objs.size) := hz₈
  have up : ∀ c o, c ≠ z → h₅.get? c = some o → h₈.get? c = some o := fun c o c1 e => hs₈.extBut _ _ c1 (hs₇.extBut _ _ c1 (Heap.get?_push_of_some _ e))
  have hT₈ : IsPair h₈ h₅.objs.size x y := hs₈.extBut _ _ (Nat.ne_of_gt hzlt) (hs₇.extBut _ _ (Nat.ne_of_gt hzlt) (Heap.get?_push_size _ rfl))
  have hz8 : h₈.objs.size = h₅.objs.size + 1 := by rw [hs₈.1, hs₇.1, Heap.size_push]
  rw [hsz] at hz₈ hT₈ hz8
  refine wpAny_pure ⟨_, rfl, ?_⟩
  show Q (.ref h₅.objs.size) _
  rw [hsz]
  exact hQ h₈ hz₈ (up _ _ D.TOz hTO₅) (h1₅.at fun o e => up _ o D.i1z e) (h2₅.at fun o e => up _ o D.i2z e) hT₈ hz8 fun c o c1 c2 c3 c4 e => up c o c1 (hk₅ c o c1 c2 c3 c4 e)

theorem zipS_next_end {t1 t2 : Bool} {z TI TO i1 i2 l1 l2 : Addr} {k1 k2 : Nat} {xs ys : Array Value} {a b : Value} {Q : Fin → Shared → Prop} (hh : A.handled = none) (D : ZipApart z TI TO i1 i2 l1 l2)
    (hz : IsZip s.heap z TI TO .none) (hTI : IsPair s.heap TI (.ref i1) (.ref i2)) (hTO : IsPair s.heap TO a b)
    (h1 : SIter t1 s.heap i1 l1 k1) (h2 : SIter t2 s.heap i2 l2 k2) (hl1 : SSeq t1 s.heap l1 xs) (hl2 : SSeq t2 s.heap l2 ys) (hend : xs[k1]? = none ∨ ys[k2]? = none)
    (hE : ∀ h' e, (∀ c o, c ≠ z → c ≠ TO → c ≠ i1 → c ≠ i2 → s.heap.get? c = some o → h'.get? c = some o) → (∃ o, h'.get? e = some o ∧ o.cls = .type "StopIteration") → E (.ref e) { s with heap := h' }) :
    wpAny (model prog w) A (Builtin.«zip.__next__» ⟨[.ref z], []⟩) Q E s := by
  show wpAny _ _ (field (.ref z) 2 >>= _) _ _ _
  refine wpAny_bind (wpAny_field hz rfl (x := .bool false) rfl ?_)
  show wpAny _ _ (field (.ref z) 3 >>= _) _ _ _
  refine wpAny_bind (wpAny_field hz rfl (x := .ref TI) rfl ?_)
  refine wpAny_bind (wpAny_seqItems hTI rfl ?_)
  show wpAny _ _ (Builtin.SmallTypes.ownedTupleIsFree (.ref z) >>= _) _ _ _
  refine wpAny_bind ?_
  unfold Builtin.SmallTypes.ownedTupleIsFree
  refine wpAny_bind (wpAny_field hz rfl (x := .none) rfl (wpAny_pure ?_))
  simp only [if_true]
  refine wpAny_bind (wpAny_rule ?_)
  refine wpAny_bind (wpAny_field hz rfl (x := .ref TO) rfl ?_)
  refine wpAny_bind (wpAny_setField_rec hz (by simp) fun h₁ hz₁ hs₁ => ?_)
  replace hz₁ : IsZip h₁ z TI TO .ellipsis := hz₁
  refine wpAny_bind ?_
  simp only [List.zipIdx_cons, List.zipIdx_nil, List.forIn_cons, List.forIn_nil]
  refine wpAny_bind (wpAny_bind (wpAny_onRaise ?_))
  show wpAny _ _ (Builtin.SmallTypes.nextOf (.ref i1) >>= _) _ _ _
  cases hx : xs[k1]? with
  | none =>
    refine wpAny_bind (nextOf_S_end hh (h1.extBut hs₁.extBut D.i1z) (hl1.extBut hs₁.extBut D.l1z) hx fun h₂ e hs₂ he => ?_)
    obtain ⟨oe, hoe, hce⟩ := he
    have hz₂ : IsZip h₂ z TI TO .ellipsis := hs₂ _ _ D.i1z.symm hz₁
    have hez : e ≠ z := fun x => by subst x; rw [hz₂] at hoe; cases hoe; simp at hce
    refine wpAny_setField_rec hz₂ (by simp) fun h₃ _ hs₃ => hE h₃ e (fun c o c1 _ c3 _ x => hs₃.extBut _ _ c1 (hs₂ _ _ c3 (hs₁.extBut _ _ c1 x))) ⟨oe, hs₃.extBut _ _ hez hoe, hce⟩
  | some x =>
    have hy : ys[k2]? = none := by rcases hend with h | h; rw [hx] at h; cases h; exact h
    refine wpAny_bind (nextOf_S_item (h1.extBut hs₁.extBut D.i1z) (hl1.extBut hs₁.extBut D.l1z) hx fun h₂ h1₂ hs₂ => wpAny_pure ?_)
    have hTO₂ : IsPair h₂ TO a b := hs₂.extBut _ _ D.TOi1 (hs₁.extBut _ _ D.TOz hTO)
    refine wpAny_bind (wpAny_seqItems hTO₂ rfl ?_)
    refine wpAny_bind (wpAny_updateSeq_pair hTO₂ fun h₃ hTO₃ hs₃ => ?_)
    refine wpAny_bind (wpAny_letGo (wpAny_pure ?_))
    refine wpAny_bind (wpAny_bind (wpAny_onRaise ?_))
    show wpAny _ _ (Builtin.SmallTypes.nextOf (.ref i2) >>= _) _ _ _
    refine wpAny_bind (nextOf_S_end hh (((h2.extBut hs₁.extBut D.i2z).extBut hs₂.extBut D.i12.symm).extBut hs₃.extBut D.TOi2.symm)
      (((hl2.extBut hs₁.extBut D.l2z).extBut hs₂.extBut D.l2i1).extBut hs₃.extBut D.l2TO) hy fun h₄ e hs₄ he => ?_)
    obtain ⟨oe, hoe, hce⟩ := he
    have hz₄ : IsZip h₄ z TI TO .ellipsis := hs₄ _ _ D.i2z.symm (hs₃.extBut _ _ D.TOz.symm (hs₂.extBut _ _ D.i1z.symm hz₁))
    have hez : e ≠ z := fun x => by subst x; rw [hz₄] at hoe; cases hoe; simp at hce
    refine wpAny_setField_rec hz₄ (by simp) fun h₅ _ hs₅ => hE h₅ e (fun c o c1 c2 c3 c4 x => hs₅.extBut _ _ c1 (hs₄ _ _ c4 (hs₃.extBut _ _ c2 (hs₂.extBut _ _ c3 (hs₁.extBut _ _ c1 x))))) ⟨oe, hs₅.extBut _ _ hez hoe, hce⟩

theorem pyNext_zipS_item {t1 t2 : Bool} {z TI TO i1 i2 l1 l2 : Addr} {k1 k2 : Nat} {xs ys : Array Value} {x y a b : Value} {Q : Option Value → Shared → Prop} (D : ZipApart z TI TO i1 i2 l1 l2)
    (hz : IsZip s.heap z TI TO .none) (hTI : IsPair s.heap TI (.ref i1) (.ref i2)) (hTO : IsPair s.heap TO a b)
    (h1 : SIter t1 s.heap i1 l1 k1) (h2 : SIter t2 s.heap i2 l2 k2) (hl1 : SSeq t1 s.heap l1 xs) (hl2 : SSeq t2 s.heap l2 ys) (hx : xs[k1]? = some x) (hy : ys[k2]? = some y)
    (hQ : ∀ h', IsZip h' z TI TO (rawInt s.heap.objs.size) → IsPair h' TO x y → SIter t1 h' i1 l1 (k1 + 1) → SIter t2 h' i2 l2 (k2 + 1) → IsPair h' s.heap.objs.size x y → h'.objs.size = s.heap.objs.size + 1 →
      (∀ c o, c ≠ z → c ≠ TO → c ≠ i1 → c ≠ i2 → s.heap.get? c = some o → h'.get? c = some o) → Q (some (.ref s.heap.objs.size)) { s with heap := h' }) :
    wpAny (model prog w) A (pyNext (.ref z)) Q E s := by
  have hT : s.TypeIs (.ref z) "zip" := ⟨_, hz, rfl⟩
  unfold pyNext
  exact wpAny_bind (wpAny_attempt (wpAny_callSpecial?_slot (name := Str.ofString "__next__") hT F.slot_zip_next
    (wpAny_call_entry F.slot_zip_next hT F.entry_zip_next
      (zipS_next_item D hz hTI hTO h1 h2 hl1 hl2 hx hy fun h' a1 a2 a3 a4 a5 a6 a7 => wpAny_pure (hQ h' a1 a2 a3 a4 a5 a6 a7)) (F.args_zip_next_1 _))))

theorem pyNext_zipS_end {t1 t2 : Bool} {z TI TO i1 i2 l1 l2 : Addr} {k1 k2 : Nat} {xs ys : Array Value} {a b : Value} {Q : Option Value → Shared → Prop} (hh : A.handled = none) (D : ZipApart z TI TO i1 i2 l1 l2)
    (hz : IsZip s.heap z TI TO .none) (hTI : IsPair s.heap TI (.ref i1) (.ref i2)) (hTO : IsPair s.heap TO a b)
    (h1 : SIter t1 s.heap i1 l1 k1) (h2 : SIter t2 s.heap i2 l2 k2) (hl1 : SSeq t1 s.heap l1 xs) (hl2 : SSeq t2 s.heap l2 ys) (hend : xs[k1]? = none ∨ ys[k2]? = none)
    (hQ : ∀ h', (∀ c o, c ≠ z → c ≠ TO → c ≠ i1 → c ≠ i2 → s.heap.get? c = some o → h'.get? c = some o) → Q none { s with heap := h' }) : wpAny (model prog w) A (pyNext (.ref z)) Q E s := by
  have hT : s.TypeIs (.ref z) "zip" := ⟨_, hz, rfl⟩
  unfold pyNext
  refine wpAny_bind (wpAny_attempt (wpAny_callSpecial?_slot (name := Str.ofString "__next__") hT F.slot_zip_next
    (wpAny_call_entry F.slot_zip_next hT F.entry_zip_next (zipS_next_end hh D hz hTI hTO h1 h2 hl1 hl2 hend fun h' e hk he => ?_) (F.args_zip_next_1 _))))
  obtain ⟨o, ho, hc⟩ := he
  refine wpAny_bind (wpAny_isInstance (T := "StopIteration") (b := true) ⟨o, ho, hc⟩ isSubtype_stop ?_)
  exact wpAny_pure (hQ _ hk)
end


abbrev zH1 (t1 : Bool) (h : Heap) (l1 : Addr) : Heap := h.push { cls := .type (itName t1), data := .fields #[.ref l1, .int 0 0] }
abbrev zH2 (t1 t2 : Bool) (h : Heap) (l1 l2 : Addr) : Heap := (zH1 t1 h l1).push { cls := .type (itName t2), data := .fields #[.ref l2, .int 0 0] }
abbrev zH3 (t1 t2 : Bool) (h : Heap) (l1 l2 : Addr) : Heap := (zH2 t1 t2 h l1 l2).push { cls := .type "tuple", data := .seq #[.ref h.objs.size, .ref (zH1 t1 h l1).objs.size] }
abbrev zH4 (t1 t2 : Bool) (h : Heap) (l1 l2 : Addr) : Heap := (zH3 t1 t2 h l1 l2).push { cls := .type "tuple", data := .seq #[.none, .none] }
abbrev zH5 (t1 t2 : Bool) (h : Heap) (l1 l2 : Addr) : Heap := (zH4 t1 t2 h l1 l2).push { cls := .type "zip", data := .fields #[.none, .bool false, .bool false, .ref (zH2 t1 t2 h l1 l2).objs.size, .ref (zH3 t1 t2 h l1 l2).objs.size] }
theorem meets_zipS (t1 t2 : Bool) (l1 l2 : Addr) (xs ys : Array Value) :
    Meets (Builtin.«zip.__new__» ⟨[.type "zip", .ref l1, .ref l2], []⟩) (fun _ R s => SSeq t1 s.heap l1 xs ∧ SSeq t2 s.heap l2 ys ∧
      R (.ok (.ret (.ref (zH4 t1 t2 s.heap l1 l2).objs.size))) { s with heap := zH5 t1 t2 s.heap l1 l2 }) := by
  cases t1 with
  | true => cases t2 with
    | true => exact RZ.meets_zipT_new l1 l2 xs ys
    | false =>
        refine .of_wp fun prog w A R s h => ?_
        obtain ⟨hp, g, d, tk, os⟩ := s; obtain ⟨hl1, hl2, h⟩ := h
        have hsub := sub_zip
        have hL1 : Heap.IsTuple (Shared.heap ⟨hp, g, d, tk, os⟩) l1 xs := hl1
        have hL2 : Heap.IsList (Shared.heap ⟨hp.push { cls := .type "tuple_iterator", data := .fields #[.ref l1, .int 0 0] }, g, d, tk, os⟩) l2 ys := Heap.IsList.push hl2 _
        wp_walk using wpAny_pyIter_tuple hL1, wpAny_pyIter_list hL2
        exact ⟨_, rfl, h⟩
  | false => cases t2 with
    | false => exact meets_zip_new l1 l2 xs ys
    | true =>
        refine .of_wp fun prog w A R s h => ?_
        obtain ⟨hp, g, d, tk, os⟩ := s; obtain ⟨hl1, hl2, h⟩ := h
        have hsub := sub_zip
        have hL1 : Heap.IsList (Shared.heap ⟨hp, g, d, tk, os⟩) l1 xs := hl1
        have hL2 : Heap.IsTuple (Shared.heap ⟨hp.push { cls := .type "list_iterator", data := .fields #[.ref l1, .int 0 0] }, g, d, tk, os⟩) l2 ys := Heap.IsTuple.push hl2 _
        wp_walk using wpAny_pyIter_list hL1, wpAny_pyIter_tuple hL2
        exact ⟨_, rfl, h⟩
section
variable {prog : Program} {w : World} {A : Around} {E : Value → Shared → Prop} {s : Shared}
theorem call_zipS {t1 t2 : Bool} {l1 l2 : Addr} {xs ys : Array Value} {Q : Value → Shared → Prop} (hl1 : SSeq t1 s.heap l1 xs) (hl2 : SSeq t2 s.heap l2 ys)
    (h : ∀ h', IsZip h' (s.heap.objs.size + 4) (s.heap.objs.size + 2) (s.heap.objs.size + 3) .none → IsPair h' (s.heap.objs.size + 2) (.ref s.heap.objs.size) (.ref (s.heap.objs.size + 1)) →
      IsPair h' (s.heap.objs.size + 3) .none .none → SIter t1 h' s.heap.objs.size l1 0 → SIter t2 h' (s.heap.objs.size + 1) l2 0 → h'.objs.size = s.heap.objs.size + 5 →
      (∀ c o, s.heap.get? c = some o → h'.get? c = some o) → Q (.ref (s.heap.objs.size + 4)) { s with heap := h' }) :
    wpAny (model prog w) A (call (.type "zip") [.ref l1, .ref l2]) Q E s := by
  refine callType_new F.called_zip (by decide) (F.typeCall_zip_2 _ _) (F.newCall_zip_2 _ _) (fun obj => F.args_object_init_3 obj _ _) F.entry_zip_new
    (meets_zipS t1 t2 l1 l2 xs ys) ⟨hl1, hl2, ?_⟩
  have z1 : (zH1 t1 s.heap l1).objs.size = s.heap.objs.size + 1 := Heap.size_push ..
  have z2 : (zH2 t1 t2 s.heap l1 l2).objs.size = s.heap.objs.size + 2 := by rw [Heap.size_push, z1]
  have z3 : (zH3 t1 t2 s.heap l1 l2).objs.size = s.heap.objs.size + 3 := by rw [Heap.size_push, z2]
  have z4 : (zH4 t1 t2 s.heap l1 l2).objs.size = s.heap.objs.size + 4 := by rw [Heap.size_push, z3]
  have z5 : (zH5 t1 t2 s.heap l1 l2).objs.size = s.heap.objs.size + 5 := by rw [Heap.size_push, z4]
  have g5 : (zH5 t1 t2 s.heap l1 l2).get? (zH4 t1 t2 s.heap l1 l2).objs.size = some _ := Heap.get?_push_size _ rfl
  have g4 : (zH5 t1 t2 s.heap l1 l2).get? (zH3 t1 t2 s.heap l1 l2).objs.size = some _ := Heap.get?_push_of_some _ (Heap.get?_push_size _ rfl)
  have g3 : (zH5 t1 t2 s.heap l1 l2).get? (zH2 t1 t2 s.heap l1 l2).objs.size = some _ := Heap.get?_push_of_some _ (Heap.get?_push_of_some _ (Heap.get?_push_size _ rfl))
  have g2 : (zH5 t1 t2 s.heap l1 l2).get? (zH1 t1 s.heap l1).objs.size = some _ := Heap.get?_push_of_some _ (Heap.get?_push_of_some _ (Heap.get?_push_of_some _ (Heap.get?_push_size _ rfl)))
  have g1 : (zH5 t1 t2 s.heap l1 l2).get? s.heap.objs.size = some _ := Heap.get?_push_of_some _ (Heap.get?_push_of_some _ (Heap.get?_push_of_some _ (Heap.get?_push_of_some _ (Heap.get?_push_size _ rfl))))
  show _ ∧ _
  rw [z2, z3, z4] at g5
  rw [z1, z2] at g3
  rw [z3] at g4
  rw [z1] at g2
  rw [z4]
  exact ⟨⟨_, g5, rfl⟩, h _ g5 g3 g4 (by cases t1 <;> exact ⟨_, g1, rfl, rfl⟩) (by cases t2 <;> exact ⟨_, g2, rfl, rfl⟩) z5 fun c o x =>
    Heap.get?_push_of_some _ (Heap.get?_push_of_some _ (Heap.get?_push_of_some _ (Heap.get?_push_of_some _ (Heap.get?_push_of_some _ x))))⟩
end
end RZM
namespace RZM
open PySem PySem.Spec PyProof.Rows L2
def SqS (t : Bool) (K : PySem.W.Frag) (H : Hp) (a : Addr) (xs : List V) : Prop := match t with
  | true => SqT K H a xs
  | false => SqL K H a xs
theorem sq_ok {X : Cx} {pins : List (Addr × Obj)} {σ : L2.St} {H : Hp} {s : Shared} {t : Bool} {a : Addr} {xs : List V} (I : Inv X pins σ H s) (h : SqS t X.K H a xs) : ∃ its : List Value, Vals xs its ∧ SSeq t s.heap a its.toArray ∧ xs.length ≤ sizeLine := by
  cases t with
  | true =>
    obtain ⟨its, r, p, z⟩ := I.tuple h
    exact ⟨its, r, (show s.heap.IsTuple a its.toArray from p), z⟩
  | false =>
    obtain ⟨its, r, p, z⟩ := I.list h
    exact ⟨its, r, p.isList, z⟩
theorem sq_inj {X : Cx} {pins : List (Addr × Obj)} {σ : L2.St} {H : Hp} {s : Shared} {t : Bool} {a : Addr} {xs ys : List V} (I : Inv X pins σ H s) (h : SqS t X.K H a xs) (h' : SqS t X.K H a ys) : xs = ys := by
  cases t with
  | true => exact I.tuple_inj h h'
  | false => exact I.list_inj h h'
def ItzS (t1 t2 : Bool) (K : PySem.W.Frag) (a b : Addr) : It :=
  ⟨fun i H => ∃ (xs ys : List V) (x y : V), SqS t1 K H a xs ∧ SqS t2 K H b ys ∧ xs[i]? = some x ∧ ys[i]? = some y,
    fun i H v H' => ∃ T x y, v = .ref T ∧ H T = none ∧ H' = upd H T (.tup [x, y]) ∧ (∀ xs, SqS t1 K H a xs → xs[i]? = some x) ∧ ∀ ys, SqS t2 K H b ys → ys[i]? = some y,
    fun i H => ∃ xs ys : List V, SqS t1 K H a xs ∧ SqS t2 K H b ys ∧ (xs.length ≤ i ∨ ys.length ≤ i)⟩
theorem turn_zipS {t1 t2 : Bool} {P : Program} {w : World} {K : PySem.W.Frag} {elts : List Expr} {kk : Nat} {tpos : Pos} {a b z TI TO i1 i2 : Addr} (D : ZipApart z TI TO i1 i2 a b) :
    Turn P w K (.Tuple elts kk tpos) (ItzS t1 t2 K a b) [z, TI, TO, i1, i2] z (fun i h => IsZip h z TI TO .none ∧ IsPair h TI (.ref i1) (.ref i2) ∧ (∃ x y, IsPair h TO x y) ∧ SIter t1 h i1 a i ∧ SIter t2 h i2 b i) where
  mem := by simp
  obj := fun i h st c hc => by
    obtain ⟨hz, hTI, ⟨x, y, hTO⟩, h1, h2⟩ := st
    obtain ⟨o1, e1, d1⟩ := h1.obj
    obtain ⟨o2, e2, d2⟩ := h2.obj
    have e' : c = z ∨ c = TI ∨ c = TO ∨ c = i1 ∨ c = i2 := by simpa using hc
    rcases e' with q | q | q | q | q
    · rw [q]; exact ⟨_, hz, fun v q => nomatch q⟩
    · rw [q]; exact ⟨_, hTI, fun v q => nomatch q⟩
    · rw [q]; exact ⟨_, hTO, fun v q => nomatch q⟩
    · rw [q]; exact ⟨o1, e1, d1⟩
    · rw [q]; exact ⟨o2, e2, d2⟩
  keep := fun i h h' st k => by
    obtain ⟨hz, hTI, ⟨x, y, hTO⟩, h1, h2⟩ := st
    exact ⟨k z (by simp) _ hz, k TI (by simp) _ hTI, ⟨x, y, k TO (by simp) _ hTO⟩, h1.at fun o q => k i1 (by simp) o q, h2.at fun o q => k i2 (by simp) o q⟩
  item := by
    intro X hP hw hK hc i pins s σ H E I hf st hg
    subst hP hw hK
    obtain ⟨hz, hTI, ⟨x0, y0, hTO⟩, h1, h2⟩ := st
    obtain ⟨xs, ys, x, y, hqx, hqy, hx, hy⟩ := hg
    obtain ⟨its, rv, p, _⟩ := sq_ok I hqx
    obtain ⟨its2, rv2, p2, _⟩ := sq_ok I hqy
    obtain ⟨u, hu, ru⟩ := rv.get hx
    obtain ⟨u2, hu2, ru2⟩ := rv2.get hy
    have hzl : z < s.heap.objs.size := Heap.lt_size hz
    refine pyNext_zipS_item D hz hTI hTO h1 h2 p p2 (x := u) (y := u2) (by simpa using hu) (by simpa using hu2) fun h' z' TO' h1' h2' hT hsz hk => ?_
    refine ⟨_, rfl, wpAny_letOwnedTupleGo_zip (s := { s with heap := h' }) z' fun h'' z'' sb => ?_⟩
    have hT2 : h''.get? s.heap.objs.size = some { cls := .type "tuple", data := .seq #[u, u2] } := (sb.2 _ (Nat.ne_of_gt hzl)).trans hT
    have new : ObjOk X.prog X.w (upd H s.heap.objs.size (.tup [x, y])) h'' s.heap.objs.size (.tup [x, y]) :=
      ⟨by show 2 ≤ sizeLine; decide, [u, u2], .cons ru (.cons ru2 .nil), ⟨_, hT2, rfl, _, rfl⟩⟩
    have I1 : Inv X pins σ (upd H s.heap.objs.size (.tup [x, y])) { s with heap := h'' } :=
      I.turnedNew (t' := s.toks) (ch := [z, TI, TO, i1, i2]) (fun c o hb q => (sb.2 c (fun q' => hb (by simp [q']))).trans (hk c o (fun q' => hb (by simp [q'])) (fun q' => hb (by simp [q'])) (fun q' => hb (by simp [q'])) (fun q' => hb (by simp [q'])) q)) hf (Nat.le_refl _) new
    refine ⟨.ref s.heap.objs.size, _, I1, rfl, ⟨_, x, y, rfl, I.hok.fresh (Nat.le_refl _), rfl, fun l hl => by rw [sq_inj I hl hqx]; exact hx, fun l hl => by rw [sq_inj I hl hqy]; exact hy⟩, ⟨z'', ?_, ⟨u, u2, ?_⟩, ?_, ?_⟩, fun c hcm => ?_⟩
    · exact (sb.2 _ D.TIz).trans (hk _ _ D.TIz D.TITO D.TIi1 D.TIi2 hTI)
    · exact (sb.2 _ D.TOz).trans TO'
    · exact h1'.at fun o q => (sb.2 _ D.i1z).trans q
    · exact h2'.at fun o q => (sb.2 _ D.i2z).trans q
    · have hlt : c < s.heap.objs.size := by
        have e' : c = z ∨ c = TI ∨ c = TO ∨ c = i1 ∨ c = i2 := by simpa using hcm
        rcases e' with q | q | q | q | q
        · rw [q]; exact hzl
        · rw [q]; exact Heap.lt_size hTI
        · rw [q]; exact Heap.lt_size hTO
        · rw [q]; exact h1.lt
        · rw [q]; exact h2.lt
      rw [upd_ne (Nat.ne_of_lt hlt)]
      exact (hf c hcm).1
  done := by
    intro X hP hw hK hc i pins s σ H E I hf st hg
    subst hP hw hK
    obtain ⟨hz, hTI, ⟨x0, y0, hTO⟩, h1, h2⟩ := st
    obtain ⟨xs, ys, hqx, hqy, hend⟩ := hg
    obtain ⟨its, rv, p, _⟩ := sq_ok I hqx
    obtain ⟨its2, rv2, p2, _⟩ := sq_ok I hqy
    have l1 := rv.length
    have l2 := rv2.length
    have he : its.toArray[i]? = none ∨ its2.toArray[i]? = none := by
      rcases hend with q | q
      · exact .inl (by simp; omega)
      · exact .inr (by simp; omega)
    exact pyNext_zipS_end (I.ok.hd hc) D hz hTI hTO h1 h2 p p2 he fun h' hk => ⟨rfl, I.turnedL (t' := s.toks) (ch := [z, TI, TO, i1, i2]) (fun c o hb q =>
      hk c o (fun q' => hb (by simp [q'])) (fun q' => hb (by simp [q'])) (fun q' => hb (by simp [q'])) (fun q' => hb (by simp [q'])) q) hf⟩
  self := fun A i s Q E st h => wpAny_pyIter_zip st.1 h

/-- zip(e, e2), each a list or a tuple -/
def iZipS (K : PySem.W.Frag) (ta : TA) : TI := fun σ H R => ta σ H fun vs H1 => ∃ t1 t2 a b xs ys, vs = [.ref a, .ref b] ∧ SqS t1 K H1 a xs ∧ SqS t2 K H1 b ys ∧ R (ItzS t1 t2 K a b) H1
theorem sseq_lt {t : Bool} {h : Heap} {a : Addr} {its : Array Value} (x : SSeq t h a its) : a < h.objs.size := by
  cases t with
  | true =>
    obtain ⟨o, e, _⟩ := (show h.IsTuple a its from x)
    exact Heap.lt_size e
  | false =>
    obtain ⟨o, e, _⟩ := (show h.IsList a its from x)
    exact Heap.lt_size e
theorem pi_zipS {X : Cx} {e e2 : Expr} {ta : TA} {p pos tpos : Pos} {elts : List Expr} {kk : Nat} (hg : Gl X "zip") (hm : X.mg "zip" = none) (ha : PA X [e, e2] ta)
    (hs : starEach [e, e2] X.env = (false, eval e X.env) :: starEach [e2] X.env := by rfl) (hpl : (backTo pos (starEach [e2] X.env)).any (·.1) = false := by rfl) :
    PI X (.Tuple elts kk tpos) (.Call (.Name "zip" p) [e, e2] [] pos) (iZipS X.K ta) := by
  refine ⟨fun pins s σ H R I h => Call_ (ld_blt I hg hm PyProof.Rows.boot_zip (PyProof.Rows.callWith_type1 (thn (ha.run pos pins s σ H _ I h) fun us s1 ⟨vs, H1, I1, r1, t1, t2, a, b, xs, ys, ex, hqx, hqy, q⟩ => ?_) hs hpl))⟩
  subst ex
  obtain ⟨u1, u2, rfl, r, r'⟩ := vals2 r1
  cases r
  cases r'
  obtain ⟨its, rv, p1, _⟩ := sq_ok I1 hqx
  obtain ⟨its2, rv2, p2, _⟩ := sq_ok I1 hqy
  have fresh5 : ∀ c, c ∈ [s1.heap.objs.size + 4, s1.heap.objs.size + 2, s1.heap.objs.size + 3, s1.heap.objs.size, s1.heap.objs.size + 1] → FpOk X pins H1 c := fun c hcm => by
    have hle : s1.heap.objs.size ≤ c := by
      simp only [List.mem_cons, List.not_mem_nil, or_false] at hcm
      omega
    exact I1.fpOk hle (I1.hok.fresh hle)
  refine call_zipS p1 p2 fun h' hz hTI hTO h1 h2 hsz hk => wpAny_pyIter_zip hz ?_
  have I2 : Inv X pins σ H1 { s1 with heap := h' } := I1.kept (t' := s1.toks) hk
  exact ⟨s1.heap.objs.size + 4, [s1.heap.objs.size + 4, s1.heap.objs.size + 2, s1.heap.objs.size + 3, s1.heap.objs.size, s1.heap.objs.size + 1], _, _, H1, rfl, I2, turn_zipS (PySem.W.ktu_apart s1.heap.objs.size a b (sseq_lt p1) (sseq_lt p2)), ⟨hz, hTI, ⟨_, _, hTO⟩, h1, h2⟩, fresh5, q⟩
theorem for_zipS {t1 t2 : Bool} {K : PySem.W.Frag} {a b : Addr} {xs ys : List V} {g : TG} {tb : TS} {D : Ends} {σ : L2.St} {H : Hp} (hl : xs.length = ys.length) (Pv : Nat → L2.St → Hp → Prop) (h0 : Pv 0 σ H) (hq : ∀ i σ H, Pv i σ H → SqS t1 K H a xs ∧ SqS t2 K H b ys)
    (hs : ∀ (i : Nat) (x y : V) (T : Addr) (σ : L2.St) (H : Hp), xs[i]? = some x → ys[i]? = some y → Pv i σ H → H T = none → g (.ref T) σ (upd H T (.tup [x, y])) fun σ2 H2 => tb { D with nx := Pv (i + 1), ct := Pv (i + 1), bk := D.nx } σ2 H2) (hd : ∀ σ H, Pv xs.length σ H → D.nx σ H) :
    ∃ W : Nat → Nat → L2.St → Hp → Prop, (∃ m, W 0 m σ H) ∧ ∀ i m σ H, W i m σ H →
      ((ItzS t1 t2 K a b).stop i H ∧ D.nx σ H) ∨ ((ItzS t1 t2 K a b).go i H ∧ ∃ N : L2.St → Hp → Prop, (∀ σ' H', N σ' H' → ∃ m', m' < m ∧ W (i + 1) m' σ' H') ∧ ∀ v H', (ItzS t1 t2 K a b).yld i H v H' → g v σ H' fun σ2 H2 => tb { D with nx := N, ct := N, bk := D.nx } σ2 H2) := by
  refine ⟨fun i m σ H => m = xs.length - i ∧ i ≤ xs.length ∧ Pv i σ H, ⟨xs.length, rfl, Nat.zero_le _, h0⟩, ?_⟩
  rintro i m σ H ⟨rfl, hi, p⟩
  obtain ⟨qx, qy⟩ := hq i σ H p
  rcases Nat.lt_or_ge i xs.length with hlt | hge
  · refine .inr ⟨⟨xs, ys, _, _, qx, qy, List.getElem?_eq_getElem hlt, List.getElem?_eq_getElem (by omega)⟩, Pv (i + 1), fun σ' H' p' => ⟨xs.length - (i + 1), by omega, rfl, hlt, p'⟩, fun v H' y => ?_⟩
    obtain ⟨T, x', y', rfl, hT, rfl, f1, f2⟩ := y
    exact hs i x' y' T σ H (f1 xs qx) (f2 ys qy) p hT
  · have e : i = xs.length := by omega
    subst e
    exact .inl ⟨⟨xs, ys, qx, qy, Or.inl (Nat.le_refl _)⟩, hd σ H p⟩
end RZM
set_option Elab.async false
set_option linter.all false
set_option maxRecDepth 100000
set_option maxHeartbeats 4000000
/-! in, not in, index of tuples whose items are data of any depth; repr of data; isinstance of a caught error that has a dict -/
namespace TkS
open PySem PySem.Spec PyProof.Rows L2
section
variable {X : Cx}
def rInT (K : PySem.W.Frag) (neg : Bool) : R2 := fun x y H Q => ∃ d ds, Dp K H x d ∧ Dp K H y (.tuple ds) ∧ SeqAt.shaped d = true ∧ SeqAt.shaped (.tuple ds) = true ∧ Q (.bl (if neg then !ds.any fun z => PyData.eqv z d else ds.any fun z => PyData.eqv z d)) H
theorem room_tup {d : PyData} {ds : List PyData} (sd : SeqAt.shaped d = true) (hu : X.A.units + 65 < cLine) : X.A.units + 1 + min (PyData.depthAll ds) d.depth < cLine := by
  have h : d.depth ≤ 64 := by
    have z : (d.canLay0 && decide (d.depth ≤ 64)) = true := sd
    rw [Bool.and_eq_true] at z
    exact of_decide_eq_true z.2
  have := Nat.min_le_right (PyData.depthAll ds) d.depth
  omega
theorem lay_tup {ds : List PyData} (se : SeqAt.shaped (.tuple ds) = true) : PyData.canLayAll0 ds = true := SeqAt.canLay_of_shaped se
theorem op_inT (hu : X.A.units + 65 < cLine) : OpR X (compareOp .In) (rInT X.K false) := by
  intro pins s σ H x y v u Q I rx ry h
  obtain ⟨d, ds, hd, he, sd, se, q⟩ := h
  obtain ⟨as, r1⟩ := Dp.reads I d x v hd rx
  obtain ⟨bs, r2⟩ := Dp.reads I (.tuple ds) y u he ry
  exact SeqAt.in_tuple_reads r2 r1 (lay_tup se) (SeqAt.canLay_of_shaped sd) (room_tup sd hu) ⟨.bl _, H, I, rfl, q⟩
theorem op_notInT (hu : X.A.units + 65 < cLine) : OpR X (compareOp .NotIn) (rInT X.K true) := by
  intro pins s σ H x y v u Q I rx ry h
  obtain ⟨d, ds, hd, he, sd, se, q⟩ := h
  obtain ⟨as, r1⟩ := Dp.reads I d x v hd rx
  obtain ⟨bs, r2⟩ := Dp.reads I (.tuple ds) y u he ry
  exact SeqAt.notIn_tuple_reads r2 r1 (lay_tup se) (SeqAt.canLay_of_shaped sd) (room_tup sd hu) ⟨.bl _, H, I, rfl, q⟩
/-- t.index(x): the first place of an equal one -/
def rIxT (K : PySem.W.Frag) : V → List V → Hp → VK → Prop := fun x xs H Q => ∃ (a : Addr) (y : V) (d : PyData) (ds : List PyData) (j : Nat) (z : PyData), x = V.ref a ∧ xs = [y] ∧ Dp K H (V.ref a) (.tuple ds) ∧ Dp K H y d ∧
  SeqAt.shaped (.tuple ds) = true ∧ SeqAt.shaped d = true ∧ ds[j]? = some z ∧ PyData.eqv z d = true ∧ (∀ (m : Nat) (z' : PyData), m < j → ds[m]? = some z' → PyData.eqv z' d = false) ∧ Q (.int (j : Nat)) H
theorem mt_tupIx (hu : X.A.units + 65 < cLine) : MtR X "tuple.index" (rIxT X.K) := by
  intro pins s σ H x xs v us Q I rx rxs h
  obtain ⟨a, y, d, ds, j, z, rfl, rfl, hl, hy, sl, sd, hz, hzj, hno, q⟩ := h
  cases rx
  cases rxs with
  | cons ry rt =>
    rename_i uy ut
    cases rt
    obtain ⟨bs, r1⟩ := Dp.reads I d y uy hy ry
    have hxs : PyData.canLayAll0 ds = true := lay_tup sl
    cases hl with
    | tup hs ha =>
      obtain ⟨its, rv, ⟨⟨cls, dd, data, sls⟩, ho, hc, n, hdt⟩, hlen⟩ := I.tuple hs
      simp only at hc hdt
      subst hc hdt
      obtain ⟨as, h4⟩ := Dp.readsAll I ds _ its ha rv
      have hmap : its.map (SeqAt.readOf s.heap) = ds := SeqAt.readsAll_map ds its as hxs h4
      have hn : its.length = ds.length := SeqAt.ReadsAll.length ds its as h4
      obtain ⟨hjd, _⟩ := List.getElem?_eq_some_iff.mp hz
      have hj : j < its.toArray.size := by
        rw [List.size_toArray]
        omega
      have at_ : ∀ (m : Nat) (hm : m < its.toArray.size) (z' : PyData), ds[m]? = some z' → SeqAt.readOf s.heap its.toArray[m] = z' := by
        intro m hm z' hz'
        have hml : m < its.length := by simpa using hm
        rw [← hmap, List.getElem?_map, List.getElem?_eq_getElem hml] at hz'
        have e1 : SeqAt.readOf s.heap its[m] = z' := Option.some.inj hz'
        simpa using e1
      refine call_meets PySem.F.slot_tuple_index ⟨_, ho, rfl⟩ PySem.F.entry_tuple_index (PySem.F.args_tuple_index_2 _ _)
        (TI.tuple_indexAt a its.toArray n dd sls uy (fun u => PyData.eqv (SeqAt.readOf s.heap u) d) j hj ?_ ?_) ⟨ho, SeqAt.items_eqAt (vs := its.toArray) (show ReadsAll s.heap its.toArray.toList ds as from h4) r1 hxs (SeqAt.canLay_of_shaped sd) (room_tup sd hu), ?_⟩
      · show PyData.eqv (SeqAt.readOf s.heap its.toArray[j]) d = true
        rw [at_ j hj z hz]
        exact hzj
      · intro m hm hmj
        have hmd : m < ds.length := by omega
        have hz' : ds[m]? = some ds[m] := List.getElem?_eq_getElem hmd
        show PyData.eqv (SeqAt.readOf s.heap its.toArray[m]) d = false
        rw [at_ m hm _ hz']
        exact hno m _ hmj hz'
      · exact ⟨.int (j : Nat), H, I.tok _, ⟨_, rfl⟩, q⟩
/-- repr of a list or tuple of data: its text hangs on the data alone -/
def rReprD (K : PySem.W.Frag) : List V → Hp → VK → Prop := fun xs H Q => ∃ a d, xs = [.ref a] ∧ Dp K H (.ref a) d ∧ d.showable = true ∧ d.hasDict = false ∧ d.depth ≤ 60 ∧ d.shown.length ≤ sizeLine ∧ Q (.str d.shown) H
theorem call_reprD (hg : X.A.guards = some []) (hu : X.A.units + 65 < cLine) : CallR X (.builtin "repr") (rReprD X.K) := by
  intro pins s σ H xs us Q I r h
  obtain ⟨a, d, rfl, hd, h1, h2, h3, h4, q⟩ := h
  obtain ⟨u, rfl, ru⟩ := vals1 r
  obtain ⟨as, rd⟩ := Dp.reads I d (.ref a) u hd ru
  cases ru
  exact repr_of_reads' rd h1 (PyData.noDict_hsm h2) hg (by omega) (fun _ _ e => e) (fun h' u tk k => ⟨.str d.shown, H, I.kept (t' := tk) k, ⟨_, rfl⟩, q⟩) h4
end
end TkS
set_option Elab.async false
set_option linter.all false
set_option maxRecDepth 100000
set_option maxHeartbeats 4000000
namespace PySem.W
open PySem PySem.Spec PySem.Calls PyProof.Rows
section
variable {prog : Program} {w : World} {A : Around} {E : Value → Shared → Prop} {s : Shared} {K : Frag} {x D : Addr} {ox : Obj}
theorem kin_classD {od : Obj} {Q : Option Value → Shared → Prop} (hga : findIn K (.ref D) "__getattribute__" = some (some (.builtin "BaseException.__getattribute__"))) (hgt : findIn K (.ref D) "__getattr__" = some none) (hsub : subIn K (.ref D) (.type "BaseException") = some true)
    (hdct : hasDictIn K D = true) (ha : findIn K (.ref D) "__class__" = some (some (.builtin "object.__class__")))
    (hn : specialIn K (.builtin "object.__class__") "__get__" = some (some (.builtin "getset_descriptor.__get__"))) (htk : takesIn K (.builtin "object.__class__") = some true) (hm : mroIn K D (.type "object") = some true)
    (X : K.In s.heap) (I : InstAt s.heap x ox D (some od)) (h : Q (some (.ref D)) { s with toks := s.toks + 1 }) : wpAny (model prog w) A (getAttr? (.ref x) "__class__") Q E s := by
  have hf : findObj K D (some od) "__class__" = some (.bind (.builtin "getset_descriptor.__get__") (.builtin "object.__class__")) := findObj_data (by obtain ⟨cd, hc, _⟩ := any_some hdct; rw [hc]; rfl) ha hn htk
  obtain ⟨hp, g, d, t, os⟩ := s
  have L0 := I.type (M := model prog w)
  have L1 := looks_findIn (M := model prog w) X hga
  have L2 := looks_findIn (M := model prog w) X hgt
  have L3 := looks_find (M := model prog w) X I hf
  have sub : Looks (model prog w) hp (isInstance (.ref x) (.type "BaseException")) true := L0.andThen (looks_subIn X hsub)
  have hx0 : (false && onTheHeap (Value.builtin "BaseException.__getattribute__")) = false := rfl
  have hx2 : (Value.builtin "BaseException.__getattribute__" == Value.builtin "object.__getattribute__") = false := by decide +kernel
  have hx1 : (onTheHeap (Value.ref D) && Value.builtin "BaseException.__getattribute__" == Value.builtin "object.__getattribute__") = false := by rw [hx2]; rfl
  unfold getAttr? getAttrBy? getAttrBy
  refine wpAny_bind (wpAny_mkText (wpAny_bind (wpAny_attempt (wpAny_holding (wpAny_bind (L0.at (wpAny_bind (L1.at ?_))))))))
  show wpAny _ _ (if (onTheHeap (Value.ref D) && Value.builtin "BaseException.__getattribute__" == Value.builtin "object.__getattribute__") = true then _ else _) _ _ _
  rw [hx1, if_neg Bool.false_ne_true]
  unfold getAttrByItsOwn hookBefore
  refine wpAny_bind ?_
  rw [if_pos (show onTheHeap (Value.ref D) = true from rfl)]
  refine L2.at ?_
  refine wpAny_bind (wpAny_attempt (wpAny_holding ?_))
  unfold callGetattribute
  rw [hx0, if_neg Bool.false_ne_true]
  unfold boundAndCalled
  rw [PySem.F.excAttr_ValueError.ga.bind (.ref x)]
  refine wpAny_bind (wpAny_pure ?_)
  show wpAny _ _ (call (.builtin "BaseException.__getattribute__") [.ref x, .str "__class__" t]) _ _ _
  refine wpAny_call (codeAny_call_builtin PySem.F.excAttr_ValueError.ga.plain PySem.F.entry_bexc_ga ?_)
  refine @check_slot (model prog w) _ _ ⟨hp, g, d, t + 1, os⟩ "BaseException.__getattribute__" "BaseException" "__getattribute__" (.ref x) [.str "__class__" t] [] _ (by decide +kernel) (by decide +kernel) sub (PySem.F.args_bexc_ga (.ref x) (.str "__class__" t)) ?_
  unfold Builtin.«object.__getattribute__»
  refine wpAny_bind (wpAny_of_eq (a := ((Value.ref x : Value), [Value.str "__class__" t])) (by first | rfl | (simp only [slotArgs]; rfl)) ?_)
  refine wpAny_bind (wpAny_pure (wpAny_bind (L0.at (wpAny_bind (L3.at ?_)))))
  show wpAny _ _ (holding [Value.builtin "object.__class__"] (call (.builtin "getset_descriptor.__get__") [.builtin "object.__class__", .ref x, .ref D]) >>= ret) _ _ _
  refine wpAny_bind (wpAny_holding (wpAny_call (class_get (s := ⟨hp, g, d, t + 1, os⟩) (ox := ox) (od := some od) X I hm ?_)))
  refine wpAny_pure ?_
  show wpAny _ _ (handedOut (.ref D)) _ _ _
  rw [handedOut_of (v := .ref D) rfl]
  first
    | exact wpAny_pure (wpAny_pure h)
    | exact wpAny_pure h
    | exact wpAny_pure (wpAny_bind (wpAny_pure (wpAny_pure h)))
theorem kitx_excD (hga : findIn K (.ref D) "__getattribute__" = some (some (.builtin "BaseException.__getattribute__"))) (hgt : findIn K (.ref D) "__getattr__" = some none) (hsub : subIn K (.ref D) (.type "BaseException") = some true) (hdct : hasDictIn K D = true) (ha : findIn K (.ref D) "__class__" = some (some (.builtin "object.__class__")))
    (hn : specialIn K (.builtin "object.__class__") "__get__" = some (some (.builtin "getset_descriptor.__get__"))) (htk : takesIn K (.builtin "object.__class__") = some true) (hm : mroIn K D (.type "object") = some true) :
    KitX K (.ref x) (.ref D) (fun h => ∃ od, InstAt h x ox D (some od)) where
  ty := fun _ _ _ I => I.elim fun _ J => J.type
  it := fun _ _ X _ => by
    obtain ⟨cdD, hcD, _⟩ := any_some hdct
    unfold clsIn at hcD
    split at hcD
    · rename_i c' d' cd' sl' ho
      intro A' Q' E' s' k q
      unfold isType loadHead
      exact wpAny_bind (wpAny_loadPart (k _ _ (X _ _ ho)) (wpAny_pure q))
    · cases hcD
  ne := fun h tp dd its n sl X htp => by
    obtain ⟨cdD, hcD, _⟩ := any_some hdct
    refine Bool.eq_false_iff.mpr fun q => ?_
    have e : D = tp := Value.ref.inj (beq_iff_eq.mp q)
    subst e
    unfold clsIn at hcD
    split at hcD
    · rename_i c' d' cd' sl' ho
      have z := (X _ _ ho).symm.trans htp
      cases z
    · cases hcD
  ca := fun X I k => I.elim fun _ J => kin_classD hga hgt hsub hdct ha hn htk hm X J k
end
end PySem.W
namespace TkS
open PySem PySem.Spec PyProof.Rows L2
/-- isinstance(e, c), e the error that the suite holds, which has a dict -/
def rIsD (K : PySem.W.Frag) (D a : Addr) (cls : Value) (d : Option Addr) : List V → Hp → VK → Prop := fun xs H Q => cls = .ref D ∧ ∃ (dd : Addr) (fs : List (Str × V)) (c : V) (cv : Value) (b : Bool), d = some dd ∧ H dd = some (.xd fs) ∧ xs = [.ref a, c] ∧ (∀ u, RelV c u → u = cv) ∧ PySem.W.kitOne K (.ref D) cv = some b ∧ Q (.bl b) H
theorem call_isD {X : Cx} {a D : Addr} {oe : Obj} {cls : Value} {d : Option Addr} {pn : List (Addr × Obj)} (C : ExcC X.K D) (hz : Zc cls d oe) (hf : ∃ vs, oe.data = .fields vs) : CallR (X.suite a ((a, oe) :: pn)) (.builtin "isinstance") (rIsD X.K D a cls d) := by
  intro pins s σ H xs us Q I r h
  obtain ⟨rfl, dd, fs, c, cv, b, rfl, ea, rfl, hcv, e, q⟩ := h
  obtain ⟨u1, u2, rfl, r1, r2⟩ := vals2 r
  cases r1
  have ec := hcv _ r2
  subst ec
  obtain ⟨hget, _⟩ := I.pin (a, oe) (List.mem_append_left _ List.mem_cons_self)
  obtain ⟨vs, hv⟩ := hf
  have hx : ObjOk X.prog X.w H s.heap dd (.xd fs) := I.hok dd _ ea
  obtain ⟨mA, hns, hr⟩ := hx
  obtain ⟨od, ho, hl⟩ := lookIn_ns hns
  have J : PySem.W.InstAt s.heap a oe D (some od) := ⟨hget, hz.1, by unfold PySem.W.notCls; rw [hv] <;> rfl, by rw [hz.2]; exact ho⟩
  exact PySem.W.kia_one (PySem.W.kitx_excD C.hg C.hk C.hs C.hd C.ha C.hn C.ht C.hm) I.kIn ⟨od, J⟩ e (fun z => nomatch z) fun tk => ⟨.bl b, H, I.kept (t' := tk) fun _ _ z => z, rfl, q⟩
end TkS
set_option Elab.async false
set_option linter.all false
set_option maxRecDepth 100000
set_option maxHeartbeats 4000000
/-! C(..) and o.m(..) where what is raised is wished for at the caller's slots (within a try) -/
namespace TkS
open PySem PySem.Spec PyProof.Rows L2
def tMethSD (C : Addr) (m : Str) (sp : Sp) (dvs : List V) (E : L2.St → XK) (ta : TE) (t : TA) : TE := fun σ H Q => ta σ H fun x H1 => ∃ a dx fs, x = .ref a ∧ H1 a = some (.ins C dx fs) ∧ fs.lookup m = none ∧
  t σ H1 fun vs H2 => sp (x :: (vs ++ dvs)) H2 Q (E σ)
def tMakeSD (C : Addr) (sp : Sp) (dvs : List V) (E : L2.St → XK) (t : TA) : TE := fun σ H Q => t σ H fun vs H1 => ∀ x dx, H1 x = none → H1 dx = none → dx ≠ x →
  sp (.ref x :: (vs ++ dvs)) (upd (upd H1 dx (.own x)) x (.ins C dx [])) (fun v H2 => v = .non ∧ Q (.ref x) H2) (E σ)
section
variable {X : Cx} {CX : CXT} {k : Nat} {f C : Addr} {fd : FuncData} {ps : List Str} {sp : Sp} {dvs : List V} {ds : List Value} {E : L2.St → XK} {x m : Str} {p pos apos : Pos} {e o : Expr} {es : List Expr} {ta : TE} {t : TA}
theorem run_makeSD {pins : List (Addr × Obj)} {σ : L2.St} {H : Hp} {s : Shared} {Q : VK} {us : List Value} {vs : List V} (M : Mk X.K C f) (F : FnOk X.prog X.w X.K X.mg X.base CX k f fd ps sp) (hr : Room (k + 1) X.A) (hb : Binds X.K fd ps ds) (hd : Vals dvs ds)
    (hx : PassesAt CX X σ (E σ)) (I : Inv X pins σ H s) (r : Vals vs us)
    (h : ∀ x dx, H x = none → H dx = none → dx ≠ x → sp (.ref x :: (vs ++ dvs)) (upd (upd H dx (.own x)) x (.ins C dx [])) (fun v H2 => v = .non ∧ Q (.ref x) H2) (E σ)) :
    wpAny (model X.prog X.w) X.A (call (.ref C) us) (EP X pins σ Q) X.xe s := by
  have hq := h (s.heap.objs.size + 1) s.heap.objs.size (I.hok.fresh (Nat.le_succ _)) (I.hok.fresh (Nat.le_refl _)) (Nat.ne_of_lt (Nat.lt_succ_self _))
  have I2 := Inv.made (C := C) I
  have r2 : Vals (V.ref (s.heap.objs.size + 1) :: (vs ++ dvs)) (Value.ref (s.heap.objs.size + 1) :: (us ++ ds)) := .cons rfl (r.append hd)
  have hl : (Value.ref (s.heap.objs.size + 1) :: us ++ ds).length = ps.length := by
    have e := r2.length
    rw [F.len _ _ _ _ hq] at e
    exact e.symm
  refine wpAny_call (make_map (f := f) I.kIn M.makes M.init (beq_iff_eq.mp M.fn) (codeAny_mono (F.run _ X.stack _ _ ⟨Value.ref (s.heap.objs.size + 1) :: us, []⟩ (Value.ref (s.heap.objs.size + 1) :: (us ++ ds)) _ _ (E σ) (hr.make C us [])
    (I2.env0.make C us []) (hb _ (Value.ref (s.heap.objs.size + 1) :: us) I2.kIn hl) r2 hq) fun r s' hq' => ?_))
  cases r with
  | error e => exact hx pins _ _ e s' I2 hq'
  | ok fl =>
    cases fl with
    | ret u =>
      obtain ⟨v, H', I3, rv, ev, q3⟩ := I2.after hq'
      subst ev
      exact ⟨rv, ⟨V.ref (s.heap.objs.size + 1), H', I3, rfl, q3⟩⟩
    | next => exact False.elim hq'
    | brk => exact False.elim hq'
    | cont => exact False.elim hq'
theorem pe_makeSD (M : Mk X.K C f) (F : FnOk X.prog X.w X.K X.mg X.base CX k f fd ps sp) (hr : Room (k + 1) X.A) (hg : Gl X x) (hm : X.mg x = some (.ref C)) (hb : Binds X.K fd ps ds) (hd : Vals dvs ds) (hx : ∀ σ, PassesAt CX X σ (E σ))
    (ha : PA X (e :: es) t) (hdb : (x == ("__debug__" : Str)) = false := by decide) (he : starEach (e :: es) X.env = (false, eval e X.env) :: starEach es X.env := by rfl) (hpl : (backTo pos (starEach es X.env)).any (·.1) = false := by rfl) :
    PE X (.Call (.Name x p) (e :: es) [] pos) (tMakeSD C sp dvs E t) := by
  refine ⟨fun pins s σ H Q I h => ?_⟩
  refine wpAny_Call_Name_kw (ld_glob I hg hm ?_ hdb)
  refine PySem.W.callWith_K (h₀ := X.base) I.ok.mod.kin M.kp (thn (ha.run pos pins s σ H _ I h) fun us s1 ⟨vs, H1, I1, r, q⟩ => ⟨I1.kIn, ?_⟩) he hpl
  exact run_makeSD M F hr hb hd (hx σ) I1 r q
theorem pe_methSD {pl : Sem Bool} (he : PE X o ta) (c : Cls X.K C) (hm : Meth X.K C m f) (F : FnOk X.prog X.w X.K X.mg X.base CX k f fd ps sp) (hr : Room k X.A) (hb : Binds X.K fd ps ds) (hd : Vals dvs ds) (hx : ∀ σ, PassesAt CX X σ (E σ)) (ha : PA X (e :: es) t)
    (hst : starEach (e :: es) X.env = (false, eval e X.env) :: starEach es X.env := by rfl) (hpl : (backTo pos (starEach es X.env)).any (·.1) = false := by rfl)
    (ht : eval (.Call (.Attribute o m apos) (e :: es) [] pos) X.env = (do
      let ov ← eval o X.env
      standAt apos.atName
      let (f, first) ← holding [ov] (getMethod ov m pl)
      callWith pos f first (backTo pos (starEach (e :: es) X.env)) (backToKw pos (keywordEach [] X.env))) := by rfl) :
    PE X (.Call (.Attribute o m apos) (e :: es) [] pos) (tMethSD C m sp dvs E ta t) := by
  refine ⟨fun pins s σ H Q I h => ?_⟩
  refine PySem.W.methodCall_KW (pl := pl) (thn (he.run pins s σ H _ I h) fun u s1 ⟨x, H1, I1, rx, a, dx, fs, ex, ea, l, q⟩ => ?_) ht
  subst ex
  obtain rfl : u = Value.ref a := rx
  refine getmeth_ok I1 ea c hm l ?_
  refine PySem.W.callWith_K (first := [.ref a]) (h₀ := X.base) I.ok.mod.kin hm.kp (thn (ha.run pos pins s1 σ H1 _ I1 q) fun us s2 ⟨vs, H2, I2, r, q2⟩ => ⟨I2.kIn, ?_⟩) hst hpl
  exact run_fnSD (us := .ref a :: us) (vs := .ref a :: vs) F hr hb hd (hx σ) I2 (.cons rfl r) q2
end
end TkS
set_option Elab.async false
set_option linter.all false
set_option maxRecDepth 100000
set_option maxHeartbeats 4000000
/-! == of two instances by an own __eq__ with any answer; len of an instance by an own __len__ -/
namespace TkS
open PySem PySem.Spec PyProof.Rows L2
section
variable {X : Cx} {CX : CXT} {n : Nat} {f C : Addr} {fd : FuncData} {ps : List Str} {sp : Sp} {E : XK}
def rEqOwn (C : Addr) (sp : Sp) (E : XK) : R2 := fun x y H Q => ∃ a b dx dy fs gs, x = .ref a ∧ y = .ref b ∧ H a = some (.ins C dx fs) ∧ H b = some (.ins C dy gs) ∧ sp [.ref a, .ref b] H (fun v H' => (∃ r, v = .bl r) ∧ Q v H') E
theorem op_eqOwn (F : FnOk X.prog X.w X.K X.mg X.base CX n f fd ps sp) (hr : Room n X.A) (hs : PySem.W.findIn X.K (.ref C) "__eq__" = some (some (.ref f))) (hf : PySem.W.isFn X.K (.ref f) = true) (hb : Binds X.K fd ps []) (hx : Passes CX X E) :
    OpR X (compareOp .Eq) (rEqOwn C sp E) := by
  intro pins s σ H x y v u Q I rx ry h
  obtain ⟨a, b, dx, dy, fs, gs, rfl, rfl, ha, hb', hq⟩ := h
  cases rx
  cases ry
  obtain ⟨mA, J, _⟩ := ins_get I.hok ha
  obtain ⟨mB, J', _⟩ := ins_get I.hok hb'
  obtain ⟨od, J, _⟩ := J.look
  obtain ⟨od', J', _⟩ := J'.look
  obtain ⟨m, hF⟩ := I.fr
  show wpAny (model X.prog X.w) X.A (richCompare .Eq (.ref a) (.ref b)) (EP X pins σ Q) X.xe s
  refine PySem.W.cmp_K (op := .Eq) (tb := .ref C) hr.units0 hF I.ok.mod.kin J J'.type (by simp [PySem.W.notFirst]) hs hf ?_
  have hl := F.len _ _ _ _ hq
  refine wpAny_mono (run_fn (us := [.ref a, .ref b]) (vs := [.ref a, .ref b]) (dvs := []) (Q := fun v H' => (∃ r, v = .bl r) ∧ Q v H') F hr hb .nil hx I (.cons rfl (.cons rfl .nil)) hq) (fun u s' z => ?_) fun _ _ z => z
  obtain ⟨v, H', I', rv, ⟨r, ev⟩, q⟩ := z
  subst ev
  cases (show u = Value.bool r from rv)
  exact ⟨.bl r, H', I', rfl, q⟩
def rLenOwn (C : Addr) (sp : Sp) (E : XK) : List V → Hp → VK → Prop := fun xs H Q => ∃ (a dx : Addr) (fs : List (Str × V)) (k : Nat), xs = [.ref a] ∧ H a = some (.ins C dx fs) ∧ k < 2 ^ 62 ∧ sp [.ref a] H (fun v H' => v = .int (k : Int) ∧ Q v H') E
theorem call_lenOwn (F : FnOk X.prog X.w X.K X.mg X.base CX n f fd ps sp) (hr : Room (n + 1) X.A) (hs : PySem.W.findIn X.K (.ref C) "__len__" = some (some (.ref f))) (hf : PySem.W.isFn X.K (.ref f) = true) (hb : Binds X.K fd ps []) (hx : Passes CX X E) : CallR X (.builtin "len") (rLenOwn C sp E) := by
  intro pins s σ H xs us Q I r h
  obtain ⟨a, dx, fs, k, rfl, ha, hk, hq⟩ := h
  obtain ⟨u, rfl, ru⟩ := vals1 r
  cases ru
  obtain ⟨mA, J, _⟩ := ins_get I.hok ha
  obtain ⟨od, J, _⟩ := J.look
  obtain ⟨m, hF⟩ := I.fr
  have hl : ([Value.ref a] ++ ([] : List Value)).length = ps.length := by
    rw [← F.len _ _ _ _ hq]
    rfl
  refine PySem.W.len_K hF I.ok.mod.kin J hs hf (wpAny_call ?_)
  refine codeAny_mono (F.run X.A.in1 X.stack s H ⟨[.ref a], []⟩ [.ref a] [.ref a] _ E hr.in1 I.env0.in1 (hb s [.ref a] I.kIn hl) (.cons rfl .nil) hq) fun r s' hq => ?_
  cases r with
  | error e => exact hx pins σ H s e s' I hq
  | ok fl =>
    cases fl with
    | ret u =>
      obtain ⟨v, H', I', rv, ev, q⟩ := I.after hq
      subst ev
      obtain ⟨t, eu⟩ := (show ∃ t, u = Value.int (k : Int) t from rv)
      subst eu
      refine ⟨⟨by omega, by omega⟩, .int (k : Int), H', I'.tok _, ⟨_, rfl⟩, q⟩
    | next => exact False.elim hq
    | brk => exact False.elim hq
    | cont => exact False.elim hq
end
end TkS
set_option Elab.async false
set_option linter.all false
set_option maxRecDepth 100000
set_option maxHeartbeats 4000000
/-! data whose objects are all tracked -/
namespace TkS
open PySem PySem.Spec PyProof.Rows L2
mutual
inductive Dq (H : Hp) : V → PyData → Prop
  | non : Dq H .non .none
  | bl (b : Bool) : Dq H (.bl b) (.bool b)
  | int (i : Int) : Dq H (.int i) (.int i)
  | str (x : Str) : Dq H (.str x) (.str x)
  | lst {a : Addr} {xs : List V} {ds : List PyData} : H a = some (.lst xs) → DqAll H xs ds → Dq H (.ref a) (.list ds)
  | tup {a : Addr} {xs : List V} {ds : List PyData} : H a = some (.tup xs) → DqAll H xs ds → Dq H (.ref a) (.tuple ds)
inductive DqAll (H : Hp) : List V → List PyData → Prop
  | nil : DqAll H [] []
  | cons {v : V} {vs : List V} {d : PyData} {ds : List PyData} : Dq H v d → DqAll H vs ds → DqAll H (v :: vs) (d :: ds)
end
theorem DqAll.len {H : Hp} : ∀ {xs : List V} {ds : List PyData}, DqAll H xs ds → xs.length = ds.length
  | _, _, .nil => rfl
  | _, _, .cons _ t => congrArg Nat.succ t.len
theorem DqAll.get {H : Hp} : ∀ {xs : List V} {ds : List PyData} {i : Nat} {x : V}, DqAll H xs ds → xs[i]? = some x → ∃ d, ds[i]? = some d ∧ Dq H x d
  | _, _, _, _, .nil, e => by simp at e
  | _, _, 0, _, .cons h _, e => by
    simp at e
    subst e
    exact ⟨_, rfl, h⟩
  | _, _, i + 1, _, .cons _ t, e => by
    obtain ⟨d, h1, h2⟩ := t.get (i := i) (by simpa using e)
    exact ⟨d, by simpa using h1, h2⟩
theorem DqAll.append {H : Hp} : ∀ {xs ys : List V} {ds es : List PyData}, DqAll H xs ds → DqAll H ys es → DqAll H (xs ++ ys) (ds ++ es)
  | _, _, _, _, .nil, s => s
  | _, _, _, _, .cons r t, s => .cons r (t.append s)
theorem DqAll.snoc {H : Hp} {xs : List V} {ds : List PyData} {x : V} {d : PyData} (h : DqAll H xs ds) (h1 : Dq H x d) : DqAll H (xs ++ [x]) (ds ++ [d]) := h.append (.cons h1 .nil)
mutual
theorem Dq.same {H H' : Hp} (s : Same H H') : ∀ {v : V} (d : PyData), Dq H v d → Dq H' v d
  | _, .none, .non => .non
  | _, .bool _, .bl b => .bl b
  | _, .int _, .int i => .int i
  | _, .str _, .str x => .str x
  | _, .list _, .lst h t => .lst (s _ _ h) (DqAll.same s _ t)
  | _, .tuple _, .tup h t => .tup (s _ _ h) (DqAll.same s _ t)
theorem DqAll.same {H H' : Hp} (s : Same H H') : ∀ {vs : List V} (ds : List PyData), DqAll H vs ds → DqAll H' vs ds
  | _, [], .nil => .nil
  | _, _ :: _, .cons h t => .cons (Dq.same s _ h) (DqAll.same s _ t)
end
mutual
theorem Dq.dp {K : PySem.W.Frag} {H : Hp} : ∀ {v : V} (d : PyData), Dq H v d → Dp K H v d
  | _, .none, .non => .non
  | _, .bool _, .bl b => .bl b
  | _, .int _, .int i => .int i
  | _, .str _, .str x => .str x
  | _, .list _, .lst h t => .lst (SqL.of h) (DqAll.dp _ t)
  | _, .tuple _, .tup h t => .tup (SqT.of h) (DqAll.dp _ t)
theorem DqAll.dp {K : PySem.W.Frag} {H : Hp} : ∀ {vs : List V} (ds : List PyData), DqAll H vs ds → DpAll K H vs ds
  | _, [], .nil => .nil
  | _, _ :: _, .cons h t => .cons (Dq.dp _ h) (DqAll.dp _ t)
end
mutual
theorem Dq.fn {H : Hp} : ∀ {v : V} (d e : PyData), Dq H v d → Dq H v e → d = e
  | _, .none, _, .non, .non => rfl
  | _, .bool _, _, .bl _, .bl _ => rfl
  | _, .int _, _, .int _, .int _ => rfl
  | _, .str _, _, .str _, .str _ => rfl
  | _, .list ds, _, .lst h t, .lst h' t' => by
    rw [h] at h'
    cases h'
    rw [DqAll.fn _ _ t t']
  | _, .list _, _, .lst h _, .tup h' _ => by
    rw [h] at h'
    cases h'
  | _, .tuple ds, _, .tup h t, .tup h' t' => by
    rw [h] at h'
    cases h'
    rw [DqAll.fn _ _ t t']
  | _, .tuple _, _, .tup h _, .lst h' _ => by
    rw [h] at h'
    cases h'
theorem DqAll.fn {H : Hp} : ∀ {vs : List V} (ds es : List PyData), DqAll H vs ds → DqAll H vs es → ds = es
  | _, [], _, .nil, .nil => rfl
  | _, _ :: _, _, .cons h t, .cons h' t' => by rw [Dq.fn _ _ h h', DqAll.fn _ _ t t']
end
/-- the heap without one address -/
def Off (h : Addr) (H : Hp) : Hp := fun b => if b = h then none else H b
theorem off_same {h : Addr} {H : Hp} : Same (Off h H) H := fun b o e => by
  unfold Off at e
  by_cases z : b = h
  · rw [if_pos z] at e
    cases e
  · rw [if_neg z] at e
    exact e
theorem off_keep {h : Addr} {H H' : Hp} (k : ∀ b o, b ≠ h → H b = some o → H' b = some o) : Same (Off h H) (Off h H') := fun b o e => by
  unfold Off at e ⊢
  by_cases z : b = h
  · rw [if_pos z] at e
    cases e
  · rw [if_neg z] at e ⊢
    exact k b o z e
theorem off_of {h : Addr} {H H' : Hp} (s : Same H H') : Same (Off h H) (Off h H') := off_keep fun b o _ e => s b o e
theorem off_at {h a : Addr} {H : Hp} {o : HO} (n : a ≠ h) (e : H a = some o) : Off h H a = some o := by
  unfold Off
  rw [if_neg n]
  exact e
theorem same_new {H : Hp} {p : Addr} {o : HO} (h : H p = none) : Same H (upd H p o) := fun b x e => by
  rw [upd_ne (ne_of_none e h)]
  exact e
/-- a thing's kind as isinstance sees it -/
def isBlV : V → Bool
  | .bl _ => true
  | _ => false
def isNumV : V → Bool
  | .bl _ => true
  | .int _ => true
  | _ => false
def isIntV : V → Bool
  | .int _ => true
  | _ => false
def itemsD : PyData → Option (List PyData)
  | .list xs => some xs
  | .tuple xs => some xs
  | _ => none
theorem dq_ty {K : PySem.W.Frag} {H : Hp} {x : V} {d : PyData} (k : Dq H x d) : ∃ t, TyX K H x t ∧ PySem.W.kitOne K t (.type "bool") = some (isBlV x) ∧ PySem.W.kitOne K t (.type "int") = some (isNumV x) ∧
    PySem.W.kitAny K t [.type "list", .type "tuple"] = some (itemsD d).isSome ∧ PySem.W.kitOne K t (.type "tuple") = some (match d with | .tuple _ => true | _ => false) := by
  cases k with
  | non => exact ⟨_, .base .non, kit_ty (show kitB "NoneType" "bool" = some false by decide +kernel), kit_ty (show kitB "NoneType" "int" = some false by decide +kernel),
      kitAny_cons (b := false) (kit_ty (show kitB "NoneType" "list" = some false by decide +kernel)) (fun _ => kitAny_cons (b := false) (kit_ty (show kitB "NoneType" "tuple" = some false by decide +kernel)) (fun _ => kitAny_nil) (fun z => nomatch z)) (fun z => nomatch z), kit_ty (show kitB "NoneType" "tuple" = some false by decide +kernel)⟩
  | bl b => exact ⟨_, .base (.bl b), kit_ty (show kitB "bool" "bool" = some true by decide +kernel), kit_ty (show kitB "bool" "int" = some true by decide +kernel),
      kitAny_cons (b := false) (kit_ty (show kitB "bool" "list" = some false by decide +kernel)) (fun _ => kitAny_cons (b := false) (kit_ty (show kitB "bool" "tuple" = some false by decide +kernel)) (fun _ => kitAny_nil) (fun z => nomatch z)) (fun z => nomatch z), kit_ty (show kitB "bool" "tuple" = some false by decide +kernel)⟩
  | int i => exact ⟨_, .base (.int i), kit_ty (show kitB "int" "bool" = some false by decide +kernel), kit_ty (show kitB "int" "int" = some true by decide +kernel),
      kitAny_cons (b := false) (kit_ty (show kitB "int" "list" = some false by decide +kernel)) (fun _ => kitAny_cons (b := false) (kit_ty (show kitB "int" "tuple" = some false by decide +kernel)) (fun _ => kitAny_nil) (fun z => nomatch z)) (fun z => nomatch z), kit_ty (show kitB "int" "tuple" = some false by decide +kernel)⟩
  | str x => exact ⟨_, .base (.str x), kit_ty (show kitB "str" "bool" = some false by decide +kernel), kit_ty (show kitB "str" "int" = some false by decide +kernel),
      kitAny_cons (b := false) (kit_ty (show kitB "str" "list" = some false by decide +kernel)) (fun _ => kitAny_cons (b := false) (kit_ty (show kitB "str" "tuple" = some false by decide +kernel)) (fun _ => kitAny_nil) (fun z => nomatch z)) (fun z => nomatch z), kit_ty (show kitB "str" "tuple" = some false by decide +kernel)⟩
  | lst h _ => exact ⟨_, .base (.lst h), kit_ty (show kitB "list" "bool" = some false by decide +kernel), kit_ty (show kitB "list" "int" = some false by decide +kernel),
      kitAny_cons (b := true) (kit_ty (show kitB "list" "list" = some true by decide +kernel)) (fun z => nomatch z) (fun _ => rfl), kit_ty (show kitB "list" "tuple" = some false by decide +kernel)⟩
  | tup h _ => exact ⟨_, .base (.tup h), kit_ty (show kitB "tuple" "bool" = some false by decide +kernel), kit_ty (show kitB "tuple" "int" = some false by decide +kernel),
      kitAny_cons (b := false) (kit_ty (show kitB "tuple" "list" = some false by decide +kernel)) (fun _ => kitAny_cons (b := true) (kit_ty (show kitB "tuple" "tuple" = some true by decide +kernel)) (fun z => nomatch z) (fun _ => rfl)) (fun z => nomatch z), kit_ty (show kitB "tuple" "tuple" = some true by decide +kernel)⟩
end TkS
set_option Elab.async false
set_option linter.all false
set_option maxRecDepth 100000
set_option maxHeartbeats 4000000
set_option exponentiation.threshold 5000
namespace K26
open PySem PySem.Spec PyProof.Rows L2 TkS
/-! the text -/
def topS (i : Nat) : Stmt := PySem.Challenge.pw_sheetproofs_k26_whole_ranks_weights_and.main.body.getD i (.Pass ⟨0, 0, 0, 0⟩)
abbrev s_beside : Stmt := topS 8
theorem sc_beside : FnScope ["rows", "others", "row", "other"] ["rows", "others"] (defScope s_beside) := ⟨rfl, rfl, rfl, by decide +kernel, rfl, by decide +kernel, by decide +kernel⟩
abbrev s_columns_of : Stmt := topS 9
theorem sc_columns_of : FnScope ["width", "rows", "place", "row"] ["width", "rows"] (defScope s_columns_of) := ⟨rfl, rfl, rfl, by decide +kernel, rfl, by decide +kernel, by decide +kernel⟩
abbrev s_as_tuples : Stmt := topS 10
theorem sc_as_tuples : FnScope ["rows", "row"] ["rows"] (defScope s_as_tuples) := ⟨rfl, rfl, rfl, by decide +kernel, rfl, by decide +kernel, by decide +kernel⟩
abbrev s_product_sum : Stmt := topS 12
theorem sc_product_sum : FnScope ["field", "one", "other", "total", "number", "factor"] ["field", "one", "other"] (defScope s_product_sum) := ⟨rfl, rfl, rfl, by decide +kernel, rfl, by decide +kernel, by decide +kernel⟩
abbrev s_unit_row : Stmt := topS 13
theorem sc_unit_row : FnScope ["field", "length", "place", "at"] ["field", "length", "place"] (defScope s_unit_row) := ⟨rfl, rfl, rfl, by decide +kernel, rfl, by decide +kernel, by decide +kernel⟩
abbrev s_columns_as_rows : Stmt := topS 14
theorem sc_columns_as_rows : FnScope ["rows"] ["rows"] (defScope s_columns_as_rows) := ⟨rfl, rfl, rfl, by decide +kernel, rfl, by decide +kernel, by decide +kernel⟩
abbrev s_rows_product : Stmt := topS 15
theorem sc_rows_product : FnScope ["field", "rows", "others", "columns", "row", "column"] ["field", "rows", "others"] (defScope s_rows_product) := ⟨rfl, rfl, rfl, by decide +kernel, rfl, by decide +kernel, by decide +kernel⟩
abbrev s_row_less : Stmt := topS 16
theorem sc_row_less : FnScope ["field", "row", "factor", "lead", "number", "other"] ["field", "row", "factor", "lead"] (defScope s_row_less) := ⟨rfl, rfl, rfl, by decide +kernel, rfl, by decide +kernel, by decide +kernel⟩
abbrev s_place_of_lead : Stmt := topS 17
theorem sc_place_of_lead : FnScope ["field", "rows", "first", "place", "index"] ["field", "rows", "first", "place"] (defScope s_place_of_lead) := ⟨rfl, rfl, rfl, by decide +kernel, rfl, by decide +kernel, by decide +kernel⟩
abbrev s_reduced_rows : Stmt := topS 18
theorem sc_reduced_rows : FnScope ["field", "rows", "width", "reduced", "leads", "place", "many", "index", "row", "lead", "number", "at", "other"] ["field", "rows", "width"] (defScope s_reduced_rows) := ⟨rfl, rfl, rfl, by decide +kernel, rfl, by decide +kernel, by decide +kernel⟩
abbrev s_rank_of_rows : Stmt := topS 19
theorem sc_rank_of_rows : FnScope ["field", "rows", "_", "leads"] ["field", "rows"] (defScope s_rank_of_rows) := ⟨rfl, rfl, rfl, by decide +kernel, rfl, by decide +kernel, by decide +kernel⟩
abbrev s_rows_unbound : Stmt := topS 20
theorem sc_rows_unbound : FnScope ["field", "rows"] ["field", "rows"] (defScope s_rows_unbound) := ⟨rfl, rfl, rfl, by decide +kernel, rfl, by decide +kernel, by decide +kernel⟩
abbrev s_equations_for : Stmt := topS 21
theorem sc_equations_for : FnScope ["field", "rows", "row", "many", "reduced", "leads", "told"] ["field", "rows", "row"] (defScope s_equations_for) := ⟨rfl, rfl, rfl, by decide +kernel, rfl, by decide +kernel, by decide +kernel⟩
abbrev s_weights_for : Stmt := topS 22
theorem sc_weights_for : FnScope ["field", "rows", "row", "found", "weights", "equation", "lead"] ["field", "rows", "row"] (defScope s_weights_for) := ⟨rfl, rfl, rfl, by decide +kernel, rfl, by decide +kernel, by decide +kernel⟩
abbrev s_undoing_rows : Stmt := topS 23
theorem sc_undoing_rows : FnScope ["field", "rows", "many", "units", "reduced", "leads", "at", "row"] ["field", "rows"] (defScope s_undoing_rows) := ⟨rfl, rfl, rfl, by decide +kernel, rfl, by decide +kernel, by decide +kernel⟩
abbrev s_is_whole : Stmt := topS 25
theorem sc_is_whole : FnScope ["thing", "low", "high"] ["thing", "low", "high"] (defScope s_is_whole) := ⟨rfl, rfl, rfl, by decide +kernel, rfl, by decide +kernel, by decide +kernel⟩
abbrev s_common_divisor : Stmt := topS 26
theorem sc_common_divisor : FnScope ["one", "other"] ["one", "other"] (defScope s_common_divisor) := ⟨rfl, rfl, rfl, by decide +kernel, rfl, by decide +kernel, by decide +kernel⟩
abbrev s_power_of : Stmt := topS 27
theorem sc_power_of : FnScope ["base", "exponent", "result"] ["base", "exponent"] (defScope s_power_of) := ⟨rfl, rfl, rfl, by decide +kernel, rfl, by decide +kernel, by decide +kernel⟩
abbrev s_least_factor : Stmt := topS 30
theorem sc_least_factor : FnScope ["number", "factor"] ["number"] (defScope s_least_factor) := ⟨rfl, rfl, rfl, by decide +kernel, rfl, by decide +kernel, by decide +kernel⟩
abbrev s_is_prime : Stmt := topS 31
theorem sc_is_prime : FnScope ["number"] ["number"] (defScope s_is_prime) := ⟨rfl, rfl, rfl, by decide +kernel, rfl, by decide +kernel, by decide +kernel⟩
abbrev s_RestField_init : Stmt := inClass (topS 32) 0
theorem sc_RestField_init : FnScope ["self", "prime"] ["self", "prime"] (defScope s_RestField_init) := ⟨rfl, rfl, rfl, by decide +kernel, rfl, by decide +kernel, by decide +kernel⟩
abbrev s_RestField_eq : Stmt := inClass (topS 32) 1
theorem sc_RestField_eq : FnScope ["self", "other"] ["self", "other"] (defScope s_RestField_eq) := ⟨rfl, rfl, rfl, by decide +kernel, rfl, by decide +kernel, by decide +kernel⟩
abbrev s_RestField_plus : Stmt := inClass (topS 32) 4
theorem sc_RestField_plus : FnScope ["self", "one", "other"] ["self", "one", "other"] (defScope s_RestField_plus) := ⟨rfl, rfl, rfl, by decide +kernel, rfl, by decide +kernel, by decide +kernel⟩
abbrev s_RestField_less : Stmt := inClass (topS 32) 5
theorem sc_RestField_less : FnScope ["self", "one", "other"] ["self", "one", "other"] (defScope s_RestField_less) := ⟨rfl, rfl, rfl, by decide +kernel, rfl, by decide +kernel, by decide +kernel⟩
abbrev s_RestField_times : Stmt := inClass (topS 32) 6
theorem sc_RestField_times : FnScope ["self", "one", "other"] ["self", "one", "other"] (defScope s_RestField_times) := ⟨rfl, rfl, rfl, by decide +kernel, rfl, by decide +kernel, by decide +kernel⟩
abbrev s_RestField_quotient : Stmt := inClass (topS 32) 7
theorem sc_RestField_quotient : FnScope ["self", "one", "other"] ["self", "one", "other"] (defScope s_RestField_quotient) := ⟨rfl, rfl, rfl, by decide +kernel, rfl, by decide +kernel, by decide +kernel⟩
abbrev s_RestField_power : Stmt := inClass (topS 32) 8
theorem sc_RestField_power : FnScope ["self", "number", "exponent", "left", "result"] ["self", "number", "exponent"] (defScope s_RestField_power) := ⟨rfl, rfl, rfl, by decide +kernel, rfl, by decide +kernel, by decide +kernel⟩
abbrev s_fraction : Stmt := topS 33
theorem sc_fraction : FnScope ["top", "bottom", "divisor"] ["top", "bottom"] (defScope s_fraction) := ⟨rfl, rfl, rfl, by decide +kernel, rfl, by decide +kernel, by decide +kernel⟩
abbrev s_FractionField_init : Stmt := inClass (topS 34) 0
theorem sc_FractionField_init : FnScope ["self"] ["self"] (defScope s_FractionField_init) := ⟨rfl, rfl, rfl, by decide +kernel, rfl, by decide +kernel, by decide +kernel⟩
abbrev s_FractionField_eq : Stmt := inClass (topS 34) 1
theorem sc_FractionField_eq : FnScope ["self", "other"] ["self", "other"] (defScope s_FractionField_eq) := ⟨rfl, rfl, rfl, by decide +kernel, rfl, by decide +kernel, by decide +kernel⟩
abbrev s_FractionField_plus : Stmt := inClass (topS 34) 4
theorem sc_FractionField_plus : FnScope ["self", "one", "other"] ["self", "one", "other"] (defScope s_FractionField_plus) := ⟨rfl, rfl, rfl, by decide +kernel, rfl, by decide +kernel, by decide +kernel⟩
abbrev s_FractionField_less : Stmt := inClass (topS 34) 5
theorem sc_FractionField_less : FnScope ["self", "one", "other"] ["self", "one", "other"] (defScope s_FractionField_less) := ⟨rfl, rfl, rfl, by decide +kernel, rfl, by decide +kernel, by decide +kernel⟩
abbrev s_FractionField_times : Stmt := inClass (topS 34) 6
theorem sc_FractionField_times : FnScope ["self", "one", "other"] ["self", "one", "other"] (defScope s_FractionField_times) := ⟨rfl, rfl, rfl, by decide +kernel, rfl, by decide +kernel, by decide +kernel⟩
abbrev s_FractionField_quotient : Stmt := inClass (topS 34) 7
theorem sc_FractionField_quotient : FnScope ["self", "one", "other"] ["self", "one", "other"] (defScope s_FractionField_quotient) := ⟨rfl, rfl, rfl, by decide +kernel, rfl, by decide +kernel, by decide +kernel⟩
abbrev s_FractionField_power : Stmt := inClass (topS 34) 8
theorem sc_FractionField_power : FnScope ["self", "number", "exponent", "top", "bottom"] ["self", "number", "exponent"] (defScope s_FractionField_power) := ⟨rfl, rfl, rfl, by decide +kernel, rfl, by decide +kernel, by decide +kernel⟩
abbrev s_law_start : Stmt := topS 36
theorem sc_law_start : FnScope ["_law_script", "_law_total", "_law_great", "_law_cell"] ["_law_script"] (defScope s_law_start) := ⟨rfl, rfl, rfl, by decide +kernel, rfl, by decide +kernel, by decide +kernel⟩
abbrev s_law_draw : Stmt := topS 37
theorem sc_law_draw : FnScope ["_law_state", "_law_many", "_law_great", "_law_cell", "_law_mixed"] ["_law_state", "_law_many"] (defScope s_law_draw) := ⟨rfl, rfl, rfl, by decide +kernel, rfl, by decide +kernel, by decide +kernel⟩
abbrev s_law_whole : Stmt := topS 38
theorem sc_law_whole : FnScope ["_law_thing"] ["_law_thing"] (defScope s_law_whole) := ⟨rfl, rfl, rfl, by decide +kernel, rfl, by decide +kernel, by decide +kernel⟩
abbrev s_law_gcd : Stmt := topS 39
theorem sc_law_gcd : FnScope ["_law_one", "_law_other", "_law_rest"] ["_law_one", "_law_other"] (defScope s_law_gcd) := ⟨rfl, rfl, rfl, by decide +kernel, rfl, by decide +kernel, by decide +kernel⟩
abbrev s_law_low : Stmt := topS 40
theorem sc_law_low : FnScope ["_law_top", "_law_bottom", "_law_part"] ["_law_top", "_law_bottom"] (defScope s_law_low) := ⟨rfl, rfl, rfl, by decide +kernel, rfl, by decide +kernel, by decide +kernel⟩
abbrev s_law_some : Stmt := topS 41
theorem sc_law_some : FnScope ["_law_p", "_law_number_here"] ["_law_p", "_law_number_here"] (defScope s_law_some) := ⟨rfl, rfl, rfl, by decide +kernel, rfl, by decide +kernel, by decide +kernel⟩
abbrev s_law_plus : Stmt := topS 42
theorem sc_law_plus : FnScope ["_law_p", "_law_one", "_law_other"] ["_law_p", "_law_one", "_law_other"] (defScope s_law_plus) := ⟨rfl, rfl, rfl, by decide +kernel, rfl, by decide +kernel, by decide +kernel⟩
abbrev s_law_times : Stmt := topS 43
theorem sc_law_times : FnScope ["_law_p", "_law_one", "_law_other"] ["_law_p", "_law_one", "_law_other"] (defScope s_law_times) := ⟨rfl, rfl, rfl, by decide +kernel, rfl, by decide +kernel, by decide +kernel⟩
abbrev s_law_minus : Stmt := topS 44
theorem sc_law_minus : FnScope ["_law_p", "_law_one"] ["_law_p", "_law_one"] (defScope s_law_minus) := ⟨rfl, rfl, rfl, by decide +kernel, rfl, by decide +kernel, by decide +kernel⟩
abbrev s_law_over : Stmt := topS 45
theorem sc_law_over : FnScope ["_law_p", "_law_one", "_law_other", "_law_out", "_law_base", "_law_left"] ["_law_p", "_law_one", "_law_other"] (defScope s_law_over) := ⟨rfl, rfl, rfl, by decide +kernel, rfl, by decide +kernel, by decide +kernel⟩
abbrev s_law_nought : Stmt := topS 46
theorem sc_law_nought : FnScope ["_law_p", "_law_thing"] ["_law_p", "_law_thing"] (defScope s_law_nought) := ⟨rfl, rfl, rfl, by decide +kernel, rfl, by decide +kernel, by decide +kernel⟩
abbrev s_law_good : Stmt := topS 47
theorem sc_law_good : FnScope ["_law_p", "_law_thing"] ["_law_p", "_law_thing"] (defScope s_law_good) := ⟨rfl, rfl, rfl, by decide +kernel, rfl, by decide +kernel, by decide +kernel⟩
abbrev s_law_good_row : Stmt := topS 48
theorem sc_law_good_row : FnScope ["_law_p", "_law_row", "_law_width", "_law_item"] ["_law_p", "_law_row", "_law_width"] (defScope s_law_good_row) := ⟨rfl, rfl, rfl, by decide +kernel, rfl, by decide +kernel, by decide +kernel⟩
abbrev s_law_good_rows : Stmt := topS 49
theorem sc_law_good_rows : FnScope ["_law_p", "_law_rows_here", "_law_many", "_law_width", "_law_row"] ["_law_p", "_law_rows_here", "_law_many", "_law_width"] (defScope s_law_good_rows) := ⟨rfl, rfl, rfl, by decide +kernel, rfl, by decide +kernel, by decide +kernel⟩
abbrev s_law_sum : Stmt := topS 50
theorem sc_law_sum : FnScope ["_law_p", "_law_weights", "_law_rows_here", "_law_width", "_law_k", "_law_total", "_law_i"] ["_law_p", "_law_weights", "_law_rows_here", "_law_width"] (defScope s_law_sum) := ⟨rfl, rfl, rfl, by decide +kernel, rfl, by decide +kernel, by decide +kernel⟩
abbrev s_law_rank : Stmt := topS 51
theorem sc_law_rank : FnScope ["_law_p", "_law_rows_here", "_law_row", "_law_left", "_law_rank_here", "_law_width", "_law_place", "_law_at", "_law_lead", "_law_k", "_law_factor", "_law_i"] ["_law_p", "_law_rows_here"] (defScope s_law_rank) := ⟨rfl, rfl, rfl, by decide +kernel, rfl, by decide +kernel, by decide +kernel⟩
abbrev s_law_prime : Stmt := topS 52
theorem sc_law_prime : FnScope ["_law_state"] ["_law_state"] (defScope s_law_prime) := ⟨rfl, rfl, rfl, by decide +kernel, rfl, by decide +kernel, by decide +kernel⟩
abbrev s_law_field : Stmt := topS 53
theorem sc_law_field : FnScope ["_law_p"] ["_law_p"] (defScope s_law_field) := ⟨rfl, rfl, rfl, by decide +kernel, rfl, by decide +kernel, by decide +kernel⟩
abbrev s_law_tiny : Stmt := topS 54
theorem sc_law_tiny : FnScope ["_law_state", "_law_p"] ["_law_state", "_law_p"] (defScope s_law_tiny) := ⟨rfl, rfl, rfl, by decide +kernel, rfl, by decide +kernel, by decide +kernel⟩
abbrev s_law_number : Stmt := topS 55
theorem sc_law_number : FnScope ["_law_state", "_law_p", "_law_top"] ["_law_state", "_law_p"] (defScope s_law_number) := ⟨rfl, rfl, rfl, by decide +kernel, rfl, by decide +kernel, by decide +kernel⟩
abbrev s_law_rows : Stmt := topS 56
theorem sc_law_rows : FnScope ["_law_state", "_law_p", "_law_many", "_law_width", "_law_told", "_law_k", "_law_kind", "_law_weights", "_law_picked", "_law_i"] ["_law_state", "_law_p", "_law_many", "_law_width"] (defScope s_law_rows) := ⟨rfl, rfl, rfl, by decide +kernel, rfl, by decide +kernel, by decide +kernel⟩
abbrev s_law_right_weights : Stmt := topS 57
theorem sc_law_right_weights : FnScope ["_law_p", "_law_field_here", "_law_rows_here", "_law_row", "_law_due", "_law_told"] ["_law_p", "_law_field_here", "_law_rows_here", "_law_row", "_law_due"] (defScope s_law_right_weights) := ⟨rfl, rfl, rfl, by decide +kernel, rfl, by decide +kernel, by decide +kernel⟩
abbrev s_law_undone : Stmt := topS 58
theorem sc_law_undone : FnScope ["_law_p", "_law_field_here", "_law_rows_here", "_law_size", "_law_told", "e", "_law_i", "_law_units", "_law_row", "_law_k"] ["_law_p", "_law_field_here", "_law_rows_here"] (defScope s_law_undone) := ⟨rfl, rfl, rfl, by decide +kernel, rfl, by decide +kernel, by decide +kernel⟩
abbrev s_law : Stmt := topS 59
theorem sc_law : FnScope ["_law_script", "_law_state", "_law_p", "_law_field_here", "_law_width", "_law_rows_here", "_law_listed", "_law_handed", "_law_kept", "_law_rank_here", "_law_told", "_law_told_free", "_law_row", "_law_asked", "_law_inside", "_law_due", "_law_left", "_law_product", "_law_told_product", "_law_size", "_law_item", "_law_i", "_law_k"] ["_law_script"] (defScope s_law) := ⟨rfl, rfl, rfl, by decide +kernel, rfl, by decide +kernel, by decide +kernel⟩
/-! what the top leaves -/
structure Txt (K : PySem.W.Frag) (mg : Str → Option Value) where
  f_beside : Addr
  d_beside : FuncData
  F_beside : Fun K "beside" "beside" s_beside f_beside d_beside
  b_beside : Binds K d_beside ["rows", "others"] []
  g_beside : mg "beside" = some (.ref f_beside)
  f_columns_of : Addr
  d_columns_of : FuncData
  F_columns_of : Fun K "columns_of" "columns_of" s_columns_of f_columns_of d_columns_of
  b_columns_of : Binds K d_columns_of ["width", "rows"] []
  g_columns_of : mg "columns_of" = some (.ref f_columns_of)
  f_as_tuples : Addr
  d_as_tuples : FuncData
  F_as_tuples : Fun K "as_tuples" "as_tuples" s_as_tuples f_as_tuples d_as_tuples
  b_as_tuples : Binds K d_as_tuples ["rows"] []
  g_as_tuples : mg "as_tuples" = some (.ref f_as_tuples)
  f_product_sum : Addr
  d_product_sum : FuncData
  F_product_sum : Fun K "product_sum" "product_sum" s_product_sum f_product_sum d_product_sum
  b_product_sum : Binds K d_product_sum ["field", "one", "other"] []
  g_product_sum : mg "product_sum" = some (.ref f_product_sum)
  f_unit_row : Addr
  d_unit_row : FuncData
  F_unit_row : Fun K "unit_row" "unit_row" s_unit_row f_unit_row d_unit_row
  b_unit_row : Binds K d_unit_row ["field", "length", "place"] []
  g_unit_row : mg "unit_row" = some (.ref f_unit_row)
  f_columns_as_rows : Addr
  d_columns_as_rows : FuncData
  F_columns_as_rows : Fun K "columns_as_rows" "columns_as_rows" s_columns_as_rows f_columns_as_rows d_columns_as_rows
  b_columns_as_rows : Binds K d_columns_as_rows ["rows"] []
  g_columns_as_rows : mg "columns_as_rows" = some (.ref f_columns_as_rows)
  f_rows_product : Addr
  d_rows_product : FuncData
  F_rows_product : Fun K "rows_product" "rows_product" s_rows_product f_rows_product d_rows_product
  b_rows_product : Binds K d_rows_product ["field", "rows", "others"] []
  g_rows_product : mg "rows_product" = some (.ref f_rows_product)
  f_row_less : Addr
  d_row_less : FuncData
  F_row_less : Fun K "_row_less" "_row_less" s_row_less f_row_less d_row_less
  b_row_less : Binds K d_row_less ["field", "row", "factor", "lead"] []
  g_row_less : mg "_row_less" = some (.ref f_row_less)
  f_place_of_lead : Addr
  d_place_of_lead : FuncData
  F_place_of_lead : Fun K "_place_of_lead" "_place_of_lead" s_place_of_lead f_place_of_lead d_place_of_lead
  b_place_of_lead : Binds K d_place_of_lead ["field", "rows", "first", "place"] []
  g_place_of_lead : mg "_place_of_lead" = some (.ref f_place_of_lead)
  f_reduced_rows : Addr
  d_reduced_rows : FuncData
  F_reduced_rows : Fun K "reduced_rows" "reduced_rows" s_reduced_rows f_reduced_rows d_reduced_rows
  b_reduced_rows : Binds K d_reduced_rows ["field", "rows", "width"] []
  g_reduced_rows : mg "reduced_rows" = some (.ref f_reduced_rows)
  f_rank_of_rows : Addr
  d_rank_of_rows : FuncData
  F_rank_of_rows : Fun K "rank_of_rows" "rank_of_rows" s_rank_of_rows f_rank_of_rows d_rank_of_rows
  b_rank_of_rows : Binds K d_rank_of_rows ["field", "rows"] []
  g_rank_of_rows : mg "rank_of_rows" = some (.ref f_rank_of_rows)
  f_rows_unbound : Addr
  d_rows_unbound : FuncData
  F_rows_unbound : Fun K "rows_unbound" "rows_unbound" s_rows_unbound f_rows_unbound d_rows_unbound
  b_rows_unbound : Binds K d_rows_unbound ["field", "rows"] []
  g_rows_unbound : mg "rows_unbound" = some (.ref f_rows_unbound)
  f_equations_for : Addr
  d_equations_for : FuncData
  F_equations_for : Fun K "equations_for" "equations_for" s_equations_for f_equations_for d_equations_for
  b_equations_for : Binds K d_equations_for ["field", "rows", "row"] []
  g_equations_for : mg "equations_for" = some (.ref f_equations_for)
  f_weights_for : Addr
  d_weights_for : FuncData
  F_weights_for : Fun K "weights_for" "weights_for" s_weights_for f_weights_for d_weights_for
  b_weights_for : Binds K d_weights_for ["field", "rows", "row"] []
  g_weights_for : mg "weights_for" = some (.ref f_weights_for)
  f_undoing_rows : Addr
  d_undoing_rows : FuncData
  F_undoing_rows : Fun K "undoing_rows" "undoing_rows" s_undoing_rows f_undoing_rows d_undoing_rows
  b_undoing_rows : Binds K d_undoing_rows ["field", "rows"] []
  g_undoing_rows : mg "undoing_rows" = some (.ref f_undoing_rows)
  f_is_whole : Addr
  d_is_whole : FuncData
  F_is_whole : FunD K "is_whole" "is_whole" (defArgs s_is_whole) (defBody s_is_whole) (defScope s_is_whole) [.non, .non] [] f_is_whole d_is_whole
  b_is_whole : Binds K d_is_whole ["thing", "low", "high"] []
  g_is_whole : mg "is_whole" = some (.ref f_is_whole)
  f_common_divisor : Addr
  d_common_divisor : FuncData
  F_common_divisor : Fun K "common_divisor" "common_divisor" s_common_divisor f_common_divisor d_common_divisor
  b_common_divisor : Binds K d_common_divisor ["one", "other"] []
  g_common_divisor : mg "common_divisor" = some (.ref f_common_divisor)
  f_power_of : Addr
  d_power_of : FuncData
  F_power_of : Fun K "power_of" "power_of" s_power_of f_power_of d_power_of
  b_power_of : Binds K d_power_of ["base", "exponent"] []
  g_power_of : mg "power_of" = some (.ref f_power_of)
  f_least_factor : Addr
  d_least_factor : FuncData
  F_least_factor : Fun K "least_factor" "least_factor" s_least_factor f_least_factor d_least_factor
  b_least_factor : Binds K d_least_factor ["number"] []
  g_least_factor : mg "least_factor" = some (.ref f_least_factor)
  f_is_prime : Addr
  d_is_prime : FuncData
  F_is_prime : Fun K "is_prime" "is_prime" s_is_prime f_is_prime d_is_prime
  b_is_prime : Binds K d_is_prime ["number"] []
  g_is_prime : mg "is_prime" = some (.ref f_is_prime)
  f_RestField_init : Addr
  d_RestField_init : FuncData
  F_RestField_init : Fun K "__init__" "RestField.__init__" s_RestField_init f_RestField_init d_RestField_init
  b_RestField_init : Binds K d_RestField_init ["self", "prime"] []
  f_RestField_eq : Addr
  d_RestField_eq : FuncData
  F_RestField_eq : Fun K "__eq__" "RestField.__eq__" s_RestField_eq f_RestField_eq d_RestField_eq
  b_RestField_eq : Binds K d_RestField_eq ["self", "other"] []
  f_RestField_plus : Addr
  d_RestField_plus : FuncData
  F_RestField_plus : Fun K "plus" "RestField.plus" s_RestField_plus f_RestField_plus d_RestField_plus
  b_RestField_plus : Binds K d_RestField_plus ["self", "one", "other"] []
  f_RestField_less : Addr
  d_RestField_less : FuncData
  F_RestField_less : Fun K "less" "RestField.less" s_RestField_less f_RestField_less d_RestField_less
  b_RestField_less : Binds K d_RestField_less ["self", "one", "other"] []
  f_RestField_times : Addr
  d_RestField_times : FuncData
  F_RestField_times : Fun K "times" "RestField.times" s_RestField_times f_RestField_times d_RestField_times
  b_RestField_times : Binds K d_RestField_times ["self", "one", "other"] []
  f_RestField_quotient : Addr
  d_RestField_quotient : FuncData
  F_RestField_quotient : Fun K "quotient" "RestField.quotient" s_RestField_quotient f_RestField_quotient d_RestField_quotient
  b_RestField_quotient : Binds K d_RestField_quotient ["self", "one", "other"] []
  f_RestField_power : Addr
  d_RestField_power : FuncData
  F_RestField_power : Fun K "power" "RestField.power" s_RestField_power f_RestField_power d_RestField_power
  b_RestField_power : Binds K d_RestField_power ["self", "number", "exponent"] []
  f_fraction : Addr
  d_fraction : FuncData
  F_fraction : Fun K "_fraction" "_fraction" s_fraction f_fraction d_fraction
  b_fraction : Binds K d_fraction ["top", "bottom"] []
  g_fraction : mg "_fraction" = some (.ref f_fraction)
  f_FractionField_init : Addr
  d_FractionField_init : FuncData
  F_FractionField_init : Fun K "__init__" "FractionField.__init__" s_FractionField_init f_FractionField_init d_FractionField_init
  b_FractionField_init : Binds K d_FractionField_init ["self"] []
  f_FractionField_eq : Addr
  d_FractionField_eq : FuncData
  F_FractionField_eq : Fun K "__eq__" "FractionField.__eq__" s_FractionField_eq f_FractionField_eq d_FractionField_eq
  b_FractionField_eq : Binds K d_FractionField_eq ["self", "other"] []
  f_FractionField_plus : Addr
  d_FractionField_plus : FuncData
  F_FractionField_plus : Fun K "plus" "FractionField.plus" s_FractionField_plus f_FractionField_plus d_FractionField_plus
  b_FractionField_plus : Binds K d_FractionField_plus ["self", "one", "other"] []
  f_FractionField_less : Addr
  d_FractionField_less : FuncData
  F_FractionField_less : Fun K "less" "FractionField.less" s_FractionField_less f_FractionField_less d_FractionField_less
  b_FractionField_less : Binds K d_FractionField_less ["self", "one", "other"] []
  f_FractionField_times : Addr
  d_FractionField_times : FuncData
  F_FractionField_times : Fun K "times" "FractionField.times" s_FractionField_times f_FractionField_times d_FractionField_times
  b_FractionField_times : Binds K d_FractionField_times ["self", "one", "other"] []
  f_FractionField_quotient : Addr
  d_FractionField_quotient : FuncData
  F_FractionField_quotient : Fun K "quotient" "FractionField.quotient" s_FractionField_quotient f_FractionField_quotient d_FractionField_quotient
  b_FractionField_quotient : Binds K d_FractionField_quotient ["self", "one", "other"] []
  f_FractionField_power : Addr
  d_FractionField_power : FuncData
  F_FractionField_power : Fun K "power" "FractionField.power" s_FractionField_power f_FractionField_power d_FractionField_power
  b_FractionField_power : Binds K d_FractionField_power ["self", "number", "exponent"] []
  f_law_start : Addr
  d_law_start : FuncData
  F_law_start : Fun K "_law_start" "_law_start" s_law_start f_law_start d_law_start
  b_law_start : Binds K d_law_start ["_law_script"] []
  g_law_start : mg "_law_start" = some (.ref f_law_start)
  f_law_draw : Addr
  d_law_draw : FuncData
  F_law_draw : Fun K "_law_draw" "_law_draw" s_law_draw f_law_draw d_law_draw
  b_law_draw : Binds K d_law_draw ["_law_state", "_law_many"] []
  g_law_draw : mg "_law_draw" = some (.ref f_law_draw)
  f_law_whole : Addr
  d_law_whole : FuncData
  F_law_whole : Fun K "_law_whole" "_law_whole" s_law_whole f_law_whole d_law_whole
  b_law_whole : Binds K d_law_whole ["_law_thing"] []
  g_law_whole : mg "_law_whole" = some (.ref f_law_whole)
  f_law_gcd : Addr
  d_law_gcd : FuncData
  F_law_gcd : Fun K "_law_gcd" "_law_gcd" s_law_gcd f_law_gcd d_law_gcd
  b_law_gcd : Binds K d_law_gcd ["_law_one", "_law_other"] []
  g_law_gcd : mg "_law_gcd" = some (.ref f_law_gcd)
  f_law_low : Addr
  d_law_low : FuncData
  F_law_low : Fun K "_law_low" "_law_low" s_law_low f_law_low d_law_low
  b_law_low : Binds K d_law_low ["_law_top", "_law_bottom"] []
  g_law_low : mg "_law_low" = some (.ref f_law_low)
  f_law_some : Addr
  d_law_some : FuncData
  F_law_some : Fun K "_law_some" "_law_some" s_law_some f_law_some d_law_some
  b_law_some : Binds K d_law_some ["_law_p", "_law_number_here"] []
  g_law_some : mg "_law_some" = some (.ref f_law_some)
  f_law_plus : Addr
  d_law_plus : FuncData
  F_law_plus : Fun K "_law_plus" "_law_plus" s_law_plus f_law_plus d_law_plus
  b_law_plus : Binds K d_law_plus ["_law_p", "_law_one", "_law_other"] []
  g_law_plus : mg "_law_plus" = some (.ref f_law_plus)
  f_law_times : Addr
  d_law_times : FuncData
  F_law_times : Fun K "_law_times" "_law_times" s_law_times f_law_times d_law_times
  b_law_times : Binds K d_law_times ["_law_p", "_law_one", "_law_other"] []
  g_law_times : mg "_law_times" = some (.ref f_law_times)
  f_law_minus : Addr
  d_law_minus : FuncData
  F_law_minus : Fun K "_law_minus" "_law_minus" s_law_minus f_law_minus d_law_minus
  b_law_minus : Binds K d_law_minus ["_law_p", "_law_one"] []
  g_law_minus : mg "_law_minus" = some (.ref f_law_minus)
  f_law_over : Addr
  d_law_over : FuncData
  F_law_over : Fun K "_law_over" "_law_over" s_law_over f_law_over d_law_over
  b_law_over : Binds K d_law_over ["_law_p", "_law_one", "_law_other"] []
  g_law_over : mg "_law_over" = some (.ref f_law_over)
  f_law_nought : Addr
  d_law_nought : FuncData
  F_law_nought : Fun K "_law_nought" "_law_nought" s_law_nought f_law_nought d_law_nought
  b_law_nought : Binds K d_law_nought ["_law_p", "_law_thing"] []
  g_law_nought : mg "_law_nought" = some (.ref f_law_nought)
  f_law_good : Addr
  d_law_good : FuncData
  F_law_good : Fun K "_law_good" "_law_good" s_law_good f_law_good d_law_good
  b_law_good : Binds K d_law_good ["_law_p", "_law_thing"] []
  g_law_good : mg "_law_good" = some (.ref f_law_good)
  f_law_good_row : Addr
  d_law_good_row : FuncData
  F_law_good_row : Fun K "_law_good_row" "_law_good_row" s_law_good_row f_law_good_row d_law_good_row
  b_law_good_row : Binds K d_law_good_row ["_law_p", "_law_row", "_law_width"] []
  g_law_good_row : mg "_law_good_row" = some (.ref f_law_good_row)
  f_law_good_rows : Addr
  d_law_good_rows : FuncData
  F_law_good_rows : Fun K "_law_good_rows" "_law_good_rows" s_law_good_rows f_law_good_rows d_law_good_rows
  b_law_good_rows : Binds K d_law_good_rows ["_law_p", "_law_rows_here", "_law_many", "_law_width"] []
  g_law_good_rows : mg "_law_good_rows" = some (.ref f_law_good_rows)
  f_law_sum : Addr
  d_law_sum : FuncData
  F_law_sum : Fun K "_law_sum" "_law_sum" s_law_sum f_law_sum d_law_sum
  b_law_sum : Binds K d_law_sum ["_law_p", "_law_weights", "_law_rows_here", "_law_width"] []
  g_law_sum : mg "_law_sum" = some (.ref f_law_sum)
  f_law_rank : Addr
  d_law_rank : FuncData
  F_law_rank : Fun K "_law_rank" "_law_rank" s_law_rank f_law_rank d_law_rank
  b_law_rank : Binds K d_law_rank ["_law_p", "_law_rows_here"] []
  g_law_rank : mg "_law_rank" = some (.ref f_law_rank)
  f_law_prime : Addr
  d_law_prime : FuncData
  F_law_prime : Fun K "_law_prime" "_law_prime" s_law_prime f_law_prime d_law_prime
  b_law_prime : Binds K d_law_prime ["_law_state"] []
  g_law_prime : mg "_law_prime" = some (.ref f_law_prime)
  f_law_field : Addr
  d_law_field : FuncData
  F_law_field : Fun K "_law_field" "_law_field" s_law_field f_law_field d_law_field
  b_law_field : Binds K d_law_field ["_law_p"] []
  g_law_field : mg "_law_field" = some (.ref f_law_field)
  f_law_tiny : Addr
  d_law_tiny : FuncData
  F_law_tiny : Fun K "_law_tiny" "_law_tiny" s_law_tiny f_law_tiny d_law_tiny
  b_law_tiny : Binds K d_law_tiny ["_law_state", "_law_p"] []
  g_law_tiny : mg "_law_tiny" = some (.ref f_law_tiny)
  f_law_number : Addr
  d_law_number : FuncData
  F_law_number : Fun K "_law_number" "_law_number" s_law_number f_law_number d_law_number
  b_law_number : Binds K d_law_number ["_law_state", "_law_p"] []
  g_law_number : mg "_law_number" = some (.ref f_law_number)
  f_law_rows : Addr
  d_law_rows : FuncData
  F_law_rows : Fun K "_law_rows" "_law_rows" s_law_rows f_law_rows d_law_rows
  b_law_rows : Binds K d_law_rows ["_law_state", "_law_p", "_law_many", "_law_width"] []
  g_law_rows : mg "_law_rows" = some (.ref f_law_rows)
  f_law_right_weights : Addr
  d_law_right_weights : FuncData
  F_law_right_weights : Fun K "_law_right_weights" "_law_right_weights" s_law_right_weights f_law_right_weights d_law_right_weights
  b_law_right_weights : Binds K d_law_right_weights ["_law_p", "_law_field_here", "_law_rows_here", "_law_row", "_law_due"] []
  g_law_right_weights : mg "_law_right_weights" = some (.ref f_law_right_weights)
  f_law_undone : Addr
  d_law_undone : FuncData
  F_law_undone : Fun K "_law_undone" "_law_undone" s_law_undone f_law_undone d_law_undone
  b_law_undone : Binds K d_law_undone ["_law_p", "_law_field_here", "_law_rows_here"] []
  g_law_undone : mg "_law_undone" = some (.ref f_law_undone)
  f_law : Addr
  d_law : FuncData
  F_law : Fun K "law" "law" s_law f_law d_law
  m_ValueError : mg "ValueError" = none
  m_abs : mg "abs" = none
  m_any : mg "any" = none
  m_bool : mg "bool" = none
  m_enumerate : mg "enumerate" = none
  m_int : mg "int" = none
  m_isinstance : mg "isinstance" = none
  m_len : mg "len" = none
  m_list : mg "list" = none
  m_range : mg "range" = none
  m_repr : mg "repr" = none
  m_tuple : mg "tuple" = none
  m_zip : mg "zip" = none
  x_gcd : mg "gcd" = some (.builtin "math.gcd")
  tk_MOST_PRIME : Tok
  c_MOST_PRIME : mg "MOST_PRIME" = some (.int 20000 tk_MOST_PRIME)
  C_SheetError : Addr
  g_SheetError : mg "SheetError" = some (.ref C_SheetError)
  C_BadPrime : Addr
  g_BadPrime : mg "BadPrime" = some (.ref C_BadPrime)
  x_BadPrime : XfC K C_BadPrime
  e_BadPrime : ExcC K C_BadPrime
  q_BadPrime : PySem.W.excIn K C_BadPrime [Value.type "ValueError", Value.type "Exception", Value.type "BaseException", Value.type "object"] "ValueError.__new__" = true
  k_BadPrime : PySem.W.keepIn K (.ref C_BadPrime) = true
  b_BadPrime : PySem.W.subIn K (.ref C_BadPrime) (.type "BaseException") = some true
  ty_BadPrime : PySem.W.typeIn K (.ref C_BadPrime) = some (.type "type")
  C_ByZero : Addr
  g_ByZero : mg "ByZero" = some (.ref C_ByZero)
  x_ByZero : XfC K C_ByZero
  e_ByZero : ExcC K C_ByZero
  q_ByZero : PySem.W.excIn K C_ByZero [Value.type "ValueError", Value.type "Exception", Value.type "BaseException", Value.type "object"] "ValueError.__new__" = true
  k_ByZero : PySem.W.keepIn K (.ref C_ByZero) = true
  b_ByZero : PySem.W.subIn K (.ref C_ByZero) (.type "BaseException") = some true
  ty_ByZero : PySem.W.typeIn K (.ref C_ByZero) = some (.type "type")
  C_NotInvertible : Addr
  g_NotInvertible : mg "NotInvertible" = some (.ref C_NotInvertible)
  x_NotInvertible : XfC K C_NotInvertible
  e_NotInvertible : ExcC K C_NotInvertible
  q_NotInvertible : PySem.W.excIn K C_NotInvertible [Value.type "ValueError", Value.type "Exception", Value.type "BaseException", Value.type "object"] "ValueError.__new__" = true
  k_NotInvertible : PySem.W.keepIn K (.ref C_NotInvertible) = true
  b_NotInvertible : PySem.W.subIn K (.ref C_NotInvertible) (.type "BaseException") = some true
  ty_NotInvertible : PySem.W.typeIn K (.ref C_NotInvertible) = some (.type "type")
  mm_BadPrime_SheetError : PySem.W.exmOne K (.ref C_BadPrime) (.ref C_SheetError) = some true
  mm_ByZero_SheetError : PySem.W.exmOne K (.ref C_ByZero) (.ref C_SheetError) = some true
  mm_NotInvertible_SheetError : PySem.W.exmOne K (.ref C_NotInvertible) (.ref C_SheetError) = some true
  kit_SheetError_NotInvertible : PySem.W.kitOne K (.ref C_SheetError) (.ref C_NotInvertible) = some false
  C_RestField : Addr
  g_RestField : mg "RestField" = some (.ref C_RestField)
  cl_RestField : Cls K C_RestField
  M_RestField : Mk K C_RestField f_RestField_init
  na_RestField_prime : NoAttr K C_RestField "prime"
  na_RestField_zero : NoAttr K C_RestField "zero"
  na_RestField_one : NoAttr K C_RestField "one"
  na_RestField_minus_one : NoAttr K C_RestField "minus_one"
  RestField_eq_at : PySem.W.findIn K (.ref C_RestField) "__eq__" = some (some (.ref f_RestField_eq))
  RestField_eq_fn : PySem.W.isFn K (.ref f_RestField_eq) = true
  M_RestField_plus : Meth K C_RestField "plus" f_RestField_plus
  M_RestField_less : Meth K C_RestField "less" f_RestField_less
  M_RestField_times : Meth K C_RestField "times" f_RestField_times
  M_RestField_quotient : Meth K C_RestField "quotient" f_RestField_quotient
  M_RestField_power : Meth K C_RestField "power" f_RestField_power
  RestField_k_class : PySem.W.findIn K (.ref C_RestField) "__class__" = some (some (.builtin "object.__class__"))
  RestField_k_get : PySem.W.specialIn K (.builtin "object.__class__") "__get__" = some (some (.builtin "getset_descriptor.__get__"))
  RestField_k_takes : PySem.W.takesIn K (.builtin "object.__class__") = some true
  RestField_k_mro : PySem.W.mroIn K C_RestField (.type "object") = some true
  RestField_k_isp : PySem.W.kitOne K (.ref C_RestField) (.ref C_RestField) = some true
  C_FractionField : Addr
  g_FractionField : mg "FractionField" = some (.ref C_FractionField)
  cl_FractionField : Cls K C_FractionField
  M_FractionField : Mk K C_FractionField f_FractionField_init
  na_FractionField_zero : NoAttr K C_FractionField "zero"
  na_FractionField_one : NoAttr K C_FractionField "one"
  na_FractionField_minus_one : NoAttr K C_FractionField "minus_one"
  FractionField_eq_at : PySem.W.findIn K (.ref C_FractionField) "__eq__" = some (some (.ref f_FractionField_eq))
  FractionField_eq_fn : PySem.W.isFn K (.ref f_FractionField_eq) = true
  M_FractionField_plus : Meth K C_FractionField "plus" f_FractionField_plus
  M_FractionField_less : Meth K C_FractionField "less" f_FractionField_less
  M_FractionField_times : Meth K C_FractionField "times" f_FractionField_times
  M_FractionField_quotient : Meth K C_FractionField "quotient" f_FractionField_quotient
  M_FractionField_power : Meth K C_FractionField "power" f_FractionField_power
  FractionField_k_class : PySem.W.findIn K (.ref C_FractionField) "__class__" = some (some (.builtin "object.__class__"))
  FractionField_k_get : PySem.W.specialIn K (.builtin "object.__class__") "__get__" = some (some (.builtin "getset_descriptor.__get__"))
  FractionField_k_takes : PySem.W.takesIn K (.builtin "object.__class__") = some true
  FractionField_k_mro : PySem.W.mroIn K C_FractionField (.type "object") = some true
  FractionField_k_isp : PySem.W.kitOne K (.ref C_FractionField) (.ref C_FractionField) = some true
  kit_RestField_FractionField : PySem.W.kitOne K (.ref C_RestField) (.ref C_FractionField) = some false
  kit_FractionField_RestField : PySem.W.kitOne K (.ref C_FractionField) (.ref C_RestField) = some false
def Raised (C : Addr) (f : Str) (v : V) (H : Hp) (E : XK) : Prop := ∀ d H', Same H H' → H d = none → H' d = some (.xd [(f, v)]) → E (.ref C) (some d) H'
/-- the promise of an error's __init__ that stores its one argument -/
def sp_exc (C : Addr) (f : Str) : Sp := fun vs H Q _ => ∃ (a : Addr) (v : V), vs = [.ref a, v] ∧ H a = some (exo a C none) ∧ ∀ dx, H dx = none → dx ≠ a → Q .non (upd (upd H dx (exd dx [(f, v)])) a (exo a C (some dx)))
theorem mk_exc {C : Addr} {f : Str} {w : V} {H : Hp} {Q : XK} (h : ∀ d H', Same H H' → H d = none → H' d = some (.xd [(f, w)]) → Q (.ref C) (some d) H') :
    [w].length ≤ 1000 ∧ ∀ a, H a = none → sp_exc C f (.ref a :: ([w] ++ [])) (upd H a (exo a C none))
      (fun v H2 => v = .non ∧ ∃ (d : Addr) (fs : List (Str × V)), H2 a = some (exo a C (some d)) ∧ H2 d = some (exd d fs) ∧ H d = none ∧ Q (.ref C) (some d) (upd (del H2 a) d (.xd fs))) (fun _ _ _ => False) := by
  refine ⟨by simp, fun a na => ⟨a, w, rfl, upd_same, fun dx nd ne => ⟨rfl, dx, _, upd_same, by rw [upd_ne ne, upd_same], ?_, ?_⟩⟩⟩
  · rw [upd_ne ne] at nd
    exact nd
  · rw [upd_ne ne] at nd
    refine h dx _ (fun b o e => ?_) nd upd_same
    have hb : b ≠ dx := ne_of_none e nd
    have hb2 : b ≠ a := ne_of_none e na
    rw [upd_ne hb, del_ne hb2, upd_ne hb2, upd_ne hb, upd_ne hb2]
    exact e
def sp_exc2 (C : Addr) (f g : Str) : Sp := fun vs H Q _ => ∃ (a : Addr) (v u : V), vs = [.ref a, v, u] ∧ H a = some (exo a C none) ∧ ∀ dx, H dx = none → dx ≠ a → Q .non (upd (upd H dx (exd dx [(g, u), (f, v)])) a (exo a C (some dx)))
/-- an error with its two attributes -/
def Raised2 (C : Addr) (f : Str) (v : V) (g : Str) (u : V) (H : Hp) (E : XK) : Prop := ∀ d H', Same H H' → H d = none → H' d = some (.xd [(g, u), (f, v)]) → E (.ref C) (some d) H'
theorem mk_exc2 {C : Addr} {f g : Str} {w u : V} {H : Hp} {Q : XK} (h : ∀ d H', Same H H' → H d = none → H' d = some (.xd [(g, u), (f, w)]) → Q (.ref C) (some d) H') :
    [w, u].length ≤ 1000 ∧ ∀ a, H a = none → sp_exc2 C f g (.ref a :: ([w, u] ++ [])) (upd H a (exo a C none))
      (fun v H2 => v = .non ∧ ∃ (d : Addr) (fs : List (Str × V)), H2 a = some (exo a C (some d)) ∧ H2 d = some (exd d fs) ∧ H d = none ∧ Q (.ref C) (some d) (upd (del H2 a) d (.xd fs))) (fun _ _ _ => False) := by
  refine ⟨by simp, fun a na => ⟨a, w, u, rfl, upd_same, fun dx nd ne => ⟨rfl, dx, _, upd_same, by rw [upd_ne ne, upd_same], ?_, ?_⟩⟩⟩
  · rw [upd_ne ne] at nd
    exact nd
  · rw [upd_ne ne] at nd
    refine h dx _ (fun b o e => ?_) nd upd_same
    have hb : b ≠ dx := ne_of_none e nd
    have hb2 : b ≠ a := ne_of_none e na
    rw [upd_ne hb, del_ne hb2, upd_ne hb2, upd_ne hb, upd_ne hb2]
    exact e
section
variable {P : Program} {w : World} {K : PySem.W.Frag} {mg : Str → Option Value} {base : Heap}
end
end K26
set_option Elab.async false
set_option linter.all false
set_option maxRecDepth 100000
set_option maxHeartbeats 4000000
set_option exponentiation.threshold 5000
namespace K26
open PySem PySem.Spec PyProof.Rows L2 TkS
/-! bounds, sequences -/
def Lim (v : V) : Prop := v = .non ∨ ∃ l : Int, v = .int l
def wholeIn : V → V → V → Bool
  | .int i, lo, hi => (match lo with | .int l => decide (l ≤ i) | _ => true) && (match hi with | .int h => decide (i ≤ h) | _ => true)
  | _, _, _ => false
theorem wi_low {i l : Int} {hi : V} : wholeIn (.int i) (.int l) hi = (decide (l ≤ i) && wholeIn (.int i) .non hi) := by
  simp [wholeIn]
theorem wi_high {i m : Int} : wholeIn (.int i) .non (.int m) = decide (i ≤ m) := by
  simp [wholeIn]
def seqIs (d : PyData) (n : V) : Bool := match itemsD d with
  | none => false
  | some ds => match n with
    | .int k => decide ((ds.length : Int) = k)
    | _ => true
theorem int_dec {a b : Int} : decide (V.int a = V.int b) = decide (a = b) := by
  by_cases h : a = b
  · subst h
    simp
  · rw [decide_eq_false h, decide_eq_false fun z => h (V.int.inj z)]
def sp_is_whole : Sp := fun vs H Q _ => ∃ x lo hi d, vs = [x, lo, hi] ∧ Dq H x d ∧ Lim lo ∧ Lim hi ∧ Q (.bl (wholeIn x lo hi)) H
def sp_is_sequence : Sp := fun vs H Q _ => ∃ x n d, vs = [x, n] ∧ Dq H x d ∧ (n = .non ∨ ∃ k : Int, n = .int k) ∧ ∀ H', Same H H' → Q (.bl (seqIs d n)) H'
section
variable {P : Program} {w : World} {K : PySem.W.Frag} {mg : Str → Option Value} {base : Heap}
theorem ok_is_whole (T : Txt K mg) : FnOk P w K mg base CX0 1 T.f_is_whole T.d_is_whole ["thing", "low", "high"] sp_is_whole := by
  refine T.F_is_whole.ok sc_is_whole (fun vs H Q E h => ?_) (fun cdv A outer s H vs Q E hr h => ?_)
  · obtain ⟨x, lo, hi, d, rfl, _⟩ := h
    rfl
  · obtain ⟨x, lo, hi, d, rfl, hk, hl, hh, q⟩ := h
    obtain ⟨t, ty, k1, k2, _⟩ := dq_ty (K := K) hk
    refine ⟨_, (pss_cons (ps_if (PW.pt (pw_or (pt_val (pe_callB call_isi (by rfl) T.m_isinstance (by decide +kernel) (pa_cons (pv 0) (pa_cons (pe_bltn (v := .ty "bool") (u := .type "bool") (by rfl) T.m_bool (by decide +kernel) rfl) pa_nil)))) (pw_or1 (pt_not (pt_val (pe_callB call_isi (by rfl) T.m_isinstance (by decide +kernel) (pa_cons (pv 0) (pa_cons (pe_bltn (v := .ty "int") (u := .type "int") (by rfl) T.m_int (by decide +kernel) rfl) pa_nil))))))))
        (pss_one (ps_ret pe_bl))
        pss_nil)
      (pss_cons (ps_if (PW.pt (pw_and (pt_cmpR op_notN (pv 1) pe_non (nomark _)) (pw_and1 (pt_cmpR op_lt (pv 0) (pv 1) (nomark _)))))
        (pss_one (ps_ret pe_bl))
        pss_nil)
      (pss_one (ps_ret (pe_or (pe_cmpR op_isN (pv 2) pe_non (nomark _)) (pe_one (pe_cmpR op_le (pv 0) (pv 2) (nomark _)))))))), ?_⟩
    refine ⟨x, rfl, x, .ty "bool", t, _, isBlV x, rfl, .ty _, ty, k1, isBlV x, rfl, ?_⟩
    have tail : ∀ i : Int, Q (.bl (wholeIn (.int i) .non hi)) H → tRet (tOrV (tOp (fun x y H Q => y = V.non ∧ Q (V.bl (decide (x = V.non))) H) (tVar 2) (tC V.non)) (tOp (rI0 fun i j => V.bl (decide (i ≤ j))) (tVar 0) (tVar 2))) { nx := fun x H' => Q V.non H', rt := Q } (L2.start ["thing", "low", "high"] [V.int i, lo, hi]) H := by
      intro i q
      rcases hh with rfl | ⟨m, rfl⟩
      · exact ⟨.non, rfl, rfl, _, rfl, iteT q⟩
      · refine ⟨.int m, rfl, rfl, _, rfl, iteF ?_⟩
        rw [wi_high] at q
        exact ⟨_, rfl, _, rfl, i, m, rfl, rfl, q⟩
    cases hk with
    | bl b => exact iteT (iteT q)
    | int i =>
      refine iteF ⟨_, rfl, _, .ty "int", t, _, true, rfl, .ty _, ty, k2, true, rfl, iteF ?_⟩
      rcases hl with rfl | ⟨l, rfl⟩
      · exact ⟨.non, rfl, rfl, _, rfl, iteF (iteF (tail i q))⟩
      · rw [wi_low] at q
        refine ⟨.int l, rfl, rfl, _, rfl, iteT ⟨.int i, rfl, .int l, rfl, i, l, rfl, rfl, _, rfl, ite2 (fun e => ?_) (fun e => ?_)⟩⟩
        · have e2 := of_decide_eq_true e
          rw [decide_eq_false (by omega : ¬ l ≤ i)] at q
          exact q
        · have e2 : l ≤ i := Int.not_lt.mp fun z => e (decide_eq_true z)
          rw [decide_eq_true e2] at q
          exact tail i q
    | non => exact iteF ⟨_, rfl, _, .ty "int", t, _, false, rfl, .ty _, ty, k2, false, rfl, iteT q⟩
    | str z => exact iteF ⟨_, rfl, _, .ty "int", t, _, false, rfl, .ty _, ty, k2, false, rfl, iteT q⟩
    | lst z y => exact iteF ⟨_, rfl, _, .ty "int", t, _, false, rfl, .ty _, ty, k2, false, rfl, iteT q⟩
    | tup z y => exact iteF ⟨_, rfl, _, .ty "int", t, _, false, rfl, .ty _, ty, k2, false, rfl, iteT q⟩
end
/-! labels -/
def mrg (ls : List Int) (a b : Int) : List Int := ls.map fun l => if l = a ∨ l = b then (if b < a then b else a) else l
theorem mrg_len (ls : List Int) (a b : Int) : (mrg ls a b).length = ls.length := by
  unfold mrg
  rw [List.length_map]
def row0 (n : Nat) : List Int := (List.range n).map fun (i : Nat) => (i : Int)
theorem row0_len (n : Nat) : (row0 n).length = n := by
  unfold row0
  rw [List.length_map, List.length_range]
def stepM (P : Int) (ls : List Int) (p : Int × Int) : List Int := mrg ls (ls.getD p.1.toNat 0) (ls.getD (P + p.2).toNat 0)
def marks (P W : Int) (ps : List (Int × Int)) : List Int := ps.foldl (stepM P) (row0 (P + W).toNat)
theorem fold_len (P : Int) : ∀ (ps : List (Int × Int)) (ls : List Int), (ps.foldl (stepM P) ls).length = ls.length
  | [], _ => rfl
  | p :: ps, ls => by
    show (ps.foldl (stepM P) (stepM P ls p)).length = _
    rw [fold_len P ps]
    exact mrg_len _ _ _
theorem marks_len (P W : Int) (ps : List (Int × Int)) : (marks P W ps).length = (P + W).toNat := by
  unfold marks
  rw [fold_len, row0_len]
/-- the pairs lie in the picture -/
def Ins (P W : Int) (ps : List (Int × Int)) : Prop := ∀ p ∈ ps, 0 ≤ p.1 ∧ p.1 < P ∧ 0 ≤ p.2 ∧ p.2 < W
def prD (p : Int × Int) : PyData := .tuple [.int p.1, .int p.2]
theorem pr_items {H : Hp} {xs : List V} {ps : List (Int × Int)} {i : Nat} {x : V} (h : DqAll H xs (ps.map prD)) (hx : xs[i]? = some x) : ∃ (t : Addr) (p : Int × Int), x = .ref t ∧ ps[i]? = some p ∧ H t = some (.tup [.int p.1, .int p.2]) := by
  obtain ⟨d, h1, h2⟩ := h.get hx
  rw [List.getElem?_map] at h1
  obtain ⟨p, hp, rfl⟩ := Option.map_eq_some_iff.mp h1
  cases h2 with
  | tup ht ha =>
    cases ha with
    | cons u v =>
      cases v with
      | cons u' v' =>
        cases v'
        cases u
        cases u'
        exact ⟨_, p, rfl, hp, ht⟩
def sp_merged_labels (K : PySem.W.Frag) : Sp := fun vs H Q _ => ∃ (l : Addr) (ls : List Int) (a b : Int), vs = [.ref l, .int a, .int b] ∧ SqL K H l (ls.map V.int) ∧ ls.length ≤ 100 ∧ ∀ H' p, Same H H' → H p = none → H' p = some (.lst ((mrg ls a b).map V.int)) → Q (.ref p) H'
def sp_piece_labels (K : PySem.W.Frag) : Sp := fun vs H Q _ => ∃ (P W : Int) (l : Addr) (xs : List V) (ps : List (Int × Int)), vs = [.int P, .int W, .ref l] ∧ 0 ≤ P ∧ 0 ≤ W ∧ P + W ≤ 100 ∧ SqL K H l xs ∧ DqAll H xs (ps.map prD) ∧ Ins P W ps ∧
  ∀ H' p, Same H H' → H' p = some (.lst ((marks P W ps).map V.int)) → Q (.ref p) H'
theorem in2 {l a b : Int} : inV (.int l) [.int a, .int b] = decide (l = a ∨ l = b) := by
  have e : inV (.int l) [.int a, .int b] = ((a == l) || ((b == l) || false)) := rfl
  rw [e]
  by_cases h1 : l = a
  · subst h1
    simp
  · by_cases h2 : l = b
    · subst h2
      simp
    · have n1 : (a == l) = false := beq_eq_false_iff_ne.mpr fun z => h1 z.symm
      have n2 : (b == l) = false := beq_eq_false_iff_ne.mpr fun z => h2 z.symm
      rw [n1, n2, decide_eq_false (by intro z; rcases z with z | z <;> contradiction)]
      rfl
theorem map_at {ls : List Int} {i : Nat} {x : V} (h : (ls.map V.int)[i]? = some x) : ∃ n, ls[i]? = some n ∧ x = .int n := by
  rw [List.getElem?_map] at h
  obtain ⟨n, hn, e⟩ := Option.map_eq_some_iff.mp h
  exact ⟨n, hn, e.symm⟩
theorem take_snoc {α β : Type} (f : α → β) {l : List α} {i : Nat} {x : α} (h : l[i]? = some x) : (l.take (i + 1)).map f = (l.take i).map f ++ [f x] := by
  rw [List.take_add_one, h, List.map_append]
  rfl
section
variable {P : Program} {w : World} {K : PySem.W.Frag} {mg : Str → Option Value} {base : Heap}
end
end K26
set_option Elab.async false
set_option linter.all false
set_option maxRecDepth 100000
set_option maxHeartbeats 4000000
set_option exponentiation.threshold 5000
namespace K26
open PySem PySem.Spec PyProof.Rows L2 TkS
/-! comprehensions of ints -/
theorem filter_snoc {α β : Type} (p : α → Bool) (f : α → β) {l : List α} {i : Nat} {x : α} (h : l[i]? = some x) :
    ((l.take (i + 1)).filter p).map f = if p x = true then ((l.take i).filter p).map f ++ [f x] else ((l.take i).filter p).map f := by
  rw [List.take_add_one, h]
  show ((l.take i ++ [x]).filter p).map f = _
  rw [List.filter_append, List.map_append, List.filter_cons]
  by_cases c : p x = true
  · rw [if_pos c, if_pos c]
    rfl
  · rw [if_neg c, if_neg c]
    show ((l.take i).filter p).map f ++ [] = _
    rw [List.append_nil]
theorem filter_range {β : Type} (p : Nat → Bool) (f : Nat → β) (i : Nat) :
    ((List.range (i + 1)).filter p).map f = if p i = true then ((List.range i).filter p).map f ++ [f i] else ((List.range i).filter p).map f := by
  rw [List.range_succ, List.filter_append, List.map_append, List.filter_cons]
  by_cases c : p i = true
  · rw [if_pos c, if_pos c]
    rfl
  · rw [if_neg c, if_neg c]
    show ((List.range i).filter p).map f ++ [] = _
    rw [List.append_nil]
theorem len_filter_take {α β : Type} (p : α → Bool) (f : α → β) (l : List α) (i : Nat) : (((l.take i).filter p).map f).length ≤ l.length := by
  rw [List.length_map]
  exact Nat.le_trans (List.length_filter_le _ _) (by rw [List.length_take]; omega)
theorem len_filter_range {β : Type} (p : Nat → Bool) (f : Nat → β) (i : Nat) : (((List.range i).filter p).map f).length ≤ i := by
  rw [List.length_map]
  exact Nat.le_trans (List.length_filter_le _ _) (by rw [List.length_range]; exact Nat.le_refl _)
/-- a comprehension over any items, each turn told by f (kept) and e (the new item), which leave the heap -/
theorem lc_vals {α : Type} {K : PySem.W.Frag} {a : Addr} {ns : List α} {h : α → V} {tt : TT} {te : TE} {vs : List Nat} {σ : L2.St} {H0 H1 : Hp} {D : Addr} {Qd : Hp → Prop} {j : Nat} (f : α → Bool) (e : α → V)
    (sm : Same H0 H1) (nD : H1 D = none) (hl : ns.length ≤ 1000) (hS : ∀ H', Same H0 H' → SqL K H' a (ns.map h)) (hw : ∀ x : V, wipe ((wipe σ vs).set j (some x)) vs = wipe σ vs)
    (ht : ∀ (i : Nat) (n : α) (H' : Hp) (Q : Bool → Hp → Prop), ns[i]? = some n → Same H0 H' → (∀ H'', Same H' H'' → Q (f n) H'') → tt ((wipe σ vs).set j (some (h n))) H' Q)
    (he : ∀ (i : Nat) (n : α) (H' : Hp) (Q : VK), ns[i]? = some n → f n = true → Same H0 H' → (∀ H'', Same H' H'' → Q (e n) H'') → te ((wipe σ vs).set j (some (h n))) H' Q)
    (hd : ∀ H', Same H0 H' → H' D = some (.lst ((ns.filter f).map e)) → Qd H') :
    ∃ W : Nat → Nat → Hp → Prop, (∃ m, W 0 m (upd H1 D (.lst []))) ∧ ∀ i m H, W i m H →
      ((Itl K a).stop i H ∧ Qd H) ∨ ((Itl K a).go i H ∧ ∃ Nx : Hp → Prop, (∀ H', Nx H' → ∃ m', m' < m ∧ W (i + 1) m' H') ∧ ∀ x H', (Itl K a).yld i H x H' → gName j x (wipe σ vs) H' fun σ2 H2 => wipe σ2 vs = wipe σ vs ∧ tt σ2 H2 fun b H3 =>
        if b = true then te σ2 H3 fun y H4 => ∃ acc, H4 D = some (.lst acc) ∧ acc.length < sizeLine ∧ Nx (upd H4 D (.lst (acc ++ [y]))) else Nx H3) := by
  refine lc_list (xs := ns.map h) (fun i H' => Same H0 H' ∧ H' D = some (.lst (((ns.take i).filter f).map e)) ∧ ∀ b o, H0 b = some o → b ≠ D) ⟨sm.trans (same_new nD), upd_same, fun b o z => ne_of_none (sm _ _ z) nD⟩ (fun i H' _ hP => hS _ hP.1) (fun i x H' hx hP => ?_) (fun H' hP => ?_)
  · obtain ⟨s, hD, ap⟩ := hP
    rw [List.getElem?_map] at hx
    obtain ⟨n, hn, rfl⟩ := Option.map_eq_some_iff.mp hx
    refine ⟨hw _, ht i n H' _ hn s fun H2 s2 => ?_⟩
    have hD2 := s2 _ _ hD
    cases c : f n with
    | true =>
      refine he i n H2 _ hn c (s.trans s2) fun H3 s3 => ⟨_, s3 _ _ hD2, ?_, fun b o z => ?_, ?_, ap⟩
      · exact small1000 (Nat.le_trans (len_filter_take _ _ _ _) hl)
      · rw [upd_ne (ap b o z)]
        exact s3 _ _ (s2 _ _ (s _ _ z))
      · rw [upd_same, filter_snoc _ _ hn, if_pos c]
    | false =>
      refine ⟨s.trans s2, ?_, ap⟩
      rw [filter_snoc _ _ hn, c, if_neg Bool.false_ne_true]
      exact hD2
  · obtain ⟨s, hD, _⟩ := hP
    rw [List.length_map, List.take_length] at hD
    exact hd H' s hD
/-- the same over a range -/
theorem lc_rng {tt : TT} {te : TE} {vs : List Nat} {σ : L2.St} {H0 H1 : Hp} {D : Addr} {Qd : Hp → Prop} {j n : Nat} (f : Nat → Bool) (e : Nat → V)
    (sm : Same H0 H1) (nD : H1 D = none) (hl : n ≤ 1000) (hw : ∀ x : V, wipe ((wipe σ vs).set j (some x)) vs = wipe σ vs)
    (ht : ∀ (i : Nat) (H' : Hp) (Q : Bool → Hp → Prop), i < n → Same H0 H' → (∀ H'', Same H' H'' → Q (f i) H'') → tt ((wipe σ vs).set j (some (.int (0 + (i : Int))))) H' Q)
    (he : ∀ (i : Nat) (H' : Hp) (Q : VK), i < n → f i = true → Same H0 H' → (∀ H'', Same H' H'' → Q (e i) H'') → te ((wipe σ vs).set j (some (.int (0 + (i : Int))))) H' Q)
    (hd : ∀ H', Same H0 H' → H' D = some (.lst (((List.range n).filter f).map e)) → Qd H') :
    ∃ W : Nat → Nat → Hp → Prop, (∃ m, W 0 m (upd H1 D (.lst []))) ∧ ∀ i m H, W i m H →
      ((Itr 0 n).stop i H ∧ Qd H) ∨ ((Itr 0 n).go i H ∧ ∃ Nx : Hp → Prop, (∀ H', Nx H' → ∃ m', m' < m ∧ W (i + 1) m' H') ∧ ∀ x H', (Itr 0 n).yld i H x H' → gName j x (wipe σ vs) H' fun σ2 H2 => wipe σ2 vs = wipe σ vs ∧ tt σ2 H2 fun b H3 =>
        if b = true then te σ2 H3 fun y H4 => ∃ acc, H4 D = some (.lst acc) ∧ acc.length < sizeLine ∧ Nx (upd H4 D (.lst (acc ++ [y]))) else Nx H3) := by
  refine lc_range (lo := 0) (n := n) (fun i H' => Same H0 H' ∧ H' D = some (.lst (((List.range i).filter f).map e)) ∧ ∀ b o, H0 b = some o → b ≠ D) ⟨sm.trans (same_new nD), upd_same, fun b o z => ne_of_none (sm _ _ z) nD⟩ (fun i H' hi hP => ?_) (fun H' hP => ?_)
  · obtain ⟨s, hD, ap⟩ := hP
    refine ⟨hw _, ht i H' _ hi s fun H2 s2 => ?_⟩
    have hD2 := s2 _ _ hD
    cases c : f i with
    | true =>
      refine he i H2 _ hi c (s.trans s2) fun H3 s3 => ⟨_, s3 _ _ hD2, ?_, fun b o z => ?_, ?_, ap⟩
      · exact small1000 (Nat.le_trans (len_filter_range _ _ _) (by omega))
      · rw [upd_ne (ap b o z)]
        exact s3 _ _ (s2 _ _ (s _ _ z))
      · rw [upd_same, filter_range, if_pos c]
    | false =>
      refine ⟨s.trans s2, ?_, ap⟩
      rw [filter_range, c, if_neg Bool.false_ne_true]
      exact hD2
  · exact hd H' hP.1 hP.2.1
/-! pieces -/
def cs (ls : List Int) (label : Nat) : List Nat := (List.range ls.length).filter fun c => decide (ls.getD c 0 = (label : Int))
def pieceD (P : Int) (c : List Nat) : PyData := .tuple [.tuple ((c.filter fun (k : Nat) => decide ((k : Int) < P)).map fun (k : Nat) => .int (k : Int)), .tuple ((c.filter fun (k : Nat) => decide (P ≤ (k : Int))).map fun (k : Nat) => .int ((k : Int) - P))]
def piecesD (P : Int) (ls : List Int) : List PyData := ((List.range ls.length).filter fun l => !(cs ls l).isEmpty).map fun l => pieceD P (cs ls l)
theorem dq_ints {H : Hp} {α : Type} (f : α → Int) : ∀ l : List α, DqAll H (l.map fun x => .int (f x)) (l.map fun x => .int (f x))
  | [] => .nil
  | _ :: l => .cons (.int _) (dq_ints f l)
theorem off_upd {h : Addr} {H : Hp} {o : HO} : TkS.Off h (upd H h o) = TkS.Off h H := by
  funext b
  unfold TkS.Off
  by_cases z : b = h
  · rw [if_pos z, if_pos z]
  · rw [if_neg z, if_neg z, upd_ne z]
theorem ix_at {ls : List Int} {z : Int} (h0 : 0 ≤ z) (h1 : z < ls.length) : atI (ls.map V.int) z = some (.int (ls.getD z.toNat 0)) := by
  have hp : z.toNat < ls.length := by omega
  refine at_of (j := z.toNat) (by omega) ?_
  rw [List.getElem?_map, List.getElem?_eq_getElem hp]
  show some (V.int ls[z.toNat]) = _
  rw [List.getD_eq_getElem?_getD, List.getElem?_eq_getElem hp]
  rfl
def sp_pieces_by_labels (K : PySem.W.Frag) : Sp := fun vs H Q _ => ∃ (P : Int) (l : Addr) (ls : List Int), vs = [.int P, .ref l] ∧ SqL K H l (ls.map V.int) ∧ ls.length ≤ 100 ∧ ∀ H' v, Same H H' → Dq H' v (.tuple (piecesD P ls)) → Q v H'
section
variable {P : Program} {w : World} {K : PySem.W.Frag} {mg : Str → Option Value} {base : Heap}
theorem rg_row {a b : Int} (h : 0 ≤ b) : rgV 0 b = (row0 b.toNat).map V.int := by
  unfold rgV row0
  rw [List.map_map, Int.sub_zero]
  refine List.map_congr_left fun i _ => ?_
  show V.int (0 + (i : Int)) = V.int (i : Int)
  rw [Int.zero_add]
end
end K26
set_option Elab.async false
set_option linter.all false
set_option maxRecDepth 100000
set_option maxHeartbeats 4000000
/-! for and comprehensions over a list or a tuple -/
namespace TkS
open PySem PySem.Spec PyProof.Rows L2
def iSeq (K : PySem.W.Frag) (tl : TE) : TI := fun σ H R => iList K tl σ H R ∨ iTup K tl σ H R
theorem pi_seq {X : Cx} {tg l : Expr} {tl : TE} (hl : PE X l tl) : PI X tg l (iSeq X.K tl) :=
  ⟨fun pins s σ H R I h => h.elim (fun h => (pi_list hl).run pins s σ H R I h) (fun h => (pi_tup hl).run pins s σ H R I h)⟩
theorem seqT_same {K : PySem.W.Frag} {H H' : Hp} {a : Addr} {xs : List V} (s : Same H H') (h : SqT K H a xs) : SqT K H' a xs :=
  h.elim (fun h => .inl (h.elim (fun h => .inl (s _ _ h)) fun ⟨o, h⟩ => .inr ⟨o, s _ _ h⟩)) fun h => .inr h
def Sq (K : PySem.W.Frag) (H : Hp) (a : Addr) (xs : List V) : Prop := SqL K H a xs ∨ SqT K H a xs
theorem Sq.same {K : PySem.W.Frag} {H H' : Hp} {a : Addr} {xs : List V} (h : Sq K H a xs) (s : Same H H') : Sq K H' a xs :=
  h.elim (fun h => .inl (s.seq h)) (fun h => .inr (seqT_same s h))
theorem for_seq {K : PySem.W.Frag} {a : Addr} {xs : List V} {tl : TE} {g : TG} {tb : TS} {D : Ends} {σ : L2.St} {H : Hp} (Pv : Nat → L2.St → Hp → Prop) (ht : ∀ Q : VK, Q (.ref a) H → tl σ H Q) (hq : Sq K H a xs) (h0 : Pv 0 σ H)
    (hl : ∀ i σ H', i ≤ xs.length → Pv i σ H' → Same H H')
    (hs : ∀ i x σ H, xs[i]? = some x → Pv i σ H → g x σ H fun σ2 H2 => tb { D with nx := Pv (i + 1), ct := Pv (i + 1), bk := D.nx } σ2 H2) (hd : ∀ σ H, Pv xs.length σ H → D.nx σ H) :
    tFor (iSeq K tl) g tb D σ H :=
  hq.elim (fun h => .inl (ht _ ⟨a, rfl, ⟨xs, h⟩, for_list Pv h0 (fun i σ H' hi hP => (hl i σ H' hi hP).seq h) hs hd⟩))
    (fun h => .inr (ht _ ⟨a, rfl, ⟨xs, h⟩, for_tup Pv h0 (fun i σ H' hi hP => seqT_same (hl i σ H' hi hP) h) hs hd⟩))
theorem lc_seq {K : PySem.W.Frag} {a : Addr} {xs : List V} {tl : TE} {g : TG} {tt : TT} {te : TE} {vs : List Nat} {σ : L2.St} {H : Hp} {Q : VK} (Pv : Addr → Nat → Hp → Prop) (ht : ∀ Q : VK, Q (.ref a) H → tl σ H Q) (hq : Sq K H a xs)
    (h0 : ∀ D, H D = none → Pv D 0 (upd H D (.lst []))) (hl : ∀ D i H', H D = none → i ≤ xs.length → Pv D i H' → Same H H')
    (hs : ∀ D i x H', H D = none → xs[i]? = some x → Pv D i H' → g x (wipe σ vs) H' fun σ2 H2 => wipe σ2 vs = wipe σ vs ∧ tt σ2 H2 fun b H3 =>
      if b = true then te σ2 H3 fun y H4 => ∃ acc, H4 D = some (.lst acc) ∧ acc.length < sizeLine ∧ Pv D (i + 1) (upd H4 D (.lst (acc ++ [y]))) else Pv D (i + 1) H3) (hd : ∀ D H', H D = none → Pv D xs.length H' → Q (.ref D) H') :
    tLc (iSeq K tl) g tt te vs σ H Q :=
  hq.elim (fun h => .inl (ht _ ⟨a, rfl, ⟨xs, h⟩, fun D nD => lc_list (Pv D) (h0 D nD) (fun i H' hi hP => (hl D i H' nD hi hP).seq h) (fun i x H' => hs D i x H' nD) (fun H' => hd D H' nD)⟩))
    (fun h => .inr (ht _ ⟨a, rfl, ⟨xs, h⟩, fun D nD => lc_tup (Pv D) (h0 D nD) (fun i H' hi hP => seqT_same (hl D i H' nD hi hP) h) (fun i x H' => hs D i x H' nD) (fun H' => hd D H' nD)⟩))
/-- the items of a list or a tuple -/
theorem sq_of {K : PySem.W.Frag} {H : Hp} {x : V} {d : PyData} {ds : List PyData} (k : Dq H x d) (e : itemsD d = some ds) : ∃ (p : Addr) (xs : List V), x = .ref p ∧ DqAll H xs ds ∧ Sq K H p xs := by
  cases k with
  | lst h1 h2 =>
    cases e
    exact ⟨_, _, rfl, h2, .inl (SqL.of h1)⟩
  | tup h1 h2 =>
    cases e
    exact ⟨_, _, rfl, h2, .inr (SqT.of h1)⟩
  | _ => cases e
/-- tuple(x), x a list or a tuple of data -/
def rTupD : List V → Hp → VK → Prop := fun xs H Q => ∃ x d ds, xs = [x] ∧ Dq H x d ∧ itemsD d = some ds ∧ ∀ l H', Same H H' → Dq H' (.ref l) (.tuple ds) → Q (.ref l) H'
theorem call_tupD {X : Cx} : CallR X (.type "tuple") rTupD := by
  intro pins s σ H vs us Q I r h
  refine call_tuple_of pins s σ H vs us Q I r ?_
  obtain ⟨x, d, ds, rfl, k, e, q⟩ := h
  cases k with
  | lst h1 h2 =>
    cases e
    exact ⟨_, _, rfl, .inl ⟨SqL.of h1, fun l nl => q l _ (same_new nl) (.tup upd_same (DqAll.same (same_new nl) _ h2))⟩⟩
  | tup h1 h2 =>
    cases e
    exact ⟨_, _, rfl, .inr ⟨SqT.of h1, q _ _ (fun _ _ z => z) (.tup h1 h2)⟩⟩
  | _ => cases e
end TkS
set_option Elab.async false
set_option linter.all false
set_option maxRecDepth 100000
set_option maxHeartbeats 4000000
/-! sums and parts of tuples and lists of data -/
namespace TkS
open PySem PySem.Spec PyProof.Rows L2
theorem DqAll.take {H : Hp} : ∀ {xs : List V} {ds : List PyData}, DqAll H xs ds → ∀ n, DqAll H (xs.take n) (ds.take n)
  | _, _, _, 0 => .nil
  | _, _, .nil, _ + 1 => .nil
  | _, _, .cons h t, n + 1 => .cons h (t.take n)
theorem DqAll.drop {H : Hp} : ∀ {xs : List V} {ds : List PyData}, DqAll H xs ds → ∀ n, DqAll H (xs.drop n) (ds.drop n)
  | _, _, h, 0 => h
  | _, _, .nil, _ + 1 => .nil
  | _, _, .cons h t, n + 1 => t.drop n
theorem DqAll.of_get {H : Hp} : ∀ {xs : List V} {ds : List PyData}, xs.length = ds.length → (∀ (i : Nat) (x : V) (d : PyData), xs[i]? = some x → ds[i]? = some d → Dq H x d) → DqAll H xs ds
  | [], [], _, _ => .nil
  | x :: xs, d :: ds, e, h => .cons (h 0 x d rfl rfl) (DqAll.of_get (by simpa using e) fun i y f h1 h2 => h (i + 1) y f (by simpa using h1) (by simpa using h2))
theorem DqAll.rev {H : Hp} : ∀ {xs : List V} {ds : List PyData}, DqAll H xs ds → DqAll H xs.reverse ds.reverse
  | _, _, .nil => .nil
  | _, _, .cons h t => by
    rw [List.reverse_cons, List.reverse_cons]
    exact t.rev.snoc h
def cutD {α : Type} (xs : List α) (lo hi : Option Int) : List α := (xs.drop (HT.sIx xs.length 0 lo)).take (HT.sIx xs.length xs.length hi - HT.sIx xs.length 0 lo)
theorem cutD_lo {α : Type} (xs : List α) (n : Nat) : cutD xs (some (n : Int)) none = xs.drop n := by
  unfold cutD
  rw [HT.sIx_none, HT.sIx_nat]
  rcases Nat.le_total n xs.length with h | h
  · rw [Nat.min_eq_left h]
    exact List.take_of_length_le (by rw [List.length_drop]; omega)
  · rw [Nat.min_eq_right h, List.drop_of_length_le h, List.drop_of_length_le (Nat.le_refl _), List.take_nil]
theorem cutD_hi {α : Type} (xs : List α) (n : Nat) : cutD xs none (some (n : Int)) = xs.take n := by
  unfold cutD
  rw [HT.sIx_none, HT.sIx_nat]
  rcases Nat.le_total n xs.length with h | h
  · rw [Nat.min_eq_left h]
    rfl
  · rw [Nat.min_eq_right h, List.take_of_length_le h]
    exact List.take_of_length_le (by simp)
theorem DqAll.cut {H : Hp} {xs : List V} {ds : List PyData} (h : DqAll H xs ds) (lo hi : Option Int) : DqAll H (cutV xs lo hi) (cutD ds lo hi) := by
  unfold cutV cutD
  rw [h.len]
  exact (h.drop _).take _
theorem cutV_whole {α : Type} {xs : List α} {lo hi : Option Int} (h : HT.sIx xs.length 0 lo = 0 ∧ HT.sIx xs.length xs.length hi = xs.length) : cutD xs lo hi = xs := by
  unfold cutD
  rw [h.1, h.2]
  exact List.take_of_length_le (by simp)
def rCatD : R2 := fun x y H Q => ∃ ds es, Dq H x (.tuple ds) ∧ Dq H y (.tuple es) ∧ ds.length + es.length ≤ 1000 ∧ ∀ l H', Same H H' → Dq H' (.ref l) (.tuple (ds ++ es)) → Q (.ref l) H'
theorem thousand : 1000 ≤ sizeLine := by decide
theorem op_catD {X : Cx} : OpR X (binaryOp .Add) rCatD := by
  intro pins s σ H x y v u Q I rx ry h
  obtain ⟨ds, es, k1, k2, hl, q⟩ := h
  cases k1 with
  | tup h1 t1 =>
    cases k2 with
    | tup h2 t2 =>
      rename_i a xs b ys
      refine op_catA pins s σ H _ _ v u Q I rx ry ⟨a, b, xs, ys, rfl, rfl, SqT.of h1, SqT.of h2, ?_, fun e => ?_, fun _ e => ?_, fun _ _ p np => ?_⟩
      · rw [t1.len, t2.len]
        exact Nat.le_trans hl thousand
      · subst e
        cases t1
        exact q b H (fun _ _ z => z) (.tup h2 t2)
      · subst e
        cases t2
        exact q a H (fun _ _ z => z) (by rw [List.append_nil]; exact .tup h1 t1)
      · exact q p _ (same_new np) (.tup upd_same ((DqAll.same (same_new np) _ t1).append (DqAll.same (same_new np) _ t2)))
def rSlD : V → Option Int → Option Int → Hp → VK → Prop := fun x lo hi H Q => ∃ ds, Dq H x (.tuple ds) ∧ ∀ l H', Same H H' → Dq H' (.ref l) (.tuple (cutD ds lo hi)) → Q (.ref l) H'
theorem sl_tupD {X : Cx} : SlR X rSlD := by
  intro pins s σ H x v vl vu lo hi sl Q I rx hs pl pu h
  obtain ⟨ds, k, q⟩ := h
  cases k with
  | tup h1 t1 =>
    rename_i a xs
    refine sl_tupA pins s σ H _ v vl vu lo hi sl Q I rx hs pl pu ⟨a, xs, rfl, SqT.of h1, fun e => ?_, fun _ p np => ?_⟩
    · refine q a H (fun _ _ z => z) ?_
      rw [cutV_whole (by rw [← t1.len]; exact e)]
      exact .tup h1 t1
    · exact q p _ (same_new np) (.tup upd_same (DqAll.same (same_new np) _ (t1.cut lo hi)))
def rSlDL : V → Option Int → Option Int → Hp → VK → Prop := fun x lo hi H Q => ∃ ds, Dq H x (.list ds) ∧ ∀ l H', Same H H' → H l = none → Dq H' (.ref l) (.list (cutD ds lo hi)) → Q (.ref l) H'
theorem sl_listD {X : Cx} : SlR X rSlDL := by
  intro pins s σ H x v vl vu lo hi sl Q I rx hs pl pu h
  obtain ⟨ds, k, q⟩ := h
  cases k with
  | lst h1 t1 =>
    rename_i a xs
    exact sl_list pins s σ H _ v vl vu lo hi sl Q I rx hs pl pu ⟨a, xs, rfl, SqL.of h1, fun p np => q p _ (same_new np) np (.lst upd_same (DqAll.same (same_new np) _ (t1.cut lo hi)))⟩
/-- the sum of two lists -/
def rCatDL : R2 := fun x y H Q => ∃ ds es, Dq H x (.list ds) ∧ Dq H y (.list es) ∧ ds.length + es.length ≤ 1000 ∧ ∀ l H', Same H H' → H l = none → Dq H' (.ref l) (.list (ds ++ es)) → Q (.ref l) H'
theorem op_catDL {X : Cx} : OpR X (binaryOp .Add) rCatDL := by
  intro pins s σ H x y v u Q I rx ry h
  obtain ⟨ds, es, k1, k2, hl, q⟩ := h
  cases k1 with
  | lst h1 t1 =>
    cases k2 with
    | lst h2 t2 =>
      rename_i a xs b ys
      exact op_cat pins s σ H _ _ v u Q I rx ry ⟨a, b, xs, ys, rfl, rfl, h1, h2, by
        rw [t1.len, t2.len]
        exact Nat.le_trans hl thousand, fun p np => q p _ (same_new np) np (.lst upd_same ((DqAll.same (same_new np) _ t1).append (DqAll.same (same_new np) _ t2)))⟩
end TkS
set_option Elab.async false
set_option linter.all false
set_option maxRecDepth 100000
set_option maxHeartbeats 4000000
/-! a tuple whose object is known (its methods may be called) -/
namespace TkS
open PySem PySem.Spec PyProof.Rows L2
def Frz (H : Hp) (a : Addr) (xs : List V) : Prop := ∃ o : Obj, H a = some (.frz o (.tup xs)) ∧ o.cls = .type "tuple" ∧ o.dict = none
theorem Frz.same {H H' : Hp} {a : Addr} {xs : List V} (h : Frz H a xs) (s : Same H H') : Frz H' a xs := by
  obtain ⟨o, h1, h2⟩ := h
  exact ⟨o, s _ _ h1, h2⟩
theorem Frz.seq {K : PySem.W.Frag} {H : Hp} {a : Addr} {xs : List V} (h : Frz H a xs) : SqT K H a xs := by
  obtain ⟨o, h1, _⟩ := h
  exact .inl (.inr ⟨o, h1⟩)
theorem Frz.ty {K : PySem.W.Frag} {H : Hp} {a : Addr} {xs : List V} (h : Frz H a xs) : TyX K H (.ref a) (.type "tuple") := by
  obtain ⟨o, h1, _⟩ := h
  exact .fTuple h1
theorem Frz.fn {H : Hp} {a : Addr} {xs ys : List V} (h : Frz H a xs) (h' : Frz H a ys) : xs = ys := by
  obtain ⟨o, h1, _⟩ := h
  obtain ⟨o', h1', _⟩ := h'
  rw [h1] at h1'
  cases h1'
  rfl
def rTupF (K : PySem.W.Frag) : List V → Hp → VK → Prop := fun xs H Q => ∃ p ys, xs = [.ref p] ∧ SqL K H p ys ∧ ∀ l H', Same H H' → H l = none → Frz H' l ys → Q (.ref l) H'
theorem call_tupF {X : Cx} : CallR X (.type "tuple") (rTupF X.K) := by
  intro pins s σ H xs us Q I r h
  obtain ⟨p, ys, rfl, hq, q⟩ := h
  obtain ⟨u, rfl, rx⟩ := vals1 r
  cases rx
  obtain ⟨its, r', pl, hz⟩ := I.list hq
  have hlen := r'.length
  refine call_tuple_list pl.isList (fun h' kp => ?_) (by simp only [List.size_toArray] <;> omega)
  have I1 : Inv X pins σ H { s with heap := h' } := I.kept (t' := s.toks) kp
  have I2 : Inv X pins σ (upd H h'.objs.size (.frz { cls := .type "tuple", data := .seq its.toArray } (.tup ys))) { s with heap := h'.push { cls := .type "tuple", data := .seq its.toArray } } :=
    I1.laid (t' := s.toks) (fun b o e => Heap.get?_push_of_some _ e) (Nat.le_refl _) (show ObjOk X.prog X.w _ _ _ (.frz _ (.tup ys)) from ⟨Heap.get?_push_size _ rfl, hz, its, r', IsTup.new _ _⟩)
  have nf := I1.hok.fresh (Nat.le_refl _)
  exact ⟨.ref h'.objs.size, _, I2, rfl, q _ _ (same_new nf) nf ⟨_, upd_same, rfl, rfl⟩⟩
def tBMF (r : V → List V → Hp → VK → Prop) (to : TE) (t : TA) : TE := fun σ H Q => to σ H fun x H1 => (∃ a xs, x = .ref a ∧ Frz H1 a xs) ∧ t σ H1 fun xs H2 => r x xs H2 Q
theorem pe_bmF {X : Cx} {o e : Expr} {es : List Expr} {to : TE} {t : TA} {name : Str} {apos cpos : Pos} {id : String} {r : V → List V → Hp → VK → Prop} (pa : PlainAttrs "tuple") (slot : Slot "tuple" name id) (hty : typeOf (.builtin id) = pure (.type "method_descriptor")) (hm : MtR X id r) (ho : PE X o to) (ha : PA X (e :: es) t)
    (hbase : attributeBase o name X.env (eval o X.env) = eval o X.env := by rfl)
    (hfew : ((backTo cpos (starEach (e :: es) X.env)).all (fun x => !x.1) && (backToKw cpos (keywordEach [] X.env)).all (fun x => x.1.isSome)
      && decide ((e :: es).length + ([] : List Keyword).length + (if ([] : List Keyword).isEmpty then 0 else 1) < 30)) = true := by rfl)
    (hline : (apos.endLine == cpos.line) = true := by rfl) (hs : starEach (e :: es) X.env = (false, eval e X.env) :: starEach es X.env := by rfl) (hplain : (backTo cpos (starEach es X.env)).any (·.1) = false := by rfl) :
    PE X (.Call (.Attribute o name apos) (e :: es) [] cpos) (tBMF r to t) := by
  refine ⟨fun pins s σ H Q I h => ?_⟩
  refine wpAny_Call_method_late hbase hfew hline rfl (thn (ho.run pins s σ H _ I h) fun v s1 ⟨x, H1, I1, r1, ⟨a, xs, ex, o, h1, h2, h3⟩, q1⟩ => ?_)
  subst ex
  cases r1
  have hk := (I1.hok a _ h1).1
  refine ⟨"tuple", id, pa, slot, hty, ⟨o, hk, h2⟩, fun b e => by cases e; exact ⟨o, hk, h3⟩, ?_⟩
  have hA := ha.run cpos pins s1 σ H1 _ I1 q1
  rw [hs] at hA ⊢
  refine Calls.callWith_builtin (by show (false || (backTo cpos (starEach es X.env)).any (·.1)) = false; rw [hplain] <;> rfl) (Calls.evalArgs_plain ?_)
  exact thn hA fun us s2 ⟨vs, H2, I2, r2, q2⟩ => hm pins s2 σ H2 (.ref a) vs _ us Q I2 rfl r2 q2
theorem Frz.dp {K : PySem.W.Frag} {H : Hp} {a : Addr} {xs : List V} {ds : List PyData} (h : Frz H a xs) (k : DqAll H xs ds) : Dp K H (.ref a) (.tuple ds) := .tup h.seq (DqAll.dp _ k)
/-- such a tuple and a tuple that is not empty -/
def rCatF : R2 := fun x y H Q => ∃ (a : Addr) (xs : List V) (ds es : List PyData), x = .ref a ∧ Frz H a xs ∧ DqAll H xs ds ∧ Dq H y (.tuple es) ∧ es ≠ [] ∧ ds.length + es.length ≤ 1000 ∧ ∀ l H', Same H H' → Dq H' (.ref l) (.tuple (ds ++ es)) → Q (.ref l) H'
theorem op_catF {X : Cx} : OpR X (binaryOp .Add) rCatF := by
  intro pins s σ H x y v u Q I rx ry h
  obtain ⟨a, xs, ds, es, rfl, f, t1, k2, ne, hl, q⟩ := h
  cases k2 with
  | tup h2 t2 =>
    rename_i b ys
    refine op_catA pins s σ H _ _ v u Q I rx ry ⟨a, b, xs, ys, rfl, rfl, f.seq, SqT.of h2, ?_, fun e => ?_, fun _ e => ?_, fun _ _ p np => ?_⟩
    · rw [t1.len, t2.len]
      exact Nat.le_trans hl thousand
    · subst e
      cases t1
      exact q b H (fun _ _ z => z) (.tup h2 t2)
    · subst e
      cases t2
      exact absurd rfl ne
    · exact q p _ (same_new np) (.tup upd_same ((DqAll.same (same_new np) _ t1).append (DqAll.same (same_new np) _ t2)))
/-- a part of such a tuple that is not the whole -/
def rSlF : V → Option Int → Option Int → Hp → VK → Prop := fun x lo hi H Q => ∃ (a : Addr) (xs : List V) (ds : List PyData), x = .ref a ∧ Frz H a xs ∧ DqAll H xs ds ∧ ¬ (HT.sIx ds.length 0 lo = 0 ∧ HT.sIx ds.length ds.length hi = ds.length) ∧
  ∀ l H', Same H H' → Dq H' (.ref l) (.tuple (cutD ds lo hi)) → Q (.ref l) H'
theorem sl_tupF {X : Cx} : SlR X rSlF := by
  intro pins s σ H x v vl vu lo hi sl Q I rx hs pl pu h
  obtain ⟨a, xs, ds, rfl, f, t1, nw, q⟩ := h
  refine sl_tupA pins s σ H _ v vl vu lo hi sl Q I rx hs pl pu ⟨a, xs, rfl, f.seq, fun e => ?_, fun _ p np => ?_⟩
  · rw [t1.len] at e
    exact absurd e nw
  · exact q p _ (same_new np) (.tup upd_same (DqAll.same (same_new np) _ (t1.cut lo hi)))
end TkS
set_option Elab.async false
set_option linter.all false
set_option maxRecDepth 100000
set_option maxHeartbeats 4000000
set_option exponentiation.threshold 5000
namespace K26
open PySem PySem.Spec PyProof.Rows L2 TkS
/-! pairs as data -/
theorem prD_datum (p : Int × Int) : prD p = PySem.W.Datum.toD p := rfl
theorem eqv_pr (p q : Int × Int) : PyData.eqv (prD p) (prD q) = decide (p = q) := PySem.W.Datum.eqv p q
theorem eqv_prs (ps qs : List (Int × Int)) : PyData.eqvAll (ps.map prD) (qs.map prD) = decide (ps = qs) := PySem.W.eqvAll_map ps qs
theorem any_pr (ps : List (Int × Int)) (p : Int × Int) : ((ps.map prD).any fun d => PyData.eqv d (prD p)) = decide (p ∈ ps) := (PySem.W.any_datum ps p).trans (decide_eq_decide.mpr Iff.rfl)
theorem shaped_pr (p : Int × Int) : SeqAt.shaped (prD p) = true := by
  simp [SeqAt.shaped, prD, PyData.canLay0, PyData.canLayAll0, PyData.depth, PyData.depthAll]
theorem lay_prs : ∀ ps : List (Int × Int), PyData.canLayAll0 (ps.map prD) = true ∧ PyData.depthAll (ps.map prD) ≤ 1
  | [] => ⟨rfl, Nat.zero_le _⟩
  | p :: ps => by
    have h := lay_prs ps
    constructor
    · simp [PyData.canLayAll0, prD, PyData.canLay0] at h ⊢
      exact h.1
    · simp [PyData.depthAll, prD, PyData.depth] at h ⊢
      exact Nat.max_le.mpr ⟨Nat.le_refl _, h.2⟩
theorem shaped_prs (ps : List (Int × Int)) : SeqAt.shaped (.tuple (ps.map prD)) = true := by
  have h := lay_prs ps
  simp [SeqAt.shaped, PyData.canLay0, PyData.depth, h.1]
  omega
theorem shaped_prs_l (ps : List (Int × Int)) : SeqAt.shaped (.list (ps.map prD)) = true := by
  have h := lay_prs ps
  simp [SeqAt.shaped, PyData.canLay0, PyData.depth, h.1]
  omega
def wholeD (d : PyData) (lo hi : Int) : Bool := match d with | .int i => decide (lo ≤ i) && decide (i ≤ hi) | _ => false
theorem wi_dq {H : Hp} {x : V} {d : PyData} {lo hi : Int} (k : Dq H x d) : wholeIn x (.int lo) (.int hi) = wholeD d lo hi := by cases k <;> rfl
theorem wholeD_of {d : PyData} {lo hi : Int} (h : wholeD d lo hi = true) : ∃ i, d = .int i ∧ lo ≤ i ∧ i ≤ hi := by
  cases d with
  | int i =>
    have h' : (decide (lo ≤ i) && decide (i ≤ hi)) = true := h
    rw [Bool.and_eq_true, decide_eq_true_iff, decide_eq_true_iff] at h'
    exact ⟨i, rfl, h'⟩
  | _ => cases h
def isPair (P W : Int) (d : PyData) : Bool := match itemsD d with | some [a, b] => wholeD a 0 (P - 1) && wholeD b 0 (W - 1) | _ => false
def prOf (d : PyData) : Int × Int := match itemsD d with | some [.int a, .int b] => (a, b) | _ => (0, 0)
theorem prOf_prD (p : Int × Int) : prOf (prD p) = p := rfl
theorem isPair_of {P W : Int} {d : PyData} (h : isPair P W d = true) : itemsD d = some [.int (prOf d).1, .int (prOf d).2] ∧ 0 ≤ (prOf d).1 ∧ (prOf d).1 < P ∧ 0 ≤ (prOf d).2 ∧ (prOf d).2 < W := by
  unfold isPair at h
  split at h
  · rename_i a b e
    rw [Bool.and_eq_true] at h
    obtain ⟨i, rfl, h1, h2⟩ := wholeD_of h.1
    obtain ⟨j, rfl, h3, h4⟩ := wholeD_of h.2
    unfold prOf
    rw [e]
    exact ⟨rfl, h1, by show i < P; omega, h3, by show j < W; omega⟩
  · cases h
theorem isPair_prD {P W : Int} {p : Int × Int} : isPair P W (prD p) = true ↔ 0 ≤ p.1 ∧ p.1 < P ∧ 0 ≤ p.2 ∧ p.2 < W := by
  constructor
  · intro h
    exact (isPair_of h).2
  · rintro ⟨h1, h2, h3, h4⟩
    show (decide (0 ≤ p.1) && decide (p.1 ≤ P - 1) && (decide (0 ≤ p.2) && decide (p.2 ≤ W - 1))) = true
    simp
    omega
/-! sorted lists of pairs -/
def leP (p q : Int × Int) : Prop := SrtO.lexB q p = false
theorem leP_iff {p q : Int × Int} : leP p q ↔ p.1 < q.1 ∨ (p.1 = q.1 ∧ p.2 ≤ q.2) := by
  unfold leP
  rw [SrtO.lexB_no]
  omega
def leB (p q : Int × Int) : Bool := !SrtO.lexB q p
def srt (l : List (Int × Int)) : List (Int × Int) := l.mergeSort leB
theorem leB_iff {p q : Int × Int} : leB p q = true ↔ leP p q := by
  unfold leB leP
  cases SrtO.lexB q p <;> simp
theorem srt_sorted (l : List (Int × Int)) : (srt l).Pairwise leP := by
  have h := List.pairwise_mergeSort (le := leB) (fun a b c h1 h2 => leB_iff.mpr (by
    have a1 := leP_iff.mp (leB_iff.mp h1)
    have a2 := leP_iff.mp (leB_iff.mp h2)
    exact leP_iff.mpr (by omega))) (fun a b => by
    by_cases h : leB a b = true
    · rw [h]
      rfl
    · have h2 : leB b a = true := leB_iff.mpr (leP_iff.mpr (by
        have n : ¬ leP a b := fun z => h (leB_iff.mpr z)
        rw [leP_iff] at n
        omega))
      rw [h2]
      simp) l
  exact h.imp fun z => leB_iff.mp z
theorem srt_perm (l : List (Int × Int)) : (srt l).Perm l := List.mergeSort_perm l leB
theorem srt_len (l : List (Int × Int)) : (srt l).length = l.length := (srt_perm l).length_eq
theorem srt_uniq {l m : List (Int × Int)} (h : l.Pairwise leP) (p : l.Perm m) : l = srt m :=
  List.Perm.eq_of_pairwise (le := leP) (fun a b _ _ h1 h2 => by
    have a1 := leP_iff.mp h1
    have a2 := leP_iff.mp h2
    exact Prod.ext (by omega) (by omega)) h (srt_sorted m) (p.trans (srt_perm m).symm)
def Asc (l : List (Int × Int)) : Prop := l.Pairwise fun p q => SrtO.lexB p q = true
theorem asc_le {l : List (Int × Int)} (h : Asc l) : l.Pairwise leP := h.imp fun z => leP_iff.mpr (by
  have := SrtO.lexB_iff.mp z
  omega)
theorem asc_nodup {l : List (Int × Int)} (h : Asc l) : l.Nodup := h.imp fun {a b} z e => by
  subst e
  have := SrtO.lexB_iff.mp z
  omega
theorem asc_of {l : List (Int × Int)} (h : l.Pairwise leP) (n : l.Nodup) : Asc l := by
  have := List.Pairwise.and h n
  exact this.imp fun {a b} z => SrtO.lexB_iff.mpr (by
    have z1 := leP_iff.mp z.1
    have z2 : ¬ (a.1 = b.1 ∧ a.2 = b.2) := fun e => z.2 (Prod.ext e.1 e.2)
    omega)
/-- equal neighbours tell of a double -/
theorem twins {l : List (Int × Int)} (h : l.Pairwise leP) (n : ∀ i, 1 ≤ i → i < l.length → l.getD (i - 1) (0, 0) ≠ l.getD i (0, 0)) : l.Nodup := by
  induction l with
  | nil => exact .nil
  | cons a r ih =>
    cases r with
    | nil => exact List.pairwise_singleton _ _
    | cons b r =>
      have h2 := (List.pairwise_cons.mp h).2
      have nd : (b :: r).Nodup := ih h2 fun i i1 i2 => by
        have := n (i + 1) (by omega) (by simp at i2 ⊢; omega)
        have e : i + 1 - 1 = (i - 1) + 1 := by omega
        rw [e] at this
        exact this
      refine List.nodup_cons.mpr ⟨fun m => ?_, nd⟩
      have hab : a ≠ b := n 1 (by omega) (by simp)
      have l1 : leP a b := (List.pairwise_cons.mp h).1 b List.mem_cons_self
      rcases List.mem_cons.mp m with e | e
      · exact hab e
      · have l2 : leP b a := (List.pairwise_cons.mp h2).1 a e
        have z1 := leP_iff.mp l1
        have z2 := leP_iff.mp l2
        exact hab (Prod.ext (by omega) (by omega))
/-! pictures -/
structure Pic (C : Addr) (H : Hp) (a : Addr) (P W : Int) (ps : List (Int × Int)) : Prop where
  at_ : ∃ (dx t : Addr) (v : V) (xs : List V), H a = some (.ins C dx [("points", .int P), ("walls", .int W), ("pairs", .ref t), ("_pieces", v)]) ∧ Frz H t xs ∧ DqAll H xs (ps.map prD) ∧ Dq H v (.tuple (piecesD P (marks P W ps)))
  ok : 1 ≤ P ∧ P ≤ 5 ∧ 1 ≤ W ∧ W ≤ 5
  ins : Ins P W ps
  asc : Asc ps
theorem Pic.same {C : Addr} {H H' : Hp} {a : Addr} {P W : Int} {ps : List (Int × Int)} (h : Pic C H a P W ps) (s : Same H H') : Pic C H' a P W ps := by
  obtain ⟨⟨dx, t, v, xs, h1, h2, h2', h3⟩, h4, h5, h6⟩ := h
  exact ⟨⟨dx, t, v, xs, s _ _ h1, h2.same s, DqAll.same s _ h2', h3.same s⟩, h4, h5, h6⟩
def wordD (p w ps : PyData) : Option Str :=
  if wholeD p 1 5 = true then
    if wholeD w 1 5 = true then
      match p, w, itemsD ps with
      | .int P, .int W, some ds => if ds.all (isPair P W) = true then (if (ds.map prOf).Nodup then none else some "double") else some "pair"
      | _, _, _ => some "pair"
    else some "walls"
  else some "points"
def sp_is_pair (C : Addr) : Sp := fun vs H Q _ => ∃ (a dx : Addr) (x : V) (d : PyData) (P W : Int) (fs : List (Str × V)), vs = [.ref a, x] ∧ H a = some (.ins C dx fs) ∧ fs.lookup ("points" : Str) = some (.int P) ∧ fs.lookup ("walls" : Str) = some (.int W) ∧ Dq H x d ∧
  ∀ H', Same H H' → Q (.bl (isPair P W d)) H'
section
variable {P : Program} {w : World} {K : PySem.W.Frag} {mg : Str → Option Value} {base : Heap}
end
end K26
set_option Elab.async false
set_option linter.all false
set_option maxRecDepth 100000
set_option maxHeartbeats 4000000
set_option exponentiation.threshold 5000
namespace K26
open PySem PySem.Spec PyProof.Rows L2 TkS
/-! stores to an instance leave data as it is -/
mutual
theorem dq_put {H : Hp} {a C dx : Addr} {fs : List (Str × V)} {o : HO} (h : H a = some (.ins C dx fs)) : ∀ {v : V} (d : PyData), Dq H v d → Dq (upd H a o) v d
  | _, .none, .non => .non
  | _, .bool _, .bl b => .bl b
  | _, .int _, .int i => .int i
  | _, .str _, .str x => .str x
  | _, .list _, .lst e t => .lst (by
      rw [upd_ne (fun z => by rw [z, h] at e; cases e)]
      exact e) (dqAll_put h _ t)
  | _, .tuple _, .tup e t => .tup (by
      rw [upd_ne (fun z => by rw [z, h] at e; cases e)]
      exact e) (dqAll_put h _ t)
theorem dqAll_put {H : Hp} {a C dx : Addr} {fs : List (Str × V)} {o : HO} (h : H a = some (.ins C dx fs)) : ∀ {vs : List V} (ds : List PyData), DqAll H vs ds → DqAll (upd H a o) vs ds
  | _, [], .nil => .nil
  | _, _ :: _, .cons k t => .cons (dq_put h _ k) (dqAll_put h _ t)
end
theorem sq_put {K : PySem.W.Frag} {H : Hp} {a C dx p : Addr} {fs : List (Str × V)} {o : HO} {d : PyData} {ds : List PyData} (h : H a = some (.ins C dx fs)) (k : Dq H (.ref p) d) (e : itemsD d = some ds) : ∃ xs, DqAll (upd H a o) xs ds ∧ Sq K (upd H a o) p xs := by
  obtain ⟨p', xs, z, h1, h2⟩ := sq_of (K := K) (dq_put (o := o) h _ k) e
  cases z
  exact ⟨xs, h1, h2⟩
def KeepA (a : Addr) (H H' : Hp) : Prop := ∀ b o, H b = some o → b ≠ a → H' b = some o
theorem KeepA.same {a : Addr} {H H1 H2 : Hp} (k : KeepA a H H1) (s : Same H1 H2) : KeepA a H H2 := fun b o e n => s _ _ (k b o e n)
theorem KeepA.put {a : Addr} {H H1 : Hp} {o : HO} (k : KeepA a H H1) : KeepA a H (upd H1 a o) := fun b x e n => by
  rw [upd_ne n]
  exact k b x e n
def prV (H : Hp) : V → Int × Int
  | .ref t => match H t with
    | some (.tup [.int a, .int b]) => (a, b)
    | _ => (0, 0)
  | _ => (0, 0)
theorem prV_of {H : Hp} {x : V} {p : Int × Int} (k : Dq H x (prD p)) : prV H x = p ∧ ∃ t, x = .ref t ∧ H t = some (.tup [.int p.1, .int p.2]) := by
  cases k with
  | tup e t =>
    cases t with
    | cons u v =>
      cases v with
      | cons u' v' =>
        cases v'
        cases u
        cases u'
        refine ⟨?_, _, rfl, e⟩
        unfold prV
        simp only [e]
theorem prV_map {H : Hp} : ∀ {xs : List V} {l : List (Int × Int)}, DqAll H xs (l.map prD) → xs.map (prV H) = l ∧ ∀ x ∈ xs, Dq H x (prD (prV H x)) ∧ ∃ t, x = .ref t ∧ H t = some (.tup [.int (prV H x).1, .int (prV H x).2])
  | _, [], .nil => ⟨rfl, fun x m => nomatch m⟩
  | _, p :: l, .cons k t => by
    obtain ⟨e1, t1, e2, e3⟩ := prV_of k
    obtain ⟨f1, f2⟩ := prV_map t
    refine ⟨by rw [List.map_cons, e1, f1], fun x m => ?_⟩
    rcases List.mem_cons.mp m with z | m
    · subst z
      rw [e1]
      exact ⟨k, t1, e2, e3⟩
    · exact f2 x m
theorem dqAll_by {H : Hp} {k : V → Int × Int} : ∀ {xs : List V}, (∀ x ∈ xs, Dq H x (prD (k x))) → DqAll H xs ((xs.map k).map prD)
  | [], _ => .nil
  | x :: xs, h => .cons (h x List.mem_cons_self) (dqAll_by fun y m => h y (List.mem_cons_of_mem _ m))
theorem two_ints {H H' : Hp} {xs : List V} {i j : Int} (h : DqAll H xs [.int i, .int j]) : xs = [.int i, .int j] ∧ DqAll H' xs [.int i, .int j] := by
  cases h with
  | cons u v =>
    cases v with
    | cons u' v' =>
      cases v'
      cases u
      cases u'
      exact ⟨rfl, .cons (.int _) (.cons (.int _) .nil)⟩
theorem sorted_is {k : V → Int × Int} {ys zs : List V} {l : List (Int × Int)} (e : ys.map k = l) (s : SrtO.Srtd (ltP k) zs) (b : SrtO.Stb (ltP k) zs ys) : zs.map k = srt l := by
  refine srt_uniq ?_ (by rw [← e]; exact b.perm.map k)
  rw [List.pairwise_map]
  exact s
theorem asg_cb_lc {r : List V → Hp → VK → Prop} {wi : TI} {g : TG} {tt : TT} {te : TE} {vs : List Nat} {gi : TG} {rest : TS} {D : Ends} {σ : L2.St} {H : Hp} (h : tLc wi g tt te vs σ H fun v H1 => r [v] H1 fun x H2 => gi x σ H2 fun σ' H' => rest D σ' H') :
    tSeq (tAsg (tCB r (tCons (tLc wi g tt te vs) tNil)) gi) rest D σ H := h
def sp_Picture_init (C CB : Addr) : Sp := fun vs H Q E => ∃ (a dx : Addr) (p w ps : V) (dp dw dps : PyData), vs = [.ref a, p, w, ps] ∧ H a = some (.ins C dx []) ∧ Dq H p dp ∧ Dq H w dw ∧ Dq H ps dps ∧ (∀ ds, itemsD dps = some ds → ds.length ≤ 200) ∧
  (∀ e, wordD dp dw dps = some e → ∀ d H', KeepA a H H' → H' d = some (.xd [("what", .str e)]) → E (.ref CB) (some d) H') ∧
  (∀ P W ds, dp = .int P → dw = .int W → itemsD dps = some ds → wordD dp dw dps = none → ∀ H', KeepA a H H' → Pic C H' a P W (srt (ds.map prOf)) → Q .non H')
section
variable {P : Program} {w : World} {K : PySem.W.Frag} {mg : Str → Option Value} {base : Heap}
end
end K26
set_option Elab.async false
set_option linter.all false
set_option maxRecDepth 100000
set_option maxHeartbeats 4000000
set_option exponentiation.threshold 5000
namespace K26
open PySem PySem.Spec PyProof.Rows L2 TkS
/-- all pairs -/
def fullPs (p w : Nat) : List (Int × Int) := (List.range p).flatMap fun (i : Nat) => (List.range w).map fun (j : Nat) => ((i : Int), (j : Int))
def isOpen (P W : Int) (ps : List (Int × Int)) (d : PyData) : Bool := isPair P W d && decide (prOf d ∈ ps)
theorem isOpen_of {P W : Int} {ps : List (Int × Int)} {d : PyData} (h : isOpen P W ps d = true) : isPair P W d = true ∧ prOf d ∈ ps := by
  unfold isOpen at h
  rw [Bool.and_eq_true, decide_eq_true_iff] at h
  exact h
theorem tup_items {P W : Int} {d : PyData} (h : isPair P W d = true) : itemsD d = some [.int (prOf d).1, .int (prOf d).2] := (isPair_of h).1
theorem word_none {P W : Int} {ps : List (Int × Int)} {dps : PyData} (ok : 1 ≤ P ∧ P ≤ 5 ∧ 1 ≤ W ∧ W ≤ 5) (hi : Ins P W ps) (nd : ps.Nodup) (e : itemsD dps = some (ps.map prD)) : wordD (.int P) (.int W) dps = none := by
  have b1 : wholeD (.int P) 1 5 = true := by
    show (decide (1 ≤ P) && decide (P ≤ 5)) = true
    simp
    omega
  have b2 : wholeD (.int W) 1 5 = true := by
    show (decide (1 ≤ W) && decide (W ≤ 5)) = true
    simp
    omega
  have b3 : (ps.map prD).all (isPair P W) = true := by
    rw [List.all_map, List.all_eq_true]
    exact fun p m => isPair_prD.mpr (hi p m)
  have b4 : ((ps.map prD).map prOf) = ps := by
    rw [List.map_map, show (prOf ∘ prD) = id from rfl, List.map_id]
  unfold wordD
  rw [b1, b2, e]
  show (if (ps.map prD).all (isPair P W) = true then (if ((ps.map prD).map prOf).Nodup then (none : Option Str) else some ("double" : Str)) else some ("pair" : Str)) = none
  rw [if_pos b3, b4, if_pos nd]
theorem rm_at : ∀ {ps : List (Int × Int)} {j : Nat} {q : Int × Int}, ps.Nodup → ps[j]? = some q → ps.take j ++ ps.drop (j + 1) = ps.filter fun p => decide (p ≠ q)
  | p :: ps, 0, q, nd, e => by
    have e' : p = q := Option.some.inj e
    subst e'
    have n := (List.nodup_cons.mp nd).1
    rw [List.filter_cons_of_neg (by simp)]
    show ps = _
    exact (List.filter_eq_self.mpr fun x m => by
      simp
      intro z
      subst z
      exact n m).symm
  | p :: ps, j + 1, q, nd, e => by
    have m : q ∈ ps := List.mem_of_getElem? (i := j) (by simpa using e)
    have n : p ≠ q := fun z => (List.nodup_cons.mp nd).1 (z ▸ m)
    rw [List.filter_cons_of_pos (by simpa using n), ← rm_at (j := j) (List.nodup_cons.mp nd).2 (by simpa using e)]
    rfl
theorem asc_filter {ps : List (Int × Int)} (f : Int × Int → Bool) (h : Asc ps) : Asc (ps.filter f) := List.Pairwise.sublist List.filter_sublist h
theorem srt_asc {ps : List (Int × Int)} (h : Asc ps) : srt ps = ps := (srt_uniq (asc_le h) (List.Perm.refl _)).symm
/-- a new picture, as the caller of the class sees it -/
theorem mk_pic {C CB : Addr} {H1 : Hp} {R : Addr → Hp → Prop} {E : XK} {p w ps : V} {dp dw dps : PyData} (kp : Dq H1 p dp) (kw : Dq H1 w dw) (kps : Dq H1 ps dps) (hlen : ∀ ds, itemsD dps = some ds → ds.length ≤ 200)
    (hE : ∀ e, wordD dp dw dps = some e → ∀ d H', Same H1 H' → H' d = some (.xd [("what", .str e)]) → E (.ref CB) (some d) H')
    (hQ : ∀ P W ds, dp = .int P → dw = .int W → itemsD dps = some ds → wordD dp dw dps = none → ∀ H' y, Same H1 H' → H1 y = none → Pic C H' y P W (srt (ds.map prOf)) → R y H') :
    ∀ x dx, H1 x = none → H1 dx = none → dx ≠ x → sp_Picture_init C CB (.ref x :: ([p, w, ps] ++ [])) (upd (upd H1 dx (.own x)) x (.ins C dx [])) (fun v H2 => v = .non ∧ R x H2) E := fun x dx nx nd ne => by
  have s0 : Same H1 (upd (upd H1 dx (.own x)) x (.ins C dx [])) := Same.made nx nd fun b o e _ => e
  have sm : ∀ H', KeepA x (upd (upd H1 dx (.own x)) x (.ins C dx [])) H' → Same H1 H' := fun H' k => Same.made nx nd k
  exact ⟨x, dx, p, w, ps, dp, dw, dps, rfl, upd_same, kp.same s0, kw.same s0, kps.same s0, hlen, fun e he d H' k hd => hE e he d H' (sm H' k) hd, fun P W ds e1 e2 e3 e4 H' k hp => ⟨rfl, hQ P W ds e1 e2 e3 e4 H' x (sm H' k) nx hp⟩⟩
def sp_is_open (C : Addr) : Sp := fun vs H Q _ => ∃ (a : Addr) (x : V) (d : PyData) (P W : Int) (ps : List (Int × Int)), vs = [.ref a, x] ∧ Pic C H a P W ps ∧ Dq H x d ∧ ∀ H', Same H H' → Q (.bl (isOpen P W ps d)) H'
def sp_place_of (C CN : Addr) : Sp := fun vs H Q E => ∃ (a : Addr) (x : V) (d : PyData) (P W : Int) (ps : List (Int × Int)), vs = [.ref a, x] ∧ Pic C H a P W ps ∧ Dq H x d ∧
  (isOpen P W ps d = false → ∀ e H', Same H H' → H' e = some (.xd [("pair", x)]) → E (.ref CN) (some e) H') ∧
  (isOpen P W ps d = true → ∀ (j : Nat) H', ps[j]? = some (prOf d) → Same H H' → Q (.int (j : Int)) H')
def sp_Picture_len (C : Addr) : Sp := fun vs H Q _ => ∃ (a : Addr) (P W : Int) (ps : List (Int × Int)), vs = [.ref a] ∧ Pic C H a P W ps ∧ ∀ H', Same H H' → Q (.int (ps.length : Int)) H'
def sp_Picture_pieces (C : Addr) : Sp := fun vs H Q _ => ∃ (a : Addr) (P W : Int) (ps : List (Int × Int)), vs = [.ref a] ∧ Pic C H a P W ps ∧ ∀ v, Dq H v (.tuple (piecesD P (marks P W ps))) → Q v H
def sp_Picture_eq (C : Addr) : Sp := fun vs H Q _ => ∃ (a b : Addr) (P W : Int) (ps : List (Int × Int)) (P' W' : Int) (ps' : List (Int × Int)), vs = [.ref a, .ref b] ∧ Pic C H a P W ps ∧ Pic C H b P' W' ps' ∧ ∀ H', Same H H' → Q (.bl (decide (P = P' ∧ W = W' ∧ ps = ps'))) H'
section
variable {P : Program} {w : World} {K : PySem.W.Frag} {mg : Str → Option Value} {base : Heap}
theorem hu65 {k : Nat} {A : Around} (hr : Room k A) : A.units + 65 < cLine := by
  have := hr.un
  omega
theorem at_of_mem {ps : List (Int × Int)} {q : Int × Int} (h : q ∈ ps) : ∃ j : Nat, ps[j]? = some q ∧ ∀ m, m < j → ps[m]? ≠ some q := by
  induction ps with
  | nil => cases h
  | cons p ps ih =>
    by_cases e : p = q
    · exact ⟨0, by rw [e]; rfl, fun m hm => absurd hm (Nat.not_lt_zero _)⟩
    · rcases List.mem_cons.mp h with z | z
      · exact absurd z.symm e
      · obtain ⟨j, h1, h2⟩ := ih z
        refine ⟨j + 1, h1, fun m hm => ?_⟩
        cases m with
        | zero => exact fun z => e (Option.some.inj z)
        | succ m => exact h2 m (by omega)
end
end K26
set_option Elab.async false
set_option linter.all false
set_option maxRecDepth 100000
set_option maxHeartbeats 4000000
set_option exponentiation.threshold 5000
namespace K26
open PySem PySem.Spec PyProof.Rows L2 TkS
def rowPs (i w : Nat) : List (Int × Int) := (List.range w).map fun (j : Nat) => ((i : Int), (j : Int))
theorem fullPs_eq (p w : Nat) : fullPs p w = (List.range p).flatMap fun i => rowPs i w := rfl
theorem fullPs_succ (p w : Nat) : fullPs (p + 1) w = fullPs p w ++ rowPs p w := by
  rw [fullPs_eq, fullPs_eq, List.range_succ, List.flatMap_append]
  simp
theorem rowPs_succ (i j : Nat) : rowPs i (j + 1) = rowPs i j ++ [((i : Int), (j : Int))] := by
  unfold rowPs
  rw [List.range_succ, List.map_append]
  rfl
theorem fullPs_len (p w : Nat) : (fullPs p w).length = p * w := by
  induction p with
  | zero => simp [fullPs]
  | succ p ih =>
    rw [fullPs_succ, List.length_append, ih, Nat.succ_mul]
    congr 1
    unfold rowPs
    simp
theorem mem_fullPs {p w : Nat} {q : Int × Int} : q ∈ fullPs p w ↔ 0 ≤ q.1 ∧ q.1 < p ∧ 0 ≤ q.2 ∧ q.2 < w := by
  unfold fullPs
  simp only [List.mem_flatMap, List.mem_map, List.mem_range]
  constructor
  · rintro ⟨i, hi, j, hj, rfl⟩
    refine ⟨?_, ?_, ?_, ?_⟩ <;> simp <;> omega
  · rintro ⟨h1, h2, h3, h4⟩
    exact ⟨q.1.toNat, by omega, q.2.toNat, by omega, Prod.ext (by simp; omega) (by simp; omega)⟩
theorem fullPs_asc (p w : Nat) : Asc (fullPs p w) := by
  unfold fullPs Asc
  rw [List.pairwise_flatMap]
  refine ⟨fun i _ => ?_, ?_⟩
  · rw [List.pairwise_map]
    refine List.Pairwise.imp (R := fun (a b : Nat) => a < b) ?_ List.pairwise_lt_range
    intro a b h
    exact SrtO.lexB_iff.mpr (.inr ⟨rfl, Int.ofNat_lt.mpr h⟩)
  · refine List.pairwise_lt_range.imp fun {a b} h => ?_
    intro x hx y hy
    obtain ⟨j, _, rfl⟩ := List.mem_map.mp hx
    obtain ⟨k, _, rfl⟩ := List.mem_map.mp hy
    exact SrtO.lexB_iff.mpr (.inl (Int.ofNat_lt.mpr h))
theorem fullPs_ins {P W : Int} (p0 : 0 ≤ P) (w0 : 0 ≤ W) : Ins P W (fullPs P.toNat W.toNat) := fun q m => by
  have := mem_fullPs.mp m
  omega
/-- two ranges in a comprehension -/
theorem lc2_rr {n m : Nat} {g g1 : TG} {tt tt1 : TT} {te : TE} {vs vs1 : List Nat} {wi wi1 : TI} {σ : L2.St} {H : Hp} {Q : VK} (Pv : Addr → Nat → Nat → Hp → Prop)
    (hi : ∀ R, R (Itr 0 n) H → wi σ H R) (h0 : ∀ D, H D = none → Pv D 0 0 (upd H D (.lst [])))
    (hs : ∀ D i H', H D = none → i < n → Pv D i 0 H' → g (.int (0 + (i : Int))) (wipe σ vs) H' fun σ2 H2 => wipe σ2 vs = wipe σ vs ∧ tt σ2 H2 fun b H3 => b = true ∧ wi1 σ2 H3 fun J1 H4 => J1 = Itr 0 m ∧ Pv D i 0 H4 ∧
      ∀ j H5, j < m → Pv D i j H5 → g1 (.int (0 + (j : Int))) (wipe σ2 vs1) H5 fun σ3 H6 => wipe σ3 vs1 = wipe σ2 vs1 ∧ tt1 σ3 H6 fun b H7 => b = true ∧ te σ3 H7 fun y H8 => ∃ acc, H8 D = some (.lst acc) ∧ acc.length < sizeLine ∧ Pv D i (j + 1) (upd H8 D (.lst (acc ++ [y]))))
    (hrow : ∀ D i H', i < n → Pv D i m H' → Pv D (i + 1) 0 H') (hd : ∀ D H', H D = none → Pv D n 0 H' → Q (.ref D) H')
    (mono : ∀ σ H (R R' : It → Hp → Prop), (∀ J H, R J H → R' J H) → wi1 σ H R → wi1 σ H R')
    (mg : ∀ x σ H (R R' : L2.St → Hp → Prop), (∀ σ H, R σ H → R' σ H) → g x σ H R → g x σ H R') (mg1 : ∀ x σ H (R R' : L2.St → Hp → Prop), (∀ σ H, R σ H → R' σ H) → g1 x σ H R → g1 x σ H R')
    (mt : ∀ σ H (R R' : Bool → Hp → Prop), (∀ b H, R b H → R' b H) → tt σ H R → tt σ H R') (mt1 : ∀ σ H (R R' : Bool → Hp → Prop), (∀ b H, R b H → R' b H) → tt1 σ H R → tt1 σ H R') :
    tLc2 wi g tt wi1 g1 tt1 te vs vs1 σ H Q := by
  refine hi _ fun D nD => ⟨fun i k H' => k = n - i ∧ i ≤ n ∧ Pv D i 0 H', ⟨n, by simp, Nat.zero_le _, h0 D nD⟩, ?_⟩
  rintro i k H' ⟨rfl, hin, p⟩
  by_cases hlt : i < n
  · refine .inr ⟨hlt, Pv D (i + 1) 0, fun H2 p' => ⟨n - (i + 1), by omega, rfl, hlt, p'⟩, fun x H2 y => ?_⟩
    obtain ⟨e, y⟩ := y
    subst e y
    refine mg _ _ _ _ _ (fun σ2 H3 h => ⟨h.1, mt _ _ _ _ (fun b H4 h => ?_) h.2⟩) (hs D i _ nD hlt p)
    obtain ⟨rfl, h⟩ := h
    rw [if_pos rfl]
    refine mono _ _ _ _ (fun J H5 h => ?_) h
    obtain ⟨rfl, q0, h⟩ := h
    refine ⟨fun j k H6 => k = m - j ∧ j ≤ m ∧ Pv D i j H6, ⟨m, by simp, Nat.zero_le _, q0⟩, ?_⟩
    rintro j k H6 ⟨rfl, hjm, p2⟩
    by_cases hj : j < m
    · refine .inr ⟨hj, Pv D i (j + 1), fun H7 p' => ⟨m - (j + 1), by omega, rfl, hj, p'⟩, fun x H7 y => ?_⟩
      obtain ⟨e, y⟩ := y
      subst e y
      refine mg1 _ _ _ _ _ (fun σ3 H8 h => ⟨h.1, mt1 _ _ _ _ (fun b H9 h => ?_) h.2⟩) (h j _ hj p2)
      obtain ⟨rfl, h⟩ := h
      rw [if_pos rfl]
      exact h
    · have e : j = m := by omega
      subst e
      exact .inl ⟨Nat.le_refl _, hrow D i _ hlt p2⟩
  · have e : i = n := by omega
    subst e
    exact .inl ⟨Nat.le_refl _, hd D _ nD p⟩
theorem asg_next {i : Nat} {x : V} {t : TE} {g : TG} {rest : TS} {D : Ends} {σ : L2.St} {H : Hp} (h : t (σ.set i (some x)) H fun y H2 => g y (σ.set i (some x)) H2 (rest D)) : gName i x σ H (tSeq (tAsg t g) rest D) := h
section
variable {P : Program} {w : World} {K : PySem.W.Frag} {mg : Str → Option Value} {base : Heap}
end
end K26
set_option Elab.async false
set_option linter.all false
set_option maxRecDepth 100000
set_option maxHeartbeats 4000000
/-! comprehensions whose items are data -/
namespace TkS
open PySem PySem.Spec PyProof.Rows L2
theorem off_put {h : Addr} {H : Hp} {o : HO} : TkS.Off h (upd H h o) = TkS.Off h H := by
  funext b
  unfold TkS.Off
  by_cases z : b = h
  · rw [if_pos z, if_pos z]
  · rw [if_neg z, if_neg z, upd_ne z]
theorem filter_snoc {α β : Type} (p : α → Bool) (f : α → β) {l : List α} {i : Nat} {x : α} (h : l[i]? = some x) :
    ((l.take (i + 1)).filter p).map f = if p x = true then ((l.take i).filter p).map f ++ [f x] else ((l.take i).filter p).map f := by
  rw [List.take_add_one, h]
  show ((l.take i ++ [x]).filter p).map f = _
  rw [List.filter_append, List.map_append, List.filter_cons]
  by_cases c : p x = true
  · rw [if_pos c, if_pos c]
    rfl
  · rw [if_neg c, if_neg c]
    show ((l.take i).filter p).map f ++ [] = _
    rw [List.append_nil]
theorem len_ft {α β : Type} (p : α → Bool) (f : α → β) (l : List α) : ((l.filter p).map f).length ≤ l.length := by
  rw [List.length_map]
  exact List.length_filter_le _ _
/-- the shared turn: a list D under way -/
def Acc (H0 : Hp) (D : Addr) (ds : List PyData) (H' : Hp) : Prop := Same H0 H' ∧ ∃ ys, H' D = some (.lst ys) ∧ DqAll (TkS.Off D H') ys ds
theorem Acc.nil {H0 : Hp} {D : Addr} (nD : H0 D = none) : Acc H0 D [] (upd H0 D (.lst [])) := ⟨same_new nD, [], upd_same, .nil⟩
theorem Acc.put {H0 H' H'' : Hp} {D : Addr} {ds : List PyData} {y : V} {d : PyData} (a : Acc H0 D ds H') (nD : H0 D = none) (hl : ds.length ≤ 900) (s : Same H' H'') (k : Dq (TkS.Off D H'') y d) :
    ∃ acc, H'' D = some (.lst acc) ∧ acc.length < sizeLine ∧ Acc H0 D (ds ++ [d]) (upd H'' D (.lst (acc ++ [y]))) := by
  obtain ⟨s0, ys, h1, h2⟩ := a
  refine ⟨ys, s _ _ h1, ?_, fun b o e => ?_, ys ++ [y], upd_same, ?_⟩
  · rw [h2.len]
    exact Nat.lt_of_le_of_lt hl (by decide)
  · rw [upd_ne (ne_of_none e nD)]
    exact s _ _ (s0 _ _ e)
  · rw [off_put]
    exact (DqAll.same (off_of s) _ h2).snoc k
theorem Acc.mv {H0 H' H'' : Hp} {D : Addr} {ds : List PyData} (a : Acc H0 D ds H') (s : Same H' H'') : Acc H0 D ds H'' := by
  obtain ⟨s0, ys, h1, h2⟩ := a
  exact ⟨s0.trans s, ys, s _ _ h1, DqAll.same (off_of s) _ h2⟩
theorem Acc.dq {H0 H' : Hp} {D : Addr} {ds : List PyData} (a : Acc H0 D ds H') : Dq H' (.ref D) (.list ds) := by
  obtain ⟨s0, ys, h1, h2⟩ := a
  exact .lst h1 (DqAll.same off_same _ h2)
theorem lc_rngD {tt : TT} {te : TE} {vs : List Nat} {σ : L2.St} {H0 : Hp} {D : Addr} {Qd : Hp → Prop} {j n : Nat} (f : Nat → Bool) (e : Nat → PyData)
    (nD : H0 D = none) (hl : n ≤ 900) (hw : ∀ x : V, wipe ((wipe σ vs).set j (some x)) vs = wipe σ vs)
    (ht : ∀ (i : Nat) (H' : Hp) (Q : Bool → Hp → Prop), i < n → Same H0 H' → (∀ H'', Same H' H'' → Q (f i) H'') → tt ((wipe σ vs).set j (some (.int (0 + (i : Int))))) H' Q)
    (he : ∀ (i : Nat) (H' : Hp) (Q : VK), i < n → f i = true → Same H0 H' → (∃ acc, H' D = some (.lst acc)) → (∀ y H'', Same H' H'' → Dq (TkS.Off D H'') y (e i) → Q y H'') → te ((wipe σ vs).set j (some (.int (0 + (i : Int))))) H' Q)
    (hd : ∀ H', Same H0 H' → Dq H' (.ref D) (.list (((List.range n).filter f).map e)) → Qd H') :
    ∃ W : Nat → Nat → Hp → Prop, (∃ m, W 0 m (upd H0 D (.lst []))) ∧ ∀ i m H, W i m H →
      ((Itr 0 n).stop i H ∧ Qd H) ∨ ((Itr 0 n).go i H ∧ ∃ Nx : Hp → Prop, (∀ H', Nx H' → ∃ m', m' < m ∧ W (i + 1) m' H') ∧ ∀ x H', (Itr 0 n).yld i H x H' → gName j x (wipe σ vs) H' fun σ2 H2 => wipe σ2 vs = wipe σ vs ∧ tt σ2 H2 fun b H3 =>
        if b = true then te σ2 H3 fun y H4 => ∃ acc, H4 D = some (.lst acc) ∧ acc.length < sizeLine ∧ Nx (upd H4 D (.lst (acc ++ [y]))) else Nx H3) := by
  refine lc_range (lo := 0) (n := n) (fun i H' => Acc H0 D (((List.range i).filter f).map e) H') (Acc.nil nD) (fun i H' hi hP => ?_) (fun H' hP => ?_)
  · refine ⟨hw _, ht i H' _ hi hP.1 fun H2 s2 => ?_⟩
    have er : ((List.range (i + 1)).filter f).map e = if f i = true then ((List.range i).filter f).map e ++ [e i] else ((List.range i).filter f).map e := by
      rw [List.range_succ, List.filter_append, List.map_append, List.filter_cons]
      by_cases c : f i = true
      · rw [if_pos c, if_pos c]
        rfl
      · rw [if_neg c, if_neg c]
        show _ ++ [] = _
        rw [List.append_nil]
    have hP2 := hP.mv s2
    cases c : f i with
    | true =>
      refine he i H2 _ hi c hP2.1 ⟨_, hP2.2.choose_spec.1⟩ fun y H3 s3 k => ?_
      rw [er, if_pos c]
      refine hP2.put nD ?_ s3 k
      have := len_ft f e (List.range i)
      rw [List.length_range] at this
      omega
    | false =>
      show Acc _ _ _ _
      rw [er, c, if_neg Bool.false_ne_true]
      exact hP2
  · exact hd H' hP.1 hP.dq
theorem lc_seqD {K : PySem.W.Frag} {a : Addr} {xs : List V} {ds : List PyData} {tl : TE} {tt : TT} {te : TE} {vs : List Nat} {σ : L2.St} {H : Hp} {Q : VK} {j : Nat} (f : PyData → Bool) (e : PyData → PyData)
    (ht0 : ∀ Q : VK, Q (.ref a) H → tl σ H Q) (hq : Sq K H a xs) (hx : DqAll H xs ds) (hl : ds.length ≤ 900) (hw : ∀ x : V, wipe ((wipe σ vs).set j (some x)) vs = wipe σ vs)
    (ht : ∀ (i : Nat) (x : V) (d : PyData) (H' : Hp) (Q : Bool → Hp → Prop), ds[i]? = some d → Same H H' → Dq H' x d → (∀ H'', Same H' H'' → Q (f d) H'') → tt ((wipe σ vs).set j (some x)) H' Q)
    (he : ∀ (D : Addr) (i : Nat) (x : V) (d : PyData) (H' : Hp) (Q : VK), H D = none → ds[i]? = some d → f d = true → Same H H' → Dq H' x d → (∃ acc, H' D = some (.lst acc)) → (∀ y H'', Same H' H'' → Dq (TkS.Off D H'') y (e d) → Q y H'') → te ((wipe σ vs).set j (some x)) H' Q)
    (hd : ∀ D H', H D = none → Same H H' → Dq H' (.ref D) (.list ((ds.filter f).map e)) → Q (.ref D) H') :
    tLc (iSeq K tl) (gName j) tt te vs σ H Q := by
  refine lc_seq (fun D i H' => Acc H D (((ds.take i).filter f).map e) H') ht0 hq (fun D nD => Acc.nil nD) (fun D i H' _ _ hP => hP.1) (fun D i x H' nD hxi hP => ?_) (fun D H' nD hP => ?_)
  · obtain ⟨d, hdi, kd⟩ := hx.get hxi
    have kd1 := kd.same hP.1
    refine ⟨hw _, ht i x d H' _ hdi hP.1 kd1 fun H2 s2 => ?_⟩
    have hP2 := hP.mv s2
    cases c : f d with
    | true =>
      refine he D i x d H2 _ nD hdi c hP2.1 (kd1.same s2) ⟨_, hP2.2.choose_spec.1⟩ fun y H3 s3 k => ?_
      rw [filter_snoc _ _ hdi, if_pos c]
      refine hP2.put nD ?_ s3 k
      have := len_ft f e (ds.take i)
      rw [List.length_take] at this
      omega
    | false =>
      show Acc _ _ _ _
      rw [filter_snoc _ _ hdi, c, if_neg Bool.false_ne_true]
      exact hP2
  · rw [hx.len, List.take_length] at hP
    exact hd D H' nD hP.1 hP.dq
/-! data without a list -/
mutual
def noList : PyData → Bool
  | .list _ => false
  | .tuple ds => noLists ds
  | _ => true
def noLists : List PyData → Bool
  | [] => true
  | d :: ds => noList d && noLists ds
end
mutual
theorem dq_noL {H : Hp} {D : Addr} {acc : List V} (h : H D = some (.lst acc)) : ∀ {v : V} (d : PyData), noList d = true → Dq H v d → Dq (TkS.Off D H) v d
  | _, .none, _, .non => .non
  | _, .bool _, _, .bl b => .bl b
  | _, .int _, _, .int i => .int i
  | _, .str _, _, .str x => .str x
  | _, .list _, n, .lst e t => by cases n
  | _, .tuple ds, n, .tup e t => .tup (off_at (fun z => by rw [z, h] at e; cases e) e) (dqs_noL h ds n t)
theorem dqs_noL {H : Hp} {D : Addr} {acc : List V} (h : H D = some (.lst acc)) : ∀ {vs : List V} (ds : List PyData), noLists ds = true → DqAll H vs ds → DqAll (TkS.Off D H) vs ds
  | _, [], _, .nil => .nil
  | _, d :: ds, n, .cons k t => .cons (dq_noL h d (by
      have n' : (noList d && noLists ds) = true := n
      exact (Bool.and_eq_true_iff.mp n').1) k) (dqs_noL h ds (by
      have n' : (noList d && noLists ds) = true := n
      exact (Bool.and_eq_true_iff.mp n').2) t)
end
/-! a hand (a list of a list and three ints) is no part of other data -/
def handD : PyData → Bool
  | .list [_, .int _, .int _, .int _] => true
  | _ => false
mutual
def noHand : PyData → Bool
  | .list ds => !handD (.list ds) && noHands ds
  | .tuple ds => noHands ds
  | _ => true
def noHands : List PyData → Bool
  | [] => true
  | d :: ds => noHand d && noHands ds
end
mutual
theorem dq_hand {H H' : Hp} {h : Addr} {c : V} {p r t : Int} (hh : H h = some (.lst [c, .int p, .int r, .int t])) (k : ∀ b o, b ≠ h → H b = some o → H' b = some o) : ∀ {v : V} (d : PyData), noHand d = true → Dq H v d → Dq H' v d
  | _, .none, _, .non => .non
  | _, .bool _, _, .bl b => .bl b
  | _, .int _, _, .int i => .int i
  | _, .str _, _, .str x => .str x
  | _, .list ds, n, .lst e u => by
    have n' : (!handD (.list ds) && noHands ds) = true := n
    obtain ⟨n1, n2⟩ := Bool.and_eq_true_iff.mp n'
    refine .lst (k _ _ (fun z => ?_) e) (dqs_hand hh k ds n2 u)
    rw [z, hh] at e
    cases e
    cases u with
    | cons u0 u =>
      cases u with
      | cons u1 u =>
        cases u with
        | cons u2 u =>
          cases u with
          | cons u3 u =>
            cases u
            cases u1
            cases u2
            cases u3
            exact absurd n1 (by simp [handD])
  | _, .tuple ds, n, .tup e u => .tup (k _ _ (fun z => by rw [z, hh] at e; cases e) e) (dqs_hand hh k ds n u)
theorem dqs_hand {H H' : Hp} {h : Addr} {c : V} {p r t : Int} (hh : H h = some (.lst [c, .int p, .int r, .int t])) (k : ∀ b o, b ≠ h → H b = some o → H' b = some o) : ∀ {vs : List V} (ds : List PyData), noHands ds = true → DqAll H vs ds → DqAll H' vs ds
  | _, [], _, .nil => .nil
  | _, d :: ds, n, .cons u v => .cons (dq_hand hh k d (by
      have n' : (noHand d && noHands ds) = true := n
      exact (Bool.and_eq_true_iff.mp n').1) u) (dqs_hand hh k ds (by
      have n' : (noHand d && noHands ds) = true := n
      exact (Bool.and_eq_true_iff.mp n').2) v)
end
end TkS
set_option Elab.async false
set_option linter.all false
set_option maxRecDepth 100000
set_option maxHeartbeats 4000000
/-! len(set(xs)), xs a list of tuples of ints -/
namespace TkS
open PySem PySem.Spec PyProof.Rows L2
def rLenSetT (P : Program) (w : World) : List V → Hp → VK → Prop := fun xs H Q => ∃ (a : Addr) (L : List (Addr × List Int)), xs = [.ref a] ∧ H a = some (SetTO P w a L) ∧ (∀ p ∈ L, ∃ ys, H p.1 = some (.tup ys) ∧ ys = p.2.map V.int) ∧ ((L.map (·.2)).Nodup → Q (.int (L.length : Int)) H)
theorem call_lenSetT {X : Cx} : CallR X (.builtin "len") (rLenSetT X.prog X.w) := by
  intro pins s σ H xs us Q I r h
  obtain ⟨a, L, rfl, ha, ht, q⟩ := h
  obtain ⟨u, rfl, rx⟩ := vals1 r
  cases rx
  have R0 : SetT0 X.prog X.w s.heap a L := (I.hok a _ ha).1
  obtain ⟨es, ep, t, R⟩ := R0.full fun p hp => by
    obtain ⟨ys, h1, h2⟩ := ht p hp
    subst h2
    exact I.isT (.inl (.inl h1))
  obtain ⟨o, ho, hex, hd⟩ := R.ob
  have hsz := R.size
  have few := R.few
  refine call_len_set ho hex hd R.fits (by rw [hsz]; omega) ⟨.int (L.length : Int), H, I.tok _, ⟨_, by rw [hsz]⟩, q R.nd⟩
theorem nd_le {α : Type} [DecidableEq α] : ∀ {A B : List α}, A.Nodup → (∀ x ∈ A, x ∈ B) → A.length ≤ B.length
  | [], _, _, _ => Nat.zero_le _
  | a :: A, B, n, s => by
    have ha := s a List.mem_cons_self
    have n2 := List.nodup_cons.mp n
    have := nd_le (A := A) (B := B.erase a) n2.2 fun x m => (List.mem_erase_of_ne (show x ≠ a from fun z => by subst z; exact n2.1 m)).mpr (s x (List.mem_cons_of_mem _ m))
    have e := (List.perm_cons_erase ha).length_eq
    simp only [List.length_cons] at e ⊢
    omega
theorem nd_perm {α : Type} [DecidableEq α] : ∀ {A B : List α}, A.Nodup → (∀ x ∈ A, x ∈ B) → A.length = B.length → A.Perm B
  | [], B, _, _, e => by
    have : B = [] := List.length_eq_zero_iff.mp e.symm
    rw [this]
  | a :: A, B, n, s, e => by
    have ha := s a List.mem_cons_self
    have n2 := List.nodup_cons.mp n
    have pe := List.perm_cons_erase ha
    have e2 := pe.length_eq
    simp only [List.length_cons] at e e2
    exact ((nd_perm (A := A) (B := B.erase a) n2.2 (fun x m => (List.mem_erase_of_ne (show x ≠ a from fun z => by subst z; exact n2.1 m)).mpr (s x (List.mem_cons_of_mem _ m))) (by omega)).cons a).trans pe.symm
theorem nd_iff {α : Type} [DecidableEq α] {A B : List α} (n : A.Nodup) (s : ∀ x ∈ A, x ∈ B) (s' : ∀ x ∈ B, x ∈ A) : A.length = B.length ↔ B.Nodup :=
  ⟨fun e => (nd_perm n s e).nodup_iff.mp n, fun nb => Nat.le_antisymm (nd_le n s) (nd_le nb s')⟩
end TkS
set_option Elab.async false
set_option linter.all false
set_option maxRecDepth 100000
set_option maxHeartbeats 4000000
namespace K26
open TkS
/-! primes -/
def Pr (p : Nat) : Prop := 2 ≤ p ∧ ∀ d, 2 ≤ d → d < p → ¬ d ∣ p
theorem Pr.two {p : Nat} (h : Pr p) : 2 ≤ p := h.1
theorem pr_cop {p a : Nat} (h : Pr p) (na : ¬ p ∣ a) : Nat.gcd p a = 1 := by
  have p0 := h.1
  have g1 := Nat.gcd_dvd_left p a
  have g2 := Nat.gcd_dvd_right p a
  have gp : 0 < Nat.gcd p a := Nat.gcd_pos_of_pos_left a (by omega)
  have gl : Nat.gcd p a ≤ p := Nat.le_of_dvd (by omega) g1
  by_cases c : Nat.gcd p a = 1
  · exact c
  · by_cases c2 : Nat.gcd p a = p
    · rw [c2] at g2
      exact absurd g2 na
    · exact absurd g1 (h.2 _ (by omega) (by omega))
theorem euclid {p a b : Nat} (h : Pr p) (hd : p ∣ a * b) (na : ¬ p ∣ a) : p ∣ b :=
  Nat.Coprime.dvd_of_dvd_mul_left (pr_cop h na) hd
theorem cancel0 {p a b c : Nat} (h : Pr p) (na : ¬ p ∣ a) (le : b ≤ c) (e : a * b % p = a * c % p) : b % p = c % p := by
  have z := Nat.sub_mod_eq_zero_of_mod_eq e.symm
  rw [← Nat.mul_sub] at z
  obtain ⟨k, hk⟩ := euclid h (Nat.dvd_of_mod_eq_zero z) na
  have : c = b + p * k := by omega
  rw [this, Nat.add_mul_mod_self_left]
theorem cancel {p a b c : Nat} (h : Pr p) (na : ¬ p ∣ a) (e : a * b % p = a * c % p) : b % p = c % p := by
  rcases Nat.le_total b c with l | l
  · exact cancel0 h na l e
  · exact (cancel0 h na l e.symm).symm
/-! products -/
def prodL (l : List Nat) : Nat := l.foldr (fun x a => x * a) 1
theorem prod_perm {l m : List Nat} (h : l.Perm m) : prodL l = prodL m := by
  induction h with
  | nil => rfl
  | cons x _ ih => exact congrArg (x * ·) ih
  | swap x y l => exact Nat.mul_left_comm _ _ _
  | trans _ _ h1 h2 => exact h1.trans h2
theorem prod_mul (p a : Nat) : ∀ l : List Nat, prodL (l.map fun x => a * x % p) % p = a ^ l.length * prodL l % p
  | [] => by simp [prodL]
  | x :: l => by
    have ih := prod_mul p a l
    show (a * x % p) * prodL (l.map fun x => a * x % p) % p = a ^ (l.length + 1) * (x * prodL l) % p
    rw [Nat.mul_mod, ih, Nat.mod_mod, ← Nat.mul_mod]
    congr 1
    rw [Nat.pow_succ]
    rw [Nat.mul_mul_mul_comm, Nat.mul_comm a (a ^ l.length)]
theorem prod_not {p : Nat} (h : Pr p) : ∀ l : List Nat, (∀ x ∈ l, ¬ p ∣ x) → ¬ p ∣ prodL l
  | [], _ => fun z => by
    have := Nat.le_of_dvd (by decide) z
    have := h.1
    have e : prodL [] = 1 := rfl
    omega
  | x :: l, hx => fun z => prod_not h l (fun y hy => hx y (List.mem_cons_of_mem _ hy)) (euclid h z (hx x (List.mem_cons_self ..)))
def resL (p : Nat) : List Nat := (List.range (p - 1)).map (· + 1)
theorem res_mem {p x : Nat} : x ∈ resL p ↔ 0 < x ∧ x < p := by
  unfold resL
  rw [List.mem_map]
  refine ⟨fun ⟨i, hi, e⟩ => ?_, fun ⟨h0, h1⟩ => ⟨x - 1, List.mem_range.mpr (by omega), by omega⟩⟩
  have := List.mem_range.mp hi
  omega
theorem res_nd (p : Nat) : (resL p).Nodup := by
  unfold resL
  refine List.Pairwise.map _ (fun a b (h : a ≠ b) => ?_) List.nodup_range
  omega
theorem not_dvd {p x : Nat} (h0 : 0 < x) (h1 : x < p) : ¬ p ∣ x := fun z => by
  have := Nat.le_of_dvd h0 z
  omega
theorem fermat {p a : Nat} (h : Pr p) (na : ¬ p ∣ a) : a ^ (p - 1) % p = 1 := by
  have p0 := h.1
  have nd : ((resL p).map fun x => a * x % p).Nodup := by
    refine List.pairwise_map.mpr ?_
    refine List.Pairwise.imp_of_mem ?_ (res_nd p)
    intro x y hx hy ne e
    have := cancel h na e
    have hx' := res_mem.mp hx
    have hy' := res_mem.mp hy
    rw [Nat.mod_eq_of_lt hx'.2, Nat.mod_eq_of_lt hy'.2] at this
    exact ne this
  have sub : ∀ x ∈ (resL p).map (fun x => a * x % p), x ∈ resL p := fun x hx => by
    obtain ⟨y, hy, rfl⟩ := List.mem_map.mp hx
    have hy' := res_mem.mp hy
    refine res_mem.mpr ⟨?_, Nat.mod_lt _ (by omega)⟩
    refine Nat.pos_of_ne_zero fun z => ?_
    exact not_dvd hy'.1 hy'.2 (euclid h (Nat.dvd_of_mod_eq_zero z) na)
  have pm := prod_perm (nd_perm nd sub (List.length_map _))
  have len : (resL p).length = p - 1 := by
    unfold resL
    rw [List.length_map, List.length_range]
  have e := prod_mul p a (resL p)
  rw [pm, len] at e
  have nl := prod_not h (resL p) fun x hx => not_dvd (res_mem.mp hx).1 (res_mem.mp hx).2
  have c := cancel (b := 1) (c := a ^ (p - 1)) h nl (by rw [Nat.mul_one, Nat.mul_comm (prodL _) (a ^ _)]; exact e)
  rw [← c, Nat.mod_eq_of_lt (by omega)]
/-! exponents -/
theorem pow_red {p a : Nat} (h : Pr p) (na : ¬ p ∣ a) (n : Nat) : a ^ n % p = a ^ (n % (p - 1)) % p := by
  have e : n = (p - 1) * (n / (p - 1)) + n % (p - 1) := (Nat.div_add_mod n (p - 1)).symm
  have z : (a ^ (p - 1)) ^ (n / (p - 1)) % p = 1 := by
    rw [Nat.pow_mod, fermat h na, Nat.one_pow, Nat.mod_eq_of_lt (by have := h.1; omega)]
  conv => lhs; rw [e, Nat.pow_add, Nat.pow_mul, Nat.mul_mod, z, Nat.one_mul, Nat.mod_mod]
theorem pow_not {p a : Nat} (h : Pr p) (na : ¬ p ∣ a) : ∀ n, ¬ p ∣ a ^ n
  | 0 => fun z => by
    have := Nat.le_of_dvd (show 0 < a ^ 0 from Nat.one_pos) z
    have := h.1
    have e : a ^ 0 = 1 := rfl
    omega
  | n + 1 => fun z => by
    rw [Nat.pow_succ, Nat.mul_comm] at z
    exact pow_not h na n (euclid h z na)
theorem pow_inv {p a : Nat} (h : Pr p) (na : ¬ p ∣ a) : a ^ (p - 2) * a % p = 1 := by
  rw [← Nat.pow_succ, show (p - 2).succ = p - 1 by have := h.1; omega]
  exact fermat h na
/-! the powers of a source are all numbers but 0 -/
theorem pow_gcd {p g : Nat} (hp : 2 ≤ p) : ∀ m n, g ^ m % p = 1 → g ^ n % p = 1 → g ^ (Nat.gcd m n) % p = 1 := fun m n => by
  induction m, n using Nat.gcd.induction with
  | H0 n =>
    intro _ h
    rw [Nat.gcd_zero_left]
    exact h
  | H1 m n hm ih =>
    intro h1 h2
    rw [Nat.gcd_rec]
    refine ih ?_ h1
    have e : g ^ n = (g ^ m) ^ (n / m) * g ^ (n % m) := by
      rw [← Nat.pow_mul, ← Nat.pow_add, Nat.div_add_mod]
    rw [e, Nat.mul_mod, Nat.pow_mod, h1, Nat.one_pow, Nat.mod_eq_of_lt (show 1 < p by omega), Nat.one_mul, Nat.mod_mod] at h2
    exact h2
/-- some prime divides a number from 2 on -/
theorem has_pr : ∀ n, 2 ≤ n → ∃ q, Pr q ∧ q ∣ n := fun n => by
  induction n using Nat.strongRecOn with
  | ind n ih =>
    intro h
    by_cases c : Pr n
    · exact ⟨n, c, Nat.dvd_refl n⟩
    · have : ∃ d, 2 ≤ d ∧ d < n ∧ d ∣ n := by
        refine Classical.byContradiction fun z => c ⟨h, fun d h1 h2 h3 => z ⟨d, h1, h2, h3⟩⟩
      obtain ⟨d, h1, h2, h3⟩ := this
      obtain ⟨q, hq, hd⟩ := ih d h2 h1
      exact ⟨q, hq, Nat.dvd_trans hd h3⟩
def Src (p g : Nat) : Prop := ∀ q, Pr q → q ∣ p - 1 → g ^ ((p - 1) / q) % p ≠ 1
theorem src_ord {p g m : Nat} (h : Pr p) (ng : ¬ p ∣ g) (s : Src p g) (m0 : 0 < m) (m1 : m < p - 1) : g ^ m % p ≠ 1 := fun e => by
  have p0 := h.1
  have eg := pow_gcd p0 m (p - 1) e (fermat h ng)
  have dl := Nat.gcd_dvd_left m (p - 1)
  have dr := Nat.gcd_dvd_right m (p - 1)
  have d0 : 0 < Nat.gcd m (p - 1) := Nat.gcd_pos_of_pos_left _ m0
  have dm : Nat.gcd m (p - 1) ≤ m := Nat.le_of_dvd m0 dl
  generalize Nat.gcd m (p - 1) = d at eg dr d0 dm
  obtain ⟨k, hk⟩ := dr
  have k2 : 2 ≤ k := by
    refine Classical.byContradiction fun z => ?_
    have : k = 0 ∨ k = 1 := by omega
    rcases this with e | e <;> subst e <;> omega
  obtain ⟨q, hq, hd⟩ := has_pr k k2
  obtain ⟨j, hj⟩ := hd
  have q0 := hq.1
  refine s q hq ⟨d * j, by rw [hk, hj, Nat.mul_left_comm]⟩ ?_
  rw [hk, hj, Nat.mul_left_comm, Nat.mul_div_cancel_left _ (by omega), Nat.pow_mul, Nat.pow_mod, eg, Nat.one_pow, Nat.mod_eq_of_lt (by omega)]
theorem src_inj {p g i j : Nat} (h : Pr p) (ng : ¬ p ∣ g) (s : Src p g) (hi : i < j) (hj : j < p - 1) : g ^ i % p ≠ g ^ j % p := fun e => by
  have e2 : g ^ i * 1 % p = g ^ i * g ^ (j - i) % p := by
    rw [Nat.mul_one, ← Nat.pow_add, Nat.add_sub_cancel' (Nat.le_of_lt hi)]
    exact e
  have c := cancel h (pow_not h ng i) e2
  rw [Nat.mod_eq_of_lt (show 1 < p by have := h.1; omega)] at c
  exact src_ord h ng s (by omega) (by omega) c.symm
theorem src_all {p g x : Nat} (h : Pr p) (ng : ¬ p ∣ g) (s : Src p g) (x0 : 0 < x) (x1 : x < p) : ∃ n, n < p - 1 ∧ g ^ n % p = x := by
  have p0 := h.1
  have nd : ((List.range (p - 1)).map fun n => g ^ n % p).Nodup := by
    refine List.pairwise_iff_getElem.mpr fun i j hi hj lt => ?_
    rw [List.length_map, List.length_range] at hi hj
    rw [List.getElem_map, List.getElem_map, List.getElem_range, List.getElem_range]
    exact src_inj h ng s lt hj
  have sub : ∀ y ∈ (List.range (p - 1)).map (fun n => g ^ n % p), y ∈ resL p := fun y hy => by
    obtain ⟨n, hn, rfl⟩ := List.mem_map.mp hy
    refine res_mem.mpr ⟨Nat.pos_of_ne_zero fun z => pow_not h ng n (Nat.dvd_of_mod_eq_zero z), Nat.mod_lt _ (by omega)⟩
  have pm := nd_perm nd sub (by unfold resL; rw [List.length_map, List.length_map])
  obtain ⟨n, hn, e⟩ := List.mem_map.mp (pm.mem_iff.mpr (res_mem.mpr ⟨x0, x1⟩))
  exact ⟨n, List.mem_range.mp hn, e⟩
/-! sources are there: reckoned for all primes to 20479 -/
def lfF (n : Nat) : Nat → Nat → Nat
  | 0, _ => n
  | f + 1, d => bif Nat.blt n (d * d) then n else bif Nat.beq (n % d) 0 then d else lfF n f (d + 1)
def lf (n : Nat) : Nat := lfF n 150 2
def parts : Nat → Nat → List Nat
  | 0, _ => []
  | f + 1, n => bif Nat.blt n 2 then [] else lf n :: parts f (n / lf n)
def isSrc (p g : Nat) : List Nat → Bool
  | [] => true
  | q :: l => bif Nat.beq (g ^ ((p - 1) / q) % p) 1 then false else isSrc p g l
def srcF (p : Nat) (l : List Nat) : Nat → Nat → Bool
  | 0, _ => false
  | f + 1, g => bif Nat.blt g p then (bif isSrc p g l then true else srcF p l f (g + 1)) else false
def good (p : Nat) : Bool := bif Nat.blt p 3 then true else bif Nat.beq (lf p) p then srcF p (parts 15 (p - 1)) 100 1 else true
def allR (f : Nat → Bool) : Nat → Nat → Bool
  | 0, lo => f lo
  | k + 1, lo => bif allR f k lo then allR f k (lo + 2 ^ k) else false
theorem allR_at {f : Nat → Bool} : ∀ k lo, allR f k lo = true → ∀ n, lo ≤ n → n < lo + 2 ^ k → f n = true
  | 0, lo, h, n, h0, h1 => by
    have : n = lo := by rw [Nat.pow_zero] at h1; omega
    rw [this]
    exact h
  | k + 1, lo, h, n, h0, h1 => by
    unfold allR at h
    cases c : allR f k lo with
    | false => rw [c] at h; cases h
    | true =>
      rw [c] at h
      rw [Nat.pow_succ] at h1
      rcases Nat.lt_or_ge n (lo + 2 ^ k) with l | l
      · exact allR_at k lo c n h0 l
      · exact allR_at k (lo + 2 ^ k) h n l (by omega)
/-- the least divisor from 2 on -/
def LF (n r : Nat) : Prop := 2 ≤ r ∧ r ∣ n ∧ ∀ d, 2 ≤ d → d < r → ¬ d ∣ n
theorem LF.pr {n r : Nat} (h : LF n r) : Pr r := ⟨h.1, fun d h1 h2 h3 => h.2.2 d h1 h2 (Nat.dvd_trans h3 h.2.1)⟩
theorem LF.uniq {n r s : Nat} (h : LF n r) (k : LF n s) : r = s := by
  rcases Nat.lt_trichotomy r s with c | c | c
  · exact absurd h.2.1 (k.2.2 r h.1 c)
  · exact c
  · exact absurd k.2.1 (h.2.2 s k.1 c)
theorem LF.self {n : Nat} : LF n n ↔ Pr n := ⟨fun h => h.pr, fun h => ⟨h.1, Nat.dvd_refl n, h.2⟩⟩
theorem lf_big {n d : Nat} (hn : 2 ≤ n) (hs : n < d * d) (no : ∀ e, 2 ≤ e → e < d → ¬ e ∣ n) : LF n n := by
  refine ⟨hn, Nat.dvd_refl n, fun e e2 en ⟨k, hk⟩ => ?_⟩
  have ed : d ≤ e := Nat.le_of_not_lt fun z => no e e2 z ⟨k, hk⟩
  have k2 : 2 ≤ k := by
    refine Classical.byContradiction fun z => ?_
    have : k = 0 ∨ k = 1 := by omega
    rcases this with c | c <;> subst c <;> omega
  have kd : k < d := by
    refine Classical.byContradiction fun z => ?_
    have : d * d ≤ e * k := Nat.mul_le_mul ed (Nat.le_of_not_lt z)
    omega
  exact no k k2 kd ⟨e, by rw [hk, Nat.mul_comm]⟩
theorem lfF_ok {n : Nat} (hn : 2 ≤ n) : ∀ f d, 2 ≤ d → n < (d + f) * (d + f) → (∀ e, 2 ≤ e → e < d → ¬ e ∣ n) → LF n (lfF n f d)
  | 0, d, _, hs, no => lf_big hn hs no
  | f + 1, d, d2, hs, no => by
    unfold lfF
    cases c : Nat.blt n (d * d) with
    | true => exact lf_big hn (Nat.blt_eq.mp c) no
    | false =>
      cases c2 : Nat.beq (n % d) 0 with
      | true => exact ⟨d2, Nat.dvd_of_mod_eq_zero (Nat.eq_of_beq_eq_true c2), no⟩
      | false =>
        refine lfF_ok hn f (d + 1) (by omega) (by rw [Nat.add_assoc, Nat.add_comm 1 f]; exact hs) fun e e2 ed hd => ?_
        rcases Nat.lt_or_ge e d with l | l
        · exact no e e2 l hd
        · have : e = d := by omega
          subst this
          exact Nat.ne_of_beq_eq_false c2 (Nat.mod_eq_zero_of_dvd hd)
theorem lf_ok {n : Nat} (h0 : 2 ≤ n) (h1 : n < 23104) : LF n (lf n) := lfF_ok h0 150 2 (by omega) h1 fun e e2 ed => by omega
theorem pr_dvd {q r : Nat} (hr : Pr r) (q2 : 2 ≤ q) (h : q ∣ r) : q = r := by
  have := Nat.le_of_dvd (by have := hr.1; omega) h
  rcases Nat.lt_or_ge q r with l | l
  · exact absurd h (hr.2 q q2 l)
  · omega
theorem parts_all {q : Nat} (hq : Pr q) : ∀ f n, 0 < n → n < 2 ^ f → n < 23104 → q ∣ n → q ∈ parts f n
  | 0, n, h0, h1, _, h => by
    rw [Nat.pow_zero] at h1
    omega
  | f + 1, n, h0, h1, h2, h => by
    have q2 := hq.1
    have qn := Nat.le_of_dvd h0 h
    unfold parts
    cases c : Nat.blt n 2 with
    | true =>
      have := Nat.blt_eq.mp c
      omega
    | false =>
      have L := lf_ok (show 2 ≤ n by omega) h2
      have r2 := L.1
      have pr := L.pr
      obtain ⟨k, hk⟩ := L.2.1
      generalize lf n = r at hk r2 pr
      have ek : n / r = k := by rw [hk]; exact Nat.mul_div_cancel_left _ (by omega)
      show q ∈ r :: parts f (n / r)
      rw [ek]
      by_cases d : q ∣ r
      · rw [pr_dvd pr q2 d]
        exact List.mem_cons_self ..
      · refine List.mem_cons_of_mem _ (parts_all hq f k ?_ ?_ ?_ (euclid hq (by rw [← hk]; exact h) d))
        · refine Nat.pos_of_ne_zero fun z => ?_
          rw [z, Nat.mul_zero] at hk
          omega
        · have : 2 * k ≤ r * k := Nat.mul_le_mul_right k r2
          rw [Nat.pow_succ] at h1
          omega
        · have : 2 * k ≤ r * k := Nat.mul_le_mul_right k r2
          omega
theorem isSrc_at {p g : Nat} : ∀ l, isSrc p g l = true → ∀ q ∈ l, g ^ ((p - 1) / q) % p ≠ 1
  | [], _, q, h => nomatch h
  | r :: l, h, q, hq => by
    unfold isSrc at h
    cases c : Nat.beq (g ^ ((p - 1) / r) % p) 1 with
    | true => rw [c] at h; cases h
    | false =>
      rw [c] at h
      rcases List.mem_cons.mp hq with e | e
      · subst e
        exact Nat.ne_of_beq_eq_false c
      · exact isSrc_at l h q e
theorem srcF_at {p : Nat} {l : List Nat} : ∀ f g, srcF p l f g = true → ∃ g', g ≤ g' ∧ g' < p ∧ isSrc p g' l = true
  | 0, g, h => by cases h
  | f + 1, g, h => by
    unfold srcF at h
    cases c : Nat.blt g p with
    | false => rw [c] at h; cases h
    | true =>
      rw [c] at h
      cases d : isSrc p g l with
      | true => exact ⟨g, Nat.le_refl _, Nat.blt_eq.mp c, d⟩
      | false =>
        rw [d] at h
        obtain ⟨g', h1, h2, h3⟩ := srcF_at f (g + 1) h
        exact ⟨g', by omega, h2, h3⟩
theorem good1 : allR good 12 0 = true := by decide +kernel
theorem good2 : allR good 12 4096 = true := by decide +kernel
theorem good3 : allR good 12 8192 = true := by decide +kernel
theorem good4 : allR good 12 12288 = true := by decide +kernel
theorem good5 : allR good 12 16384 = true := by decide +kernel
theorem all_good {n : Nat} (h : n < 20480) : good n = true := by
  have e : 2 ^ 12 = 4096 := by decide
  rcases Nat.lt_or_ge n 4096 with a | a
  · exact allR_at _ _ good1 n (by omega) (by omega)
  · rcases Nat.lt_or_ge n 8192 with b | b
    · exact allR_at _ _ good2 n a (by omega)
    · rcases Nat.lt_or_ge n 12288 with c | c
      · exact allR_at _ _ good3 n b (by omega)
      · rcases Nat.lt_or_ge n 16384 with d | d
        · exact allR_at _ _ good4 n c (by omega)
        · exact allR_at _ _ good5 n d (by omega)
/-- each prime has a source -/
theorem has_src {p : Nat} (h : Pr p) (l : p < 20480) : ∃ g, 0 < g ∧ g < p ∧ Src p g := by
  have p0 := h.1
  have a := all_good l
  unfold good at a
  cases c : Nat.blt p 3 with
  | true =>
    have := Nat.blt_eq.mp c
    refine ⟨1, by omega, by omega, fun q hq hd => ?_⟩
    have := hq.1
    have := Nat.le_of_dvd (by omega) hd
    omega
  | false =>
    rw [c] at a
    have p3 : 3 ≤ p := by
      refine Nat.le_of_not_lt fun z => ?_
      rw [Nat.blt_eq.mpr z] at c
      cases c
    have e : lf p = p := (lf_ok p0 (by omega)).uniq (LF.self.mpr h)
    have c2 : Nat.beq (lf p) p = true := by
      rw [e]
      exact Nat.beq_refl p
    rw [c2] at a
    obtain ⟨g, h1, h2, h3⟩ := srcF_at 100 1 a
    exact ⟨g, h1, h2, fun q hq hd => isSrc_at _ h3 q (parts_all hq 15 (p - 1) (by omega) (by have : 2 ^ 15 = 32768 := by decide
                                                                                             omega) (by omega) hd)⟩
end K26
set_option Elab.async false
set_option linter.all false
set_option maxRecDepth 100000
set_option maxHeartbeats 4000000
set_option exponentiation.threshold 5000
namespace K26
open PySem PySem.Spec PyProof.Rows L2 TkS
def sp_common_divisor (K : PySem.W.Frag) : Sp := fun vs H Q _ => ∃ a b : Int, vs = [.int a, .int b] ∧ Q (.int ((Nat.gcd a.natAbs b.natAbs : Nat) : Int)) H
def sp_power_of (K : PySem.W.Frag) : Sp := fun vs H Q _ => ∃ (b : Int) (e : Nat), vs = [.int b, .int (e : Int)] ∧ b.natAbs ≤ 2 ^ 67 ∧ e ≤ 40 ∧ Q (.int (b ^ e)) H
def sp_least_factor : Sp := fun vs H Q _ => ∃ n : Nat, vs = [.int (n : Int)] ∧ 2 ≤ n ∧ n ≤ 100000 ∧ ∀ r : Nat, LF n r → Q (.int (r : Int)) H
def primeD : PyData → Bool
  | .int i => decide (2 ≤ i) && decide (i ≤ 20000) && Nat.beq (lf i.toNat) i.toNat
  | _ => false
def sp_is_prime : Sp := fun vs H Q _ => ∃ x d, vs = [x] ∧ Dq H x d ∧ Q (.bl (primeD d)) H
section
variable {P : Program} {w : World} {K : PySem.W.Frag} {mg : Str → Option Value} {base : Heap}
theorem ok_common_divisor (T : Txt K mg) : FnOk P w K mg base CX0 1 T.f_common_divisor T.d_common_divisor ["one", "other"] (sp_common_divisor K) := by
  refine T.F_common_divisor.ok sc_common_divisor (fun vs H Q E h => ?_) (fun cdv A outer s H vs Q E hr h => ?_)
  · obtain ⟨a, b, rfl, _⟩ := h
    rfl
  · obtain ⟨a, b, rfl, q⟩ := h
    refine ⟨_, (pss_one (ps_ret (pe_callBfun cr_gcd rfl T.x_gcd (pa_cons (pv 0) (pa_cons (pv 1) pa_nil))))), ?_⟩
    exact ⟨_, rfl, _, rfl, a, b, rfl, q⟩
theorem pow_bits {b : Int} (h : b.natAbs ≤ 2 ^ 67) (m : Nat) : (b ^ m).natAbs ≤ 2 ^ (67 * m) := by
  rw [Int.natAbs_pow, Nat.pow_mul]
  exact Nat.pow_le_pow_left h m
theorem pow_mulW {b : Int} (h : b.natAbs ≤ 2 ^ 67) {m n : Nat} (hm : m ≤ 5000) (hn : n ≤ 5000) : CMulW (b ^ m) (b ^ n) := by
  have x : ∀ k : Nat, k ≤ 5000 → (b ^ k).natAbs < 2 ^ (67 * k + 1) := fun k _ => Nat.lt_of_le_of_lt (pow_bits h k) (Nat.pow_lt_pow_right (by decide) (by omega))
  exact wide_mul (x m hm) (x n hn) (by omega) (by omega) (by omega)
theorem ok_power_of (T : Txt K mg) : FnOk P w K mg base CX0 1 T.f_power_of T.d_power_of ["base", "exponent"] (sp_power_of K) := by
  refine T.F_power_of.ok sc_power_of (fun vs H Q E h => ?_) (fun cdv A outer s H vs Q E hr h => ?_)
  · obtain ⟨a, b, rfl, _⟩ := h
    rfl
  · obtain ⟨b, e, rfl, hb, he, q⟩ := h
    refine ⟨_, (pss_cons (ps_set (i := 2) sc_power_of.nd rfl (.inl rfl) pe_int)
      (pss_cons (ps_while PassesOwn.never (pt_cmpR op_gt (pv 1) pe_int (nomark _))
        (pss_cons (ps_if (pt_cmpR op_eq (pe_op op_mod (pv 1) pe_int) pe_int (nomark _))
          (pss_one (ps_set (i := 2) sc_power_of.nd rfl (.inl rfl) (pe_op op_mulW (pv 2) (pv 0))))
          pss_nil)
        (pss_cons (ps_set (i := 1) sc_power_of.nd rfl (.inl rfl) (pe_op op_fdiv (pv 1) pe_int))
        (pss_one (ps_if (pt_cmpR op_gt (pv 1) pe_int (nomark _))
          (pss_one (ps_set (i := 0) sc_power_of.nd rfl (.inl rfl) (pe_op op_mulW (pv 0) (pv 0))))
          pss_nil)))))
      (pss_one (ps_ret (pv 2))))), ?_⟩
    refine ⟨fun m σ H' => ∃ k n l : Nat, σ = [some (.int (b ^ k)), some (.int (l : Int)), some (.int (b ^ n))] ∧ H = H' ∧ n + k * l = e ∧ m = l ∧ k ≤ 40, ⟨e, 1, 0, e, by simp only [Int.pow_one, Int.pow_zero]; rfl, rfl, by omega, rfl, by decide⟩, fun m σ H' hW => ?_⟩
    obtain ⟨k, n, l, rfl, rfl, hs, rfl, hk⟩ := hW
    refine ⟨_, rfl, m, 0, rfl, rfl, _, rfl, ite2 (fun c => ?_) (fun c => ?_)⟩
    · have hpos : (0 : Int) < (m : Int) := of_decide_eq_true c
      have hl1 : 1 ≤ m := by omega
      have hke : k ≤ k * m := Nat.le_mul_of_pos_right k hl1
      refine ⟨fun σ' H' => ∃ m', m' < m ∧ ∃ k n l : Nat, σ' = [some (.int (b ^ k)), some (.int (l : Int)), some (.int (b ^ n))] ∧ H = H' ∧ n + k * l = e ∧ m' = l ∧ k ≤ 40, fun σ' H' hN => hN, ?_⟩
      have dm : m = 2 * (m / 2) + m % 2 := by omega
      have ed : ((m : Int) / 2) = ((m / 2 : Nat) : Int) := rfl
      -- what follows the first if, by the power that the result holds
      have rest : ∀ n' : Nat, n' + k * (2 * (m / 2)) = e → (tSeq (tAsg (tOp (rI CDiv fun i j => V.int (i / j)) (tVar 1) (tC (V.int 2))) (gName 1)) (tIfS (tTest (tOp (rI0 fun i j => V.bl (decide (j < i))) (tVar 1) (tC (V.int 0)))) (tAsg (tOp (rI CMulW fun i j => V.int (i * j)) (tVar 0) (tVar 0)) (gName 0)) tNext))
          { nx := fun σ' H' => ∃ m', m' < m ∧ ∃ k n l : Nat, σ' = [some (.int (b ^ k)), some (.int (l : Int)), some (.int (b ^ n))] ∧ H = H' ∧ n + k * l = e ∧ m' = l ∧ k ≤ 40, ct := fun σ' H' => ∃ m', m' < m ∧ ∃ k n l : Nat, σ' = [some (.int (b ^ k)), some (.int (l : Int)), some (.int (b ^ n))] ∧ H = H' ∧ n + k * l = e ∧ m' = l ∧ k ≤ 40, rt := Q }
          [some (.int (b ^ k)), some (.int (m : Int)), some (.int (b ^ n'))] H := by
        intro n' hn'
        refine ⟨_, rfl, m, 2, rfl, rfl, ⟨by decide, by decide⟩, _, rfl, (m : Int) / 2, 0, rfl, rfl, _, rfl, ite2 (fun c2 => ?_) (fun c2 => ?_)⟩
        · have h2 : (0 : Int) < (m : Int) / 2 := of_decide_eq_true c2
          have hl2 : 1 ≤ m / 2 := by omega
          have hk2 : k * 2 ≤ k * (2 * (m / 2)) := Nat.mul_le_mul_left k (by omega)
          refine ⟨_, rfl, _, rfl, _, _, rfl, rfl, pow_mulW hb (by omega) (by omega), m / 2, by omega, k * 2, n', m / 2, ?_, rfl, ?_, rfl, by omega⟩
          · rw [show k * 2 = k + k by omega, Int.pow_add]
            rfl
          · rw [Nat.mul_assoc]
            exact hn'
        · have h2 : ¬ (0 : Int) < (m : Int) / 2 := fun z => c2 (decide_eq_true z)
          have h0 : m / 2 = 0 := by omega
          refine ⟨m / 2, by omega, k, n', m / 2, rfl, rfl, ?_, rfl, hk⟩
          rw [h0] at hn' ⊢
          exact hn'
      refine ⟨_, rfl, m, 2, rfl, rfl, (show (0 : Int) < 2 by decide), rfl, _, rfl, ite2 (fun c2 => ?_) (fun c2 => ?_)⟩
      · have h1 : (m : Int) % 2 = 1 := V.int.inj (of_decide_eq_true c2)
        have hm1 : m % 2 = 1 := by omega
        have hn1 : n + k + k * (2 * (m / 2)) = e := by
          rw [← hs]
          have e1 : k * m = k * (2 * (m / 2)) + k := by
            conv => lhs; rw [dm, hm1]
            rw [Nat.mul_add, Nat.mul_one]
          omega
        refine ⟨_, rfl, _, rfl, _, _, rfl, rfl, pow_mulW hb (by omega) (by omega), ?_⟩
        have r := rest (n + k) hn1
        rw [Int.pow_add] at r
        exact r
      · have h1 : ¬ (m : Int) % 2 = 1 := fun z => c2 (decide_eq_true (congrArg V.int z))
        have hm0 : m % 2 = 0 := by omega
        refine rest n ?_
        rw [show 2 * (m / 2) = m by omega]
        exact hs
    · have h0 : ¬ (0 : Int) < (m : Int) := fun z => c (decide_eq_true z)
      have hm : m = 0 := by omega
      subst hm
      rw [Nat.mul_zero, Nat.add_zero] at hs
      subst hs
      exact ⟨_, rfl, q⟩
theorem ok_least_factor (T : Txt K mg) : FnOk P w K mg base CX0 1 T.f_least_factor T.d_least_factor ["number"] sp_least_factor := by
  refine T.F_least_factor.ok sc_least_factor (fun vs H Q E h => ?_) (fun cdv A outer s H vs Q E hr h => ?_)
  · obtain ⟨n, rfl, _⟩ := h
    rfl
  · obtain ⟨n, rfl, n2, nb, q⟩ := h
    refine ⟨_, (pss_cons (ps_set (i := 1) sc_least_factor.nd rfl (.inl rfl) pe_int)
      (pss_cons (ps_while PassesOwn.never (pt_cmpR op_le (pe_op op_mulW (pv 1) (pv 1)) (pv 0) (nomark _))
        (pss_cons (ps_if (pt_cmpR op_eq (pe_op op_mod (pv 0) (pv 1)) pe_int (nomark _))
          (pss_one (ps_ret (pv 1)))
          pss_nil)
        (pss_one (ps_set (i := 1) sc_least_factor.nd rfl (.inl rfl) (pe_op op_add (pv 1) pe_int)))))
      (pss_one (ps_ret (pv 0))))), ?_⟩
    refine ⟨fun m σ H' => ∃ f : Nat, σ = [some (.int (n : Int)), some (.int (f : Int))] ∧ H = H' ∧ 2 ≤ f ∧ f ≤ n + 1 ∧ (∀ e, 2 ≤ e → e < f → ¬ e ∣ n) ∧ m = n + 2 - f, ⟨n, 2, rfl, rfl, by omega, by omega, fun e e2 ed => by omega, rfl⟩, fun m σ H' hW => ?_⟩
    obtain ⟨f, rfl, rfl, f2, fn, no, rfl⟩ := hW
    have sq : f * f = f * f := rfl
    refine ⟨_, rfl, _, rfl, f, f, rfl, rfl, wide_mul (a := 40) (b := 40) (by omega) (by omega) (by decide) (by decide) (by decide), _, rfl, _, _, rfl, rfl, _, rfl, ite2 (fun c => ?_) (fun c => ?_)⟩
    · have c' : (f : Int) * f ≤ n := of_decide_eq_true c
      have c2 : f * f ≤ n := by exact_mod_cast c'
      have fl : f ≤ n := Nat.le_trans (Nat.le_mul_of_pos_right f (by omega)) c2
      refine ⟨fun σ' H' => ∃ m', m' < n + 2 - f ∧ ∃ f : Nat, σ' = [some (.int (n : Int)), some (.int (f : Int))] ∧ H = H' ∧ 2 ≤ f ∧ f ≤ n + 1 ∧ (∀ e, 2 ≤ e → e < f → ¬ e ∣ n) ∧ m' = n + 2 - f, fun _ _ z => z, ?_⟩
      refine ⟨_, rfl, _, rfl, n, f, rfl, rfl, (show (0 : Int) < f by omega), rfl, _, rfl, ite2 (fun d => ?_) (fun d => ?_)⟩
      · have d' : (n : Int) % f = 0 := V.int.inj (of_decide_eq_true d)
        have d2 : n % f = 0 := by omega
        exact ⟨_, rfl, q f ⟨f2, Nat.dvd_of_mod_eq_zero d2, no⟩⟩
      · refine ⟨_, rfl, _, _, rfl, rfl, n + 2 - (f + 1), by omega, f + 1, rfl, rfl, by omega, by omega, fun e e2 ef hd => ?_, rfl⟩
        rcases Nat.lt_or_ge e f with l | l
        · exact no e e2 l hd
        · have : e = f := by omega
          subst this
          refine d (decide_eq_true (congrArg V.int ?_))
          have := Nat.mod_eq_zero_of_dvd hd
          omega
    · have c' : ¬ (f : Int) * f ≤ n := fun z => c (decide_eq_true z)
      have c2 : n < f * f := by
        refine Nat.lt_of_not_le fun z => c' ?_
        exact_mod_cast z
      exact ⟨_, rfl, q n (lf_big n2 c2 no)⟩
theorem ok_is_prime (T : Txt K mg) : FnOk P w K mg base CX0 2 T.f_is_prime T.d_is_prime ["number"] sp_is_prime := by
  refine T.F_is_prime.ok sc_is_prime (fun vs H Q E h => ?_) (fun cdv A outer s H vs Q E hr h => ?_)
  · obtain ⟨x, d, rfl, _⟩ := h
    rfl
  · obtain ⟨x, d, rfl, hk, q⟩ := h
    refine ⟨_, (pss_one (ps_ret (pe_and (pe_call (ok_is_whole T) (hr.mono (by decide)) (by rfl) T.g_is_whole T.F_is_whole.kp T.b_is_whole .nil pass0 (pa_cons (pv 0) (pa_cons pe_int (pa_cons (pe_glob (v := .int 20000) rfl T.c_MOST_PRIME ⟨_, rfl⟩) pa_nil)))) (pe_one (pe_cmpR op_eq (pe_call (ok_least_factor T) (hr.mono (by decide)) (by rfl) T.g_least_factor T.F_least_factor.kp T.b_least_factor .nil pass0 (pa_cons (pv 0) pa_nil)) (pv 0) (nomark _)))))), ?_⟩
    refine ⟨_, rfl, x, .int 2, .int 20000, d, rfl, hk, .inr ⟨_, rfl⟩, .inr ⟨_, rfl⟩, _, rfl, ?_⟩
    cases hk with
    | int i =>
      have q' : Q (.bl (decide (2 ≤ i) && decide (i ≤ 20000) && Nat.beq (lf i.toNat) i.toNat)) H := q
      show (if (decide (2 ≤ i) && decide (i ≤ 20000)) = true then _ else _)
      cases c : decide (2 ≤ i) && decide (i ≤ 20000) with
      | false =>
        rw [c, Bool.false_and] at q'
        exact iteF q'
      | true =>
        rw [c, Bool.true_and] at q'
        obtain ⟨c1, c2⟩ := Bool.and_eq_true_iff.mp c
        have i2 := of_decide_eq_true c1
        have i3 := of_decide_eq_true c2
        obtain ⟨n, rfl⟩ : ∃ n : Nat, i = n := ⟨i.toNat, by omega⟩
        rw [Int.toNat_natCast] at q'
        refine iteT ⟨_, rfl, n, rfl, by omega, by omega, fun r hr' => ⟨_, rfl, rfl, ?_⟩⟩
        have er : r = lf n := hr'.uniq (lf_ok (by omega) (by omega))
        subst er
        rw [int_dec]
        have e : decide (((lf n : Nat) : Int) = (n : Int)) = Nat.beq (lf n) n := by
          by_cases z : lf n = n
          · rw [decide_eq_true (by rw [z]), z, Nat.beq_refl]
          · rw [decide_eq_false (fun y => z (by omega))]
            cases b : Nat.beq (lf n) n with
            | false => rfl
            | true => exact absurd (Nat.eq_of_beq_eq_true b) z
        rw [e]
        exact q'
    | _ => exact iteF q
end
end K26
set_option Elab.async false
set_option linter.all false
set_option maxRecDepth 100000
set_option maxHeartbeats 4000000
/-! X() of an own error without __init__; any() of whole numbers; defs and calls that know that nothing is being printed -/
namespace TkS
open PySem PySem.Spec PyProof.Rows L2
theorem pmk_own0 {X : Cx} {C : Addr} {bmB : List Value} {B newId initId : String} {x : Str} {p pos : Pos} (F : ExcBaseFacts B newId initId bmB) (q : PySem.W.excIn X.K C bmB newId = true) (gC : X.mg x = some (.ref C)) (kC : PySem.W.keepIn X.K (.ref C) = true)
    (r : Raises X (.ref C)) (hg : Gl X x) (hdb : (x == ("__debug__" : Str)) = false := by decide) : PMk X (.Call (.Name x p) [] [] pos) (fun _ H Q => Q (.ref C) none H) := by
  intro pins s σ H Q I h
  refine wpAny_Call_Name_kw (ld_glob I hg gC ?_ hdb)
  refine PySem.W.callWith_K0 I.kIn kC ?_
  show wpAny _ _ (call (.ref C) []) _ _ _
  obtain ⟨bm, N, nm, qn, bs, hdct, sn, sub, ab, col, dd, k0, k1, k2, k3, k5, mN, hC, hN, hni, T⟩ := exc_obj I.kIn q
  refine wpAny_call_exc_subT F T hC hN hni (fun h' e hm => ?_) (Nat.zero_le _)
  exact mk_of I hm r h (I.hok.gone hm.new)
theorem truth_ints {prog : Program} {w : World} {A : Around} {ns : List Int} {its : List Value} (e : Vals (ns.map V.int) its) :
    TruthOf prog w A (fun i v => its.toArray[i]? = some v) (fun i => decide (ns.getD i 0 ≠ 0)) := fun i v s Q E hv hq => by
  have hv' : its[i]? = some v := by simpa using hv
  have hi : i < ns.length := by
    have := (List.getElem?_eq_some_iff.mp hv').1
    rw [← e.length, List.length_map] at this
    exact this
  obtain ⟨u, hu, t, rfl⟩ : ∃ u, its[i]? = some u ∧ ∃ t, u = Value.int (ns.getD i 0) t := by
    have h1 : (ns.map V.int)[i]? = some (.int (ns.getD i 0)) := by
      rw [List.getElem?_map, List.getElem?_eq_getElem hi, List.getD_eq_getElem?_getD, List.getElem?_eq_getElem hi]
      rfl
    obtain ⟨u, hu, r⟩ := e.get h1
    exact ⟨u, hu, r⟩
  rw [hv'] at hu
  cases hu
  have hq2 : Q (decide (ns.getD i 0 ≠ 0)) s := hq
  generalize ns.getD i 0 = z at hq2
  have z2 : decide (z ≠ 0) = (z != 0) := by
    by_cases c : z = 0
    · subst c
      rfl
    · rw [decide_eq_true c, bne_iff_ne.mpr c]
  rw [z2] at hq2
  exact PyProof.Rows.truthy_int hq2
theorem any_rangeI : ∀ ns : List Int, (List.range ns.length).any (fun i => decide (ns.getD i 0 ≠ 0)) = ns.any fun z => decide (z ≠ 0)
  | [] => rfl
  | b :: bs => by
    rw [List.length_cons, List.range_succ_eq_map, List.any_cons, List.any_map, List.any_cons, ← any_rangeI bs]
    all_goals rfl
def rAnyI (K : PySem.W.Frag) : List V → Hp → VK → Prop := fun vs H Q => ∃ (a : Addr) (ns : List Int), vs = [V.ref a] ∧ SqL K H a (ns.map V.int) ∧ Q (.bl (ns.any fun z => decide (z ≠ 0))) H
theorem cr_anyI {X : Cx} (hc : X.calm = true) : CallR X (.builtin "any") (rAnyI X.K) := by
  intro pins s σ H vs us Q I r h
  obtain ⟨a, bs, rfl, hs, q⟩ := h
  obtain ⟨its, rv, hl, _⟩ := I.list hs
  rw [Vals.ref1 r]
  refine call_any_walk (iter_any hl.isList fun s₂ e2 st hne => ?_)
  subst e2
  refine ⟨_, _, _, _, _, _, _, rfl, Walks.list (A := X.A.in1) (I.ok.hd hc) _ a hne its.toArray, st, truth_ints rv, fun h' tk hk => ?_⟩
  refine ⟨.bl _, H, I.kept fun b o eo => hk b o (fun hmem => ?_) (Heap.get?_push_of_some _ eo), ?_, q⟩
  · rcases List.mem_cons.mp hmem with e1 | hmem
    · exact absurd (e1 ▸ Heap.lt_size eo) (Nat.lt_irrefl _)
    · cases hmem
  · show Value.bool _ = Value.bool _
    rw [← any_rangeI, List.size_toArray, ← rv.length, List.length_map]
/-- a def's promise where nothing is being printed -/
structure FnG (P : Program) (w : World) (K : PySem.W.Frag) (mg : Str → Option Value) (base : Heap) (CX : CXT) (k : Nat) (f : Addr) (fd : FuncData) (ps : List Str) (sp : Sp) : Prop where
  len : ∀ vs H Q E, sp vs H Q E → vs.length = ps.length
  run : ∀ (A : Around) (outer : List Env) (s : Shared) (H : Hp) (args : Args) (us : List Value) (vs : List V) (Q : VK) (E : XK), A.guards = some [] → Room k A → Env0 P w K mg base A outer s H → BindsTo s fd args (ps.zip us) → Vals vs us → sp vs H Q E →
    codeAny (model P w) A (.call (.ref f) args) (CR CX outer P w H s Q E) s
theorem fnG_of {CX : CXT} {P : Program} {w : World} {K : PySem.W.Frag} {mg : Str → Option Value} {base : Heap} {k : Nat} {f : Addr} {name qual : Str} {params : Arguments} {body : List Stmt} {scope : Scope} {dV kV doc pm cdv ct oc : Value} {an od : Option Addr}
    {osl : Array (Option Value)} {N ps : List Str} {sp : Sp} (lk : K.lookup f = some ⟨oc, od, .func (PySem.W.fnOf name qual params body scope dV kV doc pm an cdv ct), osl⟩) (hcd : PySem.W.codeIn K cdv qual = true) (S : FnScope N ps scope)
    (len : ∀ vs H Q E, sp vs H Q E → vs.length = ps.length)
    (hbody : ∀ (A : Around) (outer : List Env) (s : Shared) (H : Hp) (vs : List V) (Q : VK) (E : XK), A.guards = some [] → Room k (A.deeper (envOfC qual scope s.heap.objs.size f cdv)) → sp vs H Q E →
      ∃ t, PSs (cxOf CX P w K mg base N qual scope f cdv A outer s H E) body t ∧ t { nx := fun _ H' => Q .non H', rt := Q } (start N vs) H) :
    FnG P w K mg base CX (k + 1) f (PySem.W.fnOf name qual params body scope dV kV doc pm an cdv ct) ps sp := by
  refine ⟨len, fun A outer s H args us vs Q E gd hr e0 hb r hsp => ?_⟩
  have hl := len _ _ _ _ hsp
  have KX : K.In s.heap := e0.mod.kin.keeps fun b o e => (e0.bs b o e).1
  have lim : s.heap.NoLimit := e0.mod.nolimit.keeps fun b o e => (e0.bs b o e).1
  have hkind : ∀ y ∈ ps.zip us, scope.names.lookup y.1 = some .local ∨ (scope.names.lookup y.1 = some .cell ∧ ((cellsFrom (s.heap.objs.size + 1) scope.names []).lookup y.1).isSome = true) := fun ⟨n, v⟩ hy => by
    rcases S.par n (List.of_mem_zip hy).1 with q | q
    · exact .inl q
    · exact .inr ⟨q, PySem.W.cellsFrom_some _ _ _ (.inl q)⟩
  refine codeAny_call_function hr.depth (KX _ _ lk) rfl S.co S.gen rfl (PySem.W.codeRec_of KX hcd) (hb _ _ _ _ ?_)
  refine wpAny_newFunctionEnv_cells S.kind hkind fun env he s1 x => ?_
  subst he
  refine ⟨lim.keeps x.toInCall.keep, codeAny_func ?_⟩
  obtain ⟨t, ht, hq⟩ := hbody A outer s H vs Q E gd (hr.deeper _) hsp
  have I : Inv (cxOf CX P w K mg base N qual scope f cdv A outer s H E) [] (start N vs) H s1 := inv_start S hr.hd e0 hl r x
  refine wpAny_mono (ht.run [] s1 (start N vs) H _ I hq) (fun fl s' hs => ?_) fun e s' hs => hs
  have fin : ∀ {σ' : L2.St} {H' : Hp} {v : V} {u : Value}, Inv (cxOf CX P w K mg base N qual scope f cdv A outer s H E) [] σ' H' s' → RelV v u → Q v H' → CE outer P w H s Q u s' :=
    fun {σ' H' v u} J rv q => ⟨v, H', J.os, J.bare, J.base, J.hok, rv, q⟩
  cases fl with
  | ret u =>
    obtain ⟨v, σ', H', J, rv, q⟩ := hs
    exact fin J rv q
  | next =>
    obtain ⟨σ', H', J, q⟩ := hs
    exact fin (v := V.non) (u := Value.none) J rfl q
  | brk =>
    obtain ⟨_, _, _, q⟩ := hs
    exact False.elim q
  | cont =>
    obtain ⟨_, _, _, q⟩ := hs
    exact False.elim q
theorem FnG.of_fun {P : Program} {w : World} {K : PySem.W.Frag} {mg : Str → Option Value} {base : Heap} {x qual : Str} {st : Stmt} {f : Addr} {fd : FuncData} {N ps : List Str} {k : Nat} {sp : Sp} (F : Fun K x qual st f fd) (S : FnScope N ps (defScope st)) (len : ∀ vs H Q E, sp vs H Q E → vs.length = ps.length)
    (hbody : ∀ (cdv : Value) (A : Around) (outer : List Env) (s : Shared) (H : Hp) (vs : List V) (Q : VK) (E : XK), A.guards = some [] → Room k (A.deeper (envOfC qual (defScope st) s.heap.objs.size f cdv)) → sp vs H Q E →
      ∃ t, PSs (cxOf CX0 P w K mg base N qual (defScope st) f cdv A outer s H E).nox (defBody st) t ∧ t { nx := fun _ H' => Q .non H', rt := Q } (start N vs) H) : FnG P w K mg base CX0 (k + 1) f fd ps sp := by
  obtain ⟨oc, od, kV, doc, pm, an, cdv, ct, osl, rfl, lk, hcd⟩ := F.ex
  refine fnG_of lk hcd S len fun A outer s H vs Q E gd hr hsp => ?_
  obtain ⟨t, h, q⟩ := hbody cdv A outer s H vs Q E gd hr hsp
  exact ⟨t, h.nox, q⟩
section
variable {X : Cx} {CX : CXT} {k : Nat} {f : Addr} {fd : FuncData} {ps : List Str} {sp : Sp} {dvs : List V} {ds : List Value} {E : XK} {x : Str} {p pos : Pos} {e : Expr} {es : List Expr} {t : TA}
theorem pe_callG (gd : X.A.guards = some []) (F : FnG X.prog X.w X.K X.mg X.base CX k f fd ps sp) (hr : Room k X.A) (hg : Gl X x) (hm : X.mg x = some (.ref f)) (hk : PySem.W.keepIn X.K (.ref f) = true) (hb : Binds X.K fd ps ds) (hd : Vals dvs ds) (hx : Passes CX X E)
    (ha : PA X (e :: es) t) (hdb : (x == ("__debug__" : Str)) = false := by decide) (he : starEach (e :: es) X.env = (false, eval e X.env) :: starEach es X.env := by rfl) (hpl : (backTo pos (starEach es X.env)).any (·.1) = false := by rfl) :
    PE X (.Call (.Name x p) (e :: es) [] pos) (tCall sp dvs E t) := by
  refine ⟨fun pins s σ H Q I h => ?_⟩
  refine wpAny_Call_Name_kw (ld_glob I hg hm ?_ hdb)
  refine PySem.W.callWith_K (h₀ := X.base) I.ok.mod.kin hk (thn (ha.run pos pins s σ H _ I h) fun us s1 ⟨vs, H1, I1, r, q⟩ => ⟨I1.kIn, ?_⟩) he hpl
  have r2 : Vals (vs ++ dvs) (us ++ ds) := r.append hd
  have hl : (us ++ ds).length = ps.length := by rw [← r2.length]; exact F.len _ _ _ _ q
  refine wpAny_call (codeAny_mono (F.run X.A X.stack s1 H1 ⟨us, []⟩ (us ++ ds) (vs ++ dvs) Q E gd hr I1.env0 (hb s1 us I1.kIn hl) r2 q) fun r s' hq => ?_)
  cases r with
  | error e => exact hx pins σ H1 s1 e s' I1 hq
  | ok fl =>
    cases fl with
    | ret u => exact I1.after hq
    | next => exact False.elim hq
    | brk => exact False.elim hq
    | cont => exact False.elim hq
end
end TkS
set_option Elab.async false
set_option linter.all false
set_option maxRecDepth 100000
set_option maxHeartbeats 4000000
set_option exponentiation.threshold 5000
namespace K26
open PySem PySem.Spec PyProof.Rows L2 TkS
/-- a field of rests -/
structure RF (C : Addr) (H : Hp) (a : Addr) (p : Nat) : Prop where
  at_ : ∃ dx : Addr, H a = some (.ins C dx [("prime", .int (p : Int)), ("zero", .int 0), ("one", .int 1), ("minus_one", .int ((p : Int) - 1))])
  pr : Pr p
  le : p ≤ 20000
theorem RF.same {C : Addr} {H H' : Hp} {a : Addr} {p : Nat} (h : RF C H a p) (s : Same H H') : RF C H' a p := by
  obtain ⟨⟨dx, e⟩, h2, h3⟩ := h
  exact ⟨⟨dx, s _ _ e⟩, h2, h3⟩
def Med (z : Int) : Prop := z.natAbs < 2 ^ 120
def sp_rest (C : Addr) (op : Int → Int → Int) : Sp := fun vs H Q _ => ∃ (a : Addr) (p : Nat) (x y : Int), vs = [.ref a, .int x, .int y] ∧ RF C H a p ∧ Med x ∧ Med y ∧ Q (.int (op x y % (p : Int))) H
/-- x to the e in the field of rests; none: what is nothing's power below 0 -/
def rpw (p : Nat) (x e : Int) : Option Int := if e = 0 then some 1 else if x = 0 then (if e < 0 then none else some 0) else some (((x.toNat ^ (e % ((p : Int) - 1)).toNat % p : Nat) : Int))
def sp_rest_check (C CN : Addr) : Sp := fun vs H Q E => ∃ (a : Addr) (p : Nat) (x : V) (d : PyData), vs = [.ref a, x] ∧ RF C H a p ∧ Dq H x d ∧ (wholeIn x (.int 0) (.int ((p : Int) - 1)) = false → ∀ H', Same H H' → E (.ref CN) none H') ∧ (wholeIn x (.int 0) (.int ((p : Int) - 1)) = true → Q x H)
def sp_rest_power (C CZ : Addr) : Sp := fun vs H Q E => ∃ (a : Addr) (p : Nat) (x e : Int), vs = [.ref a, .int x, .int e] ∧ RF C H a p ∧ 0 ≤ x ∧ x < p ∧ (rpw p x e = none → ∀ H', Same H H' → E (.ref CZ) none H') ∧ (∀ r, rpw p x e = some r → Q (.int r) H)
def sp_rest_quotient (C CZ : Addr) : Sp := fun vs H Q E => ∃ (a : Addr) (p : Nat) (x y : Int), vs = [.ref a, .int x, .int y] ∧ RF C H a p ∧ 0 ≤ x ∧ x < p ∧ 0 ≤ y ∧ y < p ∧ (y = 0 → ∀ H', Same H H' → E (.ref CZ) none H') ∧ (∀ r, rpw p y (-1) = some r → Q (.int (x * r % (p : Int))) H)
section
variable {P : Program} {w : World} {K : PySem.W.Frag} {mg : Str → Option Value} {base : Heap}
theorem ok_RestField_times (T : Txt K mg) : FnOk P w K mg base CX0 1 T.f_RestField_times T.d_RestField_times ["self", "one", "other"] (sp_rest T.C_RestField (· * ·)) := by
  refine T.F_RestField_times.ok sc_RestField_times (fun vs H Q E h => ?_) (fun cdv A outer s H vs Q E hr h => ?_)
  · obtain ⟨a, p, x, y, rfl, _⟩ := h
    rfl
  · obtain ⟨a, p, x, y, rfl, hf, mx, my, q⟩ := h
    refine ⟨_, (pss_one (ps_ret (pe_op op_mod (pe_op op_mulW (pv 1) (pv 2)) (pe_fld (pv 0) rfl)))), ?_⟩
    obtain ⟨⟨dx, ha⟩, pr, _⟩ := hf
    have p2 := pr.1
    exact ⟨_, rfl, _, rfl, x, y, rfl, rfl, wide_mul mx my (by decide) (by decide) (by decide), _, rfl, a, T.C_RestField, dx, _, _, rfl, ha, T.cl_RestField, T.na_RestField_prime, rfl, x * y, p, rfl, rfl, (show (0 : Int) < p by omega), q⟩
end
end K26
set_option Elab.async false
set_option linter.all false
set_option maxRecDepth 100000
set_option maxHeartbeats 4000000
set_option exponentiation.threshold 5000
namespace K26
open PySem PySem.Spec PyProof.Rows L2 TkS
theorem med_nat {n p : Nat} (h : n < p) (l : p ≤ 20000) : Med (n : Int) := by
  unfold Med
  rw [Int.natAbs_natCast]
  exact Nat.lt_of_lt_of_le h (Nat.le_trans l (by decide +kernel))
theorem sq_mod (r y p k : Nat) : r * (y * y % p) ^ k % p = r * y ^ (2 * k) % p := by
  rw [Nat.mul_mod, ← Nat.pow_mod, ← Nat.mul_mod, Nat.pow_mul, Nat.pow_two]
section
variable {P : Program} {w : World} {K : PySem.W.Frag} {mg : Str → Option Value} {base : Heap}
theorem ok_RestField_power (T : Txt K mg) : FnOk P w K mg base (L2.CX P w) 5 T.f_RestField_power T.d_RestField_power ["self", "number", "exponent"] (sp_rest_power T.C_RestField T.C_ByZero) := by
  refine T.F_RestField_power.okX sc_RestField_power (fun vs H Q E h => ?_) (fun cdv A outer s H vs Q E hr h => ?_)
  · obtain ⟨a, p, x, e, rfl, _⟩ := h
    rfl
  · obtain ⟨a, p, x, e, rfl, hf, x0, x1, hE, q⟩ := h
    refine ⟨_, (pss_cons (ps_if (pt_cmpR op_eq (pv 2) pe_int (nomark _))
        (pss_one (ps_ret (pe_fld (pv 0) rfl)))
        pss_nil)
      (pss_cons (ps_if (pt_cmpR op_eq (pv 1) (pe_fld (pv 0) rfl) (nomark _))
        (pss_cons (ps_if (pt_cmpR op_lt (pv 2) pe_int (nomark _))
          (pss_one (ps_raise (W := fun cls d _ H => E cls d H) rfl (takes_of rfl rfl rfl rfl) (pmk_own0 PySem.F.excBase_ValueError T.q_ByZero T.g_ByZero T.k_ByZero (raises_own T.b_ByZero T.ty_ByZero) (by rfl))))
          pss_nil)
        (pss_one (ps_ret (pe_fld (pv 0) rfl))))
        pss_nil)
      (pss_cons (ps_set (i := 3) sc_RestField_power.nd rfl (.inl rfl) (pe_op op_mod (pv 2) (pe_op op_sub (pe_fld (pv 0) rfl) pe_int)))
      (pss_cons (ps_set (i := 4) sc_RestField_power.nd rfl (.inl rfl) (pe_fld (pv 0) rfl))
      (pss_cons (ps_while (by exact passes_of rfl) (pt_cmpR op_gt (pv 3) pe_int (nomark _))
        (Evl.pss_cut (ps_if (pt_cmpR op_eq (pe_op op_mod (pv 3) pe_int) pe_int (nomark _))
          (pss_one (ps_set (i := 4) sc_RestField_power.nd rfl (.inl rfl) (pe_meth (pv 0) T.cl_RestField T.M_RestField_times (ok_RestField_times T) (hr.mono (by decide)) T.b_RestField_times .nil pass0 (pa_cons (pv 4) (pa_cons (pv 1) pa_nil)))))
          pss_nil)
        (pss_cons (ps_set (i := 1) sc_RestField_power.nd rfl (.inl rfl) (pe_meth (pv 0) T.cl_RestField T.M_RestField_times (ok_RestField_times T) (hr.mono (by decide)) T.b_RestField_times .nil pass0 (pa_cons (pv 1) (pa_cons (pv 1) pa_nil))))
        (pss_one (ps_set (i := 3) sc_RestField_power.nd rfl (.inl rfl) (pe_op op_fdiv (pv 3) pe_int))))))
      (pss_one (ps_ret (pv 4)))))))), ?_⟩
    obtain ⟨⟨dx, ha⟩, pr, le⟩ := id hf
    have p2 := pr.1
    refine ⟨_, rfl, rfl, _, rfl, ?_⟩
    rw [int_dec]
    by_cases e0 : e = 0
    · rw [decide_eq_true e0]
      exact iteT ⟨_, rfl, a, T.C_RestField, dx, _, _, rfl, ha, T.cl_RestField, T.na_RestField_one, rfl, q 1 (by unfold rpw; rw [if_pos e0])⟩
    rw [decide_eq_false e0]
    refine iteF ⟨_, rfl, _, rfl, a, T.C_RestField, dx, _, _, rfl, ha, T.cl_RestField, T.na_RestField_zero, rfl, rfl, _, rfl, ?_⟩
    rw [int_dec]
    by_cases x00 : x = 0
    · rw [decide_eq_true x00]
      refine iteT ⟨_, rfl, _, _, rfl, rfl, _, rfl, ite2 (fun c => ?_) (fun c => ?_)⟩
      · have c' : e < 0 := of_decide_eq_true c
        exact hE (by unfold rpw; rw [if_neg e0, if_pos x00, if_pos c']) H fun _ _ z => z
      · have c' : ¬ e < 0 := fun z => c (decide_eq_true z)
        exact ⟨_, rfl, a, T.C_RestField, dx, _, _, rfl, ha, T.cl_RestField, T.na_RestField_zero, rfl, q 0 (by unfold rpw; rw [if_neg e0, if_pos x00, if_neg c'])⟩
    rw [decide_eq_false x00]
    refine iteF ?_
    obtain ⟨X, rfl⟩ : ∃ n : Nat, x = n := ⟨x.toNat, by omega⟩
    have Xp : X < p := by omega
    obtain ⟨L, hL⟩ : ∃ n : Nat, e % ((p : Int) - 1) = n := ⟨(e % ((p : Int) - 1)).toNat, by have := Int.emod_nonneg e (show (p : Int) - 1 ≠ 0 by omega); omega⟩
    have qL := q ((X ^ L % p : Nat) : Int) (by unfold rpw; rw [if_neg e0, if_neg x00, hL]; rfl)
    refine ⟨_, rfl, _, rfl, a, T.C_RestField, dx, _, _, rfl, ha, T.cl_RestField, T.na_RestField_prime, rfl, p, 1, rfl, rfl, e, (p : Int) - 1, rfl, rfl, (show (0 : Int) < (p : Int) - 1 by omega), ?_⟩
    dsimp only
    rw [hL]
    refine ⟨_, rfl, a, T.C_RestField, dx, _, _, rfl, ha, T.cl_RestField, T.na_RestField_one, rfl, ?_⟩
    refine ⟨fun m σ H' => ∃ y l r : Nat, σ = [some (.ref a), some (.int (y : Int)), some (.int e), some (.int (l : Int)), some (.int (r : Int))] ∧ H = H' ∧ y < p ∧ r < p ∧ r * y ^ l % p = X ^ L % p ∧ m = l, ⟨L, X, L, 1, rfl, rfl, Xp, by omega, by rw [Nat.one_mul], rfl⟩, fun m σ H' hW => ?_⟩
    obtain ⟨y, l, r, rfl, rfl, yp, rp, hyr, rfl⟩ := hW
    refine ⟨_, rfl, _, _, rfl, rfl, _, rfl, ite2 (fun c => ?_) (fun c => ?_)⟩
    · have c' : (0 : Int) < (m : Int) := of_decide_eq_true c
      refine ⟨fun σ' H' => ∃ m', m' < m ∧ ∃ y l r : Nat, σ' = [some (.ref a), some (.int (y : Int)), some (.int e), some (.int (l : Int)), some (.int (r : Int))] ∧ H = H' ∧ y < p ∧ r < p ∧ r * y ^ l % p = X ^ L % p ∧ m' = l, fun _ _ z => z, ?_⟩
      refine ⟨fun σ' H' => ∃ r' : Nat, σ' = [some (.ref a), some (.int (y : Int)), some (.int e), some (.int (m : Int)), some (.int (r' : Int))] ∧ H = H' ∧ r' < p ∧ r' * y ^ (2 * (m / 2)) % p = X ^ L % p, ?_, fun σ' H' hM => ?_⟩
      · refine ⟨_, rfl, m, 2, rfl, rfl, (show (0 : Int) < 2 by decide), rfl, _, rfl, ite2 (fun d => ?_) (fun d => ?_)⟩
        · have d' : (m : Int) % 2 = 1 := V.int.inj (of_decide_eq_true d)
          refine ⟨_, rfl, a, dx, _, rfl, ha, rfl, _, rfl, _, rfl, a, p, r, y, rfl, hf, med_nat rp le, med_nat yp le, ?_⟩
          refine ⟨r * y % p, ?_, rfl, Nat.mod_lt _ (by omega), ?_⟩
          · rw [show ((r : Int) * (y : Int)) % (p : Int) = ((r * y % p : Nat) : Int) by rw [Int.natCast_emod, Int.natCast_mul]]
            rfl
          · rw [Nat.mod_mul_mod, Nat.mul_assoc, ← Nat.pow_succ', show (2 * (m / 2)).succ = m by omega]
            exact hyr
        · have d' : ¬ (m : Int) % 2 = 1 := fun z => d (decide_eq_true (congrArg V.int z))
          exact ⟨r, rfl, rfl, rp, by rw [show 2 * (m / 2) = m by omega]; exact hyr⟩
      · obtain ⟨r', rfl, rfl, rp', hr'⟩ := hM
        refine ⟨_, rfl, a, dx, _, rfl, ha, rfl, _, rfl, _, rfl, a, p, y, y, rfl, hf, med_nat yp le, med_nat yp le, ?_⟩
        refine ⟨_, rfl, m, 2, rfl, rfl, ⟨by decide, by decide⟩, m / 2, by omega, y * y % p, m / 2, r', ?_, rfl, Nat.mod_lt _ (by omega), rp', by rw [sq_mod]; exact hr', rfl⟩
        rw [show ((y : Int) * (y : Int)) % (p : Int) = ((y * y % p : Nat) : Int) by rw [Int.natCast_emod, Int.natCast_mul]]
        rfl
    · have c' : m = 0 := by
        have : ¬ (0 : Int) < (m : Int) := fun z => c (decide_eq_true z)
        omega
      subst c'
      rw [Nat.pow_zero, Nat.mul_one, Nat.mod_eq_of_lt rp] at hyr
      subst hyr
      exact ⟨_, rfl, qL⟩
end
end K26
set_option Elab.async false
set_option linter.all false
set_option maxRecDepth 100000
set_option maxHeartbeats 4000000
set_option exponentiation.threshold 5000
namespace K26
open PySem PySem.Spec PyProof.Rows L2 TkS
theorem rpw_inv {p : Nat} {y : Int} (h : Pr p) (y0 : 0 ≤ y) (y1 : y < p) (n0 : y ≠ 0) : ∃ r : Nat, rpw p y (-1) = some (r : Int) ∧ r < p ∧ (r : Int) * y % p = 1 := by
  have p2 := h.1
  obtain ⟨Y, rfl⟩ : ∃ n : Nat, y = n := ⟨y.toNat, by omega⟩
  refine ⟨Y ^ ((-1 : Int) % ((p : Int) - 1)).toNat % p, ?_, Nat.mod_lt _ (by omega), ?_⟩
  · unfold rpw
    rw [if_neg (by decide), if_neg n0]
    rfl
  · have nd : ¬ p ∣ Y := not_dvd (by omega) (by omega)
    have e : ((-1 : Int) % ((p : Int) - 1)).toNat = (p - 2) % (p - 1) := by
      by_cases c : p = 2
      · subst c
        rfl
      · rw [Nat.mod_eq_of_lt (by omega)]
        have : (-1 : Int) % ((p : Int) - 1) = (p : Int) - 2 := by
          rw [← Int.add_emod_right (a := -1) (b := (p : Int) - 1), Int.emod_eq_of_lt (by omega) (by omega)]
          omega
        omega
    rw [e, ← pow_red h nd]
    have := pow_inv h nd
    rw [← Int.natCast_mul, ← Int.natCast_emod, Nat.mod_mul_mod, this]
    rfl
section
variable {P : Program} {w : World} {K : PySem.W.Frag} {mg : Str → Option Value} {base : Heap}
theorem ok_RestField_quotient (T : Txt K mg) : FnOk P w K mg base (L2.CX P w) 7 T.f_RestField_quotient T.d_RestField_quotient ["self", "one", "other"] (sp_rest_quotient T.C_RestField T.C_ByZero) := by
  refine T.F_RestField_quotient.okX sc_RestField_quotient (fun vs H Q E h => ?_) (fun cdv A outer s H vs Q E hr h => ?_)
  · obtain ⟨a, p, x, y, rfl, _⟩ := h
    rfl
  · obtain ⟨a, p, x, y, rfl, hf, x0, x1, y0, y1, hE, q⟩ := h
    refine ⟨_, (pss_one (ps_ret (pe_meth (pv 0) T.cl_RestField T.M_RestField_times (ok_RestField_times T) (hr.mono (by decide)) T.b_RestField_times .nil pass0 (pa_cons (pv 1) (pa_cons (pe_meth (pv 0) T.cl_RestField T.M_RestField_power (ok_RestField_power T) (hr.mono (by decide)) T.b_RestField_power .nil (passes_call (W := fun cls d _ H => E cls d H) (takes_of rfl rfl rfl rfl) (fun _ _ _ _ h => h)) (pa_cons (pv 2) (pa_cons (pe_un un_neg pe_int) pa_nil))) pa_nil))))), ?_⟩
    obtain ⟨⟨dx, ha⟩, pr, le⟩ := id hf
    have p2 := pr.1
    refine ⟨_, rfl, a, dx, _, rfl, ha, rfl, _, rfl, _, rfl, a, dx, _, rfl, ha, rfl, _, rfl, 1, rfl, a, p, y, -1, rfl, hf, y0, y1, fun e H' s => ?_, fun r e => ?_⟩
    · by_cases c : y = 0
      · exact hE c H' s
      · obtain ⟨r, e2, _⟩ := rpw_inv pr y0 y1 c
        rw [e2] at e
        cases e
    · by_cases c : y = 0
      · subst c
        cases e
      · obtain ⟨r', e2, rp, _⟩ := rpw_inv pr y0 y1 c
        have e3 := q r e
        rw [e2] at e
        cases e
        obtain ⟨X, rfl⟩ : ∃ n : Nat, x = n := ⟨x.toNat, by omega⟩
        exact ⟨a, p, _, _, rfl, hf, med_nat (by omega) le, med_nat rp le, e3⟩
end
end K26
set_option Elab.async false
set_option linter.all false
set_option maxRecDepth 100000
set_option maxHeartbeats 4000000
set_option exponentiation.threshold 5000
namespace K26
open PySem PySem.Spec PyProof.Rows L2 TkS
theorem prime_of {d : PyData} (h : primeD d = true) : ∃ p : Nat, d = .int (p : Int) ∧ Pr p ∧ p ≤ 20000 := by
  cases d with
  | int i =>
    unfold primeD at h
    obtain ⟨h1, h2⟩ := Bool.and_eq_true_iff.mp h
    obtain ⟨h3, h4⟩ := Bool.and_eq_true_iff.mp h1
    have i2 := of_decide_eq_true h3
    have i3 := of_decide_eq_true h4
    obtain ⟨n, rfl⟩ : ∃ n : Nat, i = n := ⟨i.toNat, by omega⟩
    rw [Int.toNat_natCast] at h2
    have e := Nat.eq_of_beq_eq_true h2
    have L := lf_ok (n := n) (by omega) (by omega)
    rw [e] at L
    exact ⟨n, rfl, L.pr, by omega⟩
  | _ => cases h
theorem prime_is {p : Nat} (h : Pr p) (l : p ≤ 20000) : primeD (.int (p : Int)) = true := by
  have p2 := h.1
  show (decide (2 ≤ (p : Int)) && decide ((p : Int) ≤ 20000) && Nat.beq (lf (p : Int).toNat) (p : Int).toNat) = true
  rw [Int.toNat_natCast, decide_eq_true (by omega), decide_eq_true (by omega), (lf_ok (n := p) p2 (by omega)).uniq (LF.self.mpr h), Nat.beq_refl]
  rfl
def sp_RestField_init (C CB : Addr) : Sp := fun vs H Q E => ∃ (a dx : Addr) (x : V) (d : PyData), vs = [.ref a, x] ∧ H a = some (.ins C dx []) ∧ Dq H x d ∧ (primeD d = false → ∀ H', KeepA a H H' → E (.ref CB) none H') ∧
  (∀ p : Nat, d = .int (p : Int) → Pr p → p ≤ 20000 → ∀ H', KeepA a H H' → RF C H' a p → Q .non H')
/-- a new field of rests, as the caller of the class sees it -/
theorem mk_rest {C CB : Addr} {H1 : Hp} {R : Addr → Hp → Prop} {E : XK} {x : V} {d : PyData} (k : Dq H1 x d) (hE : primeD d = false → ∀ H', Same H1 H' → E (.ref CB) none H')
    (hQ : ∀ p : Nat, d = .int (p : Int) → Pr p → p ≤ 20000 → ∀ H' y, Same H1 H' → H1 y = none → RF C H' y p → R y H') :
    ∀ y dx, H1 y = none → H1 dx = none → dx ≠ y → sp_RestField_init C CB (.ref y :: ([x] ++ [])) (upd (upd H1 dx (.own y)) y (.ins C dx [])) (fun v H2 => v = .non ∧ R y H2) E := fun y dx nx nd ne => by
  have s0 : Same H1 (upd (upd H1 dx (.own y)) y (.ins C dx [])) := Same.made nx nd fun b o e _ => e
  have sm : ∀ H', KeepA y (upd (upd H1 dx (.own y)) y (.ins C dx [])) H' → Same H1 H' := fun H' k => Same.made nx nd k
  exact ⟨y, dx, x, d, rfl, upd_same, k.same s0, fun e H' k => hE e H' (sm H' k), fun p e h l H' k hf => ⟨rfl, hQ p e h l H' y (sm H' k) nx hf⟩⟩
section
variable {P : Program} {w : World} {K : PySem.W.Frag} {mg : Str → Option Value} {base : Heap}
theorem ok_RestField_init (T : Txt K mg) : FnOk P w K mg base (L2.CX P w) 3 T.f_RestField_init T.d_RestField_init ["self", "prime"] (sp_RestField_init T.C_RestField T.C_BadPrime) := by
  refine T.F_RestField_init.okX sc_RestField_init (fun vs H Q E h => ?_) (fun cdv A outer s H vs Q E hr h => ?_)
  · obtain ⟨a, dx, x, d, rfl, _⟩ := h
    rfl
  · obtain ⟨a, dx, x, d, rfl, ha, kx, hE, hQ⟩ := h
    refine ⟨_, (pss_cons (ps_if (pt_not (pt_val (pe_call (ok_is_prime T) (hr.mono (by decide)) (by rfl) T.g_is_prime T.F_is_prime.kp T.b_is_prime .nil pass0 (pa_cons (pv 1) pa_nil))))
        (pss_one (ps_raise (W := fun cls d _ H => E cls d H) rfl (takes_of rfl rfl rfl rfl) (pmk_own0 PySem.F.excBase_ValueError T.q_BadPrime T.g_BadPrime T.k_BadPrime (raises_own T.b_BadPrime T.ty_BadPrime) (by rfl))))
        pss_nil)
      (pss_cons (ps_fld (pv 0) (pv 1) rfl)
      (pss_cons (ps_fld (pv 0) pe_int rfl)
      (pss_cons (ps_fld (pv 0) pe_int rfl)
      (pss_one (ps_fld (pv 0) (pe_op op_sub (pv 1) pe_int) rfl)))))), ?_⟩
    refine ⟨_, rfl, x, d, rfl, kx, _, rfl, ?_⟩
    cases c : primeD d with
    | false => exact iteT (hE c H fun b o e _ => e)
    | true =>
      obtain ⟨p, rfl, pr, le⟩ := prime_of c
      cases kx
      refine iteF ?_
      refine ⟨_, rfl, _, rfl, a, T.C_RestField, dx, [], rfl, ha, T.cl_RestField, T.na_RestField_prime, by decide, ?_⟩
      refine ⟨_, rfl, a, T.C_RestField, dx, _, rfl, upd_same, T.cl_RestField, T.na_RestField_zero, (by show 1 < 1000; decide), ?_⟩
      refine ⟨_, rfl, a, T.C_RestField, dx, _, rfl, upd_same, T.cl_RestField, T.na_RestField_one, (by show 2 < 1000; decide), ?_⟩
      refine ⟨_, rfl, p, 1, rfl, rfl, _, rfl, a, T.C_RestField, dx, _, rfl, upd_same, T.cl_RestField, T.na_RestField_minus_one, (by show 3 < 1000; decide), ?_⟩
      refine hQ p rfl pr le _ (KeepA.put (KeepA.put (KeepA.put (KeepA.put fun b o e _ => e)))) ⟨⟨dx, ?_⟩, pr, le⟩
      rw [upd_same]
      rfl
end
end K26
set_option Elab.async false
set_option linter.all false
set_option maxRecDepth 100000
set_option maxHeartbeats 4000000
namespace K26
open TkS
/-! fractions in lowest terms -/
def gS (t b : Int) : Int := if b < 0 then -((Int.gcd t b : Nat) : Int) else ((Int.gcd t b : Nat) : Int)
def low (t b : Int) : Int × Int := (t.fdiv (gS t b), b.fdiv (gS t b))
def Lowest (q : Int × Int) : Prop := 0 < q.2 ∧ Int.gcd q.1 q.2 = 1
theorem gS_ne {t b : Int} (hb : b ≠ 0) : gS t b ≠ 0 := by
  have : 0 < Int.gcd t b := Int.gcd_pos_of_ne_zero_right _ hb
  unfold gS
  split <;> omega
theorem low_ok {t b : Int} (hb : b ≠ 0) : Lowest (low t b) ∧ t * (low t b).2 = (low t b).1 * b := by
  have g0 : 0 < Int.gcd t b := Int.gcd_pos_of_ne_zero_right _ hb
  obtain ⟨t1, ht⟩ := Int.gcd_dvd_left (a := t) (b := b)
  obtain ⟨b1, hb1⟩ := Int.gcd_dvd_right (a := t) (b := b)
  have gc : Int.gcd t1 b1 = 1 := by
    have e : Int.gcd t b = Int.gcd t b * Int.gcd t1 b1 := by
      obtain ⟨g, hg⟩ : ∃ g, Int.gcd t b = g := ⟨_, rfl⟩
      rw [hg] at ht hb1 ⊢
      rw [ht, hb1, Int.gcd_mul_left, Int.natAbs_natCast] at hg
      exact hg.symm
    have e2 : Int.gcd t b * 1 = Int.gcd t b * Int.gcd t1 b1 := by rw [Nat.mul_one]; exact e
    exact (Nat.eq_of_mul_eq_mul_left g0 e2).symm
  unfold low gS
  generalize Int.gcd t b = g at g0 ht hb1
  by_cases c : b < 0
  · rw [if_pos c]
    have e1 : t.fdiv (-(g : Int)) = -t1 := by
      rw [ht, show (g : Int) * t1 = (-(g : Int)) * (-t1) by rw [Int.neg_mul_neg], Int.mul_fdiv_cancel_left _ (by omega)]
    have e2 : b.fdiv (-(g : Int)) = -b1 := by
      rw [hb1, show (g : Int) * b1 = (-(g : Int)) * (-b1) by rw [Int.neg_mul_neg], Int.mul_fdiv_cancel_left _ (by omega)]
    rw [e1, e2]
    refine ⟨⟨?_, by rw [Int.gcd_neg, Int.neg_gcd]; exact gc⟩, ?_⟩
    · show 0 < -b1
      refine Classical.byContradiction fun z => ?_
      have : 0 ≤ (g : Int) * b1 := Int.mul_nonneg (by omega) (by omega)
      omega
    · show t * -b1 = -t1 * b
      rw [Int.mul_neg, Int.neg_mul, ht, hb1, Int.mul_assoc, Int.mul_left_comm]
  · rw [if_neg c]
    have e1 : t.fdiv (g : Int) = t1 := by rw [ht, Int.mul_fdiv_cancel_left _ (by omega)]
    have e2 : b.fdiv (g : Int) = b1 := by rw [hb1, Int.mul_fdiv_cancel_left _ (by omega)]
    rw [e1, e2]
    refine ⟨⟨?_, gc⟩, ?_⟩
    · show 0 < b1
      refine Classical.byContradiction fun z => ?_
      have : (g : Int) * b1 ≤ 0 := Int.mul_nonpos_of_nonneg_of_nonpos (by omega) (by omega)
      omega
    · show t * b1 = t1 * b
      rw [ht, hb1, Int.mul_assoc, Int.mul_left_comm]
theorem low_uniq {q r : Int × Int} (hq : Lowest q) (hr : Lowest r) (e : q.1 * r.2 = r.1 * q.2) : q = r := by
  obtain ⟨a, b⟩ := q
  obtain ⟨c, d⟩ := r
  obtain ⟨b0, gq⟩ := hq
  obtain ⟨d0, gr⟩ := hr
  change a * d = c * b at e
  change 0 < b at b0
  change 0 < d at d0
  have en : a.natAbs * d.natAbs = c.natAbs * b.natAbs := by rw [← Int.natAbs_mul, ← Int.natAbs_mul, e]
  have h1 : b.natAbs ∣ d.natAbs := Nat.Coprime.dvd_of_dvd_mul_left (show Nat.gcd b.natAbs a.natAbs = 1 by rw [Nat.gcd_comm]; exact gq) ⟨c.natAbs, by rw [en, Nat.mul_comm]⟩
  have h2 : d.natAbs ∣ b.natAbs := Nat.Coprime.dvd_of_dvd_mul_left (show Nat.gcd d.natAbs c.natAbs = 1 by rw [Nat.gcd_comm]; exact gr) ⟨a.natAbs, by rw [← en, Nat.mul_comm]⟩
  have bd : b = d := by
    have := Nat.dvd_antisymm h1 h2
    omega
  subst bd
  have : a = c := Int.eq_of_mul_eq_mul_right (by omega) e
  rw [this]
theorem low_is {t b : Int} {q : Int × Int} (hb : b ≠ 0) (hq : Lowest q) (e : t * q.2 = q.1 * b) : low t b = q := by
  obtain ⟨l1, l2⟩ := low_ok (t := t) hb
  refine low_uniq l1 hq ?_
  have h : b * ((low t b).1 * q.2) = b * (q.1 * (low t b).2) := by
    calc b * ((low t b).1 * q.2) = ((low t b).1 * b) * q.2 := by rw [← Int.mul_assoc, Int.mul_comm b]
      _ = (t * (low t b).2) * q.2 := by rw [l2]
      _ = (t * q.2) * (low t b).2 := by rw [Int.mul_right_comm]
      _ = (q.1 * b) * (low t b).2 := by rw [e]
      _ = b * (q.1 * (low t b).2) := by rw [Int.mul_comm q.1 b, Int.mul_assoc]
  exact Int.eq_of_mul_eq_mul_left hb h
/-- a quotient, times what it was divided by -/
theorem low_quot {a b : Int × Int} (ha : Lowest a) (hb : Lowest b) (b0 : b.1 ≠ 0) : low ((low (a.1 * b.2) (a.2 * b.1)).1 * b.1) ((low (a.1 * b.2) (a.2 * b.1)).2 * b.2) = a := by
  have n0 : a.2 * b.1 ≠ 0 := fun z => by
    rcases Int.mul_eq_zero.mp z with h | h
    · have := ha.1
      omega
    · exact b0 h
  obtain ⟨l1, l2⟩ := low_ok (t := a.1 * b.2) n0
  generalize low (a.1 * b.2) (a.2 * b.1) = q at l1 l2
  have q2 := l1.1
  have b2 := hb.1
  refine low_is (fun z => by
    rcases Int.mul_eq_zero.mp z with h | h <;> omega) ha ?_
  calc q.1 * b.1 * a.2 = q.1 * (a.2 * b.1) := by rw [Int.mul_assoc, Int.mul_comm b.1]
    _ = a.1 * b.2 * q.2 := l2.symm
    _ = a.1 * (q.2 * b.2) := by rw [Int.mul_assoc, Int.mul_comm b.2]
theorem lowest_pow {q : Int × Int} (h : Lowest q) (n : Nat) : Lowest (q.1 ^ n, q.2 ^ n) := by
  refine ⟨Int.pow_pos h.1, ?_⟩
  show Nat.gcd (q.1 ^ n).natAbs (q.2 ^ n).natAbs = 1
  rw [Int.natAbs_pow, Int.natAbs_pow]
  exact Nat.Coprime.pow _ _ h.2
theorem low_times_pow {q : Int × Int} (h : Lowest q) (m n : Nat) : low (q.1 ^ m * q.1 ^ n) (q.2 ^ m * q.2 ^ n) = (q.1 ^ (m + n), q.2 ^ (m + n)) := by
  rw [← Int.pow_add, ← Int.pow_add]
  have l := lowest_pow h (m + n)
  refine low_is (fun z => ?_) l rfl
  have := l.1
  change 0 < q.2 ^ (m + n) at this
  omega
end K26
set_option Elab.async false
set_option linter.all false
set_option maxRecDepth 100000
set_option maxHeartbeats 4000000
set_option exponentiation.threshold 5000
namespace TkS
open PySem PySem.Spec PyProof.Rows L2
/-- // by a divisor of any sign -/
def CDivA (_ j : Int) : Prop := j ≠ 0 ∧ j.natAbs.log2 < 9000
theorem op_fdivA {X : Cx} : OpR X (binaryOp .FloorDiv) (rI CDivA fun i j => .int (i.fdiv j)) := opI fun _ _ _ _ _ _ _ hc q => floordiv_int hc.1 q (.inl (PyProof.noPylong_of_log2 hc.2))
end TkS
namespace K26
open PySem PySem.Spec PyProof.Rows L2 TkS
/-- the field of fractions -/
structure FF (C : Addr) (H : Hp) (a : Addr) : Prop where
  at_ : ∃ dx z o m : Addr, H a = some (.ins C dx [("zero", .ref z), ("one", .ref o), ("minus_one", .ref m)]) ∧ H z = some (.tup [.int 0, .int 1]) ∧ H o = some (.tup [.int 1, .int 1]) ∧ H m = some (.tup [.int (-1), .int 1])
theorem FF.same {C : Addr} {H H' : Hp} {a : Addr} (h : FF C H a) (s : Same H H') : FF C H' a := by
  obtain ⟨dx, z, o, m, e1, e2, e3, e4⟩ := h.at_
  exact ⟨⟨dx, z, o, m, s _ _ e1, s _ _ e2, s _ _ e3, s _ _ e4⟩⟩
def frD (q : Int × Int) : PyData := .tuple [.int q.1, .int q.2]
theorem fr_at {H : Hp} {v : V} {q : Int × Int} (k : Dq H v (frD q)) : ∃ l, v = .ref l ∧ H l = some (.tup [.int q.1, .int q.2]) := by
  cases k with
  | tup e t =>
    cases t with
    | cons a t =>
      cases t with
      | cons b t =>
        cases t
        cases a
        cases b
        exact ⟨_, rfl, e⟩
theorem fr_dq {H : Hp} {l : Addr} {q : Int × Int} (e : H l = some (.tup [.int q.1, .int q.2])) : Dq H (.ref l) (frD q) := .tup e (.cons (.int _) (.cons (.int _) .nil))
/-- a size that the reckoning keeps -/
def Fin (n : Nat) (z : Int) : Prop := z.natAbs < 2 ^ n
theorem Fin.mul {m n : Nat} {x y : Int} (hx : Fin m x) (hy : Fin n y) : Fin (m + n) (x * y) := by
  unfold Fin at *
  rw [Int.natAbs_mul, Nat.pow_add]
  exact Nat.mul_lt_mul'' hx hy
theorem Fin.mulW {m n : Nat} {x y : Int} (hx : Fin m x) (hy : Fin n y) (m0 : 0 < m) (n0 : 0 < n) (h : m + n ≤ 1000000) : CMulW x y := wide_mul hx hy m0 n0 h
theorem gS_fin {n : Nat} {t b : Int} (hb : b ≠ 0) (h : Fin n b) : Fin n (gS t b) := by
  unfold Fin at *
  have l : Int.gcd t b ≤ b.natAbs := Nat.le_of_dvd (by omega) (Nat.gcd_dvd_right t.natAbs b.natAbs)
  unfold gS
  split <;> omega
theorem fin_log {n : Nat} {z : Int} (h : Fin n z) (n0 : 0 < n) (l : n ≤ 9000) : z.natAbs.log2 < 9000 := Nat.lt_of_lt_of_le (PySem.Flt.log2_lt_of n0 h) l
def sp_fraction : Sp := fun vs H Q _ => ∃ t b : Int, vs = [.int t, .int b] ∧ b ≠ 0 ∧ Fin 8900 b ∧ ∀ l H', Same H H' → Dq H' (.ref l) (frD (low t b)) → Q (.ref l) H'
section
variable {P : Program} {w : World} {K : PySem.W.Frag} {mg : Str → Option Value} {base : Heap}
theorem ok_fraction (T : Txt K mg) : FnOk P w K mg base CX0 2 T.f_fraction T.d_fraction ["top", "bottom"] sp_fraction := by
  refine T.F_fraction.ok sc_fraction (fun vs H Q E h => ?_) (fun cdv A outer s H vs Q E hr h => ?_)
  · obtain ⟨t, b, rfl, _⟩ := h
    rfl
  · obtain ⟨t, b, rfl, b0, fb, q⟩ := h
    refine ⟨_, (pss_cons (ps_set (i := 2) sc_fraction.nd rfl (.inl rfl) (pe_call (ok_common_divisor T) (hr.mono (by decide)) (by rfl) T.g_common_divisor T.F_common_divisor.kp T.b_common_divisor .nil pass0 (pa_cons (pv 0) (pa_cons (pv 1) pa_nil))))
      (Evl.pss_cut (ps_if (pt_cmpR op_lt (pv 1) pe_int (nomark _))
        (pss_one (ps_set (i := 2) sc_fraction.nd rfl (.inl rfl) (pe_un un_neg (pv 2))))
        pss_nil)
      (pss_one (ps_ret (pe_tup (pa_cons (pe_op op_fdivA (pv 0) (pv 2)) (pa_cons (pe_op op_fdivA (pv 1) (pv 2)) pa_nil))))))), ?_⟩
    refine ⟨_, rfl, _, rfl, t, b, rfl, ?_⟩
    refine ⟨fun σ H' => σ = [some (.int t), some (.int b), some (.int (gS t b))] ∧ H = H', ?_, fun σ H' hM => ?_⟩
    · refine ⟨_, rfl, _, _, rfl, rfl, _, rfl, ite2 (fun c => ?_) (fun c => ?_)⟩
      · have c' : b < 0 := of_decide_eq_true c
        refine ⟨_, rfl, _, rfl, ?_, rfl⟩
        unfold gS
        rw [if_pos c']
        rfl
      · have c' : ¬ b < 0 := fun z => c (decide_eq_true z)
        refine ⟨?_, rfl⟩
        unfold gS
        rw [if_neg c']
        rfl
    · obtain ⟨rfl, rfl⟩ := hM
      have g0 := gS_ne (t := t) b0
      have gl := fin_log (gS_fin (t := t) b0 fb) (by decide) (by decide)
      refine ⟨_, rfl, _, rfl, t, _, rfl, rfl, ⟨g0, gl⟩, _, rfl, _, rfl, b, _, rfl, rfl, ⟨g0, gl⟩, (by show 2 ≤ sizeLine; decide), fun l nl => ?_⟩
      exact q l _ (same_new nl) (fr_dq (q := low t b) upd_same)
end
end K26
set_option Elab.async false
set_option linter.all false
set_option maxRecDepth 100000
set_option maxHeartbeats 4000000
set_option exponentiation.threshold 5000
namespace K26
open PySem PySem.Spec PyProof.Rows L2 TkS
def plusF (q r : Int × Int) : Int × Int := low (q.1 * r.2 + r.1 * q.2) (q.2 * r.2)
def lessF (q r : Int × Int) : Int × Int := low (q.1 * r.2 - r.1 * q.2) (q.2 * r.2)
def timesF (q r : Int × Int) : Int × Int := low (q.1 * r.1) (q.2 * r.2)
def quotF (q r : Int × Int) : Int × Int := low (q.1 * r.2) (q.2 * r.1)
/-- a fraction in lowest terms, of no great size -/
structure Fr (q : Int × Int) : Prop where
  low : Lowest q
  ft : Fin 4400 q.1
  fb : Fin 4400 q.2
def sp_fr2 (C : Addr) (op : Int × Int → Int × Int → Int × Int) : Sp := fun vs H Q _ => ∃ (a : Addr) (x y : V) (q r : Int × Int), vs = [.ref a, x, y] ∧ FF C H a ∧ Dq H x (frD q) ∧ Dq H y (frD r) ∧ Fr q ∧ Fr r ∧ ∀ l H', Same H H' → Dq H' (.ref l) (frD (op q r)) → Q (.ref l) H'
def sp_fr_quot (C CZ : Addr) : Sp := fun vs H Q E => ∃ (a : Addr) (x y : V) (q r : Int × Int), vs = [.ref a, x, y] ∧ FF C H a ∧ Dq H x (frD q) ∧ Dq H y (frD r) ∧ Fr q ∧ Fr r ∧ (r = (0, 1) → ∀ H', Same H H' → E (.ref CZ) none H') ∧ (r ≠ (0, 1) → ∀ l H', Same H H' → Dq H' (.ref l) (frD (quotF q r)) → Q (.ref l) H')
theorem Fr.b0 {q : Int × Int} (h : Fr q) : q.2 ≠ 0 := by
  have := h.low.1
  omega
theorem fin_up {m n : Nat} {z : Int} (h : Fin m z) (l : m ≤ n) : Fin n z := Nat.lt_of_lt_of_le h (Nat.pow_le_pow_right (by decide) l)
theorem lowest_zero {r : Int × Int} (h : Lowest r) (z : r.1 = 0) : r = (0, 1) := by
  obtain ⟨c, d⟩ := r
  obtain ⟨d0, g⟩ := h
  change c = 0 at z
  subst z
  change Nat.gcd 0 d.natAbs = 1 at g
  rw [Nat.gcd_zero_left] at g
  change 0 < d at d0
  have : d = 1 := by omega
  rw [this]
theorem shp_fr (q : Int × Int) : SeqAt.shaped (frD q) = true := by
  simp [frD, SeqAt.shaped, PyData.canLay0, PyData.depth, PyData.canLayAll0, PyData.depthAll]
theorem eqv_fr (q r : Int × Int) : PyData.eqv (frD q) (frD r) = decide (q = r) := by
  obtain ⟨a, b⟩ := q
  obtain ⟨c, d⟩ := r
  have h : PyData.eqv (frD (a, b)) (frD (c, d)) = (decide (a = c) && decide (b = d)) := by
    simp [frD, PyData.eqv, PyData.eqvAll, Bool.beq_eq_decide_eq]
  rw [h]
  by_cases e : a = c <;> by_cases f : b = d <;> simp [e, f]
section
variable {P : Program} {w : World} {K : PySem.W.Frag} {mg : Str → Option Value} {base : Heap}
theorem ok_FractionField_times (T : Txt K mg) : FnOk P w K mg base CX0 3 T.f_FractionField_times T.d_FractionField_times ["self", "one", "other"] (sp_fr2 T.C_FractionField timesF) := by
  refine T.F_FractionField_times.ok sc_FractionField_times (fun vs H Q E h => ?_) (fun cdv A outer s H vs Q E hr h => ?_)
  · obtain ⟨a, x, y, q, r, rfl, _⟩ := h
    rfl
  · obtain ⟨a, x, y, q, r, rfl, hf, kx, ky, fq, fr, hQ⟩ := h
    refine ⟨_, (pss_one (ps_ret (pe_call (ok_fraction T) (hr.mono (by decide)) (by rfl) T.g_fraction T.F_fraction.kp T.b_fraction .nil pass0 (pa_cons (pe_op op_mulW (pe_ix ix_tup (pv 1) pe_int (fun _ _ => rfl)) (pe_ix ix_tup (pv 2) pe_int (fun _ _ => rfl))) (pa_cons (pe_op op_mulW (pe_ix ix_tup (pv 1) pe_int (fun _ _ => rfl)) (pe_ix ix_tup (pv 2) pe_int (fun _ _ => rfl))) pa_nil))))), ?_⟩
    obtain ⟨l1, rfl, h1⟩ := fr_at kx
    obtain ⟨l2, rfl, h2⟩ := fr_at ky
    have w1 := Fin.mulW fq.ft fr.ft (by decide) (by decide) (by decide)
    have w3 := Fin.mulW fq.fb fr.fb (by decide) (by decide) (by decide)
    refine ⟨_, rfl, l1, _, 0, _, rfl, rfl, SqT.of h1, at_of (j := 0) rfl rfl, _, rfl, l2, _, 0, _, rfl, rfl, SqT.of h2, at_of (j := 0) rfl rfl, _, _, rfl, rfl, w1, _, rfl, l1, _, 1, _, rfl, rfl, SqT.of h1, at_of (j := 1) rfl rfl, _, rfl, l2, _, 1, _, rfl, rfl, SqT.of h2, at_of (j := 1) rfl rfl, _, _, rfl, rfl, w3, _, _, rfl, fun z => ?_, fin_up (Fin.mul fq.fb fr.fb) (by decide), fun l H' s k => hQ l H' s k⟩
    rcases Int.mul_eq_zero.mp z with e | e
    · exact fq.b0 e
    · exact fr.b0 e
theorem ok_FractionField_quotient (T : Txt K mg) : FnOk P w K mg base (L2.CX P w) 3 T.f_FractionField_quotient T.d_FractionField_quotient ["self", "one", "other"] (sp_fr_quot T.C_FractionField T.C_ByZero) := by
  refine T.F_FractionField_quotient.okX sc_FractionField_quotient (fun vs H Q E h => ?_) (fun cdv A outer s H vs Q E hr h => ?_)
  · obtain ⟨a, x, y, q, r, rfl, _⟩ := h
    rfl
  · obtain ⟨a, x, y, q, r, rfl, hf, kx, ky, fq, fr, hE, hQ⟩ := h
    refine ⟨_, (pss_cons (ps_if (pt_cmpR (op_eqD hr.units) (pv 2) (pe_fld (pv 0) rfl) (nomark _))
        (pss_one (ps_raise (W := fun cls d _ H => E cls d H) rfl (takes_of rfl rfl rfl rfl) (pmk_own0 PySem.F.excBase_ValueError T.q_ByZero T.g_ByZero T.k_ByZero (raises_own T.b_ByZero T.ty_ByZero) (by rfl))))
        pss_nil)
      (pss_one (ps_ret (pe_call (ok_fraction T) (hr.mono (by decide)) (by rfl) T.g_fraction T.F_fraction.kp T.b_fraction .nil pass0 (pa_cons (pe_op op_mulW (pe_ix ix_tup (pv 1) pe_int (fun _ _ => rfl)) (pe_ix ix_tup (pv 2) pe_int (fun _ _ => rfl))) (pa_cons (pe_op op_mulW (pe_ix ix_tup (pv 1) pe_int (fun _ _ => rfl)) (pe_ix ix_tup (pv 2) pe_int (fun _ _ => rfl))) pa_nil)))))), ?_⟩
    obtain ⟨l1, rfl, h1⟩ := fr_at kx
    obtain ⟨l2, rfl, h2⟩ := fr_at ky
    obtain ⟨dx, z, o, m, ea, ez, _, _⟩ := hf.at_
    refine ⟨_, rfl, _, rfl, a, T.C_FractionField, dx, _, _, rfl, ea, T.cl_FractionField, T.na_FractionField_zero, rfl, frD r, frD (0, 1), ky.dp, (fr_dq (q := (0, 1)) ez).dp, shp_fr _, shp_fr _, _, rfl, ?_⟩
    rw [eqv_fr]
    by_cases c : r = (0, 1)
    · rw [decide_eq_true c]
      exact iteT (hE c H fun _ _ z => z)
    · rw [decide_eq_false c]
      have r0 : r.1 ≠ 0 := fun z => c (lowest_zero fr.low z)
      have w1 := Fin.mulW fq.ft fr.fb (by decide) (by decide) (by decide)
      have w3 := Fin.mulW fq.fb fr.ft (by decide) (by decide) (by decide)
      refine iteF ⟨_, rfl, l1, _, 0, _, rfl, rfl, SqT.of h1, at_of (j := 0) rfl rfl, _, rfl, l2, _, 1, _, rfl, rfl, SqT.of h2, at_of (j := 1) rfl rfl, _, _, rfl, rfl, w1, _, rfl, l1, _, 1, _, rfl, rfl, SqT.of h1, at_of (j := 1) rfl rfl, _, rfl, l2, _, 0, _, rfl, rfl, SqT.of h2, at_of (j := 0) rfl rfl, _, _, rfl, rfl, w3, _, _, rfl, fun z => ?_, fin_up (Fin.mul fq.fb fr.ft) (by decide), fun l H' s k => hQ c l H' s k⟩
      rcases Int.mul_eq_zero.mp z with e | e
      · exact fq.b0 e
      · exact r0 e
end
end K26
set_option Elab.async false
set_option linter.all false
set_option maxRecDepth 100000
set_option maxHeartbeats 4000000
set_option exponentiation.threshold 5000
namespace K26
open PySem PySem.Spec PyProof.Rows L2 TkS
def powF (q : Int × Int) (e : Int) : Option (Int × Int) := if e < 0 then (if q = (0, 1) then none else some ((quotF (1, 1) q).1 ^ (-e).toNat, (quotF (1, 1) q).2 ^ (-e).toNat)) else some (q.1 ^ e.toNat, q.2 ^ e.toNat)
theorem inv_eq {q : Int × Int} (h : Lowest q) (n : q.1 ≠ 0) : quotF (1, 1) q = if q.1 < 0 then (-q.2, -q.1) else (q.2, q.1) := by
  obtain ⟨a, b⟩ := q
  obtain ⟨b0, g⟩ := h
  change 0 < b at b0
  change Nat.gcd a.natAbs b.natAbs = 1 at g
  change a ≠ 0 at n
  have g2 : Nat.gcd b.natAbs a.natAbs = 1 := by rw [Nat.gcd_comm]; exact g
  show low (1 * b) (1 * a) = if a < 0 then (-b, -a) else (b, a)
  rw [Int.one_mul, Int.one_mul]
  by_cases c : a < 0
  · rw [if_pos c]
    refine low_is n ⟨by show 0 < -a; omega, ?_⟩ ?_
    · show Nat.gcd (-b).natAbs (-a).natAbs = 1
      rw [Int.natAbs_neg, Int.natAbs_neg]
      exact g2
    · show b * -a = -b * a
      rw [Int.mul_neg, Int.neg_mul]
  · rw [if_neg c]
    exact low_is n ⟨by show 0 < a; omega, g2⟩ rfl
def sp_fr_power (C CZ : Addr) : Sp := fun vs H Q E => ∃ (a : Addr) (x : V) (q : Int × Int) (e : Int), vs = [.ref a, x, .int e] ∧ FF C H a ∧ Dq H x (frD q) ∧ Lowest q ∧ q.1.natAbs ≤ 2 ^ 67 ∧ q.2.natAbs ≤ 2 ^ 67 ∧ -40 ≤ e ∧ e ≤ 40 ∧
  (powF q e = none → ∀ H', Same H H' → E (.ref CZ) none H') ∧ (∀ r, powF q e = some r → ∀ l H', Same H H' → Dq H' (.ref l) (frD r) → Q (.ref l) H')
theorem le_fin {z : Int} (h : z.natAbs ≤ 2 ^ 67) : Fin 4400 z := Nat.lt_of_le_of_lt h (by decide +kernel)
theorem fr_one : Fr (1, 1) := ⟨⟨by decide, rfl⟩, by unfold Fin; decide +kernel, by unfold Fin; decide +kernel⟩
section
variable {P : Program} {w : World} {K : PySem.W.Frag} {mg : Str → Option Value} {base : Heap}
theorem ok_FractionField_power (T : Txt K mg) : FnOk P w K mg base (L2.CX P w) 5 T.f_FractionField_power T.d_FractionField_power ["self", "number", "exponent"] (sp_fr_power T.C_FractionField T.C_ByZero) := by
  refine T.F_FractionField_power.okX sc_FractionField_power (fun vs H Q E h => ?_) (fun cdv A outer s H vs Q E hr h => ?_)
  · obtain ⟨a, x, q, e, rfl, _⟩ := h
    rfl
  · obtain ⟨a, x, q, e, rfl, hf, kx, lq, s1, s2, e0, e1, hE, hQ⟩ := h
    refine ⟨_, (Evl.pss_cut (ps_if (pt_cmpR op_lt (pv 2) pe_int (nomark _))
        (pss_cons (ps_set (i := 1) sc_FractionField_power.nd rfl (.inl rfl) (pe_meth (pv 0) T.cl_FractionField T.M_FractionField_quotient (ok_FractionField_quotient T) (hr.mono (by decide)) T.b_FractionField_quotient .nil (passes_call (W := fun cls d _ H => E cls d H) (takes_of rfl rfl rfl rfl) (fun _ _ _ _ h => h)) (pa_cons (pe_fld (pv 0) rfl) (pa_cons (pv 1) pa_nil))))
        (pss_one (ps_set (i := 2) sc_FractionField_power.nd rfl (.inl rfl) (pe_un un_neg (pv 2)))))
        pss_nil)
      (pss_cons (ps_asg (pv 1) (pg_tup rfl (pgs_cons (pg_name (i := 3) sc_FractionField_power.nd rfl (.inl rfl)) (pgs_cons (pg_name (i := 4) sc_FractionField_power.nd rfl (.inl rfl)) pgs_nil))))
      (pss_one (ps_ret (pe_tup (pa_cons (pe_call (ok_power_of T) (hr.mono (by decide)) (by rfl) T.g_power_of T.F_power_of.kp T.b_power_of .nil pass0 (pa_cons (pv 3) (pa_cons (pv 2) pa_nil))) (pa_cons (pe_call (ok_power_of T) (hr.mono (by decide)) (by rfl) T.g_power_of T.F_power_of.kp T.b_power_of .nil pass0 (pa_cons (pv 4) (pa_cons (pv 2) pa_nil))) pa_nil))))))), ?_⟩
    refine ⟨fun σ H' => ∃ (v : V) (r : Int × Int) (n : Nat), σ = [some (.ref a), some v, some (.int (n : Int)), none, none] ∧ Same H H' ∧ Dq H' v (frD r) ∧ powF q e = some (r.1 ^ n, r.2 ^ n) ∧ r.1.natAbs ≤ 2 ^ 67 ∧ r.2.natAbs ≤ 2 ^ 67 ∧ n ≤ 40, ?_, fun σ H' hM => ?_⟩
    · refine ⟨_, rfl, _, _, rfl, rfl, _, rfl, ite2 (fun c => ?_) (fun c => ?_)⟩
      · have c' : e < 0 := of_decide_eq_true c
        obtain ⟨dx, z, o, m, ea, ez, eo, _⟩ := hf.at_
        refine ⟨_, rfl, a, dx, _, rfl, ea, rfl, _, rfl, a, T.C_FractionField, dx, _, _, rfl, ea, T.cl_FractionField, T.na_FractionField_one, rfl, _, rfl, a, .ref o, x, (1, 1), q, rfl, hf, fr_dq (q := (1, 1)) eo, kx, fr_one, ⟨lq, le_fin s1, le_fin s2⟩, fun ez' H' s => ?_, fun nz l H' s k => ?_⟩
        · exact hE (by unfold powF; rw [if_pos c', if_pos ez']) H' s
        · have q0 : q.1 ≠ 0 := fun y => nz (lowest_zero lq y)
          have ie := inv_eq lq q0
          refine ⟨_, rfl, e, rfl, _, quotF (1, 1) q, (-e).toNat, ?_, s, k, by unfold powF; rw [if_pos c', if_neg nz], ?_, ?_, by omega⟩
          · rw [show (((-e).toNat : Nat) : Int) = -e by omega]
            rfl
          · rw [ie]
            split
            · show (-q.2).natAbs ≤ 2 ^ 67
              rw [Int.natAbs_neg]
              exact s2
            · exact s2
          · rw [ie]
            split
            · show (-q.1).natAbs ≤ 2 ^ 67
              rw [Int.natAbs_neg]
              exact s1
            · exact s1
      · have c' : ¬ e < 0 := fun z => c (decide_eq_true z)
        refine ⟨x, q, e.toNat, ?_, fun _ _ z => z, kx, by unfold powF; rw [if_neg c'], s1, s2, by omega⟩
        rw [show ((e.toNat : Nat) : Int) = e by omega]
        rfl
    · obtain ⟨v, r, n, rfl, s, k, ep, b1, b2, n40⟩ := hM
      obtain ⟨l, rfl, hl⟩ := fr_at k
      refine ⟨_, rfl, l, _, rfl, SqT.of hl, rfl, _, _, rfl, _, _, rfl, rfl, ?_⟩
      refine ⟨_, rfl, _, rfl, r.1, n, rfl, b1, n40, _, rfl, _, rfl, r.2, n, rfl, b2, n40, (by show 2 ≤ sizeLine; decide), fun l2 nl => ?_⟩
      exact hQ _ ep l2 _ (s.trans (same_new nl)) (fr_dq (q := (r.1 ^ n, r.2 ^ n)) upd_same)
end
end K26
set_option Elab.async false
set_option linter.all false
set_option maxRecDepth 100000
set_option maxHeartbeats 4000000
set_option exponentiation.threshold 5000
namespace K26
open PySem PySem.Spec PyProof.Rows L2 TkS
def sp_FractionField_init (C : Addr) : Sp := fun vs H Q _ => ∃ (a dx : Addr), vs = [.ref a] ∧ H a = some (.ins C dx []) ∧ ∀ H', KeepA a H H' → FF C H' a → Q .non H'
theorem mk_frac {C : Addr} {H1 : Hp} {R : Addr → Hp → Prop} {E : XK} (hQ : ∀ H' y, Same H1 H' → H1 y = none → FF C H' y → R y H') :
    ∀ y dx, H1 y = none → H1 dx = none → dx ≠ y → sp_FractionField_init C (.ref y :: ([] ++ [])) (upd (upd H1 dx (.own y)) y (.ins C dx [])) (fun v H2 => v = .non ∧ R y H2) E := fun y dx nx nd ne => by
  have sm : ∀ H', KeepA y (upd (upd H1 dx (.own y)) y (.ins C dx [])) H' → Same H1 H' := fun H' k => Same.made nx nd k
  exact ⟨y, dx, rfl, upd_same, fun H' k hf => ⟨rfl, hQ H' y (sm H' k) nx hf⟩⟩
section
variable {P : Program} {w : World} {K : PySem.W.Frag} {mg : Str → Option Value} {base : Heap}
theorem ok_FractionField_init (T : Txt K mg) : FnOk P w K mg base CX0 1 T.f_FractionField_init T.d_FractionField_init ["self"] (sp_FractionField_init T.C_FractionField) := by
  refine T.F_FractionField_init.ok sc_FractionField_init (fun vs H Q E h => ?_) (fun cdv A outer s H vs Q E hr h => ?_)
  · obtain ⟨a, dx, rfl, _⟩ := h
    rfl
  · obtain ⟨a, dx, rfl, ha, hQ⟩ := h
    refine ⟨_, (pss_cons (ps_fld (pv 0) (pe_tup (pa_cons pe_int (pa_cons pe_int pa_nil))) rfl)
      (pss_cons (ps_fld (pv 0) (pe_tup (pa_cons pe_int (pa_cons pe_int pa_nil))) rfl)
      (pss_one (ps_fld (pv 0) (pe_tup (pa_cons (pe_un un_neg pe_int) (pa_cons pe_int pa_nil))) rfl)))), ?_⟩
    have two : 2 ≤ sizeLine := by decide
    refine ⟨two, fun z nz => ⟨_, rfl, a, T.C_FractionField, dx, [], rfl, (same_new nz) _ _ ha, T.cl_FractionField, T.na_FractionField_zero, by decide, ?_⟩⟩
    have za : z ≠ a := (ne_of_none ha nz).symm
    generalize eH1 : upd (upd H z (.tup [.int 0, .int 1])) a (.ins T.C_FractionField dx (putF "zero" (.ref z) [])) = H1
    have a1 : H1 a = some (.ins T.C_FractionField dx [("zero", .ref z)]) := by rw [← eH1, upd_same]; rfl
    have z1 : H1 z = some (.tup [.int 0, .int 1]) := by rw [← eH1, upd_ne za, upd_same]
    have k1 : KeepA a H H1 := by
      rw [← eH1]
      exact KeepA.put fun b o e _ => (same_new nz) _ _ e
    refine ⟨two, fun o no => ⟨_, rfl, a, T.C_FractionField, dx, _, rfl, (same_new no) _ _ a1, T.cl_FractionField, T.na_FractionField_one, (by show 1 < 1000; decide), ?_⟩⟩
    have oa : o ≠ a := (ne_of_none a1 no).symm
    have oz : o ≠ z := (ne_of_none z1 no).symm
    generalize eH2 : upd (upd H1 o (.tup [.int 1, .int 1])) a (.ins T.C_FractionField dx (putF "one" (.ref o) [("zero", .ref z)])) = H2
    have a2 : H2 a = some (.ins T.C_FractionField dx [("zero", .ref z), ("one", .ref o)]) := by rw [← eH2, upd_same]; rfl
    have z2 : H2 z = some (.tup [.int 0, .int 1]) := by rw [← eH2, upd_ne za, upd_ne oz.symm]; exact z1
    have o2 : H2 o = some (.tup [.int 1, .int 1]) := by rw [← eH2, upd_ne oa, upd_same]
    have k2 : KeepA a H H2 := by
      rw [← eH2]
      exact (k1.same (same_new no)).put
    refine ⟨_, rfl, two, fun m nm => ⟨_, rfl, a, T.C_FractionField, dx, _, rfl, (same_new nm) _ _ a2, T.cl_FractionField, T.na_FractionField_minus_one, (by show 2 < 1000; decide), ?_⟩⟩
    have ma : m ≠ a := (ne_of_none a2 nm).symm
    have mz : m ≠ z := (ne_of_none z2 nm).symm
    have mo : m ≠ o := (ne_of_none o2 nm).symm
    refine hQ _ ((k2.same (same_new nm)).put) ⟨⟨dx, z, o, m, ?_, ?_, ?_, ?_⟩⟩
    · rw [upd_same]
      rfl
    · rw [upd_ne za, upd_ne mz.symm]
      exact z2
    · rw [upd_ne oa, upd_ne mo.symm]
      exact o2
    · rw [upd_ne ma, upd_same]
end
end K26
set_option Elab.async false
set_option linter.all false
set_option maxRecDepth 100000
set_option maxHeartbeats 4000000
set_option exponentiation.threshold 5000
namespace K26
open PySem PySem.Spec PyProof.Rows L2 TkS
def isIntD : PyData → Bool
  | .int _ => true
  | _ => false
theorem wi_any {x : V} {H : Hp} {d : PyData} (k : Dq H x d) : wholeIn x .non .non = isIntD d := by cases k <;> rfl
/-- a fraction in lowest terms -/
def frOk : PyData → Bool
  | .tuple [.int t, .int b] => decide (1 ≤ b) && Nat.beq (Int.gcd t b) 1
  | _ => false
theorem frOk_of {d : PyData} (h : frOk d = true) : ∃ q, d = frD q ∧ Lowest q := by
  match d, h with
  | .tuple [.int t, .int b], h =>
    obtain ⟨h1, h2⟩ := Bool.and_eq_true_iff.mp h
    have b1 := of_decide_eq_true h1
    exact ⟨(t, b), rfl, ⟨by show 0 < b; omega, Nat.eq_of_beq_eq_true h2⟩⟩
theorem frOk_is {q : Int × Int} (h : Lowest q) : frOk (frD q) = true := by
  obtain ⟨t, b⟩ := q
  obtain ⟨b0, g⟩ := h
  change 0 < b at b0
  change Int.gcd t b = 1 at g
  show (decide (1 ≤ b) && Nat.beq (Int.gcd t b) 1) = true
  rw [g, decide_eq_true (by omega)]
  rfl
def sp_fr_check (CN : Addr) : Sp := fun vs H Q E => ∃ (a : Addr) (x : V) (d : PyData), vs = [.ref a, x] ∧ Dq H x d ∧ (frOk d = false → ∀ H', Same H H' → E (.ref CN) none H') ∧ (frOk d = true → Q x H)
theorem frOk_len {ds : List PyData} (h : ds.length ≠ 2) : frOk (.tuple ds) = false := by
  match ds, h with
  | [], _ => rfl
  | [x], _ => cases x <;> rfl
  | [_, _], h => exact absurd rfl h
  | a :: b :: c :: r, _ => cases a <;> first | rfl | (cases b <;> rfl)
theorem frOk_top {d e : PyData} (h : isIntD d = false) : frOk (.tuple [d, e]) = false := by
  cases d <;> first | rfl | cases h
theorem frOk_bot {H : Hp} {y : V} {t : Int} {e : PyData} (k : Dq H y e) (h : wholeIn y (.int 1) .non = false) : frOk (.tuple [.int t, e]) = false := by
  cases k with
  | int i =>
    have h' : (decide (1 ≤ i) && true) = false := h
    rw [Bool.and_true] at h'
    show (decide (1 ≤ i) && Nat.beq (Int.gcd t i) 1) = false
    rw [h']
    rfl
  | _ => rfl
theorem dq_tup {H : Hp} {v : V} {ds : List PyData} (k : Dq H v (.tuple ds)) : ∃ p zs, v = .ref p ∧ H p = some (.tup zs) ∧ DqAll H zs ds := by
  cases k with
  | tup e t => exact ⟨_, _, rfl, e, t⟩
section
variable {P : Program} {w : World} {K : PySem.W.Frag} {mg : Str → Option Value} {base : Heap}
end
end K26
set_option Elab.async false
set_option linter.all false
set_option maxRecDepth 100000
set_option maxHeartbeats 4000000
/-! enumerate of a tuple, and of a list or a tuple -/
namespace TkS
open PySem PySem.Spec PyProof.Rows L2
set_option maxHeartbeats 1000000 in
theorem meets_enum1 {v : Value} {o : Obj} {H : Heap → Prop} (B : Begins v o H) :
    Meets (Builtin.«enumerate.__new__» ⟨[.type "enumerate", v], []⟩) (fun _ R s => H s.heap ∧
      R (.ok (.ret (.ref (s.heap.push o).objs.size))) { s with heap := (s.heap.push o).push { cls := .type "enumerate", data := .fields #[.none, .bool false, .ref s.heap.objs.size, rawInt 0, .none, .none] } }) :=
  .of_wp fun prog w A R s h => by
    obtain ⟨hp, g, d, tk, os⟩ := s
    obtain ⟨b0, h⟩ := h
    have sube := sub_enumerate
    have go : ∀ {A' : Around} {E : Value → Shared → Prop} {Q : Value → Shared → Prop}, Q (.ref hp.objs.size) ⟨hp.push o, g, d, tk, os⟩ → wpAny (model prog w) A' (pyIter v) Q E ⟨hp, g, d, tk, os⟩ := fun q => B.iter prog w _ _ ⟨hp, g, d, tk, os⟩ _ b0 q
    wp_walk using go
    refine wpAny_stack_any fun st => wpAny_pure ?_
    split
    · rename_i k _ _ _ _ _
      cases (k == Value.type "enumerate") <;> (wp_walk using go; exact ⟨_, rfl, h⟩)
    · wp_walk using go
      exact ⟨_, rfl, h⟩
theorem enum_begins1 {prog : Program} {w : World} {A : Around} {E : Value → Shared → Prop} {s : Shared} {v : Value} {o : Obj} {H : Heap → Prop} {Q : Value → Shared → Prop} (B : Begins v o H) (b0 : H s.heap)
    (h : ∀ h', IsEnum h' (s.heap.objs.size + 1) s.heap.objs.size 0 .none → h'.get? s.heap.objs.size = some o → (∀ b ob, s.heap.get? b = some ob → h'.get? b = some ob) → Q (.ref (s.heap.objs.size + 1)) { s with heap := h' }) :
    wpAny (model prog w) A (call (.type "enumerate") [v]) Q E s := by
  refine callType_new F.called_enumerate (by decide) (F.typeCall_enumerate_1 _) (F.newCall_enumerate_1 _) (fun obj => F.args_object_init_2 obj _) F.entry_enumerate_new (meets_enum1 B) ⟨b0, ?_⟩
  have z1 : (s.heap.push o).objs.size = s.heap.objs.size + 1 := Heap.size_push ..
  have e1 : ((s.heap.push o).push { cls := .type "enumerate", data := .fields #[.none, .bool false, .ref s.heap.objs.size, rawInt 0, .none, .none] }).get? (s.heap.push o).objs.size = some _ := Heap.get?_push_size _ rfl
  show _ ∧ _
  rw [z1] at e1 ⊢
  exact ⟨⟨_, e1, rfl⟩, h _ e1 (Heap.get?_push_of_some _ (Heap.get?_push_size _ B.free)) fun b ob z => Heap.get?_push_of_some _ (Heap.get?_push_of_some _ z)⟩
def IteT (K : PySem.W.Frag) (a : Addr) : It :=
  ⟨fun i H => ∃ (xs : List V) (x : V), SqT K H a xs ∧ xs[i]? = some x, fun i H v H' => ∃ T x, v = .ref T ∧ H T = none ∧ H' = upd H T (.tup [.int (i : Nat), x]) ∧ ∀ xs, SqT K H a xs → xs[i]? = some x, fun i H => ∃ xs : List V, SqT K H a xs ∧ xs.length ≤ i⟩
theorem turn_enumT {P : Program} {w : World} {K : PySem.W.Frag} {elts : List Expr} {kk : Nat} {tpos : Pos} (a e it : Addr) (hei : e ≠ it) (hea : e ≠ a) (hai : a ≠ it) :
    Turn P w K (.Tuple elts kk tpos) (IteT K a) [e, it] e (fun i h => (∃ old, IsEnum h e it ((i : Nat) : Int) old) ∧ h.IsTupleIter it a i) where
  mem := by simp
  obj := fun i h st b hb => by
    obtain ⟨⟨old, he⟩, ⟨o, ho, _, hd⟩⟩ := st
    have hb' : b = e ∨ b = it := by simpa using hb
    rcases hb' with z | z
    · subst z
      exact ⟨_, he, fun v q => nomatch q⟩
    · subst z
      exact ⟨o, ho, fun v q => by rw [hd] at q; cases q⟩
  keep := fun i h h' st k => by
    obtain ⟨⟨old, he⟩, hi⟩ := st
    exact ⟨⟨old, k e (by simp) _ he⟩, hi.at fun o q => k it (by simp) o q⟩
  item := by
    intro X hP hw hK hc i pins s σ H E I hf st hg
    subst hP hw hK
    obtain ⟨⟨old, he⟩, hit⟩ := st
    obtain ⟨xs, x, hq, hx⟩ := hg
    obtain ⟨its, rv, p, hz⟩ := I.tuple hq
    obtain ⟨u, hu, ru⟩ := rv.get hx
    have le : e < s.heap.objs.size := Heap.lt_size he
    have li : it < s.heap.objs.size := by
      obtain ⟨_, q, _⟩ := hit
      exact Heap.lt_size q
    have lx : i < its.toArray.size := by
      have := (List.getElem?_eq_some_iff.mp hu).1
      simpa using this
    refine wpAny_pyNext_enum_itemD (Draws.tuple (prog := X.prog) (w := X.w) (A := X.A.in1) (I.ok.hd hc) it a hai its.toArray) he ⟨hit, p⟩ lx hei (by simp [hei, hea]) fun x' h' tk hP ho hst hT hsz hk => ?_
    have ex : x' = u := by
      have : its[i]? = some x' := by simpa using hP
      rw [hu] at this
      exact (Option.some.inj this).symm
    subst ex
    refine ⟨_, rfl, wpAny_letOwnedTupleGo_enum (s := { s with heap := h', toks := tk + 1 }) ho fun h'' he' sb => ?_⟩
    have hT2 : h''.get? s.heap.objs.size = some { cls := .type "tuple", data := .seq #[.int i tk, x'] } := (sb.2 _ (Nat.ne_of_gt le)).trans hT
    have new : ObjOk X.prog X.w (upd H s.heap.objs.size (.tup [.int (i : Nat), x])) h'' s.heap.objs.size (.tup [.int (i : Nat), x]) :=
      ⟨by show 2 ≤ sizeLine; decide, [.int i tk, x'], .cons ⟨_, rfl⟩ (.cons ru .nil), ⟨_, hT2, rfl, _, rfl⟩⟩
    have I1 : Inv X pins σ (upd H s.heap.objs.size (.tup [.int (i : Nat), x])) { s with heap := h'', toks := tk + 1 } :=
      I.turnedNew (ch := [e, it]) (fun b ob hb q => (sb.2 b (fun z => hb (by simp [z]))).trans (hk b ob (fun z => hb (by simp [z])) (fun z => hb (by simp [z])) q)) hf (Nat.le_refl _) new
    refine ⟨.ref s.heap.objs.size, _, I1, rfl, ⟨_, x, rfl, I.hok.fresh (Nat.le_refl _), rfl, fun ys hy => by rw [I.tuple_inj hy hq]; exact hx⟩, ⟨⟨x', ?_⟩, hst.1.at fun o q => (sb.2 it (Ne.symm hei)).trans q⟩, fun b hb => ?_⟩
    · rw [show ((i + 1 : Nat) : Int) = (i : Int) + 1 by omega]
      exact he'
    · have lb : b < s.heap.objs.size := by
        have hb' : b = e ∨ b = it := by simpa using hb
        rcases hb' with z | z <;> (subst z; assumption)
      rw [upd_ne (Nat.ne_of_lt lb)]
      exact (hf b hb).1
  done := by
    intro X hP hw hK hc i pins s σ H E I hf st hg
    subst hP hw hK
    obtain ⟨⟨old, he⟩, hit⟩ := st
    obtain ⟨xs, hq, hx⟩ := hg
    obtain ⟨its, rv, p, hz⟩ := I.tuple hq
    obtain ⟨f0, f1, f2, f3, f4, f5⟩ := hf it (by simp)
    have hl := rv.length
    have D : Draws X.prog X.w X.A.in1 it [it, a] i (fun j v => its.toArray[j]? = some v) (fun j h => j = i ∧ h.IsTupleIter it a j ∧ h.IsTuple a its.toArray) :=
      { live := fun _ _ st => let ⟨o, ho, _⟩ := st.2.1; ⟨o, ho⟩
        frame := fun j h h' st hk => ⟨st.1, (Draws.tuple (prog := X.prog) (w := X.w) (A := X.A.in1) (I.ok.hd hc) it a hai its.toArray).frame j h h' st.2 hk⟩
        item := fun j s' Q' E' hj st' hQ => absurd st'.1 (Nat.ne_of_lt hj)
        done := fun s' Q' E' st' hE => wpAny_nextOf_tuple_end (I.ok.hd hc) st'.2.1 st'.2.2 (by simp; omega) hE }
    exact wpAny_pyNext_enum_endD D he ⟨rfl, hit, p⟩ fun h' eb => ⟨rfl, I.turned (t' := s.toks) (fun b o hb q => eb b o hb q) f0 f1 f3 f4 f5⟩
  self := fun A i s Q E st h => let ⟨⟨_, he⟩, _⟩ := st; wpAny_pyIter_enum he h
def iEnumT (K : PySem.W.Frag) (ta : TA) : TI := fun σ H R => ta σ H fun vs H1 => ∃ a xs, vs = [.ref a] ∧ SqT K H1 a xs ∧ R (IteT K a) H1
theorem pi_enumT {X : Cx} {e : Expr} {ta : TA} {p pos tpos : Pos} {elts : List Expr} {kk : Nat} (hg : Gl X "enumerate") (hm : X.mg "enumerate" = none) (ha : PA X [e] ta) (hs : starEach [e] X.env = [(false, eval e X.env)] := by rfl) :
    PI X (.Tuple elts kk tpos) (.Call (.Name "enumerate" p) [e] [] pos) (iEnumT X.K ta) := by
  refine ⟨fun pins s σ H R I h => ?_⟩
  refine Call_ (ld_blt I hg hm boot_enumerate (PyProof.Rows.callWith_type1 (thn (ha.run pos pins s σ H _ I h) fun us s1 ⟨vs, H1, I1, r1, a, xs, ex, hq, q⟩ => ?_) hs rfl))
  subst ex
  obtain ⟨u, rfl, r⟩ : ∃ u, us = [u] ∧ RelV (.ref a) u := by
    cases r1 with
    | cons r rr =>
      cases rr
      exact ⟨_, rfl, r⟩
  cases r
  obtain ⟨its, rv, p', hz⟩ := I1.tuple hq
  have la : a < s1.heap.objs.size := by
    obtain ⟨_, z, _⟩ := p'
    exact Heap.lt_size z
  refine enum_begins1 (begins_tuple a its.toArray) p' fun h' he hit hk => wpAny_pyIter_enum he ?_
  have I2 : Inv X pins σ H1 { s1 with heap := h' } := I1.kept (t' := s1.toks) hk
  refine ⟨s1.heap.objs.size + 1, [s1.heap.objs.size + 1, s1.heap.objs.size], _, _, H1, rfl, I2, turn_enumT a (s1.heap.objs.size + 1) s1.heap.objs.size (Nat.succ_ne_self _) (Nat.ne_of_gt (Nat.lt_succ_of_lt la)) (Nat.ne_of_lt la), ⟨⟨.none, he⟩, ⟨_, hit, rfl, rfl⟩⟩, fun b hb => ?_, q⟩
  have lb : s1.heap.objs.size ≤ b := by
    have hb' : b = s1.heap.objs.size + 1 ∨ b = s1.heap.objs.size := by simpa using hb
    rcases hb' with z | z <;> rw [z]
    · exact Nat.le_add_right _ _
    · exact Nat.le_refl _
  exact I1.fpOk lb (I1.hok.fresh lb)
def iEnumS (K : PySem.W.Frag) (ta : TA) : TI := fun σ H R => iEnum K ta σ H R ∨ iEnumT K ta σ H R
theorem pi_enumS {X : Cx} {e : Expr} {ta : TA} {p pos tpos : Pos} {elts : List Expr} {kk : Nat} (hg : Gl X "enumerate") (hm : X.mg "enumerate" = none) (ha : PA X [e] ta) (hs : starEach [e] X.env = [(false, eval e X.env)] := by rfl) :
    PI X (.Tuple elts kk tpos) (.Call (.Name "enumerate" p) [e] [] pos) (iEnumS X.K ta) :=
  ⟨fun pins s σ H R I h => h.elim (fun h => (pi_enum hg hm ha hs).run pins s σ H R I h) (fun h => (pi_enumT hg hm ha hs).run pins s σ H R I h)⟩
theorem for_enumS {K : PySem.W.Frag} {a : Addr} {xs : List V} {ta : TA} {g : TG} {tb : TS} {D : Ends} {σ : L2.St} {H : Hp} (Pv : Nat → L2.St → Hp → Prop) (ht : ∀ Q : List V → Hp → Prop, Q [.ref a] H → ta σ H Q) (hq : Sq K H a xs) (h0 : Pv 0 σ H)
    (hl : ∀ i σ H', Pv i σ H' → Same H H')
    (hs : ∀ i x T σ H', xs[i]? = some x → Pv i σ H' → H' T = none → g (.ref T) σ (upd H' T (.tup [.int (i : Nat), x])) fun σ2 H2 => tb { D with nx := Pv (i + 1), ct := Pv (i + 1), bk := D.nx } σ2 H2) (hd : ∀ σ H', Pv xs.length σ H' → D.nx σ H') :
    tFor (iEnumS K ta) g tb D σ H := by
  have walk : ∀ {J : It} {ok : Hp → Prop}, (∀ i H', ok H' → (∀ x, xs[i]? = some x → J.go i H') ∧ (xs.length ≤ i → J.stop i H') ∧ ∀ v H'', J.yld i H' v H'' → ∃ T x, v = .ref T ∧ H' T = none ∧ H'' = upd H' T (.tup [.int (i : Nat), x]) ∧ xs[i]? = some x) → (∀ H', Same H H' → ok H') →
      ∃ W : Nat → Nat → L2.St → Hp → Prop, (∃ m, W 0 m σ H) ∧ ∀ i m σ H, W i m σ H →
        (J.stop i H ∧ D.nx σ H) ∨ (J.go i H ∧ ∃ N : L2.St → Hp → Prop, (∀ σ' H', N σ' H' → ∃ m', m' < m ∧ W (i + 1) m' σ' H') ∧ ∀ v H', J.yld i H v H' → g v σ H' fun σ2 H2 => tb { D with nx := N, ct := N, bk := D.nx } σ2 H2) := fun {J ok} hJ hok => by
    refine ⟨fun i m σ H' => m = xs.length - i ∧ i ≤ xs.length ∧ Pv i σ H', ⟨xs.length, rfl, Nat.zero_le _, h0⟩, ?_⟩
    rintro i m σ' H' ⟨rfl, hi, p⟩
    obtain ⟨j1, j2, j3⟩ := hJ i H' (hok H' (hl i σ' H' p))
    rcases Nat.lt_or_ge i xs.length with hlt | hge
    · refine .inr ⟨j1 _ (List.getElem?_eq_getElem hlt), Pv (i + 1), fun σ2 H2 p2 => ⟨xs.length - (i + 1), by omega, rfl, hlt, p2⟩, fun v H2 y => ?_⟩
      obtain ⟨T, x, rfl, hT, rfl, hx⟩ := j3 v H2 y
      exact hs i x T σ' H' hx p hT
    · have e : i = xs.length := by omega
      subst e
      exact .inl ⟨j2 (Nat.le_refl _), hd σ' H' p⟩
  rcases hq with hq | hq
  · exact .inl (ht _ ⟨a, xs, rfl, hq, walk (J := Ite K a) (ok := fun H' => SqL K H' a xs) (fun i H' z => ⟨fun x hx => ⟨xs, x, z, hx⟩, fun hi => ⟨xs, z, hi⟩, fun v H2 ⟨T, x, e1, e2, e3, e4⟩ => ⟨T, x, e1, e2, e3, e4 xs z⟩⟩) fun H' s => s.seq hq⟩)
  · exact .inr (ht _ ⟨a, xs, rfl, hq, walk (J := IteT K a) (ok := fun H' => SqT K H' a xs) (fun i H' z => ⟨fun x hx => ⟨xs, x, z, hx⟩, fun hi => ⟨xs, z, hi⟩, fun v H2 ⟨T, x, e1, e2, e3, e4⟩ => ⟨T, x, e1, e2, e3, e4 xs z⟩⟩) fun H' s => seqT_same s hq⟩)
end TkS
set_option Elab.async false
set_option linter.all false
set_option maxRecDepth 100000
set_option maxHeartbeats 4000000
/-! comprehensions over a list that is made on the way, and over zip -/
namespace TkS
open PySem PySem.Spec PyProof.Rows L2
theorem lc_listD {K : PySem.W.Frag} {a : Addr} {xs : List V} {ds : List PyData} {tt : TT} {te : TE} {vs : List Nat} {σ : L2.St} {H : Hp} {D : Addr} {Qd : Hp → Prop} {j : Nat} (f : PyData → Bool) (e : PyData → PyData)
    (hq : SqL K H a xs) (hx : DqAll H xs ds) (nD : H D = none) (hl : ds.length ≤ 900) (hw : ∀ x : V, wipe ((wipe σ vs).set j (some x)) vs = wipe σ vs)
    (ht : ∀ (i : Nat) (x : V) (d : PyData) (H' : Hp) (Q : Bool → Hp → Prop), ds[i]? = some d → Same H H' → Dq H' x d → (∀ H'', Same H' H'' → Q (f d) H'') → tt ((wipe σ vs).set j (some x)) H' Q)
    (he : ∀ (i : Nat) (x : V) (d : PyData) (H' : Hp) (Q : VK), ds[i]? = some d → f d = true → Same H H' → Dq H' x d → (∃ acc, H' D = some (.lst acc)) → (∀ y H'', Same H' H'' → Dq (TkS.Off D H'') y (e d) → Q y H'') → te ((wipe σ vs).set j (some x)) H' Q)
    (hd : ∀ H', Same H H' → Dq H' (.ref D) (.list ((ds.filter f).map e)) → Qd H') :
    ∃ W : Nat → Nat → Hp → Prop, (∃ m, W 0 m (upd H D (.lst []))) ∧ ∀ i m H, W i m H →
      ((Itl K a).stop i H ∧ Qd H) ∨ ((Itl K a).go i H ∧ ∃ Nx : Hp → Prop, (∀ H', Nx H' → ∃ m', m' < m ∧ W (i + 1) m' H') ∧ ∀ x H', (Itl K a).yld i H x H' → gName j x (wipe σ vs) H' fun σ2 H2 => wipe σ2 vs = wipe σ vs ∧ tt σ2 H2 fun b H3 =>
        if b = true then te σ2 H3 fun y H4 => ∃ acc, H4 D = some (.lst acc) ∧ acc.length < sizeLine ∧ Nx (upd H4 D (.lst (acc ++ [y]))) else Nx H3) := by
  refine lc_list (xs := xs) (fun i H' => Acc H D (((ds.take i).filter f).map e) H') (Acc.nil nD) (fun i H' _ hP => hP.1.seq hq) (fun i x H' hxi hP => ?_) (fun H' hP => ?_)
  · obtain ⟨d, hdi, kd⟩ := hx.get hxi
    have kd1 := kd.same hP.1
    refine ⟨hw _, ht i x d H' _ hdi hP.1 kd1 fun H2 s2 => ?_⟩
    have hP2 := hP.mv s2
    cases c : f d with
    | true =>
      refine he i x d H2 _ hdi c hP2.1 (kd1.same s2) ⟨_, hP2.2.choose_spec.1⟩ fun y H3 s3 k => ?_
      rw [filter_snoc _ _ hdi, if_pos c]
      refine hP2.put nD ?_ s3 k
      have := len_ft f e (ds.take i)
      rw [List.length_take] at this
      omega
    | false =>
      show Acc _ _ _ _
      rw [filter_snoc _ _ hdi, c, if_neg Bool.false_ne_true]
      exact hP2
  · rw [hx.len, List.take_length] at hP
    exact hd H' hP.1 hP.dq
theorem lc_zipS {t1 t2 : Bool} {K : PySem.W.Frag} {a b : Addr} {xs ys : List V} {g : TG} {tt : TT} {te : TE} {vs : List Nat} {σ : L2.St} {H1 : Hp} {D : Addr} {Qd : Hp → Prop} (hl : xs.length = ys.length) (Pv : Nat → Hp → Prop) (h0 : Pv 0 (upd H1 D (.lst []))) (hq : ∀ i H, Pv i H → RZM.SqS t1 K H a xs ∧ RZM.SqS t2 K H b ys)
    (hs : ∀ (i : Nat) (x y : V) (T : Addr) (H : Hp), xs[i]? = some x → ys[i]? = some y → Pv i H → H T = none → g (.ref T) (wipe σ vs) (upd H T (.tup [x, y])) fun σ2 H2 => wipe σ2 vs = wipe σ vs ∧ tt σ2 H2 fun b H3 =>
      if b = true then te σ2 H3 fun y H4 => ∃ acc, H4 D = some (.lst acc) ∧ acc.length < sizeLine ∧ Pv (i + 1) (upd H4 D (.lst (acc ++ [y]))) else Pv (i + 1) H3) (hd : ∀ H, Pv xs.length H → Qd H) :
    ∃ W : Nat → Nat → Hp → Prop, (∃ m, W 0 m (upd H1 D (.lst []))) ∧ ∀ i m H, W i m H →
      ((RZM.ItzS t1 t2 K a b).stop i H ∧ Qd H) ∨ ((RZM.ItzS t1 t2 K a b).go i H ∧ ∃ Nx : Hp → Prop, (∀ H', Nx H' → ∃ m', m' < m ∧ W (i + 1) m' H') ∧ ∀ x H', (RZM.ItzS t1 t2 K a b).yld i H x H' → g x (wipe σ vs) H' fun σ2 H2 => wipe σ2 vs = wipe σ vs ∧ tt σ2 H2 fun b H3 =>
        if b = true then te σ2 H3 fun y H4 => ∃ acc, H4 D = some (.lst acc) ∧ acc.length < sizeLine ∧ Nx (upd H4 D (.lst (acc ++ [y]))) else Nx H3) := by
  refine ⟨fun i m H => m = xs.length - i ∧ i ≤ xs.length ∧ Pv i H, ⟨xs.length, rfl, Nat.zero_le _, h0⟩, ?_⟩
  rintro i m H ⟨rfl, hi, p⟩
  obtain ⟨qx, qy⟩ := hq i H p
  rcases Nat.lt_or_ge i xs.length with hlt | hge
  · refine .inr ⟨⟨xs, ys, _, _, qx, qy, List.getElem?_eq_getElem hlt, List.getElem?_eq_getElem (by omega)⟩, Pv (i + 1), fun H' p' => ⟨xs.length - (i + 1), by omega, rfl, hlt, p'⟩, fun v H' y => ?_⟩
    obtain ⟨T, x', y', rfl, hT, rfl, f1, f2⟩ := y
    exact hs i x' y' T H (f1 xs qx) (f2 ys qy) p hT
  · have e : i = xs.length := by omega
    subst e
    exact .inl ⟨⟨xs, ys, qx, qy, Or.inl (Nat.le_refl _)⟩, hd H p⟩
end TkS
set_option Elab.async false
set_option linter.all false
set_option maxRecDepth 100000
set_option maxHeartbeats 4000000
/-! comprehensions whose items are known values: over zip, over a list or a tuple, over a range -/
namespace TkS
open PySem PySem.Spec PyProof.Rows L2
theorem sqs_same {t : Bool} {K : PySem.W.Frag} {H H' : Hp} {a : Addr} {xs : List V} (s : Same H H') (h : RZM.SqS t K H a xs) : RZM.SqS t K H' a xs := by
  cases t with
  | true => exact seqT_same s h
  | false => exact s.seq h
theorem sqs_of {K : PySem.W.Frag} {H : Hp} {a : Addr} {xs : List V} (h : Sq K H a xs) : ∃ t, RZM.SqS t K H a xs := h.elim (fun z => ⟨false, z⟩) (fun z => ⟨true, z⟩)
theorem range_snoc {α : Type} (f : Nat → Bool) (e : Nat → α) (i : Nat) : ((List.range (i + 1)).filter f).map e = if f i = true then ((List.range i).filter f).map e ++ [e i] else ((List.range i).filter f).map e := by
  rw [List.range_succ, List.filter_append, List.map_append]
  cases c : f i with
  | true =>
    rw [if_pos rfl, List.filter_cons_of_pos c]
    rfl
  | false =>
    rw [if_neg Bool.false_ne_true, List.filter_cons_of_neg (by rw [c]; exact Bool.false_ne_true)]
    exact List.append_nil _
theorem range_len {α : Type} (f : Nat → Bool) (e : Nat → α) (i : Nat) : (((List.range i).filter f).map e).length ≤ i := by
  rw [List.length_map]
  exact Nat.le_trans (List.length_filter_le _ _) (by rw [List.length_range]; exact Nat.le_refl _)
/-- the list under way -/
def AccV (H0 : Hp) (D : Addr) (vs : List V) (H' : Hp) : Prop := Same H0 H' ∧ H' D = some (.lst vs)
theorem AccV.put {H0 H' H'' : Hp} {D : Addr} {vs : List V} {v : V} (a : AccV H0 D vs H') (nD : H0 D = none) (hl : vs.length ≤ 900) (s : Same H' H'') :
    ∃ acc, H'' D = some (.lst acc) ∧ acc.length < sizeLine ∧ AccV H0 D (vs ++ [v]) (upd H'' D (.lst (acc ++ [v]))) := by
  refine ⟨vs, s _ _ a.2, small1000 (by omega), fun b o e => ?_, upd_same⟩
  rw [upd_ne (ne_of_none e nD)]
  exact s _ _ (a.1 _ _ e)
theorem AccV.mv {H0 H' H'' : Hp} {D : Addr} {vs : List V} (a : AccV H0 D vs H') (s : Same H' H'') : AccV H0 D vs H'' := ⟨a.1.trans s, s _ _ a.2⟩
theorem lc_zipV {t1 t2 : Bool} {K : PySem.W.Frag} {a b : Addr} {xs ys : List V} {g : TG} {tt : TT} {te : TE} {vs : List Nat} {σ : L2.St} {H1 : Hp} {D : Addr} {Qd : Hp → Prop} (f : Nat → Bool) (e : Nat → V) (hl : xs.length = ys.length) (hn : xs.length ≤ 900) (nD : H1 D = none)
    (qx : RZM.SqS t1 K H1 a xs) (qy : RZM.SqS t2 K H1 b ys)
    (hs : ∀ (i : Nat) (x y : V) (T : Addr) (H' : Hp) (R : V → Hp → Prop) (N : Hp → Prop), xs[i]? = some x → ys[i]? = some y → Same H1 H' → H' T = some (.tup [x, y]) → (f i = true → ∀ H'', Same H' H'' → R (e i) H'') → (f i = false → ∀ H'', Same H' H'' → N H'') →
      g (.ref T) (wipe σ vs) H' fun σ2 H2 => wipe σ2 vs = wipe σ vs ∧ tt σ2 H2 fun b H3 => if b = true then te σ2 H3 R else N H3)
    (hd : ∀ H', Same H1 H' → H' D = some (.lst (((List.range xs.length).filter f).map e)) → Qd H') :
    ∃ W : Nat → Nat → Hp → Prop, (∃ m, W 0 m (upd H1 D (.lst []))) ∧ ∀ i m H, W i m H →
      ((RZM.ItzS t1 t2 K a b).stop i H ∧ Qd H) ∨ ((RZM.ItzS t1 t2 K a b).go i H ∧ ∃ Nx : Hp → Prop, (∀ H', Nx H' → ∃ m', m' < m ∧ W (i + 1) m' H') ∧ ∀ x H', (RZM.ItzS t1 t2 K a b).yld i H x H' → g x (wipe σ vs) H' fun σ2 H2 => wipe σ2 vs = wipe σ vs ∧ tt σ2 H2 fun b H3 =>
        if b = true then te σ2 H3 fun y H4 => ∃ acc, H4 D = some (.lst acc) ∧ acc.length < sizeLine ∧ Nx (upd H4 D (.lst (acc ++ [y]))) else Nx H3) := by
  refine lc_zipS hl (fun i H' => AccV H1 D (((List.range i).filter f).map e) H') ⟨same_new nD, upd_same⟩ (fun i H' hP => ⟨sqs_same hP.1 qx, sqs_same hP.1 qy⟩) (fun i x y T H' hx hy hP nT => ?_) (fun H' hP => hd H' hP.1 hP.2)
  have hi : i < xs.length := (List.getElem?_eq_some_iff.mp hx).1
  have sT : Same H' (upd H' T (.tup [x, y])) := same_new nT
  have hP2 := hP.mv sT
  refine hs i x y T _ _ _ hx hy hP2.1 upd_same (fun c H'' s => ?_) (fun c H'' s => ?_)
  · rw [range_snoc, if_pos c]
    exact hP2.put nD (Nat.le_trans (range_len _ _ _) (by omega)) s
  · show AccV _ _ _ _
    rw [range_snoc, c, if_neg Bool.false_ne_true]
    exact hP2.mv s
theorem lc_seqV {K : PySem.W.Frag} {a : Addr} {xs : List V} {tl : TE} {g : TG} {tt : TT} {te : TE} {vs : List Nat} {σ : L2.St} {H : Hp} {Q : VK} (f : Nat → Bool) (e : Nat → V)
    (ht0 : ∀ Q : VK, Q (.ref a) H → tl σ H Q) (hq : Sq K H a xs) (hn : xs.length ≤ 900)
    (hs : ∀ (i : Nat) (x : V) (H' : Hp) (R : V → Hp → Prop) (N : Hp → Prop), xs[i]? = some x → Same H H' → (f i = true → ∀ H'', Same H' H'' → R (e i) H'') → (f i = false → ∀ H'', Same H' H'' → N H'') →
      g x (wipe σ vs) H' fun σ2 H2 => wipe σ2 vs = wipe σ vs ∧ tt σ2 H2 fun b H3 => if b = true then te σ2 H3 R else N H3)
    (hd : ∀ D H', H D = none → Same H H' → H' D = some (.lst (((List.range xs.length).filter f).map e)) → Q (.ref D) H') :
    tLc (iSeq K tl) g tt te vs σ H Q := by
  refine lc_seq (fun D i H' => AccV H D (((List.range i).filter f).map e) H') ht0 hq (fun D nD => ⟨same_new nD, upd_same⟩) (fun D i H' _ _ hP => hP.1) (fun D i x H' nD hx hP => ?_) (fun D H' nD hP => hd D H' nD hP.1 hP.2)
  have hi : i < xs.length := (List.getElem?_eq_some_iff.mp hx).1
  refine hs i x _ _ _ hx hP.1 (fun c H'' s => ?_) (fun c H'' s => ?_)
  · rw [range_snoc, if_pos c]
    exact hP.put nD (Nat.le_trans (range_len _ _ _) (by omega)) s
  · show AccV _ _ _ _
    rw [range_snoc, c, if_neg Bool.false_ne_true]
    exact hP.mv s
theorem range_all {α : Type} (e : Nat → α) (n : Nat) : ((List.range n).filter fun _ => true).map e = (List.range n).map e := by
  rw [List.filter_eq_self.mpr fun _ _ => rfl]
theorem ret_cb_lc {r : List V → Hp → VK → Prop} {wi : TI} {g : TG} {tt : TT} {te : TE} {vs : List Nat} {D : Ends} {σ : L2.St} {H : Hp} (h : tLc wi g tt te vs σ H fun v H1 => r [v] H1 D.rt) : tRet (tCB r (tCons (tLc wi g tt te vs) tNil)) D σ H := h
theorem lc_tupV {K : PySem.W.Frag} {a : Addr} {xs : List V} {g : TG} {tt : TT} {te : TE} {vs : List Nat} {σ : L2.St} {H : Hp} {D : Addr} {Qd : Hp → Prop} (f : Nat → Bool) (e : Nat → V)
    (hq : SqT K H a xs) (hn : xs.length ≤ 900) (nD : H D = none)
    (hs : ∀ (i : Nat) (x : V) (H' : Hp) (R : V → Hp → Prop) (N : Hp → Prop), xs[i]? = some x → Same H H' → (f i = true → ∀ H'', Same H' H'' → R (e i) H'') → (f i = false → ∀ H'', Same H' H'' → N H'') →
      g x (wipe σ vs) H' fun σ2 H2 => wipe σ2 vs = wipe σ vs ∧ tt σ2 H2 fun b H3 => if b = true then te σ2 H3 R else N H3)
    (hd : ∀ H', Same H H' → H' D = some (.lst (((List.range xs.length).filter f).map e)) → Qd H') :
    ∃ W : Nat → Nat → Hp → Prop, (∃ m, W 0 m (upd H D (.lst []))) ∧ ∀ i m H, W i m H →
      ((Itt K a).stop i H ∧ Qd H) ∨ ((Itt K a).go i H ∧ ∃ Nx : Hp → Prop, (∀ H', Nx H' → ∃ m', m' < m ∧ W (i + 1) m' H') ∧ ∀ x H', (Itt K a).yld i H x H' → g x (wipe σ vs) H' fun σ2 H2 => wipe σ2 vs = wipe σ vs ∧ tt σ2 H2 fun b H3 =>
        if b = true then te σ2 H3 fun y H4 => ∃ acc, H4 D = some (.lst acc) ∧ acc.length < sizeLine ∧ Nx (upd H4 D (.lst (acc ++ [y]))) else Nx H3) := by
  refine lc_tup (fun i H' => AccV H D (((List.range i).filter f).map e) H') ⟨same_new nD, upd_same⟩ (fun i H' _ hP => seqT_same hP.1 hq) (fun i x H' hx hP => ?_) (fun H' hP => hd H' hP.1 hP.2)
  have hi : i < xs.length := (List.getElem?_eq_some_iff.mp hx).1
  refine hs i x _ _ _ hx hP.1 (fun c H'' s => ?_) (fun c H'' s => ?_)
  · rw [range_snoc, if_pos c]
    exact hP.put nD (Nat.le_trans (range_len _ _ _) (by omega)) s
  · show AccV _ _ _ _
    rw [range_snoc, c, if_neg Bool.false_ne_true]
    exact hP.mv s
theorem nx_go {f : L2.St → Hp → Prop} {D : Ends} {σ : L2.St} {H : Hp} (hD : D.nx = f) (h : f σ H) : tNext D σ H := by
  unfold tNext
  rw [hD]
  exact h
theorem if_lcOp {r : R2} {wi : TI} {g : TG} {tt : TT} {te tb : TE} {vs : List Nat} {t1 t2 rest : TS} {D : Ends} {σ : L2.St} {H : Hp}
    (h : tLc wi g tt te vs σ H fun x H1 => tb σ H1 fun y H2 => r x y H2 fun v H3 => ∃ b, v = .bl b ∧ if b = true then t1 { D with nx := rest D } σ H3 else t2 { D with nx := rest D } σ H3) :
    tSeq (tIfS (tTest (tOp r (tLc wi g tt te vs) tb)) t1 t2) rest D σ H := h
theorem lc_listD2 {K : PySem.W.Frag} {a : Addr} {xs : List V} {ds : List PyData} {tt : TT} {te : TE} {vs : List Nat} {σ : L2.St} {H : Hp} {D : Addr} {Qd : Hp → Prop} {j : Nat} (f : PyData → Bool) (e : PyData → PyData)
    (hq : SqL K H a xs) (hx : DqAll H xs ds) (nD : H D = none) (hl : ds.length ≤ 900) (hw : ∀ x : V, wipe ((wipe σ vs).set j (some x)) vs = wipe σ vs)
    (ht : ∀ (i : Nat) (x : V) (d : PyData) (H' : Hp) (Q : Bool → Hp → Prop), ds[i]? = some d → Same H H' → Dq H' x d → (∀ H'', Same H' H'' → Q (f d) H'') → tt ((wipe σ vs).set j (some x)) H' Q)
    (he : ∀ (i : Nat) (x : V) (d : PyData) (H' : Hp) (Q : VK), ds[i]? = some d → f d = true → Dq H x d → Same H H' → Dq H' x d → (∃ acc, H' D = some (.lst acc)) → (∀ y H'', Same H' H'' → Dq (TkS.Off D H'') y (e d) → Q y H'') → te ((wipe σ vs).set j (some x)) H' Q)
    (hd : ∀ H', Same H H' → Dq H' (.ref D) (.list ((ds.filter f).map e)) → Qd H') :
    ∃ W : Nat → Nat → Hp → Prop, (∃ m, W 0 m (upd H D (.lst []))) ∧ ∀ i m H, W i m H →
      ((Itl K a).stop i H ∧ Qd H) ∨ ((Itl K a).go i H ∧ ∃ Nx : Hp → Prop, (∀ H', Nx H' → ∃ m', m' < m ∧ W (i + 1) m' H') ∧ ∀ x H', (Itl K a).yld i H x H' → gName j x (wipe σ vs) H' fun σ2 H2 => wipe σ2 vs = wipe σ vs ∧ tt σ2 H2 fun b H3 =>
        if b = true then te σ2 H3 fun y H4 => ∃ acc, H4 D = some (.lst acc) ∧ acc.length < sizeLine ∧ Nx (upd H4 D (.lst (acc ++ [y]))) else Nx H3) := by
  refine lc_list (xs := xs) (fun i H' => Acc H D (((ds.take i).filter f).map e) H') (Acc.nil nD) (fun i H' _ hP => hP.1.seq hq) (fun i x H' hxi hP => ?_) (fun H' hP => ?_)
  · obtain ⟨d, hdi, kd⟩ := hx.get hxi
    have kd1 := kd.same hP.1
    refine ⟨hw _, ht i x d H' _ hdi hP.1 kd1 fun H2 s2 => ?_⟩
    have hP2 := hP.mv s2
    cases c : f d with
    | true =>
      refine he i x d H2 _ hdi c kd hP2.1 (kd1.same s2) ⟨_, hP2.2.choose_spec.1⟩ fun y H3 s3 k => ?_
      rw [filter_snoc _ _ hdi, if_pos c]
      refine hP2.put nD ?_ s3 k
      have := len_ft f e (ds.take i)
      rw [List.length_take] at this
      omega
    | false =>
      show Acc _ _ _ _
      rw [filter_snoc _ _ hdi, c, if_neg Bool.false_ne_true]
      exact hP2
  · rw [hx.len, List.take_length] at hP
    exact hd H' hP.1 hP.dq
theorem same_off {H H' : Hp} {D : Addr} (nD : H D = none) (s : Same H H') : Same H (TkS.Off D H') := fun b o e => off_at (ne_of_none e nD) (s _ _ e)
end TkS
set_option Elab.async false
set_option linter.all false
set_option maxRecDepth 100000
set_option maxHeartbeats 4000000
set_option exponentiation.threshold 5000
namespace K26
open PySem PySem.Spec PyProof.Rows L2 TkS
structure Hand (H : Hp) (h : Addr) : Prop where
  ex : ∃ (c : Addr) (cells : List Int) (p r t : Int), H h = some (.lst [.ref c, .int p, .int r, .int t]) ∧ H c = some (.lst (cells.map V.int)) ∧ c ≠ h ∧ 0 ≤ p ∧ 0 ≤ r ∧ ∀ z ∈ cells, (0 : Int) ≤ z
structure Keep (h : Addr) (H H' : Hp) : Prop where
  kp : ∀ b o, b ≠ h → H b = some o → H' b = some o
  cc : ∀ (c : Addr) (p r t : Int), H h = some (.lst [.ref c, .int p, .int r, .int t]) → ∃ p' r' t' : Int, H' h = some (.lst [.ref c, .int p', .int r', .int t'])
instance {h : Addr} {H H' : Hp} : CoeFun (Keep h H H') (fun _ => ∀ b o, b ≠ h → H b = some o → H' b = some o) := ⟨Keep.kp⟩
theorem Keep.trans {h : Addr} {H H1 H2 : Hp} (a : Keep h H H1) (b : Keep h H1 H2) : Keep h H H2 := ⟨fun c o n e => b c o n (a c o n e), fun c p r t e => by
  obtain ⟨p', r', t', e'⟩ := a.cc c p r t e
  exact b.cc c p' r' t' e'⟩
theorem Keep.refl {h : Addr} {H : Hp} : Keep h H H := ⟨fun _ _ _ e => e, fun c p r t e => ⟨p, r, t, e⟩⟩
theorem Keep.of {h : Addr} {H H' : Hp} (s : Same H H') : Keep h H H' := ⟨fun b o _ e => s b o e, fun c p r t e => ⟨p, r, t, s _ _ e⟩⟩
theorem keep_put {h : Addr} {H : Hp} {c : Addr} {p r t p' r' t' : Int} (e : H h = some (.lst [.ref c, .int p, .int r, .int t])) : Keep h H (upd H h (.lst [.ref c, .int p', .int r', .int t'])) :=
  ⟨fun b u n e => by rw [upd_ne n]; exact e, fun c2 p2 r2 t2 e2 => by
    rw [e] at e2
    cases e2
    exact ⟨p', r', t', upd_same⟩⟩
theorem Hand.same {H H' : Hp} {h : Addr} (e : Same H H') (x : Hand H h) : Hand H' h := by
  obtain ⟨c, cells, p, r, t, h1, h2, q⟩ := x.ex
  exact ⟨c, cells, p, r, t, e _ _ h1, e _ _ h2, q⟩
def sp_law_hand (K : PySem.W.Frag) : Sp := fun vs H Q _ => ∃ (a : Addr) (ns : List Int), vs = [.ref a] ∧ SqL K H a (ns.map V.int) ∧ ns.length ≤ 63 ∧ ∀ H' h, Same H H' → H h = none → Hand H' h → Q (.ref h) H'
def sp_law_mixed (K : PySem.W.Frag) : Sp := fun vs H Q _ => ∃ a b : Int, vs = [.int a, .int b] ∧ ∀ r : Int, 0 ≤ r → Q (.int r) H
def sp_law_draw (K : PySem.W.Frag) : Sp := fun vs H Q _ => ∃ (h : Addr) (m : Int), vs = [.ref h, .int m] ∧ Hand H h ∧ 0 < m ∧ m.natAbs < 2 ^ 128 ∧ ∀ H' r, Keep h H H' → Hand H' h → 0 ≤ r → r < m → Q (.int r) H'
theorem lst_lc {wi : TI} {g : TG} {tt : TT} {te : TE} {vs : List Nat} {ts : TA} {D : Ends} {σ : L2.St} {H : Hp} (h : tLc wi g tt te vs σ H fun v H1 => ts σ H1 fun xs H2 => (v :: xs).length ≤ sizeLine ∧ ∀ l, H2 l = none → D.rt (.ref l) (upd H2 l (.lst (v :: xs)))) : tRet (tLst (tCons (tLc wi g tt te vs) ts)) D σ H := h
section
variable {P : Program} {w : World} {K : PySem.W.Frag} {mg : Str → Option Value} {base : Heap}
theorem cells_at {cells : List Int} {p : Int} (h0 : 0 ≤ p) (h : p < ((cells.map V.int).length : Int)) : ∃ z, z ∈ cells ∧ atI (cells.map V.int) p = some (.int z) := by
  rw [List.length_map] at h
  have hp : p.toNat < cells.length := by omega
  refine ⟨cells[p.toNat], List.getElem_mem hp, at_of (j := p.toNat) (by omega) ?_⟩
  rw [List.getElem?_map, List.getElem?_eq_getElem hp]
  rfl
end
end K26
set_option Elab.async false
set_option linter.all false
set_option maxRecDepth 100000
set_option maxHeartbeats 4000000
set_option exponentiation.threshold 5000
namespace K26
open PySem PySem.Spec PyProof.Rows L2 TkS
/-! Euclid's steps -/
def EuI (n a b i x y : Nat) : Prop := Nat.gcd x y = Nat.gcd a b ∧ (i = 0 → y < 2 ^ n) ∧ (0 < i → y < x ∧ x * y * 2 ^ i < 2 ^ (2 * n + 1))
theorem eu_0 {n a b : Nat} (h : b < 2 ^ n) : EuI n a b 0 a b := ⟨rfl, fun _ => h, fun z => absurd z (by decide)⟩
theorem eu_s {n a b i x y : Nat} (h : EuI n a b i x y) (y0 : 0 < y) : EuI n a b (i + 1) y (x % y) := by
  obtain ⟨g, h0, h1⟩ := h
  have r := Nat.mod_lt x y0
  refine ⟨?_, fun z => absurd z (by omega), fun _ => ⟨r, ?_⟩⟩
  · rw [← g, Nat.gcd_comm x y, Nat.gcd_rec y x, Nat.gcd_comm]
  · rcases Nat.eq_zero_or_pos i with rfl | ip
    · have l := h0 rfl
      have e : y * (x % y) < 2 ^ n * 2 ^ n := Nat.mul_lt_mul'' l (Nat.lt_trans r l)
      rw [← Nat.pow_add] at e
      rw [Nat.zero_add, Nat.pow_one, Nat.pow_succ, Nat.two_mul]
      exact Nat.mul_lt_mul_of_pos_right e (by decide)
    · obtain ⟨l, m⟩ := h1 ip
      have q1 : 1 ≤ x / y := Nat.div_pos (Nat.le_of_lt l) y0
      have e := Nat.div_add_mod x y
      have e2 : y * 1 ≤ y * (x / y) := Nat.mul_le_mul_left y q1
      have k : 2 * (x % y) ≤ x := by omega
      refine Nat.lt_of_le_of_lt ?_ m
      rw [Nat.pow_succ, show y * (x % y) * (2 ^ i * 2) = (y * (2 * (x % y))) * 2 ^ i by
        rw [Nat.mul_comm (2 ^ i) 2, ← Nat.mul_assoc, ← Nat.mul_assoc, Nat.mul_right_comm y 2, Nat.mul_assoc y]]
      refine Nat.mul_le_mul_right _ ?_
      rw [Nat.mul_comm x y]
      exact Nat.mul_le_mul_left y k
theorem eu_e {n a b i x y : Nat} (h : EuI n a b i x y) (hi : 2 * n + 1 ≤ i) : x = Nat.gcd a b := by
  obtain ⟨g, h0, h1⟩ := h
  obtain ⟨l, m⟩ := h1 (by omega)
  have y0 : y = 0 := by
    refine Classical.byContradiction fun c => ?_
    have : 1 * 2 ^ (2 * n + 1) ≤ x * y * 2 ^ i := Nat.mul_le_mul (Nat.mul_pos (by omega) (by omega)) (Nat.pow_le_pow_right (by decide) hi)
    omega
  subst y0
  rw [← g, Nat.gcd_zero_right]
theorem eu_b {n a b i x : Nat} (h : EuI n a b i x 0) : x = Nat.gcd a b := by rw [← h.1, Nat.gcd_zero_right]
theorem abs_nat (a : Int) : (if a < 0 then -a else a) = (a.natAbs : Int) := by split <;> omega
/-! promises -/
def isNumV : V → Bool
  | .int _ => true
  | _ => false
def sp_law_whole : Sp := fun vs H Q _ => ∃ x d, vs = [x] ∧ Dq H x d ∧ Q (.bl (isNumV x)) H
def sp_law_divisor : Sp := fun vs H Q _ => ∃ a b : Int, vs = [.int a, .int b] ∧ Fin 4000 b ∧ Q (.int ((Int.gcd a b : Nat) : Int)) H
def sp_law_lowest : Sp := fun vs H Q _ => ∃ t b : Int, vs = [.int t, .int b] ∧ b ≠ 0 ∧ Fin 4000 b ∧ ∀ l H', Same H H' → Dq H' (.ref l) (frD (low t b)) → Q (.ref l) H'
def sp_law_prime : Sp := fun vs H Q _ => ∃ z : Int, vs = [.int z] ∧ z ≤ 30000 ∧ ∀ r : Bool, (r = true ↔ ∃ p : Nat, z = (p : Int) ∧ Pr p) → Q (.bl r) H
def sp_law_next_prime : Sp := fun vs H Q _ => ∃ n : Nat, vs = [.int (n : Int)] ∧ 2 ≤ n ∧ n ≤ 19997 ∧ ∀ p : Nat, Pr p → p ≤ 19997 → Q (.int (p : Int)) H
def Fp (p : Nat) : Prop := p = 0 ∨ (Pr p ∧ p ≤ 20000)
def sp_law_field : Sp := fun vs H Q _ => ∃ h : Addr, vs = [.ref h] ∧ Hand H h ∧ ∀ (p : Nat) H', Keep h H H' → Hand H' h → Fp p → Q (.int (p : Int)) H'
structure Fld (CR CF : Addr) (H : Hp) (a : Addr) (p : Nat) : Prop where
  fp : Fp p
  fr : p = 0 → FF CF H a
  rs : p ≠ 0 → RF CR H a p
theorem Fld.same {CR CF : Addr} {H H' : Hp} {a : Addr} {p : Nat} (h : Fld CR CF H a p) (s : Same H H') : Fld CR CF H' a p := ⟨h.fp, fun e => (h.fr e).same s, fun e => (h.rs e).same s⟩
def sp_law_made_field (CR CF : Addr) : Sp := fun vs H Q _ => ∃ p : Nat, vs = [.int (p : Int)] ∧ Fp p ∧ ∀ y H', Same H H' → Fld CR CF H' y p → Q (.ref y) H'
/-! numbers of a field -/
def oneD (p : Nat) : PyData := if p = 0 then frD (1, 1) else .int 1
def minusD (p : Nat) : PyData := if p = 0 then frD (-1, 1) else .int ((p : Int) - 1)
def sp_law_const (f : Nat → PyData) : Sp := fun vs H Q _ => ∃ p : Nat, vs = [.int (p : Int)] ∧ ∀ v H', Same H H' → Dq H' v (f p) → Q v H'
theorem pr_19997 : Pr 19997 := (LF.self).mp (by
  have e : lf 19997 = 19997 := by decide +kernel
  have := lf_ok (n := 19997) (by decide) (by decide)
  rw [e] at this
  exact this)
theorem pr_small {n : Nat} (h : lf n = n) (h2 : 2 ≤ n) (l : n < 23104) : Pr n := (LF.self).mp (by
  have := lf_ok (n := n) h2 l
  rw [h] at this
  exact this)
section
variable {P : Program} {w : World} {K : PySem.W.Frag} {mg : Str → Option Value} {base : Heap}
theorem ok_law_whole (T : Txt K mg) : FnOk P w K mg base CX0 1 T.f_law_whole T.d_law_whole ["_law_thing"] sp_law_whole := by
  refine T.F_law_whole.ok sc_law_whole (fun vs H Q E h => ?_) (fun cdv A outer s H vs Q E hr h => ?_)
  · obtain ⟨x, d, rfl, _⟩ := h
    rfl
  · obtain ⟨x, d, rfl, hk, q⟩ := h
    obtain ⟨t, ty, k1, k2, _⟩ := dq_ty (K := K) hk
    refine ⟨_, (pss_one (ps_ret (pe_and (pe_callB call_isi (by rfl) T.m_isinstance (by decide +kernel) (pa_cons (pv 0) (pa_cons (pe_bltn (v := .ty "int") (u := .type "int") (by rfl) T.m_int (by decide +kernel) rfl) pa_nil))) (pe_one (pe_not (pe_callB call_isi (by rfl) T.m_isinstance (by decide +kernel) (pa_cons (pv 0) (pa_cons (pe_bltn (v := .ty "bool") (u := .type "bool") (by rfl) T.m_bool (by decide +kernel) rfl) pa_nil)))))))), ?_⟩
    have two : ∀ r : Bool, Q (.bl (!isBlV x)) H → tNotV (tCB (rIsi K) (tCons (tVar 0) (tCons (tC (.ty "bool")) tNil))) (L2.start ["_law_thing"] [x]) H Q := fun _ z => ⟨x, rfl, x, .ty "bool", t, _, isBlV x, rfl, .ty _, ty, k1, _, rfl, z⟩
    cases hk with
    | non => exact ⟨_, rfl, _, .ty "int", t, _, false, rfl, .ty _, ty, k2, _, rfl, iteF q⟩
    | bl b => exact ⟨_, rfl, _, .ty "int", t, _, true, rfl, .ty _, ty, k2, _, rfl, iteT (two true q)⟩
    | int i => exact ⟨_, rfl, _, .ty "int", t, _, true, rfl, .ty _, ty, k2, _, rfl, iteT (two true q)⟩
    | str z => exact ⟨_, rfl, _, .ty "int", t, _, false, rfl, .ty _, ty, k2, _, rfl, iteF q⟩
    | lst z y => exact ⟨_, rfl, _, .ty "int", t, _, false, rfl, .ty _, ty, k2, _, rfl, iteF q⟩
    | tup z y => exact ⟨_, rfl, _, .ty "int", t, _, false, rfl, .ty _, ty, k2, _, rfl, iteF q⟩
end
end K26
set_option Elab.async false
set_option linter.all false
set_option maxRecDepth 100000
set_option maxHeartbeats 4000000
set_option exponentiation.threshold 5000
namespace K26
open PySem PySem.Spec PyProof.Rows L2 TkS
theorem low_szA {t b u v : Int} (hb : b ≠ 0) (g : Int.gcd u v = 1) (e : t * v = u * b) (v0 : 0 < v) : u.natAbs ≤ t.natAbs ∧ v.natAbs ≤ b.natAbs := by
  have en : t.natAbs * v.natAbs = u.natAbs * b.natAbs := by rw [← Int.natAbs_mul, ← Int.natAbs_mul, e]
  have g' : Nat.gcd u.natAbs v.natAbs = 1 := g
  constructor
  · rcases Nat.eq_zero_or_pos t.natAbs with z | z
    · rw [z, Nat.zero_mul] at en
      rcases Nat.mul_eq_zero.mp en.symm with h | h <;> omega
    · exact Nat.le_of_dvd z (Nat.Coprime.dvd_of_dvd_mul_right g' ⟨b.natAbs, en⟩)
  · exact Nat.le_of_dvd (by omega) (Nat.Coprime.dvd_of_dvd_mul_left (show Nat.gcd v.natAbs u.natAbs = 1 by rw [Nat.gcd_comm]; exact g') ⟨t.natAbs, by rw [← en, Nat.mul_comm]⟩)
theorem low_fin {t b : Int} {m n : Nat} (hb : b ≠ 0) (ht : Fin m t) (hn : Fin n b) : Fin m (low t b).1 ∧ Fin n (low t b).2 := by
  obtain ⟨l1, l2⟩ := low_ok (t := t) hb
  obtain ⟨h1, h2⟩ := low_szA hb l1.2 l2 l1.1
  exact ⟨Nat.lt_of_le_of_lt h1 ht, Nat.lt_of_le_of_lt h2 hn⟩
/-! numbers of a field, as data -/
inductive Nb : Nat → Nat → PyData → Prop
  | fr {k : Nat} {q : Int × Int} : Lowest q → Fin k q.1 → Fin k q.2 → Nb 0 k (frD q)
  | rs {p k x : Nat} : p ≠ 0 → x < p → Nb p k (.int (x : Int))
theorem Nb.up {p k m : Nat} {d : PyData} (h : Nb p k d) (l : k ≤ m) : Nb p m d := by
  cases h with
  | fr a b c => exact .fr a (fin_up b l) (fin_up c l)
  | rs a b => exact .rs a b
def zeroD (p : Nat) : PyData := if p = 0 then frD (0, 1) else .int 0
def frOf : PyData → Int × Int
  | .tuple [.int a, .int b] => (a, b)
  | _ => (0, 1)
def intOf : PyData → Int
  | .int a => a
  | _ => 0
def timesD (p : Nat) (a b : PyData) : PyData := if p = 0 then frD (timesF (frOf a) (frOf b)) else .int (intOf a * intOf b % (p : Int))
def plusD (p : Nat) (a b : PyData) : PyData := if p = 0 then frD (plusF (frOf a) (frOf b)) else .int ((intOf a + intOf b) % (p : Int))
def lessD (p : Nat) (a b : PyData) : PyData := if p = 0 then frD (lessF (frOf a) (frOf b)) else .int ((intOf a - intOf b) % (p : Int))
def sp_law_op (f : Nat → PyData → PyData → PyData) : Sp := fun vs H Q _ => ∃ (p : Nat) (x y : V) (a b : PyData), vs = [.int (p : Int), x, y] ∧ Dq H x a ∧ Dq H y b ∧ Nb p 4400 a ∧ Nb p 4400 b ∧ p ≤ 20000 ∧ ∀ v H', Same H H' → Dq H' v (f p a b) → Q v H'
def sp_law_times2 : Sp := fun vs H Q _ => ∃ (p i j : Nat) (x y : V) (a b : PyData), vs = [.int (p : Int), x, y] ∧ Dq H x a ∧ Dq H y b ∧ Nb p i a ∧ Nb p j b ∧ 0 < i ∧ 0 < j ∧ i + j ≤ 4000 ∧ p ≤ 20000 ∧ ∀ v H', Same H H' → Dq H' v (timesD p a b) → Q v H'
theorem low_b {b : Int} (h : 0 < b) : b ≠ 0 := by omega
theorem mul_ne {x y : Int} (hx : 0 < x) (hy : 0 < y) : x * y ≠ 0 := fun z => by
  rcases Int.mul_eq_zero.mp z with h | h <;> omega
theorem med_lt {x p : Nat} (h : x < p) (l : p ≤ 20000) : Fin 20 (x : Int) := by
  unfold Fin
  rw [Int.natAbs_natCast]
  exact Nat.lt_of_lt_of_le h (Nat.le_trans l (by decide))
/-- the powers of a number, as the law's squarings reckon them -/
structure Pw0 (p : Nat) (a : PyData) (E : Nat) (B : Nat → PyData) : Prop where
  z : B 0 = oneD p
  one : B 1 = a
  m : ∀ m n, m + n ≤ E → timesD p (B m) (B n) = B (m + n)
  nb : ∀ n, n ≤ E → Nb p 2000 (B n)
def sp_law_power0 : Sp := fun vs H Q _ => ∃ (p : Nat) (x : V) (a : PyData) (E : Nat) (B : Nat → PyData), vs = [.int (p : Int), x, .int (E : Int)] ∧ Dq H x a ∧ Pw0 p a E B ∧ p ≤ 20000 ∧ E < 2 ^ 200 ∧ ∀ v H', Same H H' → Dq H' v (B E) → Q v H'
def sp_law_power : Sp := fun vs H Q _ => ∃ (p : Nat) (x : V) (a a' : PyData) (e : Int) (B : Nat → PyData), vs = [.int (p : Int), x, .int e] ∧ Dq H x a ∧ Pw0 p a' e.natAbs B ∧ p ≤ 20000 ∧ e.natAbs < 2 ^ 200 ∧
  (0 ≤ e → a' = a) ∧ (e < 0 → p = 0 → ∃ q, a = frD q ∧ q.1 ≠ 0 ∧ Fin 4000 q.1 ∧ a' = frD (low q.2 q.1)) ∧ (e < 0 → p ≠ 0 → 2 ≤ p ∧ ∃ A, Pw0 p a (p - 2) A ∧ A (p - 2) = a') ∧ ∀ v H', Same H H' → Dq H' v (B e.natAbs) → Q v H'
theorem bits_lt (n : Nat) : n < 2 ^ (Builtin.Int.intBits (n : Int)) := by
  unfold Builtin.Int.intBits
  rw [Int.natAbs_natCast]
  by_cases h : n = 0
  · subst h
    decide
  · have : ((n : Int) == 0) = false := by
      rw [beq_eq_false_iff_ne]
      omega
    rw [this]
    exact Nat.lt_log2_self
theorem bits_le {n m : Nat} (h : n < 2 ^ m) : Builtin.Int.intBits (n : Int) ≤ m := by
  unfold Builtin.Int.intBits
  rw [Int.natAbs_natCast]
  by_cases c : n = 0
  · subst c
    exact Nat.zero_le _
  · have : ((n : Int) == 0) = false := by
      rw [beq_eq_false_iff_ne]
      omega
    rw [this]
    have := (Nat.log2_lt c).mpr h
    exact this
theorem nope {P : Program} {w : World} {K : PySem.W.Frag} {mg : Str → Option Value} {base : Heap} {CX : CXT} {k : Nat} {f : Addr} {fd : FuncData} {ps : List Str} : FnOk P w K mg base CX k f fd ps (fun _ _ _ _ => False) :=
  ⟨fun _ _ _ _ h => h.elim, fun _ _ _ _ _ _ _ _ _ _ _ _ _ h => h.elim⟩
section
variable {P : Program} {w : World} {K : PySem.W.Frag} {mg : Str → Option Value} {base : Heap}
end
end K26
set_option Elab.async false
set_option linter.all false
set_option maxRecDepth 100000
set_option maxHeartbeats 4000000
/-! data that the hand can't be part of: a hand's first item is a list -/
namespace TkS
open PySem PySem.Spec PyProof.Rows L2
def hdD : PyData → Bool
  | .list [.list _, .int _, .int _, .int _] => true
  | _ => false
mutual
def noHd : PyData → Bool
  | .list ds => !hdD (.list ds) && noHds ds
  | .tuple ds => noHds ds
  | _ => true
def noHds : List PyData → Bool
  | [] => true
  | d :: ds => noHd d && noHds ds
end
mutual
theorem dq_hd {H H' : Hp} {h c : Addr} {cs : List V} {p r t : Int} (hh : H h = some (.lst [.ref c, .int p, .int r, .int t])) (hc : H c = some (.lst cs)) (k : ∀ b o, b ≠ h → H b = some o → H' b = some o) : ∀ {v : V} (d : PyData), noHd d = true → Dq H v d → Dq H' v d
  | _, .none, _, .non => .non
  | _, .bool _, _, .bl b => .bl b
  | _, .int _, _, .int i => .int i
  | _, .str _, _, .str x => .str x
  | _, .list ds, n, .lst e u => by
    have n' : (!hdD (.list ds) && noHds ds) = true := n
    obtain ⟨n1, n2⟩ := Bool.and_eq_true_iff.mp n'
    refine .lst (k _ _ (fun z => ?_) e) (dqs_hd hh hc k ds n2 u)
    rw [z, hh] at e
    cases e
    cases u with
    | cons u0 u =>
      cases u with
      | cons u1 u =>
        cases u with
        | cons u2 u =>
          cases u with
          | cons u3 u =>
            cases u
            cases u1
            cases u2
            cases u3
            cases u0 with
            | lst e0 _ => exact absurd n1 (by simp [hdD])
            | tup e0 _ =>
              rw [hc] at e0
              cases e0
  | _, .tuple ds, n, .tup e u => .tup (k _ _ (fun z => by rw [z, hh] at e; cases e) e) (dqs_hd hh hc k ds n u)
theorem dqs_hd {H H' : Hp} {h c : Addr} {cs : List V} {p r t : Int} (hh : H h = some (.lst [.ref c, .int p, .int r, .int t])) (hc : H c = some (.lst cs)) (k : ∀ b o, b ≠ h → H b = some o → H' b = some o) : ∀ {vs : List V} (ds : List PyData), noHds ds = true → DqAll H vs ds → DqAll H' vs ds
  | _, [], _, .nil => .nil
  | _, d :: ds, n, .cons u v => .cons (dq_hd hh hc k d (by
      have n' : (noHd d && noHds ds) = true := n
      exact (Bool.and_eq_true_iff.mp n').1) u) (dqs_hd hh hc k ds (by
      have n' : (noHd d && noHds ds) = true := n
      exact (Bool.and_eq_true_iff.mp n').2) v)
end
theorem noHds_all {ds : List PyData} : noHds ds = true ↔ ∀ d ∈ ds, noHd d = true := by
  induction ds with
  | nil => exact ⟨(fun _ _ m => nomatch m), (fun _ => rfl)⟩
  | cons a ds ih =>
    show (noHd a && noHds ds) = true ↔ _
    rw [Bool.and_eq_true, ih]
    constructor
    · rintro ⟨h1, h2⟩ d m
      rcases List.mem_cons.mp m with e | m
      · rw [e]; exact h1
      · exact h2 d m
    · exact fun h => ⟨h a List.mem_cons_self, fun d m => h d (List.mem_cons_of_mem _ m)⟩
theorem noHd_list {ds : List PyData} (h : ∀ d ∈ ds, noHd d = true) (n : ds.length ≠ 4 ∨ ∀ d ∈ ds, ∀ es, d ≠ .list es) : noHd (.list ds) = true := by
  show (!hdD (.list ds) && noHds ds) = true
  rw [noHds_all.mpr h, Bool.and_true]
  cases c : hdD (.list ds) with
  | false => rfl
  | true =>
    exfalso
    unfold hdD at c
    split at c
    · rename_i es a b cc e
      cases e
      rcases n with n | n
      · exact n rfl
      · exact n _ List.mem_cons_self es rfl
    · cases c
theorem noHd_tup {ds : List PyData} (h : ∀ d ∈ ds, noHd d = true) : noHd (.tuple ds) = true := noHds_all.mpr h
/-! data of before stands beside a new object -/
mutual
theorem dq_new {H : Hp} {l : Addr} {o : HO} (n : H l = none) : ∀ {v : V} (d : PyData), Dq H v d → Dq (TkS.Off l (upd H l o)) v d
  | _, .none, .non => .non
  | _, .bool _, .bl b => .bl b
  | _, .int _, .int i => .int i
  | _, .str _, .str x => .str x
  | _, .list _, .lst e t => .lst (off_at (ne_of_none e n) ((same_new n) _ _ e)) (dqs_new n _ t)
  | _, .tuple _, .tup e t => .tup (off_at (ne_of_none e n) ((same_new n) _ _ e)) (dqs_new n _ t)
theorem dqs_new {H : Hp} {l : Addr} {o : HO} (n : H l = none) : ∀ {vs : List V} (ds : List PyData), DqAll H vs ds → DqAll (TkS.Off l (upd H l o)) vs ds
  | _, [], .nil => .nil
  | _, _ :: _, .cons k t => .cons (dq_new n _ k) (dqs_new n _ t)
end
end TkS
set_option Elab.async false
set_option linter.all false
set_option maxRecDepth 100000
set_option maxHeartbeats 4000000
/-! try with several clauses that each bind the error to one and the same name -/
namespace TkS
open PySem PySem.Spec PyProof.Rows L2
/-- a clause's ends: behind the suite the name is gone -/
def goneE (i : Nat) (D : Ends) : Ends := { nx := fun σ' H' => D.nx (σ'.set i none) H', rt := D.rt, bk := fun σ' H' => D.bk (σ'.set i none) H', ct := fun σ' H' => D.ct (σ'.set i none) H' }
def wAsM (K : PySem.W.Frag) (i : Nat) (Wout : WX) (D : Ends) : List (Value × (Addr → Value → Option Addr → TS)) → WX
  | [] => Wout
  | (c, ts) :: r => fun cls d σ H => ∃ b, PySem.W.exmOne K cls c = some b ∧ (b = true → ∀ a, H a = none → ts a cls d (goneE i D) (σ.set i (some (.ref a))) H) ∧ (b = false → wAsM K i Wout D r cls d σ H)
inductive AsOk (X : Cx) (n : Str) : List ExceptHandler → List (Value × (Addr → Value → Option Addr → TS)) → Prop
  | nil : AsOk X n [] []
  | cons {x : Str} {c : Value} {ts : Addr → Value → Option Addr → TS} {b₀ : Stmt} {suite : List Stmt} {np pos' : Pos} {hds : List ExceptHandler} {l : List (Value × (Addr → Value → Option Addr → TS))} (hc : Names X x c)
      (hsu : ∀ (a : Addr) (oe : Obj) (cls : Value) (d : Option Addr) (pn : List (Addr × Obj)), Zc cls d oe → (∃ vs, oe.data = .fields vs) → PSs (X.suite a ((a, oe) :: pn)) (b₀ :: suite) (ts a cls d)) (r : AsOk X n hds l) :
      AsOk X n (.ExceptHandler (some (.Name x np)) (some n) (b₀ :: suite) pos' :: hds) ((c, ts) :: l)
section
variable {X : Cx} {n : Str} {i : Nat} {body : List Stmt} {h₀ : ExceptHandler} {hds : List ExceptHandler} {l : List (Value × (Addr → Value → Option Addr → TS))} {pos : Pos} {tb : WX → TS} {Wout : WX}
theorem ps_try_asM (hs : X.stack = X.env :: X.outer) (hf : X.env.frame = some X.env.locals) (hN : X.N.Nodup) (hi : X.N[i]? = some n) (hln : X.env.kindOf n = some .local) (tk : Takes X Wout)
    (hb : ∀ (W : WX) (pn : List (Addr × Obj)) (xe : Value → Shared → Prop), Takes (X.tr pn xe) W → PassesOwn (model X.prog X.w) X.A X.env xe → PSs (X.tr pn xe) body (tb W))
    (hh : AsOk X n (h₀ :: hds) l) : PS X (.Try body (h₀ :: hds) [] [] pos) (fun D σ H => tb (wAsM X.K i Wout D l) D σ H) := by
  refine ⟨fun pins s σ H D I h => wpAny_Try_except ?_⟩
  have ok := I.ok
  have hfr : X.A.frames = some (X.env :: X.outer) := by rw [ok.frames, hs]
  refine wpAny_mono ((hb (wAsM X.K i Wout D l) (X.pn ++ pins) (fun e s₁ => wpAny (model X.prog X.w) X.A (noteFrame e X.env) (fun _ s₂ => wpAny (model X.prog X.w) X.A (setFlight e none) (fun _ s₃ =>
    wpAny (model X.prog X.w) X.A (handleBy e X.env (h₀ :: hds)) (SP X pins D) X.xe s₃) X.xe s₂) X.xe s₁) (fun u s' xx => ?_) PassesOwn.looking).run [] s σ H D (I.toTry _) h) (fun f s1 hsp => ?_) (fun e s1 he => he)
  · obtain ⟨a, B, sI, pins', σ', H', cls, d, rfl, J', nb, up, sky, na, os, ag, w⟩ := xx
    have J : Inv X pins σ' H' sI := J'.ofTry ok
    refine Sky.land Zc.steady hfr hf (by rw [← hs]; exact sky) fun h3 fl3 up3 => ?_
    have J3 : Inv X pins σ' H' { s' with heap := h3 } := J.landed nb fl3.1 (up.trans up3) os ag
    obtain ⟨oe3, vs3, he3, hz3, hd3⟩ := fl3.there
    have nfr : a ∉ frs (X.env :: X.outer) := fun hm => by
      obtain ⟨_, o', e', hnf⟩ := fl3.2.2.1.mem hm
      rw [he3] at e'
      cases e'
      exact hnf _ hd3
    have nL : a ≠ X.env.locals := fun z => nfr (List.mem_filterMap.mpr ⟨X.env, List.mem_cons_self, by rw [hf, z]⟩)
    have nF : a ∉ X.fs := fun hm => by
      obtain ⟨e, he, q⟩ := List.mem_filterMap.mp hm
      exact nfr (List.mem_filterMap.mpr ⟨e, List.mem_cons_of_mem _ he, q⟩)
    have S3 := J3.suite he3 hd3 na nL nF
    have go : ∀ {hds' : List ExceptHandler} {l' : List (Value × (Addr → Value → Option Addr → TS))}, AsOk X n hds' l' → wAsM X.K i Wout D l' cls d σ' H' →
        wpAny (model X.prog X.w) X.A (handleBy (.ref a) X.env hds') (SP X pins D) X.xe { s' with heap := h3 } := by
      intro hds' l' hk
      induction hk with
      | nil =>
        intro w
        refine wpAny_handleBy_nil ?_
        obtain ⟨k1, k2, k3, oe, vs, T, oT, ts', he, hz, hd, h1, hr⟩ := id fl3
        unfold PySem.passOn
        refine wpAny_bind (wpAny_field he hd h1 ?_)
        rw [if_neg (show ¬ ((Value.ref T == Value.none) = true) from by simp)]
        have fin : wpAny (model X.prog X.w) X.A (setFlight (.ref a) X.env.frame) (fun _ s4 => wpAny (model X.prog X.w) X.A (throw (.ref a) : Sem Flow) (SP X pins D) X.xe s4) X.xe { s' with heap := h3 } := by
          rw [hf]
          exact HandSPX.setFlight_upZ fl3 fun h4 hh4 up4 => wpAny_throw (tk _ _ ⟨a, B, sI, pins, σ', H', cls, d, rfl, J, nb, (up.trans up3).trans up4, .inr (.inr (by rw [hs]; exact hh4)), na, os, ag, w⟩)
        first
          | exact wpAny_bind (wpAny_pure (wpAny_bind fin))
          | exact wpAny_bind fin
      | @cons x c ts b₀ suite np pos' hds2 l2 hc hsu r ih =>
        intro w
        obtain ⟨b, hb1, hyes, hno⟩ := w
        refine wpAny_handleBy_cons (codeAny_handlers_test ?_) (by intro q; cases q)
        have LM := PySem.W.exm_one (M := model X.prog X.w) (J3.kIn) (fun A Q E s k q => wpAny_typeOf_ref (k _ _ he3) (by rw [hz3.1]; exact q)) hb1
        have test : ∀ {Q : Value → Shared → Prop} {E : Value → Shared → Prop}, Q c { s' with heap := h3 } → wpAny (model X.prog X.w) (X.A.mark (some (.ref a))) (eval (.Name x np) X.env) Q E { s' with heap := h3 } := fun {Q E} q => by
          obtain ⟨hg, hdbg, hm | ⟨hm, hv, hnn⟩⟩ := hc
          · exact ld_glob (X := X.suite a ((a, oe3) :: (X.pn ++ pins))) S3 hg hm q hdbg
          · exact ld_blt (X := X.suite a ((a, oe3) :: (X.pn ++ pins))) S3 hg hm hv q hnn hdbg
        refine test (LM.here ?_)
        cases b with
        | false => exact ih (hno rfl)
        | true =>
          refine codeAny_handlers_suite_as (HandSPX.lands_againZ fl3 fun h4 fl4 up4 => ?_)
          have J4 : Inv X pins σ' H' { s' with heap := h4 } := J.landed nb fl4.1 ((up.trans up3).trans up4) os ag
          obtain ⟨oe4, vs4, he4, hz4, hd4⟩ := fl4.there
          have S4 := J4.suite he4 hd4 na nL nF
          refine store_ok (X := X.suite a ((a, oe4) :: (X.pn ++ pins))) (v := .ref a) S4 hN hi (.inl hln) rfl (fun s5 S5 => ?_) (.inr hln)
          refine wpAny_mono ((hsu a oe4 cls d (X.pn ++ pins) hz4 ⟨_, hd4⟩).run [] s5 _ H' _ S5 (hyes rfl a na)) (fun f s6 hsp => ?_) (fun _ _ z => False.elim z)
          have end_ : ∀ {σ6 : L2.St} {H6 : Hp} {Q : Shared → Prop}, Inv (X.suite a ((a, oe4) :: (X.pn ++ pins))) [] σ6 H6 s6 → (∀ s7, Inv X pins (σ6.set i none) H6 s7 → Q s7) →
              wpAny (model X.prog X.w) X.A (do bindName X.env n .none; unbindBehindTheSuite X.env n pos') (fun _ s7 => Q s7) X.xe s6 := fun {σ6 H6 Q} S6 hq => gone_ok (S6.unsuite ok) hN hi hln hq
          cases f with
          | ret u =>
            obtain ⟨v6, σ6, H6, S6, r6, q6⟩ := hsp
            exact end_ S6 fun s7 J7 => ⟨_, _, _, J7, r6, q6⟩
          | next =>
            obtain ⟨σ6, H6, S6, q6⟩ := hsp
            exact end_ S6 fun s7 J7 => ⟨_, _, J7, q6⟩
          | brk =>
            obtain ⟨σ6, H6, S6, q6⟩ := hsp
            exact end_ S6 fun s7 J7 => ⟨_, _, J7, q6⟩
          | cont =>
            obtain ⟨σ6, H6, S6, q6⟩ := hsp
            exact end_ S6 fun s7 J7 => ⟨_, _, J7, q6⟩
    exact go hh w
  · cases f with
    | ret u =>
      obtain ⟨v, σ', H', J', r, q⟩ := hsp
      exact ⟨v, σ', H', J'.ofTry ok, r, q⟩
    | next =>
      obtain ⟨σ', H', J', q⟩ := hsp
      exact wpAny_execs_nil ⟨σ', H', J'.ofTry ok, q⟩
    | brk =>
      obtain ⟨σ', H', J', q⟩ := hsp
      exact ⟨σ', H', J'.ofTry ok, q⟩
    | cont =>
      obtain ⟨σ', H', J', q⟩ := hsp
      exact ⟨σ', H', J'.ofTry ok, q⟩
end
end TkS
set_option Elab.async false
set_option linter.all false
set_option maxRecDepth 100000
set_option maxHeartbeats 4000000
set_option exponentiation.threshold 5000
namespace K26
open PySem PySem.Spec PyProof.Rows L2 TkS
theorem dq_kp {H H' : Hp} {h : Addr} {v : V} {d : PyData} (hd : Hand H h) (k : Keep h H H') (n : noHd d = true) (q : Dq H v d) : Dq H' v d := by
  obtain ⟨c, cells, p, r, t, e, ec, _⟩ := hd.ex
  exact dq_hd e ec k.kp _ n q
theorem dqs_kp {H H' : Hp} {h : Addr} {v : List V} {d : List PyData} (hd : Hand H h) (k : Keep h H H') (n : noHds d = true) (q : DqAll H v d) : DqAll H' v d := by
  obtain ⟨c, cells, p, r, t, e, ec, _⟩ := hd.ex
  exact dqs_hd e ec k.kp _ n q
theorem hand_ne {H : Hp} {h D : Addr} (hd : Hand H h) (nD : H D = none) : D ≠ h := fun z => by
  obtain ⟨c, cells, p, r, t, e1, _⟩ := hd.ex
  rw [z, e1] at nD
  cases nD
theorem atP {xs : List V} {ds : List PyData} {H : Hp} {r : Int} (k : DqAll H xs ds) (r0 : 0 ≤ r) (r1 : r < (ds.length : Int)) : ∃ v d, atI xs r = some v ∧ d ∈ ds ∧ ds[r.toNat]? = some d ∧ Dq H v d := by
  have lx := k.len
  have hr : r.toNat < xs.length := by omega
  obtain ⟨d, h1, h2⟩ := k.get (List.getElem?_eq_getElem hr)
  exact ⟨_, d, at_of (j := r.toNat) (by omega) (List.getElem?_eq_getElem hr), List.mem_of_getElem? h1, h1, h2⟩
theorem nb_hd {p k : Nat} {d : PyData} (h : Nb p k d) : noHd d = true := by
  cases h <;> rfl
theorem nb_kp {H H' : Hp} {h : Addr} {v : V} {d : PyData} {p k : Nat} (hd : Hand H h) (kp : Keep h H H') (n : Nb p k d) (q : Dq H v d) : Dq H' v d := dq_kp hd kp (nb_hd n) q
theorem nb_shp {p k : Nat} {d : PyData} (h : Nb p k d) : SeqAt.shaped d = true := by
  cases h with
  | fr _ _ _ => exact shp_fr _
  | rs _ _ => rfl
theorem zero_shp (p : Nat) : SeqAt.shaped (zeroD p) = true := by
  unfold zeroD
  split
  · exact shp_fr _
  · rfl
theorem eqv_int (a b : Int) : PyData.eqv (.int a) (.int b) = decide (a = b) := by
  simp [PyData.eqv, Bool.beq_eq_decide_eq]
theorem nb_self {p k : Nat} {d : PyData} (h : Nb p k d) : PyData.eqv d d = true := by
  cases h with
  | fr _ _ _ => rw [eqv_fr, decide_eq_true rfl]
  | rs _ _ => rw [eqv_int, decide_eq_true rfl]
theorem nb_ne {p k m : Nat} {d e : PyData} (h : Nb p k d) (g : Nb p m e) (n : d ≠ e) : PyData.eqv d e = false := by
  cases h with
  | @fr k q _ _ _ =>
    cases g with
    | @fr m r _ _ _ =>
      rw [eqv_fr, decide_eq_false fun c => n (by rw [c])]
    | rs n5 _ => exact absurd rfl n5
  | @rs p k x n0 l0 =>
    cases g with
    | fr _ _ _ => exact absurd rfl n0
    | @rs p m y n1 l1 =>
      rw [eqv_int, decide_eq_false fun c => n (by rw [c])]
theorem fin_small {k : Nat} {z : Int} (h : z.natAbs < 2) (hk : 1 ≤ k) : Fin k z := Nat.lt_of_lt_of_le h (Nat.le_trans (by decide : 2 ≤ 2 ^ 1) (Nat.pow_le_pow_right (by decide) hk))
theorem Fp.cases {p : Nat} (h : Fp p) (h0 : p ≠ 0) : 2 ≤ p := (h.resolve_left h0).1.1
theorem nb_zero {p k : Nat} (h : Fp p) (hk : 1 ≤ k) : Nb p k (zeroD p) := by
  unfold zeroD
  by_cases c : p = 0
  · subst c
    rw [if_pos rfl]
    exact .fr ⟨by decide, rfl⟩ (fin_small (by decide) hk) (fin_small (by decide) hk)
  · rw [if_neg c]
    exact .rs (x := 0) c (by have := h.cases c; omega)
theorem nb_one {p k : Nat} (h : Fp p) (hk : 1 ≤ k) : Nb p k (oneD p) := by
  unfold oneD
  by_cases c : p = 0
  · subst c
    rw [if_pos rfl]
    exact .fr ⟨by decide, rfl⟩ (fin_small (by decide) hk) (fin_small (by decide) hk)
  · rw [if_neg c]
    exact .rs (x := 1) c (by have := h.cases c; omega)
theorem nb_minus {p k : Nat} (h : Fp p) (hk : 1 ≤ k) : Nb p k (minusD p) := by
  unfold minusD
  by_cases c : p = 0
  · subst c
    rw [if_pos rfl]
    exact .fr ⟨by decide, rfl⟩ (fin_small (by decide) hk) (fin_small (by decide) hk)
  · rw [if_neg c]
    have := h.cases c
    have e : (p : Int) - 1 = ((p - 1 : Nat) : Int) := by omega
    rw [e]
    exact .rs c (by omega)
theorem one_nz {p : Nat} : oneD p ≠ zeroD p := by
  unfold oneD zeroD
  split <;> intro z <;> cases z
theorem minus_nz {p : Nat} (h : Fp p) : minusD p ≠ zeroD p := by
  unfold minusD zeroD
  by_cases c : p = 0
  · rw [if_pos c, if_pos c]
    intro z
    cases z
  · rw [if_neg c, if_neg c]
    intro z
    have := PyData.int.inj z
    have := h.cases c
    omega
theorem fr_nz {q : Int × Int} (h : q.1 ≠ 0) : frD q ≠ zeroD 0 := fun z => by
  obtain ⟨a, b⟩ := q
  cases z
  exact h rfl
theorem fr_zero {q : Int × Int} (l : Lowest q) (h : frD q ≠ zeroD 0) : q.1 ≠ 0 := fun z => h (by rw [lowest_zero l z]; rfl)
def sp_law_number (nz : Bool) : Sp := fun vs H Q _ => ∃ (h : Addr) (p : Nat), vs = [.ref h, .int (p : Int)] ∧ Hand H h ∧ Fp p ∧ ∀ v H' d, Keep h H H' → Hand H' h → Dq H' v d → Nb p 4 d → (nz = true → d ≠ zeroD p) → Q v H'
def sp_law_is_number : Sp := fun vs H Q _ => ∃ (p : Nat) (x : V) (d : PyData), vs = [.int (p : Int), x] ∧ Dq H x d ∧ Nb p 3000 d ∧ Q (.bl true) H
def sp_law_same : Sp := fun vs H Q _ => ∃ (p : Nat) (x y : V) (d : PyData), vs = [.int (p : Int), x, y] ∧ Dq H x d ∧ Dq H y d ∧ Nb p 3000 d ∧ Q (.bl true) H
theorem low_nz {t b : Int} (hb : b ≠ 0) (ht : t ≠ 0) : (low t b).1 ≠ 0 := fun z => by
  obtain ⟨l1, l2⟩ := low_ok (t := t) hb
  rw [z, Int.zero_mul] at l2
  have := l1.1
  rcases Int.mul_eq_zero.mp l2 with h | h
  · exact ht h
  · omega
section
variable {P : Program} {w : World} {K : PySem.W.Frag} {mg : Str → Option Value} {base : Heap}
end
end K26
set_option Elab.async false
set_option linter.all false
set_option maxRecDepth 100000
set_option maxHeartbeats 4000000
set_option exponentiation.threshold 5000
namespace TkS
open PySem PySem.Spec PyProof.Rows L2
/-- two readings of one expression -/
theorem pe_or2 {X : Cx} {e : Expr} {t1 t2 : TE} (a : PE X e t1) (b : PE X e t2) : PE X e (fun σ H Q => t1 σ H Q ∨ t2 σ H Q) := ⟨fun pins s σ H Q I h => h.elim (a.run pins s σ H Q I) (b.run pins s σ H Q I)⟩
theorem tail_has {K : PySem.W.Frag} {bmB : List Value} {t : Value} (hb : bmB.contains t = true) : ∀ l : List Value, PySem.W.tailIn K bmB l = true → l.contains t = true
  | [], e => by
    rw [beq_iff_eq.mp e] at hb
    exact hb
  | v :: r, e => by
    unfold PySem.W.tailIn at e
    rcases Bool.or_eq_true_iff.mp e with q | q
    · rw [beq_iff_eq.mp q]
      exact hb
    · split at q
      · split at q
        · obtain ⟨_, q3⟩ := Bool.and_eq_true_iff.mp q
          have := tail_has hb r q3
          rw [List.contains_cons, this, Bool.or_true]
        · cases q
      · cases q
/-- an own error is one of the kit's classes over it -/
theorem kit_exc {K : PySem.W.Frag} {C : Addr} {bmB : List Value} {newId T : String} (q : PySem.W.excIn K C bmB newId = true) (hb : bmB.contains (.type T) = true) (hm : PySem.W.kitMeta T = true) : PySem.W.kitOne K (.ref C) (.type T) = some true := by
  unfold PySem.W.kitOne
  split
  · rfl
  · show (if PySem.W.kitMeta T = true then PySem.W.subIn K (.ref C) (.type T) else none) = some true
    rw [if_pos hm]
    show PySem.W.mroIn K C (.type T) = some true
    unfold PySem.W.excIn at q
    split at q
    · rename_i dd cd sl ho
      split at q
      · rename_i C' bm k0 k1 k2 k3 n k5 hm2 hs
        simp only [Bool.and_eq_true, beq_iff_eq, Bool.not_eq_true'] at q
        obtain ⟨⟨⟨⟨⟨rfl, rfl⟩, hdel⟩, ht⟩, hok⟩, hni⟩ := q
        unfold PySem.W.mroIn PySem.W.clsIn
        rw [ho]
        show (if cd.mro.isEmpty then none else some (cd.mro.contains (.type T))) = some true
        rw [hm2]
        show some _ = some true
        rw [List.contains_cons, tail_has hb _ ht, Bool.or_true]
      · cases q
    · cases q
end TkS
namespace K26
open PySem PySem.Spec PyProof.Rows L2 TkS
def oddsF : List PyData := [.tuple [.int 0, .int 1], .tuple [.int 2, .int 4], .list [.int 1, .int 1], .int 1, .tuple [.int 1, .int (-1)], .tuple [.int 1, .int 0], .none, .tuple [.bool true, .int 1], .tuple [.int 3], .tuple [.int 1, .int 2, .int 3], .tuple [.int 5, .bool true], .tuple [.int 0, .int 2]]
def oddsR (p : Nat) (z : Str) : List PyData := [.int 0, .int (p : Int), .int (-1), .none, .tuple [.int 1, .int 1], .bool true, .str z, .int ((p : Int) + 10 ^ 20)]
def RefuD (p : Nat) (d : PyData) : Prop := (p = 0 → frOk d = false) ∧ (p ≠ 0 → ∀ i, d = .int i → i < 0 ∨ (p : Int) ≤ i)
def OddD (p : Nat) (d : PyData) : Prop := SeqAt.shaped d = true ∧ noHd d = true ∧ (d = zeroD p ∨ RefuD p d)
theorem oddsF_are {d : PyData} (h : d ∈ oddsF) : OddD 0 d := by
  have all : ∀ d ∈ oddsF, SeqAt.shaped d = true ∧ noHd d = true ∧ (d = .tuple [.int 0, .int 1] ∨ frOk d = false) := by
    intro d h
    simp only [oddsF, List.mem_cons, List.not_mem_nil, or_false] at h
    rcases h with rfl | rfl | rfl | rfl | rfl | rfl | rfl | rfl | rfl | rfl | rfl | rfl
    · exact ⟨by decide +kernel, by decide, .inl rfl⟩
    all_goals exact ⟨by decide +kernel, by decide, .inr (by decide +kernel)⟩
  obtain ⟨a, b, c⟩ := all d h
  exact ⟨a, b, c.elim (fun e => .inl (by rw [e]; rfl)) fun e => .inr ⟨fun _ => e, fun z => absurd rfl z⟩⟩
theorem strOk_int (n : Int) : PyData.strOk (Str.ofString (toString n)) = true := by
  unfold PyData.strOk
  rw [← Array.all_toList, List.all_eq_true]
  intro c hc
  refine decide_eq_true (Nat.lt_of_not_le fun z => ?_)
  exact int_text_free' c ⟨by omega, .inr (by omega)⟩ n hc
theorem oddsR_are {p : Nat} {z : Str} {d : PyData} (p0 : p ≠ 0) (hz : PyData.strOk z = true) (h : d ∈ oddsR p z) : OddD p d := by
  have e0 : zeroD p = .int 0 := if_neg p0
  simp only [oddsR, List.mem_cons, List.not_mem_nil, or_false] at h
  rcases h with rfl | rfl | rfl | rfl | rfl | rfl | rfl | rfl
  · exact ⟨rfl, rfl, .inl e0.symm⟩
  · exact ⟨rfl, rfl, .inr ⟨fun z => absurd z p0, fun _ i e => by cases e; exact .inr (Int.le_refl _)⟩⟩
  · exact ⟨rfl, rfl, .inr ⟨fun z => absurd z p0, fun _ i e => by cases e; exact .inl (by decide)⟩⟩
  · exact ⟨rfl, rfl, .inr ⟨fun z => absurd z p0, (fun _ i e => nomatch e)⟩⟩
  · exact ⟨by decide +kernel, rfl, .inr ⟨fun z => absurd z p0, (fun _ i e => nomatch e)⟩⟩
  · exact ⟨rfl, rfl, .inr ⟨fun z => absurd z p0, (fun _ i e => nomatch e)⟩⟩
  · exact ⟨by simp [SeqAt.shaped, PyData.canLay0, PyData.depth, hz], rfl, .inr ⟨fun z => absurd z p0, (fun _ i e => nomatch e)⟩⟩
  · exact ⟨rfl, rfl, .inr ⟨fun z => absurd z p0, fun _ i e => by
      have := PyData.int.inj e
      omega⟩⟩
def OddL (p : Nat) (d : PyData) : Prop := noList d = true ∨ (p = 0 ∧ d = .list [.int 1, .int 1])
theorem oddsF_L {d : PyData} (h : d ∈ oddsF) : OddL 0 d := by
  simp only [oddsF, List.mem_cons, List.not_mem_nil, or_false] at h
  rcases h with rfl | rfl | rfl | rfl | rfl | rfl | rfl | rfl | rfl | rfl | rfl | rfl
  all_goals first
    | exact .inl (by decide)
    | exact .inr ⟨rfl, rfl⟩
theorem oddsR_L {p : Nat} {z : Str} {d : PyData} (h : d ∈ oddsR p z) : OddL p d := by
  simp only [oddsR, List.mem_cons, List.not_mem_nil, or_false] at h
  rcases h with rfl | rfl | rfl | rfl | rfl | rfl | rfl | rfl
  all_goals exact .inl rfl
def sp_law_odd : Sp := fun vs H Q _ => ∃ (h : Addr) (p : Nat), vs = [.ref h, .int (p : Int)] ∧ Hand H h ∧ Fp p ∧ ∀ v H' d, Keep h H H' → Hand H' h → Dq H' v d → OddD p d → OddL p d → Q v H'
section
variable {P : Program} {w : World} {K : PySem.W.Frag} {mg : Str → Option Value} {base : Heap}
end
end K26
set_option Elab.async false
set_option linter.all false
set_option maxRecDepth 100000
set_option maxHeartbeats 4000000
set_option exponentiation.threshold 5000
namespace K26
open PySem PySem.Spec PyProof.Rows L2 TkS
theorem call_isE2 {X : Cx} {a D : Addr} {oe : Obj} {cls : Value} {d : Option Addr} {pn : List (Addr × Obj)} (C : ExcC X.K D) (hz : Zc cls d oe) (hf : ∃ vs, oe.data = .fields vs) : CallR (X.suite a ((a, oe) :: pn)) (.builtin "isinstance") (fun xs H Q => cls = .ref D ∧ d = none ∧ rIsE X.K D a xs H Q) := by
  intro pins s σ H xs us Q I r h
  obtain ⟨rfl, rfl, h⟩ := h
  exact call_isE C hz hf pins s σ H xs us Q I r h
def toldD (d : PyData) : PyData := .list [.str "told", d]
def badD : PyData := .list [.str "bad", .bool true]
def zerD : PyData := .list [.str "zero", .bool true]
def numOk (p : Nat) (d : PyData) : Bool := if p = 0 then frOk d else match d with
  | .int i => decide (0 ≤ i) && decide (i ≤ (p : Int) - 1)
  | _ => false
theorem numOk_rest {H : Hp} {x : V} {d : PyData} {p : Nat} (p0 : p ≠ 0) (k : Dq H x d) : numOk p d = wholeIn x (.int 0) (.int ((p : Int) - 1)) := by
  unfold numOk
  rw [if_neg p0]
  cases k <;> rfl
theorem numOk_nb {p k : Nat} {d : PyData} (h : Nb p k d) : numOk p d = true := by
  unfold numOk
  cases h with
  | fr l _ _ =>
    rw [if_pos rfl]
    exact frOk_is l
  | @rs p k x n l =>
    rw [if_neg n]
    show (decide (0 ≤ (x : Int)) && decide ((x : Int) ≤ (p : Int) - 1)) = true
    rw [decide_eq_true (by omega), decide_eq_true (by omega)]
    rfl
theorem numOk_refu {p : Nat} {d : PyData} (h : RefuD p d) : numOk p d = false := by
  unfold numOk
  by_cases p0 : p = 0
  · rw [if_pos p0]
    exact h.1 p0
  · rw [if_neg p0]
    cases d with
    | int i =>
      show (decide (0 ≤ i) && decide (i ≤ (p : Int) - 1)) = false
      rcases h.2 p0 i rfl with l | l
      · rw [decide_eq_false (by omega), Bool.false_and]
      · rw [decide_eq_false (p := i ≤ (p : Int) - 1) (by omega), Bool.and_false]
    | _ => rfl
def powD (p : Nat) (a : PyData) (e : Int) : Option PyData := if p = 0 then (powF (frOf a) e).map frD else (rpw p (intOf a) e).map PyData.int
theorem two_lst {H : Hp} {l : Addr} {s : Str} {x : V} {d : PyData} (n : H l = none) (k : Dq H x d) : Dq (upd H l (.lst [.str s, x])) (.ref l) (.list [.str s, d]) := .lst upd_same (.cons (.str _) (.cons (k.same (same_new n)) .nil))
theorem fin67 {k : Nat} {z : Int} (h : Fin k z) (l : k ≤ 67) : z.natAbs ≤ 2 ^ 67 := Nat.le_of_lt (fin_up h l)
section
variable {P : Program} {w : World} {K : PySem.W.Frag} {mg : Str → Option Value} {base : Heap}
end
end K26
set_option Elab.async false
set_option linter.all false
set_option maxRecDepth 100000
set_option maxHeartbeats 4000000
set_option exponentiation.threshold 5000
namespace K26
open PySem PySem.Spec PyProof.Rows L2 TkS
theorem fin_pow {k n : Nat} {x : Int} (h : Fin k x) : Fin (k * n + 1) (x ^ n) := by
  unfold Fin at *
  rw [Int.natAbs_pow, Nat.pow_succ, Nat.pow_mul]
  refine Nat.lt_of_le_of_lt (Nat.pow_le_pow_left (Nat.le_of_lt h) n) ?_
  have : 0 < (2 ^ k) ^ n := Nat.pow_pos (Nat.pow_pos (by decide))
  omega
theorem frD_inj {q r : Int × Int} (h : frD q = frD r) : q = r := by
  obtain ⟨a, b⟩ := q
  obtain ⟨c, d⟩ := r
  cases h
  rfl
theorem powD_e0 {p k : Nat} {a : PyData} (h : Nb p k a) : powD p a 0 = some (oneD p) := by
  unfold powD oneD
  cases h with
  | fr _ _ _ =>
    rw [if_pos rfl, if_pos rfl]
    unfold powF
    rw [if_neg (by decide)]
    show some (frD (_ ^ 0, _ ^ 0)) = _
    rw [Int.pow_zero, Int.pow_zero]
  | rs n _ =>
    rw [if_neg n, if_neg n]
    unfold rpw
    rw [if_pos rfl]
    rfl
theorem powD_pos0 {p : Nat} {e : Int} (h : 0 < e) : powD p (zeroD p) e = some (zeroD p) := by
  unfold powD zeroD
  by_cases c : p = 0
  · rw [if_pos c, if_pos c]
    show (powF (0, 1) e).map frD = _
    unfold powF
    rw [if_neg (by omega)]
    show some (frD (0 ^ e.toNat, 1 ^ e.toNat)) = _
    rw [Int.zero_pow (by omega), Int.one_pow]
  · rw [if_neg c, if_neg c]
    show (rpw p 0 e).map PyData.int = _
    unfold rpw
    rw [if_neg (by omega), if_pos rfl, if_neg (by omega)]
    rfl
theorem powD_neg0 {p : Nat} {e : Int} (h : e < 0) : powD p (zeroD p) e = none := by
  unfold powD zeroD
  by_cases c : p = 0
  · rw [if_pos c, if_pos c]
    show (powF (0, 1) e).map frD = _
    unfold powF
    rw [if_pos h, if_pos rfl]
    rfl
  · rw [if_neg c, if_neg c]
    show (rpw p 0 e).map PyData.int = _
    unfold rpw
    rw [if_neg (by omega), if_pos rfl, if_pos h]
    rfl
/-- the powers by the law's squarings, of a fraction -/
theorem pw_fr {q : Int × Int} {E : Nat} (l : Lowest q) (f1 : Fin 40 q.1) (f2 : Fin 40 q.2) (hE : E ≤ 40) : Pw0 0 (frD q) E (fun n => frD (q.1 ^ n, q.2 ^ n)) where
  z := by
    show frD (q.1 ^ 0, q.2 ^ 0) = frD (1, 1)
    rw [Int.pow_zero, Int.pow_zero]
  one := by
    show frD (q.1 ^ 1, q.2 ^ 1) = frD q
    rw [Int.pow_succ, Int.pow_succ, Int.pow_zero, Int.pow_zero, Int.one_mul, Int.one_mul]
  m := fun m n _ => by
    unfold timesD
    rw [if_pos rfl]
    show frD (low (q.1 ^ m * q.1 ^ n) (q.2 ^ m * q.2 ^ n)) = _
    rw [low_times_pow l]
  nb := fun n hn => by
    have hn40 : 40 * n + 1 ≤ 2000 := by omega
    exact .fr (lowest_pow l n) (fin_up (fin_pow f1) hn40) (fin_up (fin_pow f2) hn40)
/-- and of a rest -/
theorem pw_rs {p g E : Nat} (p2 : 2 ≤ p) (h : g < p) : Pw0 p (.int (g : Int)) E (fun n => .int ((g ^ n % p : Nat) : Int)) where
  z := by
    show PyData.int ((g ^ 0 % p : Nat) : Int) = oneD p
    unfold oneD
    rw [if_neg (by omega), Nat.pow_zero, Nat.mod_eq_of_lt (by omega)]
    rfl
  one := by
    show PyData.int ((g ^ 1 % p : Nat) : Int) = _
    rw [Nat.pow_one, Nat.mod_eq_of_lt h]
  m := fun m n _ => by
    unfold timesD
    rw [if_neg (by omega)]
    show PyData.int (((g ^ m % p : Nat) : Int) * ((g ^ n % p : Nat) : Int) % (p : Int)) = _
    rw [← Int.natCast_mul, ← Int.natCast_emod, ← Nat.mul_mod, ← Nat.pow_add]
  nb := fun n _ => .rs (by omega) (Nat.mod_lt _ (by omega))
theorem mul_pow_mod {p x y n : Nat} (h : x * y % p = 1 % p) : x ^ n * y ^ n % p = 1 % p := by
  rw [← Nat.mul_pow, Nat.pow_mod, h, ← Nat.pow_mod, Nat.one_pow]
/-- a negative power by the inverse -/
theorem pow_neg_mod {p x m n : Nat} (pr : Pr p) (nd : ¬ p ∣ x) (h : (m + n) % (p - 1) = 0) : (x ^ (p - 2) % p) ^ n % p = x ^ m % p := by
  have p2 := pr.1
  have h1 : x ^ (p - 2) * x % p = 1 % p := by rw [pow_inv pr nd, Nat.mod_eq_of_lt (by omega)]
  rw [← Nat.pow_mod]
  refine cancel pr (pow_not pr nd n) ?_
  rw [Nat.mul_comm, mul_pow_mod h1, ← Nat.pow_add, Nat.add_comm n m, pow_red pr nd, h, Nat.pow_zero]
theorem rest_nd {p x : Nat} (x0 : x ≠ 0) (l : x < p) : ¬ p ∣ x := not_dvd (by omega) l
/-- the law's power is the power that is due -/
theorem power_due {p : Nat} {a : PyData} {e : Int} (fp : Fp p) (na : Nb p 40 a) (nz : a ≠ zeroD p) (eb : p = 0 → -40 ≤ e ∧ e ≤ 40) : ∃ a' B, Pw0 p a' e.natAbs B ∧ (0 ≤ e → a' = a) ∧
    (e < 0 → p = 0 → ∃ q, a = frD q ∧ q.1 ≠ 0 ∧ Fin 4000 q.1 ∧ a' = frD (low q.2 q.1)) ∧ (e < 0 → p ≠ 0 → 2 ≤ p ∧ ∃ A, Pw0 p a (p - 2) A ∧ A (p - 2) = a') ∧ powD p a e = some (B e.natAbs) := by
  cases na with
  | @fr k q l f1 f2 =>
    obtain ⟨e1, e2⟩ := eb rfl
    have q1 := fr_zero l nz
    unfold powD
    rw [if_pos rfl]
    show ∃ a' B, Pw0 0 a' e.natAbs B ∧ (0 ≤ e → a' = frD q) ∧ _ ∧ _ ∧ (powF q e).map frD = some (B e.natAbs)
    by_cases c : e < 0
    · obtain ⟨g1, g2⟩ := low_fin q1 f2 f1
      refine ⟨_, _, pw_fr (low_ok (t := q.2) q1).1 g1 g2 (by omega), fun z => absurd c (by omega), fun _ _ => ⟨q, rfl, q1, fin_up f1 (by decide), rfl⟩, fun _ z => absurd rfl z, ?_⟩
      unfold powF
      have qn : q ≠ (0, 1) := fun z => q1 (by rw [z])
      have eq1 : quotF (1, 1) q = low q.2 q.1 := by
        show low (1 * q.2) (1 * q.1) = _
        rw [Int.one_mul, Int.one_mul]
      rw [if_pos c, if_neg qn, eq1, show (-e).toNat = e.natAbs by omega]
      rfl
    · refine ⟨_, _, pw_fr l f1 f2 (by omega), fun _ => rfl, fun z => absurd z c, fun z => absurd z c, ?_⟩
      unfold powF
      rw [if_neg c, show e.toNat = e.natAbs by omega]
      rfl
  | @rs p k x n lx =>
    have p2 := fp.cases n
    obtain ⟨pr, le⟩ := fp.resolve_left n
    have x0 : x ≠ 0 := fun z => nz (by
      unfold zeroD
      rw [if_neg n, z]
      rfl)
    have nd := rest_nd x0 lx
    unfold powD
    rw [if_neg n]
    show ∃ a' B, Pw0 p a' e.natAbs B ∧ (0 ≤ e → a' = .int (x : Int)) ∧ _ ∧ _ ∧ (rpw p (x : Int) e).map PyData.int = some (B e.natAbs)
    have xe : ¬ (x : Int) = 0 := by omega
    by_cases c : e < 0
    · refine ⟨_, _, pw_rs p2 (Nat.mod_lt (x ^ (p - 2)) (by omega)), fun z => absurd c (by omega), fun _ z => absurd z n, fun _ _ => ⟨p2, _, pw_rs p2 lx, rfl⟩, ?_⟩
      unfold rpw
      rw [if_neg (by omega), if_neg xe, Int.toNat_natCast]
      have h : ((e % ((p : Int) - 1)).toNat + e.natAbs) % (p - 1) = 0 := by
        have hp : ((p - 1 : Nat) : Int) = (p : Int) - 1 := by omega
        have h0 : 0 ≤ e % ((p : Int) - 1) := Int.emod_nonneg _ (by omega)
        have hd := Int.emod_add_mul_ediv e ((p : Int) - 1)
        refine Nat.mod_eq_zero_of_dvd (Int.ofNat_dvd.mp ⟨-(e / ((p : Int) - 1)), ?_⟩)
        rw [hp, Int.mul_neg, Int.natCast_add, Int.toNat_of_nonneg h0]
        omega
      rw [pow_neg_mod pr nd h]
      rfl
    · refine ⟨_, _, pw_rs p2 lx, fun _ => rfl, fun z => absurd z c, fun z => absurd z c, ?_⟩
      unfold rpw
      by_cases e0 : e = 0
      · subst e0
        rw [if_pos rfl]
        show some (PyData.int 1) = some (.int ((x ^ 0 % p : Nat) : Int))
        rw [Nat.pow_zero, Nat.mod_eq_of_lt (by omega)]
        rfl
      · rw [if_neg e0, if_neg xe, Int.toNat_natCast]
        have h : (e % ((p : Int) - 1)).toNat = e.natAbs % (p - 1) := by
          obtain ⟨n, rfl⟩ : ∃ n : Nat, e = (n : Int) := ⟨e.toNat, by omega⟩
          rw [Int.natAbs_natCast, show (p : Int) - 1 = ((p - 1 : Nat) : Int) by omega, ← Int.natCast_emod, Int.toNat_natCast]
        rw [h, ← pow_red pr nd]
        rfl
theorem powD_none {p : Nat} {a : PyData} {e : Int} (fp : Fp p) (na : Nb p 40 a) (eb : p = 0 → -40 ≤ e ∧ e ≤ 40) (h : powD p a e = none) : a = zeroD p ∧ e < 0 := by
  have az : a = zeroD p := Classical.byContradiction fun nz => by
    obtain ⟨_, _, _, _, _, _, z⟩ := power_due fp na nz eb
    rw [h] at z
    cases z
  refine ⟨az, Classical.byContradiction fun c => ?_⟩
  by_cases e0 : e = 0
  · rw [e0, powD_e0 na] at h
    cases h
  · rw [az, powD_pos0 (by omega)] at h
    cases h
theorem powD_nb {p : Nat} {a c : PyData} {e : Int} (fp : Fp p) (na : Nb p 40 a) (eb : p = 0 → -40 ≤ e ∧ e ≤ 40) (h : powD p a e = some c) : Nb p 2000 c := by
  by_cases nz : a = zeroD p
  · rcases Int.lt_trichotomy e 0 with l | l | l
    · rw [nz, powD_neg0 l] at h
      cases h
    · rw [l, powD_e0 na] at h
      cases h
      exact nb_one fp (by decide)
    · rw [nz, powD_pos0 l] at h
      cases h
      exact nb_zero fp (by decide)
  · obtain ⟨_, B, pw, _, _, _, z⟩ := power_due fp na nz eb
    rw [z] at h
    cases h
    exact pw.nb _ (Nat.le_refl _)
end K26
set_option Elab.async false
set_option linter.all false
set_option maxRecDepth 100000
set_option maxHeartbeats 4000000
/-! a lambda with parameters and captured names, handed to a def as its third argument, called there -/
namespace TkS
open PySem PySem.Spec PyProof.Rows L2 LamX NdefX
/-- a lambda's words -/
abbrev lamF (q : Str) (params : Arguments) (scope : Scope) (cl : List (Str × Addr)) (c' : Addr) : NF := ⟨"<lambda>", q, params, [], scope, cl, c'⟩
theorem cells_un {fs : List Addr} {H HZ : Hp} {h h1 : Heap} {cl : List (Str × Addr)} {fr : List Str} {ws : List (Option V)} (C : CellsAt cl fr ws h H) (un : Un fs [] H HZ h h1) : CellsAt cl fr ws h1 HZ := by
  have cellK : ∀ {c : Addr} {v : Option Value}, H c = none → h.IsCell c v → h1.IsCell c v := fun {c v} n ⟨o, ho, hd⟩ => by
    obtain ⟨sl, q⟩ := un.any ho n (by simp)
    exact ⟨_, q, hd⟩
  refine ⟨C.len, fun y c e => ?_, C.inj, fun i y e => ?_⟩
  · obtain ⟨n, v, z⟩ := C.all y c e
    refine ⟨?_, v, cellK n z⟩
    obtain ⟨o, ho, _⟩ := z
    exact un.free c o ho n (by simp)
  · obtain ⟨c, hc, hv⟩ := C.has i y e
    refine ⟨c, hc, fun v ev => ?_⟩
    obtain ⟨u, r, z⟩ := hv v ev
    exact ⟨u, r, cellK (C.all y c hc).1 z⟩
section
variable {X : Cx} {pins : List (Addr × Obj)} {σ : L2.St} {H : Hp} {s : Shared}
/-- x(e, ..), in the def that got the lambda as x -/
theorem pe_act1 {Ng : List Str} {qg : Str} {sg : Scope} {g f c' : Addr} {cdg pm ctv : Value} {q : Str} {params : Arguments} {body : Expr} {scope : Scope} {cl : List (Str × Addr)} {ps fr N : List Str} {ws : List (Option V)} {k i : Nat} {a : Str} {tb : TE} {e : Expr} {es : List Expr} {t : TA} {p1 p2 : Pos}
    (I : Inv X pins σ H s) (S : NScope N ps fr scope) (C : CellsAt cl fr ws s.heap H) (hf : s.heap.get? f = some (PySem.W.kla_obj "<lambda>" q params body scope cl pm c' ctv)) (hfn : H f = none) (hfr : f ∉ frs X.stack)
    (hbind : ∀ us : List Value, us.length = ps.length → bindArgs (PySem.W.kla_fn "<lambda>" q params body scope cl pm (.ref c') ctv) ⟨us, []⟩ = pure (ps.zip us))
    (hr : Room (k + 1) (X.A.deeper (envOfC qg sg s.heap.objs.size g cdg)))
    (hbody : ∀ (A : Around) (outer : List Env) (s : Shared) (H : Hp), Room k (A.deeper (envF (lamF q params scope cl c') f s.heap.objs.size)) → PE (ncx CX0 X.prog X.w X.K X.mg X.base N (lamF q params scope cl c') f A outer s H E0) body tb)
    (ha : PA (cxOf CX0 X.prog X.w X.K X.mg X.base Ng qg sg g cdg X.A X.stack s H E0).nox (e :: es) t) (hN : Ng[i]? = some a) (hv : Vis sg a)
    (he : starEach (e :: es) (cxOf CX0 X.prog X.w X.K X.mg X.base Ng qg sg g cdg X.A X.stack s H E0).nox.env = (false, eval e (cxOf CX0 X.prog X.w X.K X.mg X.base Ng qg sg g cdg X.A X.stack s H E0).nox.env) :: starEach es (cxOf CX0 X.prog X.w X.K X.mg X.base Ng qg sg g cdg X.A X.stack s H E0).nox.env)
    (hpl : (backTo p2 (starEach es (cxOf CX0 X.prog X.w X.K X.mg X.base Ng qg sg g cdg X.A X.stack s H E0).nox.env)).any (·.1) = false)
    (hd : (a == ("__debug__" : Str)) = false := by decide) (hcd : (a == ("__classdict__" : Str)) = false := by decide) :
    PE (cxOf CX0 X.prog X.w X.K X.mg X.base Ng qg sg g cdg X.A X.stack s H E0).nox (.Call (.Name a p1) (e :: es) [] p2)
      (fun σZ HZ Q => σZ[i]? = some (some (.ref f)) ∧ t σZ HZ fun vs H1 => vs.length = ps.length ∧ H1 c' = some (CodeO c' q) ∧ tb (startF N vs ws) H1 Q) := by
  refine ⟨fun pinsZ sZ σZ HZ Q IZ h => ?_⟩
  obtain ⟨hs, ht⟩ := h
  refine wpAny_Call_Name_kw (thn ((pe_var (pos := p1) (i := i) hN hv hd hcd).run pinsZ sZ σZ HZ (fun v H1 => v = .ref f ∧ H1 = HZ) IZ ⟨.ref f, hs, rfl, rfl⟩) fun u s1 ⟨v, H1, I1, r1, q1⟩ => ?_)
  obtain ⟨ev, eH⟩ := q1
  subst ev
  rw [eH] at I1
  obtain rfl : u = Value.ref f := r1
  have at_ : ∀ {σ' : L2.St} {H' : Hp} {s' : Shared}, Inv (cxOf CX0 X.prog X.w X.K X.mg X.base Ng qg sg g cdg X.A X.stack s H E0).nox pinsZ σ' H' s' → s'.heap.get? f = some (PySem.W.kla_obj "<lambda>" q params body scope cl pm c' ctv) :=
    fun J => J.base.keep f _ hf hfn hfr (fun z => nomatch (show f ∈ ([] : List Addr) from z))
  refine PySem.W.callWith_F (first := []) ⟨_, _, _, _, at_ I1⟩ (thn (ha.run p2 pinsZ s1 σZ HZ _ I1 ht) fun us s2 ⟨vs, H2, I2, r, hl, hc, q2⟩ => ⟨⟨_, _, _, _, at_ I2⟩, ?_⟩) he hpl
  show wpAny _ _ (call (.ref f) us) _ _ _
  have un : Un (frs X.stack) [] H H2 s.heap s2.heap := I2.base
  have C2 := cells_un C un
  obtain ⟨⟨oc, vs', t', hoc, hdc, hvc⟩, _, _⟩ := I2.hok c' _ hc
  have rc : codeAny (model X.prog X.w) (X.A.deeper (envOfC qg sg s.heap.objs.size g cdg)) (.call (.ref f) ⟨us, []⟩) (CR CX0 (envOfC qg sg s.heap.objs.size g cdg :: X.stack) X.prog X.w H2 s2 Q E0) s2 := by
    refine PySem.W.kla_callFunE hr.depth (at_ I2) rfl S.co S.gen rfl ⟨c', oc, vs', t', rfl, hoc, hdc, hvc⟩ ?_
    rw [hbind us (by rw [← r.length]; exact hl)]
    refine wpAny_pure (wpAny_newFunctionEnv S.nocell (fun ⟨n, _⟩ hy => S.par n (List.of_mem_zip hy).1) (fun h₁ hns hsb => ⟨I2.nolimit.fresh _ hsb, ?_⟩) S.kind)
    show codeAny _ _ (.expr body (envF (lamF q params scope cl c') f s2.heap.objs.size)) _ _
    have kp : ∀ b o, s2.heap.get? b = some o → h₁.get? b = some o := fun b o e => hsb.extBut b o (Nat.ne_of_lt (Heap.lt_size e)) (Heap.get?_push_of_some _ e)
    have J : Inv (ncx CX0 X.prog X.w X.K X.mg X.base N (lamF q params scope cl c') f (X.A.deeper (envOfC qg sg s.heap.objs.size g cdg)) (envOfC qg sg s.heap.objs.size g cdg :: X.stack) s2 H2 E0) [] (startF N vs ws) H2 { s2 with heap := h₁, toks := s2.toks + (ps.zip us).length } :=
      inv_startN S hr.hd I2.env0 hl r C2 hns kp
    refine PySem.W.kla_codeExpr (wpAny_mono ((hbody _ _ s2 H2 (hr.deeper _)).run [] _ _ H2 Q J q2) (fun v s' hq => ?_) fun e s' hq => hq)
    obtain ⟨w', H', J', rv, q3⟩ := hq
    exact ⟨w', H', J'.os, J'.bare, J'.base, J'.hok, rv, q3⟩
  refine wpAny_call (codeAny_mono rc fun r s' hq => ?_)
  cases r with
  | error e => exact pass0 pinsZ σZ H2 s2 e s' I2 hq
  | ok fl =>
    cases fl with
    | ret u => exact I2.after hq
    | next => exact False.elim hq
    | brk => exact False.elim hq
    | cont => exact False.elim hq
end
/-- the def that calls what it got as its third argument, named a: TT is what it makes of the lambda's reading -/
def Gives3 (X : Cx) (k : Nat) (Ng : List Str) (x : Str) (sg : Scope) (g : Addr) (cdg : Value) (bg : List Stmt) (a : Str) (q : Str) (TT : (V → Hp → VK → Prop) → Addr → V → V → Hp → VK → Prop) : Prop :=
  ∀ (f c' : Addr) (s : Shared) (H : Hp) (Q : VK) (v1 v2 : V) (tl : V → Hp → VK → Prop), Room k (X.A.deeper (envOfC x sg s.heap.objs.size g cdg)) →
    (∀ (e : Expr) (t : TE) (p1 p2 : Pos), PE (cxOf CX0 X.prog X.w X.K X.mg X.base Ng x sg g cdg X.A X.stack s H E0).nox e t →
      starEach [e] (cxOf CX0 X.prog X.w X.K X.mg X.base Ng x sg g cdg X.A X.stack s H E0).nox.env = [(false, eval e (cxOf CX0 X.prog X.w X.K X.mg X.base Ng x sg g cdg X.A X.stack s H E0).nox.env)] →
      PE (cxOf CX0 X.prog X.w X.K X.mg X.base Ng x sg g cdg X.A X.stack s H E0).nox (.Call (.Name a p1) [e] [] p2) (fun σZ HZ Q => σZ[2]? = some (some (.ref f)) ∧ t σZ HZ fun y H1 => ([y] : List V).length = ([a] : List Str).length ∧ H1 c' = some (CodeO c' q) ∧ tl y H1 Q)) →
    H c' = some (CodeO c' q) → TT tl c' v1 v2 H Q →
    ∃ t, PSs (cxOf CX0 X.prog X.w X.K X.mg X.base Ng x sg g cdg X.A X.stack s H E0).nox bg t ∧ t { nx := fun _ H' => Q .non H', rt := Q } (L2.start Ng [v1, v2, .ref f]) H
def tLam3 (T : List (Addr × Str)) (N : List Str) (js : List Nat) (TT : (V → Hp → VK → Prop) → Addr → V → V → Hp → VK → Prop) (t1 t2 tb : TE) : TE := fun σ H Q => t1 σ H fun v1 H1 => t2 σ H1 fun v2 H2 => Tabs T H2 ∧ ∀ H3 c', ExtN H2 H3 → Tabs T H3 →
  TT (fun y H' Q' => tb (startF N [y] (js.map (slotAt σ))) H' Q') c' v1 v2 H3 Q
section
variable {X : Cx}
/-- x(e1, e2, lambda a: body) -/
theorem pe_lam3 {T : List (Addr × Str)} {TT : (V → Hp → VK → Prop) → Addr → V → V → Hp → VK → Prop} {x a a1 a2 pa : Str} {g c P : Addr} {k : Nat} {pg : Arguments} {bg : List Stmt} {sg : Scope} {dV kV doc pm cdv ct oc : Value} {an od : Option Addr} {osl : Array (Option Value)} {Ng N fr : List Str} {js : List Nat}
    {params : Arguments} {body : Expr} {scope : Scope} {e1 e2 : Expr} {t1 t2 tb : TE} {p lpos pos : Pos} (hg : Gl X x) (hm : X.mg x = some (.ref g)) (hk : PySem.W.keepIn X.K (.ref g) = true)
    (lk : X.K.lookup g = some ⟨oc, od, .func (PySem.W.fnOf x x pg bg sg dV kV doc pm an cdv ct), osl⟩) (hcg : PySem.W.codeIn X.K cdv x = true) (hb : L2.Binds X.K (PySem.W.fnOf x x pg bg sg dV kV doc pm an cdv ct) [a1, a2, a] []) (Sg : FnScope Ng [a1, a2, a] sg) (hNg : Ng[2]? = some a) (hva : Vis sg a)
    (hG : Gives3 X (k + 1) Ng x sg g cdv bg a (X.env.qual ++ "<lambda>") TT)
    (TB : TabB X.base X.mg c P) (hcode : X.env.code = .ref c) (hmT : (P, X.env.qual ++ "<lambda>") ∈ T) (hu : ∀ p ∈ T, p.1 = P → p.2 = X.env.qual ++ "<lambda>") (hr : Room (k + 2) X.A)
    (S : NScope N [pa] fr scope) (hfree : ∀ y ∈ scope.names, y.2 = .free → X.env.scope.names.lookup y.1 = some .cell ∨ X.env.scope.names.lookup y.1 = some .free) (hfr : ∀ y ∈ fr, (y, NameKind.free) ∈ scope.names) (hjs : js.map (fun j => X.N[j]?) = fr.map some)
    (hdef : defaultsOf params X.env = ([], []))
    (hbind : ∀ (q : Str) (cl : List (Str × Addr)) (pm cv ctv : Value) (us : List Value), us.length = 1 → bindArgs (PySem.W.kla_fn "<lambda>" q params body scope cl pm cv ctv) ⟨us, []⟩ = pure ([pa].zip us))
    (h1 : PE X e1 t1) (h2 : PE X e2 t2)
    (hbody : ∀ (A : Around) (outer : List Env) (s : Shared) (H : Hp) (f c' : Addr) (cl : List (Str × Addr)), Room k (A.deeper (envF (lamF (X.env.qual ++ "<lambda>") params scope cl c') f s.heap.objs.size)) → PE (ncx CX0 X.prog X.w X.K X.mg X.base N (lamF (X.env.qual ++ "<lambda>") params scope cl c') f A outer s H E0) body tb)
    (hst : starEach [e1, e2, .Lambda params body scope lpos] X.env = [(false, eval e1 X.env), (false, eval e2 X.env), (false, eval (.Lambda params body scope lpos) X.env)] := by rfl)
    (hst1 : starEach [e2, .Lambda params body scope lpos] X.env = [(false, eval e2 X.env), (false, eval (.Lambda params body scope lpos) X.env)] := by rfl)
    (hdb : (x == ("__debug__" : Str)) = false := by decide) (hd : (a == ("__debug__" : Str)) = false := by decide) (hcd : (a == ("__classdict__" : Str)) = false := by decide) :
    PE X (.Call (.Name x p) [e1, e2, .Lambda params body scope lpos] [] pos) (tLam3 T N js TT t1 t2 tb) := by
  refine ⟨fun pins s σ H Q I h => ?_⟩
  have hff : ∀ y ∈ scope.names, y.2 = .free → ∃ c, X.env.cells.lookup y.1 = some c := fun y hy e => (hfree y hy e).elim (fun z => I.ok.has _ (.inl z)) fun z => I.ok.has _ (.inr z)
  refine wpAny_Call_Name_kw (ld_glob I hg hm ?_ hdb)
  refine PySem.W.callWith_K (h₀ := X.base) I.ok.mod.kin hk ?_ (by rw [hst, hst1]) (by rw [hst1]; rfl)
  rw [hst]
  show wpAny _ _ (spliced ((false, eval e1 X.env) :: backTo pos [(false, eval e2 X.env), (false, eval (.Lambda params body scope lpos) X.env)])) _ _ s
  refine Calls.spliced_cons (thn (h1.run pins s σ H _ I h) fun u1 s1 ⟨v1, H1, I1, r1, q1⟩ => ?_)
  show wpAny _ _ (spliced ((false, eval e2 X.env) :: backTo pos [(false, eval (.Lambda params body scope lpos) X.env)])) _ _ s1
  refine Calls.spliced_cons (thn (h2.run pins s1 σ H1 _ I1 q1) fun u2 s2 ⟨v2, H2, I2, r2, hT, q2⟩ => ?_)
  show wpAny _ _ (spliced ((false, eval (.Lambda params body scope lpos) X.env) :: backTo pos [])) _ _ s2
  refine Calls.spliced_cons (lam_make2 I2 TB hcode hmT hu hT hdef hff fun f c' pm' ctv H3 s' I3 eN T1 hf hfn hfrs hco => ?_)
  refine Calls.spliced_nil ⟨I3.kIn, ?_⟩
  have rc : codeAny (model X.prog X.w) X.A (.call (.ref g) ⟨[u1, u2, .ref f], []⟩) (CR CX0 X.stack X.prog X.w H3 s' Q E0) s' := by
    refine run_ofS (N := Ng) (ps := [a1, a2, a]) (us := [u1, u2, .ref f]) (vs := [v1, v2, .ref f]) lk hcg Sg hr I3.env0 (hb s' [u1, u2, .ref f] I3.kIn rfl) (.cons r1 (.cons r2 (.cons rfl .nil))) rfl fun hr' => ?_
    have C : CellsAt (cloFrom X.env.cells scope.names []) fr (js.map (slotAt σ)) s'.heap H3 := cells_of I3 (Caps.made I3.ok hfree hfr hjs)
    have pz : ∀ (e : Expr) (t : TE) (p1 p2 : Pos), PE (cxOf CX0 X.prog X.w X.K X.mg X.base Ng x sg g cdv X.A X.stack s' H3 E0).nox e t → starEach [e] (cxOf CX0 X.prog X.w X.K X.mg X.base Ng x sg g cdv X.A X.stack s' H3 E0).nox.env = [(false, eval e (cxOf CX0 X.prog X.w X.K X.mg X.base Ng x sg g cdv X.A X.stack s' H3 E0).nox.env)] →
        PE (cxOf CX0 X.prog X.w X.K X.mg X.base Ng x sg g cdv X.A X.stack s' H3 E0).nox (.Call (.Name a p1) [e] [] p2) (fun σZ HZ Q => σZ[2]? = some (some (.ref f)) ∧ t σZ HZ fun y H1 => ([y] : List V).length = ([a] : List Str).length ∧ H1 c' = some (CodeO c' (X.env.qual ++ "<lambda>")) ∧ tb (startF N [y] (js.map (slotAt σ))) H1 Q) := by
      intro e t p1 p2 he hse
      exact pe_act1 (i := 2) (a := a) (p1 := p1) (p2 := p2) I3 S C hf hfn hfrs (hbind _ _ _ _ _) hr' (fun A outer s H hr2 => hbody A outer s H f c' _ hr2) (pa_cons he pa_nil hse) hNg hva hse rfl hd hcd
    obtain ⟨t', ht', hq'⟩ := hG f c' s' H3 Q v1 v2 (fun y H' Q' => tb (startF N [y] (js.map (slotAt σ))) H' Q') hr' pz hco (q2 H3 c' eN T1)
    exact ⟨t', ht'.nox, hq'⟩
  refine wpAny_call (codeAny_mono rc fun r s3 hq => ?_)
  cases r with
  | error e => exact (show False from hq).elim
  | ok fl =>
    cases fl with
    | ret u => exact I3.after hq
    | next => exact False.elim hq
    | brk => exact False.elim hq
    | cont => exact False.elim hq
end
end TkS
set_option Elab.async false
set_option linter.all false
set_option maxRecDepth 100000
set_option maxHeartbeats 4000000
set_option exponentiation.threshold 5000
namespace TkS
open PySem PySem.Spec PyProof.Rows L2 LamX NdefX
/-- a def of the text with its code object -/
structure FunC (K : PySem.W.Frag) (x qual : Str) (st : Stmt) (f : Addr) (fd : FuncData) (c : Addr) : Prop where
  ex : ∃ (oc : Value) (od : Option Addr) (kV doc pm : Value) (an : Option Addr) (ct : Value) (osl : Array (Option Value)),
    fd = PySem.W.fnOf x qual (defArgs st) (defBody st) (defScope st) .none kV doc pm an (.ref c) ct ∧ K.lookup f = some ⟨oc, od, .func fd, osl⟩ ∧ PySem.W.codeIn K (.ref c) qual = true
theorem FunC.ok {P : Program} {w : World} {K : PySem.W.Frag} {mg : Str → Option Value} {base : Heap} {x qual : Str} {st : Stmt} {f : Addr} {fd : FuncData} {c : Addr} {N ps : List Str} {k : Nat} {sp : Sp} (F : FunC K x qual st f fd c) (S : FnScope N ps (defScope st)) (len : ∀ vs H Q E, sp vs H Q E → vs.length = ps.length)
    (hbody : ∀ (A : Around) (outer : List Env) (s : Shared) (H : Hp) (vs : List V) (Q : VK) (E : XK), Room k (A.deeper (envOfC qual (defScope st) s.heap.objs.size f (.ref c))) → sp vs H Q E →
      ∃ t, PSs (cxOf CX0 P w K mg base N qual (defScope st) f (.ref c) A outer s H E).nox (defBody st) t ∧ t { nx := fun _ H' => Q .non H', rt := Q } (start N vs) H) : FnOk P w K mg base CX0 (k + 1) f fd ps sp := by
  obtain ⟨oc, od, kV, doc, pm, an, ct, osl, rfl, lk, hcd⟩ := F.ex
  refine fn_of lk hcd S len fun A outer s H vs Q E hr hsp => ?_
  obtain ⟨t, h, q⟩ := hbody A outer s H vs Q E hr hsp
  exact ⟨t, h.nox, q⟩
theorem ext_at {H H' : Hp} (k : ExtN H H') {b : Addr} {o : HO} (e : H b = some o) (n : ∀ ps, o ≠ .tbl ps) : H' b = some o := k _ _ e n
mutual
theorem dq_ext {H H' : Hp} (k : ExtN H H') : ∀ {v : V} (d : PyData), Dq H v d → Dq H' v d
  | _, .none, .non => .non
  | _, .bool _, .bl b => .bl b
  | _, .int _, .int i => .int i
  | _, .str _, .str x => .str x
  | _, .list _, .lst e u => .lst (k _ _ e fun _ z => nomatch z) (dqs_ext k _ u)
  | _, .tuple _, .tup e u => .tup (k _ _ e fun _ z => nomatch z) (dqs_ext k _ u)
theorem dqs_ext {H H' : Hp} (k : ExtN H H') : ∀ {vs : List V} (ds : List PyData), DqAll H vs ds → DqAll H' vs ds
  | _, [], .nil => .nil
  | _, _ :: _, .cons u v => .cons (dq_ext k _ u) (dqs_ext k _ v)
end
end TkS
namespace K26
open PySem PySem.Spec PyProof.Rows L2 TkS LamX NdefX
theorem RF.ext {C : Addr} {H H' : Hp} {a : Addr} {p : Nat} (x : RF C H a p) (k : ExtN H H') : RF C H' a p := by
  obtain ⟨⟨dx, ha⟩, pr, le⟩ := x
  exact ⟨⟨dx, k _ _ ha fun _ z => nomatch z⟩, pr, le⟩
theorem FF.ext {C : Addr} {H H' : Hp} {a : Addr} (x : FF C H a) (k : ExtN H H') : FF C H' a := by
  obtain ⟨dx, z, o, m, e1, e2, e3, e4⟩ := x.at_
  exact ⟨⟨dx, z, o, m, k _ _ e1 (fun _ z => nomatch z), k _ _ e2 (fun _ z => nomatch z), k _ _ e3 (fun _ z => nomatch z), k _ _ e4 fun _ z => nomatch z⟩⟩
theorem Fld.ext {CR CF : Addr} {H H' : Hp} {a : Addr} {p : Nat} (h : Fld CR CF H a p) (k : ExtN H H') : Fld CR CF H' a p := ⟨h.fp, fun e => (h.fr e).ext k, fun e => (h.rs e).ext k⟩
theorem Hand.ext {H H' : Hp} {h : Addr} (x : Hand H h) (k : ExtN H H') : Hand H' h := by
  obtain ⟨c, cells, p, r, t, h1, h2, q⟩ := x.ex
  exact ⟨c, cells, p, r, t, k _ _ h1 (fun _ z => nomatch z), k _ _ h2 (fun _ z => nomatch z), q⟩
/-! the first bad index -/
def firstBad (g : PyData → Bool) : List PyData → Nat → Option Int
  | [], _ => none
  | d :: ds, i => if g d = true then firstBad g ds (i + 1) else some (i : Int)
def wrongI (g : PyData → Bool) (d : PyData) (n : Int) : Option Int := if seqIs d (.int n) = true then (match itemsD d with
    | some ds => firstBad g ds 0
    | none => some (-1)) else some (-1)
def optV : Option Int → V
  | none => .non
  | some i => .int i
theorem bad_all {g : PyData → Bool} : ∀ (ds : List PyData) (i : Nat), ds.all g = true → firstBad g ds i = none
  | [], _, _ => rfl
  | d :: ds, i, h => by
    rw [List.all_cons, Bool.and_eq_true] at h
    unfold firstBad
    rw [if_pos h.1]
    exact bad_all ds _ h.2
theorem bad_at {g : PyData → Bool} : ∀ (ds : List PyData) (j i : Nat) (d : PyData), ds[j]? = some d → (∀ e ∈ ds.take j, g e = true) → g d = false → firstBad g ds i = some ((i + j : Nat) : Int)
  | [], _, _, _, h, _, _ => by simp at h
  | e :: ds, 0, i, d, h, _, n => by
    simp at h
    subst h
    unfold firstBad
    rw [if_neg (by rw [n]; decide)]
    rfl
  | e :: ds, j + 1, i, d, h, a, n => by
    unfold firstBad
    rw [if_pos (a e (by simp))]
    rw [bad_at ds j (i + 1) d (by simpa using h) (fun x m => a x (by simp [m])) n, Nat.add_assoc, Nat.add_comm 1 j]
def TTw (tl : V → Hp → VK → Prop) (_ : Addr) (v1 v2 : V) (H : Hp) (Q : VK) : Prop := ∃ (d : PyData) (n : Int) (g : PyData → Bool), Dq H v1 d ∧ v2 = .int n ∧
  (∀ (y : V) (d' : PyData) (ds : List PyData) (H1 : Hp) (R : VK), Same H H1 → itemsD d = some ds → d' ∈ ds → Dq H1 y d' → (∀ H2, Same H1 H2 → R (.bl (g d')) H2) → tl y H1 R) ∧ ∀ H', Same H H' → Q (optV (wrongI g d n)) H'
end K26
set_option Elab.async false
set_option linter.all false
set_option maxRecDepth 100000
set_option maxHeartbeats 4000000
set_option exponentiation.threshold 5000
namespace K26
open PySem PySem.Spec PyProof.Rows L2 TkS LamX NdefX
def facOk (p : Nat) (d : PyData) : Bool := numOk p d && !PyData.eqv d (zeroD p)
theorem num_form {p : Nat} {d : PyData} (h : numOk p d = true) : (p = 0 ∧ ∃ q, d = frD q ∧ Lowest q) ∨ (p ≠ 0 ∧ ∃ x : Nat, d = .int (x : Int) ∧ x < p) := by
  unfold numOk at h
  by_cases p0 : p = 0
  · rw [if_pos p0] at h
    exact .inl ⟨p0, frOk_of h⟩
  · rw [if_neg p0] at h
    right
    refine ⟨p0, ?_⟩
    cases d with
    | int i =>
      obtain ⟨h1, h2⟩ := Bool.and_eq_true_iff.mp h
      have a := of_decide_eq_true h1
      have b := of_decide_eq_true h2
      exact ⟨i.toNat, by rw [Int.toNat_of_nonneg a], by omega⟩
    | _ => cases h
theorem num_shp {p : Nat} {d : PyData} (h : numOk p d = true) : SeqAt.shaped d = true := by
  rcases num_form h with ⟨_, q, rfl, _⟩ | ⟨_, x, rfl, _⟩
  · exact shp_fr _
  · rfl
theorem fac_nb {p k : Nat} {d : PyData} (n : Nb p k d) (fp : Fp p) (nz : d ≠ zeroD p) : facOk p d = true := by
  unfold facOk
  rw [numOk_nb n, nb_ne n (nb_zero (k := 1) fp (Nat.le_refl _)) nz]
  rfl
theorem fac_bad {p : Nat} {d : PyData} (fp : Fp p) (h : OddD p d) : facOk p d = false := by
  unfold facOk
  rcases h.2.2 with e | r
  · rw [e, nb_self (nb_zero (k := 1) fp (Nat.le_refl _)), Bool.not_true, Bool.and_false]
  · rw [numOk_refu r, Bool.false_and]
def sp_is_number (CR CF : Addr) : Sp := fun vs H Q _ => ∃ (f : Addr) (p : Nat) (x : V) (d : PyData), vs = [.ref f, x] ∧ Fld CR CF H f p ∧ Dq H x d ∧ ∀ H', Same H H' → Q (.bl (numOk p d)) H'
def sp_is_factor (CR CF : Addr) : Sp := fun vs H Q _ => ∃ (f : Addr) (p : Nat) (x : V) (d : PyData), vs = [.ref f, x] ∧ Fld CR CF H f p ∧ Dq H x d ∧ ∀ H', Same H H' → Q (.bl (facOk p d)) H'
theorem firstBad_none {g : PyData → Bool} : ∀ (ds : List PyData) (i : Nat), firstBad g ds i = none → ds.all g = true
  | [], _, _ => rfl
  | d :: ds, i, h => by
    unfold firstBad at h
    split at h
    · rename_i c
      rw [List.all_cons, c, Bool.true_and]
      exact firstBad_none ds _ h
    · cases h
theorem wrong_none {g : PyData → Bool} {d : PyData} {n : Int} (h : wrongI g d n = none) : ∃ ds, itemsD d = some ds ∧ ds.all g = true ∧ (ds.length : Int) = n := by
  unfold wrongI at h
  split at h
  · rename_i c
    cases e : itemsD d with
    | none =>
      rw [e] at h
      cases h
    | some ds =>
      rw [e] at h
      refine ⟨ds, rfl, firstBad_none ds 0 h, ?_⟩
      unfold seqIs at c
      rw [e] at c
      exact of_decide_eq_true c
  · cases h
theorem Pic.ext {C : Addr} {H H' : Hp} {a : Addr} {P W : Int} {ps : List (Int × Int)} (h : Pic C H a P W ps) (k : ExtN H H') : Pic C H' a P W ps := by
  obtain ⟨⟨dx, t, v, xs, h1, h2, h2', h3⟩, h4, h5, h6⟩ := h
  obtain ⟨o, e1, e2⟩ := h2
  exact ⟨⟨dx, t, v, xs, k _ _ h1 (fun _ z => nomatch z), ⟨o, k _ _ e1 (fun _ z => nomatch z), e2⟩, dqs_ext k _ h2', dq_ext k _ h3⟩, h4, h5, h6⟩
section
variable {P : Program} {w : World} {K : PySem.W.Frag} {mg : Str → Option Value} {base : Heap} {cw Pw : Addr}
theorem fld_zero (T : Txt K mg) {H : Hp} {f : Addr} {p : Nat} (hf : Fld T.C_RestField T.C_FractionField H f p) : ∃ C dx fs v, H f = some (.ins C dx fs) ∧ Cls K C ∧ NoAttr K C "zero" ∧ fs.lookup ("zero" : Str) = some v ∧ Dq H v (zeroD p) := by
  unfold zeroD
  by_cases p0 : p = 0
  · rw [if_pos p0]
    obtain ⟨dx, z, o, n, ea, ez, eo, em⟩ := (hf.fr p0).at_
    exact ⟨_, dx, _, _, ea, T.cl_FractionField, T.na_FractionField_zero, rfl, fr_dq (q := (0, 1)) ez⟩
  · rw [if_neg p0]
    obtain ⟨⟨dx, ha⟩, pr, le⟩ := id (hf.rs p0)
    exact ⟨_, dx, _, _, ha, T.cl_RestField, T.na_RestField_zero, rfl, .int _⟩
end
end K26
set_option Elab.async false
set_option linter.all false
set_option maxRecDepth 100000
set_option maxHeartbeats 4000000
set_option exponentiation.threshold 5000
namespace K26
open PySem PySem.Spec PyProof.Rows L2 TkS
def sp_rest_of (C : Addr) : Sp := fun vs H Q _ => ∃ (a : Addr) (p : Nat) (x : Int), vs = [.ref a, .int x] ∧ RF C H a p ∧ Q (.int (x % (p : Int))) H
section
variable {P : Program} {w : World} {K : PySem.W.Frag} {mg : Str → Option Value} {base : Heap}
theorem ok_RestField_plus (T : Txt K mg) : FnOk P w K mg base CX0 1 T.f_RestField_plus T.d_RestField_plus ["self", "one", "other"] (sp_rest T.C_RestField (· + ·)) := by
  refine T.F_RestField_plus.ok sc_RestField_plus (fun vs H Q E h => ?_) (fun cdv A outer s H vs Q E hr h => ?_)
  · obtain ⟨a, p, x, y, rfl, _⟩ := h
    rfl
  · obtain ⟨a, p, x, y, rfl, hf, mx, my, q⟩ := h
    refine ⟨_, (pss_one (ps_ret (pe_op op_mod (pe_op op_add (pv 1) (pv 2)) (pe_fld (pv 0) rfl)))), ?_⟩
    obtain ⟨⟨dx, ha⟩, pr, _⟩ := hf
    have p2 := pr.1
    exact ⟨_, rfl, _, rfl, x, y, rfl, rfl, _, rfl, a, T.C_RestField, dx, _, _, rfl, ha, T.cl_RestField, T.na_RestField_prime, rfl, x + y, p, rfl, rfl, (show (0 : Int) < p by omega), q⟩
theorem ok_RestField_less (T : Txt K mg) : FnOk P w K mg base CX0 1 T.f_RestField_less T.d_RestField_less ["self", "one", "other"] (sp_rest T.C_RestField (· - ·)) := by
  refine T.F_RestField_less.ok sc_RestField_less (fun vs H Q E h => ?_) (fun cdv A outer s H vs Q E hr h => ?_)
  · obtain ⟨a, p, x, y, rfl, _⟩ := h
    rfl
  · obtain ⟨a, p, x, y, rfl, hf, mx, my, q⟩ := h
    refine ⟨_, (pss_one (ps_ret (pe_op op_mod (pe_op op_sub (pv 1) (pv 2)) (pe_fld (pv 0) rfl)))), ?_⟩
    obtain ⟨⟨dx, ha⟩, pr, _⟩ := hf
    have p2 := pr.1
    exact ⟨_, rfl, _, rfl, x, y, rfl, rfl, _, rfl, a, T.C_RestField, dx, _, _, rfl, ha, T.cl_RestField, T.na_RestField_prime, rfl, x - y, p, rfl, rfl, (show (0 : Int) < p by omega), q⟩
end
end K26
set_option Elab.async false
set_option linter.all false
set_option maxRecDepth 100000
set_option maxHeartbeats 4000000
set_option exponentiation.threshold 5000
namespace K26
open PySem PySem.Spec PyProof.Rows L2 TkS
def sp_fr_of (C : Addr) : Sp := fun vs H Q _ => ∃ (a : Addr) (z : Int), vs = [.ref a, .int z] ∧ FF C H a ∧ ∀ l H', Same H H' → Dq H' (.ref l) (frD (z, 1)) → Q (.ref l) H'
section
variable {P : Program} {w : World} {K : PySem.W.Frag} {mg : Str → Option Value} {base : Heap}
theorem ok_FractionField_plus (T : Txt K mg) : FnOk P w K mg base CX0 3 T.f_FractionField_plus T.d_FractionField_plus ["self", "one", "other"] (sp_fr2 T.C_FractionField plusF) := by
  refine T.F_FractionField_plus.ok sc_FractionField_plus (fun vs H Q E h => ?_) (fun cdv A outer s H vs Q E hr h => ?_)
  · obtain ⟨a, x, y, q, r, rfl, _⟩ := h
    rfl
  · obtain ⟨a, x, y, q, r, rfl, hf, kx, ky, fq, fr, hQ⟩ := h
    refine ⟨_, (pss_one (ps_ret (pe_call (ok_fraction T) (hr.mono (by decide)) (by rfl) T.g_fraction T.F_fraction.kp T.b_fraction .nil pass0 (pa_cons (pe_op op_add (pe_op op_mulW (pe_ix ix_tup (pv 1) pe_int (fun _ _ => rfl)) (pe_ix ix_tup (pv 2) pe_int (fun _ _ => rfl))) (pe_op op_mulW (pe_ix ix_tup (pv 2) pe_int (fun _ _ => rfl)) (pe_ix ix_tup (pv 1) pe_int (fun _ _ => rfl)))) (pa_cons (pe_op op_mulW (pe_ix ix_tup (pv 1) pe_int (fun _ _ => rfl)) (pe_ix ix_tup (pv 2) pe_int (fun _ _ => rfl))) pa_nil))))), ?_⟩
    obtain ⟨l1, rfl, h1⟩ := fr_at kx
    obtain ⟨l2, rfl, h2⟩ := fr_at ky
    have w1 := Fin.mulW fq.ft fr.fb (by decide) (by decide) (by decide)
    have w2 := Fin.mulW fr.ft fq.fb (by decide) (by decide) (by decide)
    have w3 := Fin.mulW fq.fb fr.fb (by decide) (by decide) (by decide)
    refine ⟨_, rfl, l1, _, 0, _, rfl, rfl, SqT.of h1, at_of (j := 0) rfl rfl, _, rfl, l2, _, 1, _, rfl, rfl, SqT.of h2, at_of (j := 1) rfl rfl, _, _, rfl, rfl, w1, _, rfl, l2, _, 0, _, rfl, rfl, SqT.of h2, at_of (j := 0) rfl rfl, _, rfl, l1, _, 1, _, rfl, rfl, SqT.of h1, at_of (j := 1) rfl rfl, _, _, rfl, rfl, w2, _, _, rfl, rfl, _, rfl, l1, _, 1, _, rfl, rfl, SqT.of h1, at_of (j := 1) rfl rfl, _, rfl, l2, _, 1, _, rfl, rfl, SqT.of h2, at_of (j := 1) rfl rfl, _, _, rfl, rfl, w3, _, _, rfl, fun z => ?_, fin_up (Fin.mul fq.fb fr.fb) (by decide), fun l H' s k => hQ l H' s k⟩
    rcases Int.mul_eq_zero.mp z with e | e
    · exact fq.b0 e
    · exact fr.b0 e
theorem ok_FractionField_less (T : Txt K mg) : FnOk P w K mg base CX0 3 T.f_FractionField_less T.d_FractionField_less ["self", "one", "other"] (sp_fr2 T.C_FractionField lessF) := by
  refine T.F_FractionField_less.ok sc_FractionField_less (fun vs H Q E h => ?_) (fun cdv A outer s H vs Q E hr h => ?_)
  · obtain ⟨a, x, y, q, r, rfl, _⟩ := h
    rfl
  · obtain ⟨a, x, y, q, r, rfl, hf, kx, ky, fq, fr, hQ⟩ := h
    refine ⟨_, (pss_one (ps_ret (pe_call (ok_fraction T) (hr.mono (by decide)) (by rfl) T.g_fraction T.F_fraction.kp T.b_fraction .nil pass0 (pa_cons (pe_op op_sub (pe_op op_mulW (pe_ix ix_tup (pv 1) pe_int (fun _ _ => rfl)) (pe_ix ix_tup (pv 2) pe_int (fun _ _ => rfl))) (pe_op op_mulW (pe_ix ix_tup (pv 2) pe_int (fun _ _ => rfl)) (pe_ix ix_tup (pv 1) pe_int (fun _ _ => rfl)))) (pa_cons (pe_op op_mulW (pe_ix ix_tup (pv 1) pe_int (fun _ _ => rfl)) (pe_ix ix_tup (pv 2) pe_int (fun _ _ => rfl))) pa_nil))))), ?_⟩
    obtain ⟨l1, rfl, h1⟩ := fr_at kx
    obtain ⟨l2, rfl, h2⟩ := fr_at ky
    have w1 := Fin.mulW fq.ft fr.fb (by decide) (by decide) (by decide)
    have w2 := Fin.mulW fr.ft fq.fb (by decide) (by decide) (by decide)
    have w3 := Fin.mulW fq.fb fr.fb (by decide) (by decide) (by decide)
    refine ⟨_, rfl, l1, _, 0, _, rfl, rfl, SqT.of h1, at_of (j := 0) rfl rfl, _, rfl, l2, _, 1, _, rfl, rfl, SqT.of h2, at_of (j := 1) rfl rfl, _, _, rfl, rfl, w1, _, rfl, l2, _, 0, _, rfl, rfl, SqT.of h2, at_of (j := 0) rfl rfl, _, rfl, l1, _, 1, _, rfl, rfl, SqT.of h1, at_of (j := 1) rfl rfl, _, _, rfl, rfl, w2, _, _, rfl, rfl, _, rfl, l1, _, 1, _, rfl, rfl, SqT.of h1, at_of (j := 1) rfl rfl, _, rfl, l2, _, 1, _, rfl, rfl, SqT.of h2, at_of (j := 1) rfl rfl, _, _, rfl, rfl, w3, _, _, rfl, fun z => ?_, fin_up (Fin.mul fq.fb fr.fb) (by decide), fun l H' s k => hQ l H' s k⟩
    rcases Int.mul_eq_zero.mp z with e | e
    · exact fq.b0 e
    · exact fr.b0 e
end
end K26
set_option Elab.async false
set_option linter.all false
set_option maxRecDepth 100000
set_option maxHeartbeats 4000000
/-! a walk by enumerate in which tables of code objects may grow -/
namespace TkS
open PySem PySem.Spec PyProof.Rows L2 LamX
theorem seqL_ext {K : PySem.W.Frag} {H H' : Hp} {a : Addr} {xs : List V} (e : ExtN H H') (h : SqL K H a xs) : SqL K H' a xs := by
  rcases h with (h | ⟨o, h⟩) | h
  · exact .inl (.inl (e _ _ h fun _ z => nomatch z))
  · exact .inl (.inr ⟨o, e _ _ h fun _ z => nomatch z⟩)
  · exact .inr h
theorem seqT_ext {K : PySem.W.Frag} {H H' : Hp} {a : Addr} {xs : List V} (e : ExtN H H') (h : SqT K H a xs) : SqT K H' a xs := by
  rcases h with (h | ⟨o, h⟩) | h
  · exact .inl (.inl (e _ _ h fun _ z => nomatch z))
  · exact .inl (.inr ⟨o, e _ _ h fun _ z => nomatch z⟩)
  · exact .inr h
theorem Sq.ext {K : PySem.W.Frag} {H H' : Hp} {a : Addr} {xs : List V} (h : Sq K H a xs) (e : ExtN H H') : Sq K H' a xs := h.elim (fun h => .inl (seqL_ext e h)) fun h => .inr (seqT_ext e h)
theorem for_enumX {K : PySem.W.Frag} {a : Addr} {xs : List V} {ta : TA} {g : TG} {tb : TS} {D : Ends} {σ : L2.St} {H : Hp} (Pv : Nat → L2.St → Hp → Prop) (ht : ∀ Q : List V → Hp → Prop, Q [.ref a] H → ta σ H Q) (hq : Sq K H a xs) (h0 : Pv 0 σ H)
    (hl : ∀ i σ H', Pv i σ H' → ExtN H H')
    (hs : ∀ i x T σ H', xs[i]? = some x → Pv i σ H' → H' T = none → g (.ref T) σ (upd H' T (.tup [.int (i : Nat), x])) fun σ2 H2 => tb { D with nx := Pv (i + 1), ct := Pv (i + 1), bk := D.nx } σ2 H2) (hd : ∀ σ H', Pv xs.length σ H' → D.nx σ H') :
    tFor (iEnumS K ta) g tb D σ H := by
  have walk : ∀ {J : It} {ok : Hp → Prop}, (∀ i H', ok H' → (∀ x, xs[i]? = some x → J.go i H') ∧ (xs.length ≤ i → J.stop i H') ∧ ∀ v H'', J.yld i H' v H'' → ∃ T x, v = .ref T ∧ H' T = none ∧ H'' = upd H' T (.tup [.int (i : Nat), x]) ∧ xs[i]? = some x) → (∀ H', ExtN H H' → ok H') →
      ∃ W : Nat → Nat → L2.St → Hp → Prop, (∃ m, W 0 m σ H) ∧ ∀ i m σ H, W i m σ H →
        (J.stop i H ∧ D.nx σ H) ∨ (J.go i H ∧ ∃ N : L2.St → Hp → Prop, (∀ σ' H', N σ' H' → ∃ m', m' < m ∧ W (i + 1) m' σ' H') ∧ ∀ v H', J.yld i H v H' → g v σ H' fun σ2 H2 => tb { D with nx := N, ct := N, bk := D.nx } σ2 H2) := fun {J ok} hJ hok => by
    refine ⟨fun i m σ H' => m = xs.length - i ∧ i ≤ xs.length ∧ Pv i σ H', ⟨xs.length, rfl, Nat.zero_le _, h0⟩, ?_⟩
    rintro i m σ' H' ⟨rfl, hi, p⟩
    obtain ⟨j1, j2, j3⟩ := hJ i H' (hok H' (hl i σ' H' p))
    rcases Nat.lt_or_ge i xs.length with hlt | hge
    · refine .inr ⟨j1 _ (List.getElem?_eq_getElem hlt), Pv (i + 1), fun σ2 H2 p2 => ⟨xs.length - (i + 1), by omega, rfl, hlt, p2⟩, fun v H2 y => ?_⟩
      obtain ⟨T, x, rfl, hT, rfl, hx⟩ := j3 v H2 y
      exact hs i x T σ' H' hx p hT
    · have e : i = xs.length := by omega
      subst e
      exact .inl ⟨j2 (Nat.le_refl _), hd σ' H' p⟩
  rcases hq with hq | hq
  · exact .inl (ht _ ⟨a, xs, rfl, hq, walk (J := Ite K a) (ok := fun H' => SqL K H' a xs) (fun i H' z => ⟨fun x hx => ⟨xs, x, z, hx⟩, fun hi => ⟨xs, z, hi⟩, fun v H2 ⟨T, x, e1, e2, e3, e4⟩ => ⟨T, x, e1, e2, e3, e4 xs z⟩⟩) fun H' s => seqL_ext s hq⟩)
  · exact .inr (ht _ ⟨a, xs, rfl, hq, walk (J := IteT K a) (ok := fun H' => SqT K H' a xs) (fun i H' z => ⟨fun x hx => ⟨xs, x, z, hx⟩, fun hi => ⟨xs, z, hi⟩, fun v H2 ⟨T, x, e1, e2, e3, e4⟩ => ⟨T, x, e1, e2, e3, e4 xs z⟩⟩) fun H' s => seqT_ext s hq⟩)
end TkS
set_option Elab.async false
set_option linter.all false
set_option maxRecDepth 100000
set_option maxHeartbeats 4000000
set_option exponentiation.threshold 5000
set_option pp.maxSteps 900
namespace TkS
open PySem PySem.Spec PyProof.Rows L2 LamX NdefX
theorem FunC.okX {P : Program} {w : World} {K : PySem.W.Frag} {mg : Str → Option Value} {base : Heap} {x qual : Str} {st : Stmt} {f : Addr} {fd : FuncData} {c : Addr} {N ps : List Str} {k : Nat} {sp : Sp} (F : FunC K x qual st f fd c) (S : FnScope N ps (defScope st)) (len : ∀ vs H Q E, sp vs H Q E → vs.length = ps.length)
    (hbody : ∀ (A : Around) (outer : List Env) (s : Shared) (H : Hp) (vs : List V) (Q : VK) (E : XK), Room k (A.deeper (envOfC qual (defScope st) s.heap.objs.size f (.ref c))) → sp vs H Q E →
      ∃ t, PSs (cxOf (L2.CX P w) P w K mg base N qual (defScope st) f (.ref c) A outer s H E) (defBody st) t ∧ t { nx := fun _ H' => Q .non H', rt := Q } (start N vs) H) : FnOk P w K mg base (L2.CX P w) (k + 1) f fd ps sp := by
  obtain ⟨oc, od, kV, doc, pm, an, ct, osl, rfl, lk, hcd⟩ := F.ex
  exact fn_of lk hcd S len fun A outer s H vs Q E hr hsp => hbody A outer s H vs Q E hr hsp
end TkS
namespace K26
open PySem PySem.Spec PyProof.Rows L2 TkS LamX NdefX
theorem cb_lc {r : List V → Hp → VK → Prop} {wi : TI} {g : TG} {tt : TT} {te : TE} {vs : List Nat} {σ : L2.St} {H : Hp} {Q : VK} (h : tLc wi g tt te vs σ H fun v H1 => r [v] H1 Q) : tCB r (tCons (tLc wi g tt te vs) tNil) σ H Q := h
/-- the lambdas' tables -/
abbrev lamT (Pw : Addr × Addr) : List (Addr × Str) := [(Pw.1, "is_number_row.<locals>.<lambda>"), (Pw.2, "_check_rows.<locals>.<lambda>")]
theorem lam_u1 {Pw : Addr × Addr} (ne : Pw.1 ≠ Pw.2) {p : Addr × Str} (hp : p ∈ lamT Pw) (e : p.1 = Pw.1) : p.2 = ("is_number_row.<locals>.<lambda>" : Str) := by
  rcases List.mem_cons.mp hp with rfl | h
  · rfl
  · rw [List.mem_singleton.mp h] at e
    exact absurd e.symm ne
theorem lam_u2 {Pw : Addr × Addr} (ne : Pw.1 ≠ Pw.2) {p : Addr × Str} (hp : p ∈ lamT Pw) (e : p.1 = Pw.2) : p.2 = ("_check_rows.<locals>.<lambda>" : Str) := by
  rcases List.mem_cons.mp hp with rfl | h
  · exact absurd e ne
  · rw [List.mem_singleton.mp h]
def wrongN (g : PyData → Bool) (d : PyData) : Option Int := match itemsD d with
    | some ds => firstBad g ds 0
    | none => some (-1)
def TTx (Tt : List (Addr × Str)) (tl : V → Hp → VK → Prop) (_ : Addr) (v1 v2 : V) (H : Hp) (Q : VK) : Prop := ∃ (d : PyData) (g : PyData → Bool), Dq H v1 d ∧ v2 = .non ∧ Tabs Tt H ∧
  (∀ (y : V) (d' : PyData) (ds : List PyData) (H1 : Hp) (R : VK), ExtN H H1 → Tabs Tt H1 → itemsD d = some ds → d' ∈ ds → Dq H1 y d' → (∀ H2, ExtN H1 H2 → Tabs Tt H2 → R (.bl (g d')) H2) → tl y H1 R) ∧ ∀ H', ExtN H H' → Tabs Tt H' → Q (optV (wrongN g d)) H'
/-! rows of numbers -/
def hasB (d : PyData) (lo hi : Int) : Bool := match itemsD d with
  | some ds => decide (lo ≤ (ds.length : Int)) && decide ((ds.length : Int) ≤ hi)
  | none => false
def numRow (p : Nat) (d : PyData) (n : Int) : Bool := (wrongI (numOk p) d n).isNone
def anyNzD (p : Nat) (d : PyData) : Bool := match itemsD d with
  | some ds => ds.any fun x => !PyData.eqv x (zeroD p)
  | none => false
def isRow (p : Nat) (n : Int) (d : PyData) : Bool := numRow p d n && anyNzD p d
def sp_has_between : Sp := fun vs H Q _ => ∃ (x : V) (d : PyData) (lo hi : Int), vs = [x, .int lo, .int hi] ∧ Dq H x d ∧ ∀ H', Same H H' → Q (.bl (hasB d lo hi)) H'
def sp_is_number_row (CR CF : Addr) (Pw : Addr × Addr) : Sp := fun vs H Q _ => ∃ (f : Addr) (p : Nat) (x : V) (d : PyData) (n : Int), vs = [.ref f, x, .int n] ∧ Fld CR CF H f p ∧ Dq H x d ∧ Tabs (lamT Pw) H ∧ ∀ H', ExtN H H' → Tabs (lamT Pw) H' → Q (.bl (numRow p d n)) H'
def sp_is_row (CR CF : Addr) (Pw : Addr × Addr) : Sp := fun vs H Q _ => ∃ (f : Addr) (p : Nat) (x : V) (d : PyData) (n : Int), vs = [.ref f, x, .int n] ∧ Fld CR CF H f p ∧ Dq H x d ∧ n ≤ 900 ∧ Tabs (lamT Pw) H ∧ ∀ H', ExtN H H' → Tabs (lamT Pw) H' → Q (.bl (isRow p n d)) H'
def sp_check_rows (CR CF CB : Addr) (Pw : Addr × Addr) : Sp := fun vs H Q E => ∃ (f : Addr) (p : Nat) (wh : Str) (x : V) (d : PyData) (n : Int), vs = [.ref f, .str wh, x, .int n] ∧ Fld CR CF H f p ∧ Dq H x d ∧ n ≤ 900 ∧ Tabs (lamT Pw) H ∧
  (∀ i, wrongN (isRow p n) d = some i → ∀ H', ExtN H H' → Tabs (lamT Pw) H' → Raised2 CB "what" (.str wh) "index" (.int i) H' E) ∧
  (wrongN (isRow p n) d = none → ∀ H', ExtN H H' → Tabs (lamT Pw) H' → Q .non H')
section
variable {P : Program} {w : World} {K : PySem.W.Frag} {mg : Str → Option Value} {base : Heap} {cw Pw : Addr × Addr}
theorem numRow_of {p : Nat} {d : PyData} {n : Int} (h : numRow p d n = true) : ∃ ds, itemsD d = some ds ∧ ds.all (numOk p) = true ∧ (ds.length : Int) = n := by
  unfold numRow at h
  cases c : wrongI (numOk p) d n with
  | none => exact wrong_none c
  | some i =>
    rw [c] at h
    cases h
end
end K26
set_option Elab.async false
set_option linter.all false
set_option maxRecDepth 100000
set_option maxHeartbeats 4000000
set_option exponentiation.threshold 5000
set_option pp.maxSteps 900
namespace K26
open PySem PySem.Spec PyProof.Rows L2 TkS LamX NdefX
def rowOf (d : PyData) : List PyData := (itemsD d).getD []
def tupsD (d : PyData) : PyData := .tuple ((rowOf d).map fun r => .tuple (rowOf r))
def headD (d : PyData) : PyData := (rowOf d).headD .none
def lenD (d : PyData) : Int := (rowOf d).length
/-- the refusal of a space, none if it is one -/
def spaceW (p : Nat) (dp dw : PyData) : Option (Str × Int) :=
  if hasB dp 1 5 = false then some ("points", 0) else if hasB dw 1 5 = false then some ("walls", 0) else
  if hasB (headD dp) 1 6 = false then some ("point", 0) else
  match wrongN (isRow p (lenD (headD dp))) dp with
  | some i => some ("point", i)
  | none => match wrongN (isRow p (lenD (headD dp))) dw with
    | some i => some ("wall", i)
    | none => none
theorem hasB_of {d : PyData} {lo hi : Int} (h : hasB d lo hi = true) : ∃ ds, itemsD d = some ds ∧ lo ≤ (ds.length : Int) ∧ (ds.length : Int) ≤ hi := by
  unfold hasB at h
  cases e : itemsD d with
  | none =>
    rw [e] at h
    cases h
  | some ds =>
    rw [e] at h
    obtain ⟨h1, h2⟩ := Bool.and_eq_true_iff.mp h
    exact ⟨ds, rfl, of_decide_eq_true h1, of_decide_eq_true h2⟩
theorem wrongN_none {g : PyData → Bool} {d : PyData} {ds : List PyData} (e : itemsD d = some ds) (h : wrongN g d = none) : ds.all g = true := by
  unfold wrongN at h
  rw [e] at h
  exact firstBad_none ds 0 h
theorem noL_num {p : Nat} {d : PyData} (h : numOk p d = true) : noList d = true := by
  rcases num_form h with ⟨_, q, rfl, _⟩ | ⟨_, x, rfl, _⟩
  · rfl
  · rfl
theorem noLs_all {ds : List PyData} (h : ∀ d ∈ ds, noList d = true) : noLists ds = true := by
  induction ds with
  | nil => rfl
  | cons d ds ih =>
    show (noList d && noLists ds) = true
    rw [h d List.mem_cons_self, ih fun e m => h e (List.mem_cons_of_mem _ m)]
    rfl
theorem isRow_of {p : Nat} {n : Int} {d : PyData} (h : isRow p n d = true) : ∃ es, itemsD d = some es ∧ es.all (numOk p) = true ∧ (es.length : Int) = n ∧ noLists es = true := by
  obtain ⟨es, e1, e2, e3⟩ := numRow_of (Bool.and_eq_true_iff.mp h).1
  exact ⟨es, e1, e2, e3, noLs_all fun d m => noL_num (List.all_eq_true.mp e2 d m)⟩
/-- a space, as it stands in the heap -/
structure SpO (C : Addr) (H : Hp) (a f : Addr) (R S : PyData) (n : Int) : Prop where
  at_ : ∃ dx vp vw, H a = some (.ins C dx [("field", .ref f), ("points", vp), ("walls", vw), ("width", .int n)]) ∧ Dq H vp R ∧ Dq H vw S
theorem SpO.same {C : Addr} {H H' : Hp} {a f : Addr} {R S : PyData} {n : Int} (h : SpO C H a f R S n) (s : Same H H') : SpO C H' a f R S n := by
  obtain ⟨dx, vp, vw, h1, h2, h3⟩ := h.at_
  exact ⟨dx, vp, vw, s _ _ h1, h2.same s, h3.same s⟩
theorem SpO.ext {C : Addr} {H H' : Hp} {a f : Addr} {R S : PyData} {n : Int} (h : SpO C H a f R S n) (s : ExtN H H') : SpO C H' a f R S n := by
  obtain ⟨dx, vp, vw, h1, h2, h3⟩ := h.at_
  exact ⟨dx, vp, vw, s _ _ h1 (fun _ z => nomatch z), dq_ext s _ h2, dq_ext s _ h3⟩
/-- all is kept but the object under way and tables of code objects -/
def KeepX (a : Addr) (H H' : Hp) : Prop := ∀ b o, H b = some o → b ≠ a → (∀ ps, o ≠ .tbl ps) → H' b = some o
def sp_width_of (CB : Addr) : Sp := fun vs H Q E => ∃ (x : V) (d : PyData), vs = [x] ∧ Dq H x d ∧ (hasB d 1 6 = false → ∀ H', Same H H' → Raised2 CB "what" (.str "point") "index" (.int 0) H' E) ∧ (hasB d 1 6 = true → ∀ H', Same H H' → Q (.int (lenD d)) H')
def sp_as_tuples : Sp := fun vs H Q _ => ∃ (x : V) (d : PyData) (ds : List PyData), vs = [x] ∧ Dq H x d ∧ itemsD d = some ds ∧ ds.length ≤ 900 ∧ (∀ r ∈ ds, ∃ es, itemsD r = some es ∧ noLists es = true) ∧ ∀ l H', Same H H' → Dq H' (.ref l) (tupsD d) → Q (.ref l) H'
def sp_Space_init (CR CF C CB : Addr) (Pw : Addr × Addr) : Sp := fun vs H Q E => ∃ (a dx f : Addr) (p : Nat) (x y : V) (dp dw : PyData), vs = [.ref a, .ref f, x, y] ∧ H a = some (.ins C dx []) ∧ Fld CR CF H f p ∧ Dq H x dp ∧ Dq H y dw ∧ Tabs (lamT Pw) H ∧
  (∀ e i, spaceW p dp dw = some (e, i) → ∀ H', ExtN H H' → Tabs (lamT Pw) H' → Raised2 CB "what" (.str e) "index" (.int i) H' E) ∧
  (spaceW p dp dw = none → ∀ H', KeepX a H H' → Tabs (lamT Pw) H' → SpO C H' a f (tupsD dp) (tupsD dw) (lenD (headD dp)) → Q .non H')
section
variable {P : Program} {w : World} {K : PySem.W.Frag} {mg : Str → Option Value} {base : Heap} {cw Pw : Addr × Addr}
theorem ok_as_tuples (T : Txt K mg) : FnOk P w K mg base CX0 2 T.f_as_tuples T.d_as_tuples ["rows"] sp_as_tuples := by
  refine T.F_as_tuples.ok sc_as_tuples (fun vs H Q E h => ?_) (fun cdv A outer s H vs Q E hr h => ?_)
  · obtain ⟨x, d, ds, rfl, _⟩ := h
    rfl
  · obtain ⟨x, d, ds, rfl, kx, e, l9, hn, q⟩ := h
    refine ⟨_, (pss_one (ps_ret (pe_callTy call_tupD (by rfl) T.m_tuple (by decide +kernel) (pa_cons (pe_lc rfl sc_as_tuples.nd (pi_seq (pv 0)) (blkOk_by (own := [("row", 1)]) (N := ["rows", "row"]) (sc := defScope s_as_tuples) (by decide +kernel)) (fun _ _ _ _ _ => (pg_name (i := 1) sc_as_tuples.nd rfl (.inl rfl))) (fun _ _ _ _ _ => pts_nil) (fun _ _ _ _ _ => (pe_callTy call_tupD (by rfl) T.m_tuple (by decide +kernel) (pa_cons (pv 1) pa_nil)))) pa_nil)))), ?_⟩
    obtain ⟨a, xs, rfl, hxs, hsq⟩ := sq_of (K := K) kx e
    refine ret_cb_lc ?_
    refine lc_seqD (f := fun _ => true) (e := fun r => .tuple (rowOf r)) (fun Q h => ⟨_, rfl, h⟩) hsq hxs l9 (fun x => rfl) (fun i x d H' Q _ _ _ h => h _ fun _ _ z => z) (fun D i x d H' Q nD hd _ s k acc h => ?_) (fun D H1 nD s1 kd => ?_)
    · obtain ⟨es, e1, e2⟩ := hn d (List.mem_of_getElem? hd)
      obtain ⟨ac, hac⟩ := acc
      refine ⟨_, rfl, x, d, es, rfl, k, e1, fun l H2 s2 k2 => h _ _ s2 ?_⟩
      unfold rowOf
      rw [e1]
      exact dq_noL (s2 _ _ hac) _ e2 k2
    · rw [List.filter_eq_self.mpr fun _ _ => rfl] at kd
      refine ⟨.ref D, _, _, rfl, kd, rfl, fun l H2 s2 k2 => q l H2 (s1.trans s2) ?_⟩
      unfold tupsD
      show Dq H2 (.ref l) (.tuple (List.map _ ((itemsD d).getD [])))
      rw [e]
      exact k2
theorem fld_ne {CR CF C : Addr} {H : Hp} {f a dx : Addr} {p : Nat} (h : Fld CR CF H f p) (ha : H a = some (.ins C dx [])) : f ≠ a := fun z => by
  subst z
  by_cases c : p = 0
  · obtain ⟨dy, _, _, _, e, _⟩ := (h.fr c).at_
    rw [ha] at e
    cases e
  · obtain ⟨dy, e⟩ := (h.rs c).at_
    rw [ha] at e
    cases e
theorem KeepX.put {a : Addr} {H H1 : Hp} {o : HO} (k : KeepX a H H1) : KeepX a H (upd H1 a o) := fun b x e n t => by
  rw [upd_ne n]
  exact k b x e n t
theorem KeepX.same {a : Addr} {H H1 H2 : Hp} (k : KeepX a H H1) (s : Same H1 H2) : KeepX a H H2 := fun b o e n t => s _ _ (k b o e n t)
theorem KeepX.of {a : Addr} {H H1 : Hp} (k : ExtN H H1) : KeepX a H H1 := fun b o e n t => k b o e t
theorem tabs_put {Tt : List (Addr × Str)} {H : Hp} {a C dx : Addr} {fs : List (Str × V)} {o : HO} (ha : H a = some (.ins C dx fs)) (t : Tabs Tt H) : Tabs Tt (upd H a o) := fun p m => by
  obtain ⟨ps, h1, h2, h3⟩ := t p m
  refine ⟨ps, by rw [upd_ne (fun z => by rw [z, ha] at h1; cases h1)]; exact h1, h2, fun pos cv hc => ?_⟩
  obtain ⟨c, e1, e2⟩ := h3 pos cv hc
  exact ⟨c, e1, by rw [upd_ne (fun z => by rw [z, ha] at e2; cases e2)]; exact e2⟩
theorem rix_sq {K : PySem.W.Frag} {H : Hp} {a : Addr} {xs : List V} {i : Int} {v : V} {Q : VK} (h : Sq K H a xs) (e : atI xs i = some v) (q : Q v H) : rIx K (.ref a) (.int i) H Q :=
  h.elim (fun h => .inl ⟨a, xs, i, v, rfl, rfl, h, e, q⟩) fun h => .inr (.inl ⟨a, xs, i, v, rfl, rfl, h, e, q⟩)
theorem mk_space {CR CF C CB : Addr} {Pw : Addr × Addr} {H1 : Hp} {R : Addr → Hp → Prop} {E : XK} {f : Addr} {p : Nat} {x y : V} {dp dw : PyData} (hf : Fld CR CF H1 f p) (kx : Dq H1 x dp) (ky : Dq H1 y dw) (tb : Tabs (lamT Pw) H1)
    (hE : ∀ e i, spaceW p dp dw = some (e, i) → ∀ H', ExtN H1 H' → Tabs (lamT Pw) H' → Raised2 CB "what" (.str e) "index" (.int i) H' E)
    (hQ : spaceW p dp dw = none → ∀ H' a, ExtN H1 H' → Tabs (lamT Pw) H' → H1 a = none → SpO C H' a f (tupsD dp) (tupsD dw) (lenD (headD dp)) → R a H') :
    ∀ y' dx, H1 y' = none → H1 dx = none → dx ≠ y' → sp_Space_init CR CF C CB Pw (.ref y' :: ([.ref f, x, y] ++ [])) (upd (upd H1 dx (.own y')) y' (.ins C dx [])) (fun v H2 => v = .non ∧ R y' H2) E := fun y' dx nx nd ne => by
  have s0 : Same H1 (upd (upd H1 dx (.own y')) y' (.ins C dx [])) := Same.made nx nd fun b o e _ => e
  exact ⟨y', dx, f, p, x, y, dp, dw, rfl, upd_same, hf.same s0, kx.same s0, ky.same s0, tb.ext s0, fun e i h H' k t => hE e i h H' ((ExtN.of s0).trans k) t,
    fun h H' k t o => ⟨rfl, hQ h H' y' (fun b u e n => k b u (s0 _ _ e) (fun z => by rw [z, nx] at e; cases e) n) t nx o⟩⟩
end
end K26
set_option Elab.async false
set_option linter.all false
set_option maxRecDepth 100000
set_option maxHeartbeats 4000000
/-! how long a shown list of pairs of small numbers is -/
namespace TkS
open PySem PySem.Spec PyProof.Rows L2
theorem small_pair {a b : Int} (a0 : 0 ≤ a) (a1 : a < 5) (b0 : 0 ≤ b) (b1 : b < 5) :
    (PyData.shown (.tuple [.int a, .int b])).length ≤ 10 ∧ (PyData.shown (.list [.int a, .int b])).length ≤ 10 ∧ PyData.showable (.tuple [.int a, .int b]) = true ∧ PyData.showable (.list [.int a, .int b]) = true := by
  have ha : a = 0 ∨ a = 1 ∨ a = 2 ∨ a = 3 ∨ a = 4 := by omega
  have hb : b = 0 ∨ b = 1 ∨ b = 2 ∨ b = 3 ∨ b = 4 := by omega
  rcases ha with rfl | rfl | rfl | rfl | rfl <;> rcases hb with rfl | rfl | rfl | rfl | rfl <;> decide +kernel
theorem textFrom_le (n : Nat) : ∀ (ts : List Str) (k : Nat) (acc : Str), (∀ t ∈ ts, t.length ≤ n) → (textFrom k acc ts).length ≤ acc.length + ts.length * (n + 2)
  | [], _, acc, _ => by
    show acc.length ≤ acc.length + _
    omega
  | t :: r, k, acc, h => by
    have ih := textFrom_le n r (k + 1) (acc ++ (if k > 0 then ", " else "" : String) ++ t) fun u m => h u (List.mem_cons_of_mem _ m)
    have e : (acc ++ (if k > 0 then ", " else "" : String) ++ t).length = acc.length + (if k > 0 then 2 else 0) + t.length := by
      rw [strLen_append, strLen_append]
      split <;> rfl
    have ht := h t List.mem_cons_self
    have e3 : (t :: r).length * (n + 2) = r.length * (n + 2) + (n + 2) := by
      rw [List.length_cons, Nat.succ_mul]
    rw [e] at ih
    show (textFrom (k + 1) _ r).length ≤ _
    rw [e3]
    have hb : (if k > 0 then 2 else 0 : Nat) ≤ 2 := by split <;> omega
    omega
def SmallPair (d : PyData) : Prop := ∃ a b : Int, 0 ≤ a ∧ a < 5 ∧ 0 ≤ b ∧ b < 5 ∧ (d = .tuple [.int a, .int b] ∨ d = .list [.int a, .int b])
theorem small_show {d : PyData} (h : SmallPair d) : d.shown.length ≤ 10 ∧ d.showable = true ∧ d.hasDict = false ∧ d.depth ≤ 1 := by
  obtain ⟨a, b, a0, a1, b0, b1, rfl | rfl⟩ := h
  · obtain ⟨h1, _, h3, _⟩ := small_pair a0 a1 b0 b1
    exact ⟨h1, h3, by simp [PyData.hasDict, PyData.hasDictAll], by simp [PyData.depth, PyData.depthAll]⟩
  · obtain ⟨_, h2, _, h4⟩ := small_pair a0 a1 b0 b1
    exact ⟨h2, h4, by simp [PyData.hasDict, PyData.hasDictAll], by simp [PyData.depth, PyData.depthAll]⟩
theorem shown_pairs {ds : List PyData} (h : ∀ d ∈ ds, SmallPair d) (hl : ds.length ≤ 30) : (PyData.list ds).showable = true ∧ (PyData.list ds).hasDict = false ∧ (PyData.list ds).depth ≤ 60 ∧ (PyData.list ds).shown.length ≤ sizeLine := by
  have key : PyData.showableAll ds = true ∧ PyData.hasDictAll ds = false ∧ PyData.depthAll ds ≤ 1 ∧ (∀ t ∈ PyData.shownAll ds, t.length ≤ 10) ∧ (PyData.shownAll ds).length = ds.length := by
    clear hl
    induction ds with
    | nil => exact ⟨by simp [PyData.showableAll], by simp [PyData.hasDictAll], by simp [PyData.depthAll], by simp [PyData.shownAll], by simp [PyData.shownAll]⟩
    | cons d ds ih =>
      obtain ⟨i1, i2, i3, i4, i5⟩ := ih fun x m => h x (List.mem_cons_of_mem _ m)
      obtain ⟨s1, s2, s3, s4⟩ := small_show (h d List.mem_cons_self)
      refine ⟨by simp [PyData.showableAll, s2, i1], by simp [PyData.hasDictAll, s3, i2], by simp only [PyData.depthAll]; omega, fun t m => ?_, by simp [PyData.shownAll, i5]⟩
      rw [PyData.shownAll] at m
      rcases List.mem_cons.mp m with e | e
      · rw [e]
        exact s1
      · exact i4 t e
  obtain ⟨k1, k2, k3, k4, k5⟩ := key
  refine ⟨by simp [PyData.showable, k1], by simp [PyData.hasDict, k2], by simp only [PyData.depth]; omega, ?_⟩
  have e := textFrom_le 10 (PyData.shownAll ds) 0 "[" k4
  rw [k5] at e
  have e1 : (PyData.list ds).shown = textFrom 0 "[" (PyData.shownAll ds) ++ "]" := by
    simp only [PyData.shown, listText]
  rw [e1, strLen_append]
  have e2 : (("[" : Str)).length = 1 := rfl
  have e3 : (("]" : Str)).length = 1 := rfl
  rw [e2] at e
  rw [e3]
  have : 1000 ≤ sizeLine := by decide
  omega
end TkS
set_option Elab.async false
set_option linter.all false
set_option maxRecDepth 100000
set_option maxHeartbeats 4000000
set_option exponentiation.threshold 5000
/-! data of bounded depth, width and numbers: it can be laid, shown, compared -/
namespace TkS
open PySem PySem.Spec PyProof.Rows L2
def mild : Nat → PyData → Bool
  | _, .none => true
  | _, .bool _ => true
  | _, .int i => decide (i.natAbs < 10 ^ 121)
  | _, .str x => PyData.canLay0 (.str x) && decide ((PyData.shown (.str x)).length ≤ 130)
  | n + 1, .list ds => decide (ds.length ≤ 40) && ds.all (mild n)
  | n + 1, .tuple ds => decide (ds.length ≤ 40) && ds.all (mild n)
  | _, _ => false
theorem int_len {i : Int} (h : i.natAbs < 10 ^ 121) : (PyData.shown (.int i)).length ≤ 130 := by
  have e : PyData.shown (.int i) = Str.ofString (toString i) := by simp only [PyData.shown]
  rw [e, PySem.ofString_length]
  have nat : ∀ n : Nat, n < 10 ^ 121 → n.repr.length ≤ 121 := fun n hn => by
    have : n.repr = String.ofList (Nat.toDigits 10 n) := rfl
    rw [this, String.length_ofList]
    exact (Nat.length_toDigits_le_iff (by decide) (by decide)).mpr hn
  have e2 : toString i = i.repr := rfl
  rw [e2]
  cases i with
  | ofNat m =>
    have := nat m h
    show m.repr.length ≤ 130
    omega
  | negSucc m =>
    have := nat (m + 1) h
    show ("-" ++ (m + 1).repr).length ≤ 130
    rw [String.length_append]
    have : ("-" : String).length = 1 := by decide
    omega
def bnd : Nat → Nat
  | 0 => 130
  | n + 1 => 40 * (bnd n + 2) + 10
theorem bnd_ge : ∀ n, 130 ≤ bnd n
  | 0 => Nat.le_refl _
  | n + 1 => by
    have := bnd_ge n
    show 130 ≤ 40 * (bnd n + 2) + 10
    omega
theorem join_le (n : Nat) : ∀ ts : List Str, (∀ t ∈ ts, t.length ≤ n) → (Str.join ", " ts).length ≤ ts.length * (n + 2)
  | [], _ => by
    show (0 : Nat) ≤ _
    omega
  | [x], h => by
    show x.length ≤ _
    have := h x List.mem_cons_self
    rw [List.length_singleton]
    omega
  | x :: y :: r, h => by
    have ih := join_le n (y :: r) fun t m => h t (List.mem_cons_of_mem _ m)
    show (x ++ ", " ++ Str.join ", " (y :: r)).length ≤ _
    have e2 : ((", " : String) : Str).length = 2 := rfl
    rw [strLen_append, strLen_append, e2]
    have := h x List.mem_cons_self
    have e3 : (x :: y :: r).length * (n + 2) = (y :: r).length * (n + 2) + (n + 2) := by
      rw [List.length_cons, Nat.succ_mul]
    rw [e3]
    omega
structure Mild (n : Nat) (d : PyData) : Prop where
  lay : d.canLay0 = true
  dep : d.depth ≤ n
  sh : d.showable = true
  len : d.shown.length ≤ bnd n
theorem log_small {i : Int} (h : i.natAbs < 10 ^ 121) : i.natAbs.log2 < 1920 := by
  have : i.natAbs < 2 ^ 1920 := Nat.lt_of_lt_of_le h (by decide)
  by_cases z : i.natAbs = 0
  · rw [z]
    decide
  · exact (Nat.log2_lt z).mpr this
theorem mild_is : ∀ (n : Nat) (d : PyData), mild n d = true → Mild n d
  | n, .none, _ => ⟨by simp [PyData.canLay0], by simp [PyData.depth], by simp [PyData.showable], by
    have : (PyData.shown .none).length = 4 := by decide +kernel
    have := bnd_ge n
    omega⟩
  | n, .bool b, _ => ⟨by simp [PyData.canLay0], by simp [PyData.depth], by simp [PyData.showable], by
    have : (PyData.shown (.bool b)).length ≤ 5 := by cases b <;> decide +kernel
    have := bnd_ge n
    omega⟩
  | n, .int i, h => ⟨by simp [PyData.canLay0], by simp [PyData.depth], by
    have h' : i.natAbs < 10 ^ 121 := by
      unfold mild at h
      exact of_decide_eq_true h
    simp only [PyData.showable]
    exact decide_eq_true (log_small h'), by
    have h' : i.natAbs < 10 ^ 121 := by
      unfold mild at h
      exact of_decide_eq_true h
    exact Nat.le_trans (int_len h') (bnd_ge n)⟩
  | n, .str x, h => by
    have h' : (PyData.canLay0 (.str x) && decide ((PyData.shown (.str x)).length ≤ 130)) = true := by
      unfold mild at h
      exact h
    rw [Bool.and_eq_true] at h'
    exact ⟨h'.1, by simp [PyData.depth], by simp [PyData.showable], Nat.le_trans (of_decide_eq_true h'.2) (bnd_ge n)⟩
  | 0, .list ds, h => by
    unfold mild at h
    cases h
  | 0, .tuple ds, h => by
    unfold mild at h
    cases h
  | n, .dict k, h => by
    unfold mild at h
    cases n <;> cases h
  | n + 1, .list ds, h => by
    have h' : (decide (ds.length ≤ 40) && ds.all (mild n)) = true := by
      unfold mild at h
      exact h
    rw [Bool.and_eq_true] at h'
    have hl := of_decide_eq_true h'.1
    obtain ⟨k1, k2, k3, k4, k5⟩ := mild_all n ds (fun d m => mild_is n d (List.all_eq_true.mp h'.2 d m))
    refine ⟨by simp [PyData.canLay0, k1], by simp only [PyData.depth]; omega, by simp [PyData.showable, k3], ?_⟩
    have e1 : (PyData.list ds).shown = textFrom 0 "[" (PyData.shownAll ds) ++ "]" := by simp only [PyData.shown, listText]
    have e := textFrom_le (bnd n) (PyData.shownAll ds) 0 "[" k4
    rw [e1, strLen_append]
    have e2 : (("[" : Str)).length = 1 := rfl
    have e3 : (("]" : Str)).length = 1 := rfl
    rw [k5, e2] at e
    rw [e3]
    have : ds.length * (bnd n + 2) ≤ 40 * (bnd n + 2) := Nat.mul_le_mul_right _ hl
    show _ ≤ 40 * (bnd n + 2) + 10
    omega
  | n + 1, .tuple ds, h => by
    have h' : (decide (ds.length ≤ 40) && ds.all (mild n)) = true := by
      unfold mild at h
      exact h
    rw [Bool.and_eq_true] at h'
    have hl := of_decide_eq_true h'.1
    obtain ⟨k1, k2, k3, k4, k5⟩ := mild_all n ds (fun d m => mild_is n d (List.all_eq_true.mp h'.2 d m))
    refine ⟨by simp [PyData.canLay0, k1], by simp only [PyData.depth]; omega, by simp [PyData.showable, k3], ?_⟩
    have e := join_le (bnd n) (PyData.shownAll ds) k4
    have e1 : (PyData.tuple ds).shown = ("(" : Str) ++ Str.join ", " (PyData.shownAll ds) ++ (if (PyData.shownAll ds).length == 1 then ",)" else ")" : String) := by simp only [PyData.shown, tupleText]
    rw [e1, strLen_append, strLen_append]
    have e2 : (("(" : Str)).length = 1 := rfl
    have e3 : (((if (PyData.shownAll ds).length == 1 then ",)" else ")" : String) : Str)).length ≤ 2 := by split <;> decide
    rw [e2]
    rw [k5] at e
    have : ds.length * (bnd n + 2) ≤ 40 * (bnd n + 2) := Nat.mul_le_mul_right _ hl
    show _ ≤ 40 * (bnd n + 2) + 10
    omega
where mild_all (n : Nat) : ∀ ds : List PyData, (∀ d ∈ ds, Mild n d) → PyData.canLayAll0 ds = true ∧ PyData.depthAll ds ≤ n ∧ PyData.showableAll ds = true ∧ (∀ t ∈ PyData.shownAll ds, t.length ≤ bnd n) ∧ (PyData.shownAll ds).length = ds.length
  | [], _ => ⟨by simp [PyData.canLayAll0], by simp [PyData.depthAll], by simp [PyData.showableAll], by simp [PyData.shownAll], by simp [PyData.shownAll]⟩
  | d :: ds, h => by
    obtain ⟨k1, k2, k3, k4, k5⟩ := mild_all n ds fun x m => h x (List.mem_cons_of_mem _ m)
    obtain ⟨m1, m2, m3, m4⟩ := h d List.mem_cons_self
    refine ⟨by simp [PyData.canLayAll0, m1, k1], by simp only [PyData.depthAll]; omega, by simp [PyData.showableAll, m3, k3], fun t m => ?_, by simp [PyData.shownAll, k5]⟩
    rw [PyData.shownAll] at m
    rcases List.mem_cons.mp m with e | e
    · rw [e]
      exact m4
    · exact k4 t e
theorem Mild.shaped {n : Nat} {d : PyData} (h : Mild n d) (hn : n ≤ 60) : SeqAt.shaped d = true := by
  unfold SeqAt.shaped
  rw [h.lay, decide_eq_true (by have := h.dep; omega)]
  rfl
theorem Mild.noDict {n : Nat} {d : PyData} (h : Mild n d) : d.hasDict = false := PyData.hasDict_of_canLay d h.lay
theorem Mild.fits {d : PyData} (h : Mild 3 d) : d.shown.length ≤ sizeLine := Nat.le_trans h.len (by decide)
theorem mild_items {n : Nat} {d : PyData} {ds : List PyData} (h : mild (n + 1) d = true) (e : itemsD d = some ds) : ds.length ≤ 40 ∧ ∀ x ∈ ds, mild n x = true := by
  cases d with
  | list es =>
    cases e
    unfold mild at h
    rw [Bool.and_eq_true] at h
    exact ⟨of_decide_eq_true h.1, fun x m => List.all_eq_true.mp h.2 x m⟩
  | tuple es =>
    cases e
    unfold mild at h
    rw [Bool.and_eq_true] at h
    exact ⟨of_decide_eq_true h.1, fun x m => List.all_eq_true.mp h.2 x m⟩
  | _ => cases e
theorem mild_tup {n : Nat} {ds : List PyData} (hl : ds.length ≤ 40) (h : ∀ x ∈ ds, mild n x = true) : mild (n + 1) (.tuple ds) = true := by
  unfold mild
  rw [decide_eq_true hl, List.all_eq_true.mpr h]
  rfl
theorem mild_lst {n : Nat} {ds : List PyData} (hl : ds.length ≤ 40) (h : ∀ x ∈ ds, mild n x = true) : mild (n + 1) (.list ds) = true := by
  unfold mild
  rw [decide_eq_true hl, List.all_eq_true.mpr h]
  rfl
theorem mild_up : ∀ (n : Nat) (d : PyData), mild n d = true → mild (n + 1) d = true
  | n, .none, _ => by unfold mild; rfl
  | n, .bool b, _ => by unfold mild; rfl
  | n, .int i, h => by
    unfold mild at h ⊢
    exact h
  | n, .str x, h => by
    unfold mild at h ⊢
    exact h
  | 0, .list ds, h => by
    unfold mild at h
    cases h
  | 0, .tuple ds, h => by
    unfold mild at h
    cases h
  | n, .dict k, h => by
    unfold mild at h
    cases n <;> cases h
  | n + 1, .list ds, h => by
    obtain ⟨hl, hi⟩ := mild_items h rfl
    exact mild_lst hl fun x m => mild_up n x (hi x m)
  | n + 1, .tuple ds, h => by
    obtain ⟨hl, hi⟩ := mild_items h rfl
    exact mild_tup hl fun x m => mild_up n x (hi x m)
theorem mild_filter {n : Nat} {ds : List PyData} {f : PyData → Bool} (hl : ds.length ≤ 40) (h : ∀ x ∈ ds, mild n x = true) : mild (n + 1) (.list (ds.filter f)) = true :=
  mild_lst (Nat.le_trans (List.length_filter_le _ _) hl) fun x m => h x (List.mem_filter.mp m).1
end TkS
set_option Elab.async false
set_option linter.all false
set_option maxRecDepth 100000
set_option maxHeartbeats 4000000
/-! repr of data of bounded depth, width and numbers -/
namespace TkS
open PySem PySem.Spec PyProof.Rows L2
def rReprM : List V → Hp → VK → Prop := fun xs H Q => ∃ x d, xs = [x] ∧ Dq H x d ∧ mild 3 d = true ∧ Q (.str d.shown) H
theorem call_reprM {X : Cx} (hg : X.A.guards = some []) (hu : X.A.units + 65 < cLine) : CallR X (.builtin "repr") rReprM := by
  intro pins s σ H xs us Q I r h
  obtain ⟨x, d, rfl, k, hm, q⟩ := h
  have M := mild_is 3 d hm
  have big : ∀ a, x = .ref a → wpAny (model X.prog X.w) X.A (call (.builtin "repr") us) (EP X pins σ Q) X.xe s := fun a e => by
    subst e
    exact call_reprD hg hu pins s σ H _ us Q I r ⟨a, d, rfl, k.dp, M.sh, M.noDict, Nat.le_trans M.dep (by decide), M.fits, q⟩
  cases k with
  | non =>
    obtain ⟨u, rfl, ru⟩ := vals1 r
    cases ru
    have e : PyData.shown .none = ("None" : Str) := by simp only [PyData.shown]
    rw [e] at q
    exact PySem.P.repr_of_none ⟨.str _, H, I.tok _, ⟨_, rfl⟩, q⟩
  | bl b =>
    obtain ⟨u, rfl, ru⟩ := vals1 r
    cases ru
    have e : PyData.shown (.bool b) = if b = true then ("True" : Str) else ("False" : Str) := by simp only [PyData.shown]
    rw [e] at q
    exact PySem.P.repr_of_bool ⟨.str _, H, I.tok _, ⟨_, rfl⟩, q⟩
  | int i =>
    obtain ⟨u, rfl, t, rfl⟩ := vals1 r
    have e : PyData.shown (.int i) = Str.ofString (toString i) := by simp only [PyData.shown]
    rw [e] at q
    have hz : i.natAbs.log2 < 1920 := by
      have := M.sh
      simp only [PyData.showable] at this
      exact of_decide_eq_true this
    exact PySem.P.repr_of_int hz ⟨.str _, H, I.tok _, ⟨_, rfl⟩, q⟩
  | str z =>
    obtain ⟨u, rfl, t, rfl⟩ := vals1 r
    have e : PyData.shown (.str z) = reprText z := by simp only [PyData.shown]
    have hs := M.fits
    rw [e] at q hs
    exact PySem.P.repr_of_str ⟨.str _, H, I.tok _, ⟨_, rfl⟩, q⟩ hs
  | lst h1 h2 => exact big _ rfl
  | tup h1 h2 => exact big _ rfl
end TkS
set_option Elab.async false
set_option linter.all false
set_option maxRecDepth 100000
set_option maxHeartbeats 4000000
set_option exponentiation.threshold 5000
/-! data of bounded depth; repr of up to 64 numbers; list() of data; a callee that raises in no case -/
namespace TkS
open PySem PySem.Spec PyProof.Rows L2
def low : Nat → PyData → Bool
  | _, .none => true
  | _, .bool _ => true
  | _, .int _ => true
  | _, .str x => PyData.canLay0 (.str x)
  | n + 1, .list ds => ds.all (low n)
  | n + 1, .tuple ds => ds.all (low n)
  | _, _ => false
theorem low_is : ∀ (n : Nat) (d : PyData), low n d = true → d.canLay0 = true ∧ d.depth ≤ n
  | n, .none, _ => ⟨by simp [PyData.canLay0], by simp [PyData.depth]⟩
  | n, .bool b, _ => ⟨by simp [PyData.canLay0], by simp [PyData.depth]⟩
  | n, .int i, _ => ⟨by simp [PyData.canLay0], by simp [PyData.depth]⟩
  | n, .str x, h => by
    unfold low at h
    exact ⟨h, by simp [PyData.depth]⟩
  | 0, .list ds, h => by
    unfold low at h
    cases h
  | 0, .tuple ds, h => by
    unfold low at h
    cases h
  | n, .dict k, h => by
    unfold low at h
    cases n <;> cases h
  | n + 1, .list ds, h => by
    unfold low at h
    obtain ⟨k1, k2⟩ := low_all n ds fun d m => low_is n d (List.all_eq_true.mp h d m)
    exact ⟨by simp [PyData.canLay0, k1], by simp only [PyData.depth]; omega⟩
  | n + 1, .tuple ds, h => by
    unfold low at h
    obtain ⟨k1, k2⟩ := low_all n ds fun d m => low_is n d (List.all_eq_true.mp h d m)
    exact ⟨by simp [PyData.canLay0, k1], by simp only [PyData.depth]; omega⟩
where low_all (n : Nat) : ∀ ds : List PyData, (∀ d ∈ ds, d.canLay0 = true ∧ d.depth ≤ n) → PyData.canLayAll0 ds = true ∧ PyData.depthAll ds ≤ n
  | [], _ => ⟨by simp [PyData.canLayAll0], by simp [PyData.depthAll]⟩
  | d :: ds, h => by
    obtain ⟨k1, k2⟩ := low_all n ds fun x m => h x (List.mem_cons_of_mem _ m)
    obtain ⟨m1, m2⟩ := h d List.mem_cons_self
    exact ⟨by simp [PyData.canLayAll0, m1, k1], by simp only [PyData.depthAll]; omega⟩
theorem low_shp {n : Nat} {d : PyData} (h : low n d = true) (hn : n ≤ 60) : SeqAt.shaped d = true := by
  obtain ⟨k1, k2⟩ := low_is n d h
  unfold SeqAt.shaped
  rw [k1, decide_eq_true (by omega)]
  rfl
theorem low_refl {n : Nat} {d : PyData} (h : low n d = true) : PyData.eqv d d = true := SeqAt.eqv_refl d (low_is n d h).1
theorem low_tup {n : Nat} {ds : List PyData} (h : ∀ x ∈ ds, low n x = true) : low (n + 1) (.tuple ds) = true := by
  unfold low
  exact List.all_eq_true.mpr h
theorem low_lst {n : Nat} {ds : List PyData} (h : ∀ x ∈ ds, low n x = true) : low (n + 1) (.list ds) = true := by
  unfold low
  exact List.all_eq_true.mpr h
theorem low_up : ∀ (n : Nat) (d : PyData), low n d = true → low (n + 1) d = true
  | n, .none, _ => by unfold low; rfl
  | n, .bool b, _ => by unfold low; rfl
  | n, .int i, _ => by unfold low; rfl
  | n, .str x, h => by
    unfold low at h ⊢
    exact h
  | 0, .list ds, h => by
    unfold low at h
    cases h
  | 0, .tuple ds, h => by
    unfold low at h
    cases h
  | n, .dict k, h => by
    unfold low at h
    cases n <;> cases h
  | n + 1, .list ds, h => by
    unfold low at h
    exact low_lst fun x m => low_up n x (List.all_eq_true.mp h x m)
  | n + 1, .tuple ds, h => by
    unfold low at h
    exact low_tup fun x m => low_up n x (List.all_eq_true.mp h x m)
theorem low_int {n : Nat} {i : Int} : low n (.int i) = true := by unfold low; rfl
theorem low_ints (ns : List Int) : low 1 (.tuple (ns.map PyData.int)) = true := low_tup fun x m => by
  obtain ⟨i, _, rfl⟩ := List.mem_map.mp m
  exact low_int
theorem low_intsL (ns : List Int) : low 1 (.list (ns.map PyData.int)) = true := low_lst fun x m => by
  obtain ⟨i, _, rfl⟩ := List.mem_map.mp m
  exact low_int
def rReprI : List V → Hp → VK → Prop := fun xs H Q => ∃ (x : V) (d : PyData) (ns : List Int), xs = [x] ∧ Dq H x d ∧ itemsD d = some (ns.map PyData.int) ∧ ns.length ≤ 64 ∧ (∀ n ∈ ns, n.natAbs < 10 ^ 121) ∧ Q (.str d.shown) H
theorem call_reprI {X : Cx} (hg : X.A.guards = some []) (hu : X.A.units + 65 < cLine) : CallR X (.builtin "repr") rReprI := by
  intro pins s σ H xs us Q I r h
  obtain ⟨x, d, ns, rfl, k, e, hl, hs, q⟩ := h
  obtain ⟨k1, k2, k3, k4, k5⟩ := mild_is.mild_all 0 (ns.map PyData.int) (fun d m => by
    obtain ⟨i, hi, rfl⟩ := List.mem_map.mp m
    refine mild_is 0 _ ?_
    unfold mild
    exact decide_eq_true (hs i hi))
  have ll : (PyData.shownAll (ns.map PyData.int)).length ≤ 64 := by rw [k5, List.length_map]; exact hl
  have b0 : bnd 0 = 130 := rfl
  rw [b0] at k4
  cases k with
  | lst h1 h2 =>
    cases e
    refine call_reprD hg hu pins s σ H _ us Q I r ⟨_, _, rfl, (Dq.lst h1 h2).dp, by simp [PyData.showable, k3], PyData.hasDict_of_canLay _ (by simp [PyData.canLay0, k1]), by simp only [PyData.depth]; omega, ?_, q⟩
    have e1 : (PyData.list (ns.map PyData.int)).shown = textFrom 0 "[" (PyData.shownAll (ns.map PyData.int)) ++ "]" := by simp only [PyData.shown, listText]
    have e := textFrom_le 130 (PyData.shownAll (ns.map PyData.int)) 0 "[" k4
    rw [e1, strLen_append]
    have e2 : (("[" : Str)).length = 1 := rfl
    have e3 : (("]" : Str)).length = 1 := rfl
    rw [e2] at e
    rw [e3, sizeLine_eq]
    have : (PyData.shownAll (ns.map PyData.int)).length * (130 + 2) ≤ 64 * (130 + 2) := Nat.mul_le_mul_right _ ll
    omega
  | tup h1 h2 =>
    cases e
    refine call_reprD hg hu pins s σ H _ us Q I r ⟨_, _, rfl, (Dq.tup h1 h2).dp, by simp [PyData.showable, k3], PyData.hasDict_of_canLay _ (by simp [PyData.canLay0, k1]), by simp only [PyData.depth]; omega, ?_, q⟩
    have e := join_le 130 (PyData.shownAll (ns.map PyData.int)) k4
    have e1 : (PyData.tuple (ns.map PyData.int)).shown = ("(" : Str) ++ Str.join ", " (PyData.shownAll (ns.map PyData.int)) ++ (if (PyData.shownAll (ns.map PyData.int)).length == 1 then ",)" else ")" : String) := by simp only [PyData.shown, tupleText]
    rw [e1, strLen_append, strLen_append]
    have e2 : (("(" : Str)).length = 1 := rfl
    have e3 : (((if (PyData.shownAll (ns.map PyData.int)).length == 1 then ",)" else ")" : String) : Str)).length ≤ 2 := by split <;> decide
    rw [e2, sizeLine_eq]
    have : (PyData.shownAll (ns.map PyData.int)).length * (130 + 2) ≤ 64 * (130 + 2) := Nat.mul_le_mul_right _ ll
    omega
  | _ => cases e
/-- list(x), x a list or a tuple of data -/
def rLstD : List V → Hp → VK → Prop := fun xs H Q => ∃ x d ds, xs = [x] ∧ Dq H x d ∧ itemsD d = some ds ∧ ∀ l H', Same H H' → H l = none → Dq H' (.ref l) (.list ds) → Q (.ref l) H'
theorem call_lstD {X : Cx} : CallR X (.type "list") rLstD := by
  intro pins s σ H vs us Q I r h
  refine call_list_of pins s σ H vs us Q I r ?_
  obtain ⟨x, d, ds, rfl, k, e, q⟩ := h
  cases k with
  | lst h1 h2 =>
    cases e
    exact ⟨_, _, rfl, .inl (SqL.of h1), fun l nl => q l _ (same_new nl) nl (.lst upd_same (DqAll.same (same_new nl) _ h2))⟩
  | tup h1 h2 =>
    cases e
    exact ⟨_, _, rfl, .inr (SqT.of h1), fun l nl => q l _ (same_new nl) nl (.lst upd_same (DqAll.same (same_new nl) _ h2))⟩
  | _ => cases e
theorem passE0 {P : Program} {w : World} {X : Cx} : Passes (L2.CX P w) X E0 := fun _ _ _ _ _ _ _ h => by
  obtain ⟨_, _, _, _, _, _, _, _, _, _, _, _, z⟩ := h
  exact z.elim
end TkS
set_option Elab.async false
set_option linter.all false
set_option maxRecDepth 100000
set_option maxHeartbeats 4000000
set_option exponentiation.threshold 5000
set_option pp.maxSteps 900
namespace K26
open PySem PySem.Spec PyProof.Rows L2 TkS LamX NdefX
theorem nb_mod {p k : Nat} {z : Int} (p0 : p ≠ 0) : Nb p k (.int (z % (p : Int))) := by
  have h0 : 0 ≤ z % (p : Int) := Int.emod_nonneg _ (by omega)
  have h1 : z % (p : Int) < (p : Int) := Int.emod_lt_of_pos _ (by omega)
  obtain ⟨n, e⟩ : ∃ n : Nat, z % (p : Int) = (n : Int) := ⟨(z % (p : Int)).toNat, by omega⟩
  rw [e]
  exact .rs p0 (by omega)
theorem timesD_nb {p m n : Nat} {a b : PyData} (na : Nb p m a) (nb : Nb p n b) : Nb p (m + n) (timesD p a b) := by
  unfold timesD
  cases na with
  | @fr k r a1 a2 a3 =>
    cases nb with
    | @fr k t b1 b2 b3 =>
      rw [if_pos rfl]
      obtain ⟨f1, f2⟩ := low_fin (mul_ne a1.1 b1.1) (Fin.mul a2 b2) (Fin.mul a3 b3)
      exact .fr (low_ok (mul_ne a1.1 b1.1)).1 f1 f2
    | rs n _ => exact absurd rfl n
  | rs n _ =>
    rw [if_neg n]
    exact nb_mod n
theorem fin_add {k m : Nat} {x y : Int} (hx : Fin k x) (hy : Fin k y) (l : k + 1 ≤ m) : Fin m (x + y) ∧ Fin m (x - y) := by
  have e : 2 ^ (k + 1) ≤ 2 ^ m := Nat.pow_le_pow_right (by decide) l
  unfold Fin at *
  rw [Nat.pow_succ] at e
  omega
theorem nb_lowS {t b : Int} {m : Nat} (b0 : b ≠ 0) (ht : Fin m t) (hb : Fin m b) : Nb 0 m (frD (low t b)) := by
  obtain ⟨f1, f2⟩ := low_fin b0 ht hb
  exact .fr (low_ok b0).1 f1 f2
theorem plusD_nb {p m n : Nat} {a b : PyData} (na : Nb p m a) (nb : Nb p n b) : Nb p (m + n + 1) (plusD p a b) := by
  unfold plusD
  cases na with
  | @fr k r a1 a2 a3 =>
    cases nb with
    | @fr k t b1 b2 b3 =>
      rw [if_pos rfl]
      refine nb_lowS (mul_ne a1.1 b1.1) (fin_add (Fin.mul a2 b3) (fin_up (Fin.mul b2 a3) (by omega)) (Nat.le_refl _)).1 (fin_up (Fin.mul a3 b3) (by omega))
    | rs n _ => exact absurd rfl n
  | rs n _ =>
    rw [if_neg n]
    exact nb_mod n
/-- a point's number at a wall -/
def dotD (p : Nat) : List PyData → List PyData → PyData → PyData
  | x :: xs, y :: ys, a => dotD p xs ys (plusD p a (timesD p x y))
  | _, _, a => a
theorem dot_snoc {p : Nat} {x y : PyData} : ∀ {xs ys : List PyData} {a : PyData}, xs.length = ys.length → dotD p (xs ++ [x]) (ys ++ [y]) a = plusD p (dotD p xs ys a) (timesD p x y)
  | [], [], _, _ => rfl
  | [], _ :: _, _, h => by simp at h
  | _ :: _, [], _, h => by simp at h
  | _ :: xs, _ :: ys, a, h => by
    show dotD p (xs ++ [x]) (ys ++ [y]) _ = plusD p (dotD p xs ys _) _
    exact dot_snoc (by simpa using h)
theorem dot_nb {p j : Nat} : ∀ {xs ys : List PyData} {a : PyData}, (∀ d ∈ xs, Nb p 150 d) → (∀ d ∈ ys, Nb p 150 d) → Nb p j a → Nb p (j + 301 * xs.length) (dotD p xs ys a)
  | [], _, a, _, _, n => n.up (Nat.le_add_right _ _)
  | _ :: _, [], a, _, _, n => n.up (Nat.le_add_right _ _)
  | x :: xs, y :: ys, a, hx, hy, n => by
    have t := timesD_nb (hx x List.mem_cons_self) (hy y List.mem_cons_self)
    have := dot_nb (j := j + (150 + 150) + 1) (fun d m => hx d (List.mem_cons_of_mem _ m)) (fun d m => hy d (List.mem_cons_of_mem _ m)) (plusD_nb n t)
    refine this.up ?_
    rw [List.length_cons]
    omega
theorem dot_take {p : Nat} {xs ys : List PyData} {i : Nat} {x y : PyData} (l : xs.length = ys.length) (hx : xs[i]? = some x) (hy : ys[i]? = some y) (a : PyData) : dotD p (xs.take (i + 1)) (ys.take (i + 1)) a = plusD p (dotD p (xs.take i) (ys.take i) a) (timesD p x y) := by
  rw [List.take_add_one, List.take_add_one, hx, hy]
  exact dot_snoc (by rw [List.length_take, List.length_take, l])
theorem nb_fr {k : Nat} {q : Int × Int} (h : Nb 0 k (frD q)) : Lowest q ∧ Fin k q.1 ∧ Fin k q.2 := by
  generalize e : frD q = d at h
  generalize ez : 0 = z at h
  cases h with
  | fr a b c =>
    rw [frD_inj e]
    exact ⟨a, b, c⟩
  | rs n _ => exact absurd ez.symm n
theorem sqs_of' {K : PySem.W.Frag} {H : Hp} {a : Addr} {xs : List V} (h : Sq K H a xs) : ∃ t, RZM.SqS t K H a xs := h.elim (fun h => ⟨false, h⟩) (fun h => ⟨true, h⟩)
def sp_product_sum (CR CF : Addr) : Sp := fun vs H Q _ => ∃ (f : Addr) (p : Nat) (x y : V) (dx dy : PyData) (ds es : List PyData), vs = [.ref f, x, y] ∧ Fld CR CF H f p ∧ Dq H x dx ∧ itemsD dx = some ds ∧ Dq H y dy ∧ itemsD dy = some es ∧ ds.length = es.length ∧ ds.length ≤ 6 ∧ (∀ d ∈ ds, Nb p 150 d) ∧ (∀ d ∈ es, Nb p 150 d) ∧
  ∀ v H', Same H H' → Dq H' v (dotD p ds es (zeroD p)) → Q v H'
section
variable {P : Program} {w : World} {K : PySem.W.Frag} {mg : Str → Option Value} {base : Heap} {cw Pw : Addr × Addr}
theorem ok_product_sum (T : Txt K mg) : FnOk P w K mg base CX0 6 T.f_product_sum T.d_product_sum ["field", "one", "other"] (sp_product_sum T.C_RestField T.C_FractionField) := by
  refine T.F_product_sum.ok sc_product_sum (fun vs H Q E h => ?_) (fun cdv A outer s H vs Q E hr h => ?_)
  · obtain ⟨f, p, x, y, dx, dy, ds, es, rfl, _⟩ := h
    rfl
  · obtain ⟨f, p, x, y, ddx, ddy, ds, es, rfl, hf, kx, edx, ky, edy, le, l6, nd, ne, q⟩ := h
    refine ⟨_, (pss_cons (ps_set (i := 3) sc_product_sum.nd rfl (.inl rfl) (pe_fld (pv 0) rfl))
      (pss_cons (ps_for PassesOwn.never rfl (RZM.pi_zipS (by rfl) T.m_zip (pa_cons (pv 1) (pa_cons (pv 2) pa_nil))) (pg_tup rfl (pgs_cons (pg_name (i := 4) sc_product_sum.nd rfl (.inl rfl)) (pgs_cons (pg_name (i := 5) sc_product_sum.nd rfl (.inl rfl)) pgs_nil)))
        (pss_one (ps_set (i := 3) sc_product_sum.nd rfl (.inl rfl) (pe_or2 (pe_meth (pv 0) T.cl_RestField T.M_RestField_plus (ok_RestField_plus T) (hr.mono (by decide)) T.b_RestField_plus .nil pass0 (pa_cons (pv 3) (pa_cons (pe_meth (pv 0) T.cl_RestField T.M_RestField_times (ok_RestField_times T) (hr.mono (by decide)) T.b_RestField_times .nil pass0 (pa_cons (pv 4) (pa_cons (pv 5) pa_nil))) pa_nil)))
          (pe_meth (pv 0) T.cl_FractionField T.M_FractionField_plus (ok_FractionField_plus T) (hr.mono (by decide)) T.b_FractionField_plus .nil pass0 (pa_cons (pv 3) (pa_cons (pe_meth (pv 0) T.cl_FractionField T.M_FractionField_times (ok_FractionField_times T) (hr.mono (by decide)) T.b_FractionField_times .nil pass0 (pa_cons (pv 4) (pa_cons (pv 5) pa_nil))) pa_nil)))))))
      (pss_one (ps_ret (pv 3))))), ?_⟩
    have fp := hf.fp
    obtain ⟨C1, dx1, fs1, v1, a1, a2, a3, a4, a5⟩ := fld_zero T hf
    obtain ⟨ax, xs, rfl, hxs, hsx⟩ := sq_of (K := K) kx edx
    obtain ⟨ay, ys, rfl, hys, hsy⟩ := sq_of (K := K) ky edy
    obtain ⟨t1, ht1⟩ := sqs_of' hsx
    obtain ⟨t2, ht2⟩ := sqs_of' hsy
    have lx := hxs.len
    have ly := hys.len
    refine ⟨_, rfl, f, C1, dx1, fs1, v1, rfl, a1, a2, a3, a4, ?_⟩
    refine ⟨_, rfl, _, rfl, t1, t2, ax, ay, xs, ys, rfl, ht1, ht2, ?_⟩
    refine RZM.for_zipS (xs := xs) (ys := ys) (by rw [lx, ly, le]) (fun i σ H' => ∃ v y4 y5, σ = [some (.ref f), some (.ref ax), some (.ref ay), some v, y4, y5] ∧ Same H H' ∧ Dq H' v (dotD p (ds.take i) (es.take i) (zeroD p)))
      ⟨v1, none, none, rfl, fun _ _ z => z, a5⟩ (fun i σ H' hP => ?_) (fun i x y Z σ H' hx hy hP nZ => ?_) (fun σ H' hP => ?_)
    · obtain ⟨_, _, _, _, sm, _⟩ := hP
      exact ⟨sqs_same sm ht1, sqs_same sm ht2⟩
    · obtain ⟨v, y4, y5, rfl, sm, kv⟩ := hP
      have sZ : Same H' (upd H' Z (.tup [x, y])) := same_new nZ
      obtain ⟨d, hd, kd⟩ := hxs.get hx
      obtain ⟨e, he, ke⟩ := hys.get hy
      have hil : i < ds.length := (List.getElem?_eq_some_iff.mp hd).1
      have s2 := sm.trans sZ
      have hf2 := hf.same s2
      have kd2 := kd.same s2
      have ke2 := ke.same s2
      have kv2 := kv.same sZ
      have n1 := nd d (List.mem_of_getElem? hd)
      have n2 := ne e (List.mem_of_getElem? he)
      have acc : Nb p (1 + 301 * 6) (dotD p (ds.take i) (es.take i) (zeroD p)) := (dot_nb (fun d m => nd d (List.mem_of_mem_take m)) (fun d m => ne d (List.mem_of_mem_take m)) (nb_zero fp (Nat.le_refl 1))).up (by rw [List.length_take]; omega)
      have nx := dot_take (p := p) le hd he (zeroD p)
      have nt := timesD_nb n1 n2
      refine ⟨Z, _, rfl, SqT.of upd_same, rfl, _, _, rfl, _, _, rfl, rfl, ?_⟩
      generalize dotD p (ds.take i) (es.take i) (zeroD p) = acc0 at kv2 acc nx
      cases n1 with
      | @fr k r b1 b2 b3 =>
       obtain ⟨dxf, z, o, m, ea, _⟩ := (hf2.fr rfl).at_
       cases n2 with
       | @fr k r' c1 c2 c3 =>
        refine .inr ⟨_, rfl, f, dxf, _, rfl, ea, rfl, _, rfl, _, rfl, f, dxf, _, rfl, ea, rfl, _, rfl, _, rfl, f, x, y, r, r', rfl, hf2.fr rfl, kd2, ke2, ⟨b1, fin_up b2 (by omega), fin_up b3 (by omega)⟩, ⟨c1, fin_up c2 (by omega), fin_up c3 (by omega)⟩, fun l1 H3 s3 k3 => ?_⟩
        cases acc with
        | @fr _ qa la fa1 fa2 =>
          have et : timesD 0 (frD r) (frD r') = frD (timesF r r') := rfl
          rw [et] at nt
          obtain ⟨l3, f3, f4⟩ := nb_fr nt
          refine ⟨f, v, .ref l1, qa, timesF r r', rfl, (hf2.fr rfl).same s3, kv2.same s3, k3, ⟨la, fin_up fa1 (by omega), fin_up fa2 (by omega)⟩, ⟨l3, fin_up f3 (by omega), fin_up f4 (by omega)⟩, fun l H4 s4 k4 => ⟨_, _, _, rfl, (s2.trans s3).trans s4, ?_⟩⟩
          rw [nx]
          exact k4
        | rs n0 _ => exact absurd rfl n0
       | rs n0 _ => exact absurd rfl n0
      | @rs p k xn n b1 =>
        obtain ⟨⟨dxr, ha⟩, pr, le'⟩ := id (hf2.rs n)
        cases n2 with
        | fr _ _ _ => exact absurd rfl n
        | @rs _ _ yn _ c1 =>
        cases kd2
        cases ke2
        refine .inl ⟨_, rfl, f, dxr, _, rfl, ha, rfl, _, rfl, _, rfl, f, dxr, _, rfl, ha, rfl, _, rfl, _, rfl, f, p, (xn : Int), (yn : Int), rfl, hf2.rs n, med_nat b1 le', med_nat c1 le', ?_⟩
        have et : timesD p (.int (xn : Int)) (.int (yn : Int)) = .int ((xn : Int) * (yn : Int) % (p : Int)) := by
          unfold timesD
          rw [if_neg n]
          rfl
        rw [et] at nt nx
        cases acc with
        | fr _ _ _ => exact absurd rfl n
        | @rs _ _ xa _ xl =>
          cases kv2
          obtain ⟨rn, rfl', rl⟩ : ∃ rn : Nat, (xn : Int) * (yn : Int) % (p : Int) = (rn : Int) ∧ rn < p := by
            generalize eg : PyData.int ((xn : Int) * (yn : Int) % (p : Int)) = g at nt
            cases nt with
            | fr _ _ _ => exact absurd rfl n
            | @rs _ _ y _ yl => exact ⟨y, PyData.int.inj eg, yl⟩
          rw [rfl'] at nx
          refine ⟨f, p, (xa : Int), (rn : Int), (by show ([V.ref f, _, V.int ((xn : Int) * (yn : Int) % (p : Int))] : List V) = _; rw [rfl']), hf2.rs n, med_nat xl le', med_nat rl le', _, _, _, rfl, s2, ?_⟩
          rw [nx]
          unfold plusD
          rw [if_neg n]
          exact .int _
    · obtain ⟨v, y4, y5, rfl, sm, kv⟩ := hP
      rw [lx, List.take_length, le, List.take_length] at kv
      exact ⟨_, rfl, q v H' sm kv⟩
end
end K26
set_option Elab.async false
set_option linter.all false
set_option maxRecDepth 100000
set_option maxHeartbeats 4000000
set_option exponentiation.threshold 5000
set_option pp.maxSteps 900
namespace K26
open PySem PySem.Spec PyProof.Rows L2 TkS LamX NdefX
abbrev rowsD (R : List (List PyData)) : PyData := .tuple (R.map .tuple)
/-- rows of numbers of a known size -/
structure Gd (p n : Nat) (R : List (List PyData)) : Prop where
  m1 : 1 ≤ R.length
  m5 : R.length ≤ 5
  n1 : 1 ≤ n
  n6 : n ≤ 6
  ln : ∀ r ∈ R, r.length = n
  nb : ∀ r ∈ R, ∀ d ∈ r, Nb p 150 d
def tableD (p : Nat) (R S : List (List PyData)) : List (List PyData) := R.map fun r => S.map fun t => dotD p r t (zeroD p)
def sp_number_at (CR CF C : Addr) : Sp := fun vs H Q _ => ∃ (a f : Addr) (p n : Nat) (R S : List (List PyData)) (m : Int) (i j : Nat) (r t : List PyData), vs = [.ref a, .int (i : Int), .int (j : Int)] ∧ SpO C H a f (rowsD R) (rowsD S) m ∧ Fld CR CF H f p ∧ Gd p n R ∧ Gd p n S ∧ R[i]? = some r ∧ S[j]? = some t ∧
  ∀ v H', Same H H' → Dq H' v (dotD p r t (zeroD p)) → Q v H'
def sp_full_table_of (CR CF C : Addr) : Sp := fun vs H Q _ => ∃ (a f : Addr) (p n : Nat) (R S : List (List PyData)) (m : Int), vs = [.ref a] ∧ SpO C H a f (rowsD R) (rowsD S) m ∧ Fld CR CF H f p ∧ Gd p n R ∧ Gd p n S ∧ ∀ v H', Same H H' → Dq H' v (rowsD (tableD p R S)) → Q v H'
theorem dqs_at {H : Hp} {xs : List V} {ds : List PyData} {i : Nat} {d : PyData} (h : DqAll H xs ds) (e : ds[i]? = some d) : ∃ x, xs[i]? = some x ∧ Dq H x d := by
  have hi := (List.getElem?_eq_some_iff.mp e).1
  have l := h.len
  obtain ⟨d', e1, e2⟩ := h.get (List.getElem?_eq_getElem (by omega : i < xs.length))
  rw [e] at e1
  cases e1
  exact ⟨_, List.getElem?_eq_getElem (by omega), e2⟩
theorem range_map {α β : Type} (l : List α) (z : α) (g : α → β) : ((List.range l.length).filter fun _ => true).map (fun i => g (l.getD i z)) = l.map g := by
  rw [List.filter_eq_self.mpr fun _ _ => rfl]
  refine List.ext_getElem (by simp) fun i h1 h2 => ?_
  simp at h1
  simp [List.getD_eq_getElem?_getD, h1]
theorem nb_noL {p k : Nat} {d : PyData} (h : Nb p k d) : noList d = true := by
  cases h <;> rfl
theorem Gd.dot {p n : Nat} {R S : List (List PyData)} (fp : Fp p) (gR : Gd p n R) (gS : Gd p n S) {r t : List PyData} (hr : r ∈ R) (ht : t ∈ S) : Nb p 1807 (dotD p r t (zeroD p)) :=
  (dot_nb (gR.nb r hr) (gS.nb t ht) (nb_zero fp (Nat.le_refl 1))).up (by have := gR.ln r hr; have := gR.n6; omega)
section
variable {P : Program} {w : World} {K : PySem.W.Frag} {mg : Str → Option Value} {base : Heap} {cw Pw : Addr × Addr}
end
end K26
set_option Elab.async false
set_option linter.all false
set_option maxRecDepth 100000
set_option maxHeartbeats 4000000
/-! comprehensions with two fors over tuples, by enumerate or not -/
namespace TkS
open PySem PySem.Spec PyProof.Rows L2
structure Wlk (J : It) (xs : List V) (ok : Hp → Prop) (Y : Nat → V → V → Hp → Hp → Prop) : Prop where
  go : ∀ i x H, ok H → xs[i]? = some x → J.go i H
  stop : ∀ i H, ok H → xs.length ≤ i → J.stop i H
  yld : ∀ i H v H', ok H → J.yld i H v H' → ∃ x, xs[i]? = some x ∧ Y i x v H H'
def Yenum : Nat → V → V → Hp → Hp → Prop := fun i x v H H' => ∃ T, v = .ref T ∧ H T = none ∧ H' = upd H T (.tup [.int (i : Nat), x])
def Ytup : Nat → V → V → Hp → Hp → Prop := fun _ x v H H' => v = x ∧ H' = H
theorem wlk_enum {K : PySem.W.Frag} {a : Addr} {xs : List V} : Wlk (IteT K a) xs (fun H => SqT K H a xs) Yenum where
  go i x H h e := ⟨xs, x, h, e⟩
  stop i H h e := ⟨xs, h, e⟩
  yld i H v H' h y := by
    obtain ⟨T, x, e1, e2, e3, e4⟩ := y
    exact ⟨x, e4 xs h, T, e1, e2, e3⟩
theorem wlk_tup {K : PySem.W.Frag} {a : Addr} {xs : List V} : Wlk (Itt K a) xs (fun H => SqT K H a xs) Ytup where
  go i x H h e := ⟨xs, x, h, e⟩
  stop i H h e := ⟨xs, h, e⟩
  yld i H v H' h y := by
    obtain ⟨e1, e2⟩ := y
    exact ⟨v, e2 xs h, rfl, e1⟩
section
variable {g g1 : TG} {tt tt1 : TT} {te : TE} {vs vs1 : List Nat} {wi1 : TI}
theorem lc2_in {J1 : It} {ys : List V} {ok1 : Hp → Prop} {Y1 : Nat → V → V → Hp → Hp → Prop} {D : Addr} {σ2 : L2.St} {H4 : Hp} {Nx : Hp → Prop} (W : Wlk J1 ys ok1 Y1) (Pv : Nat → Hp → Prop) (h0 : Pv 0 H4) (hok : ∀ j H', Pv j H' → ok1 H')
    (hs : ∀ j y v H5 H6, ys[j]? = some y → Pv j H5 → Y1 j y v H5 H6 → g1 v (wipe σ2 vs1) H6 fun σ3 H7 => wipe σ3 vs1 = wipe σ2 vs1 ∧ tt1 σ3 H7 fun b H8 => if b = true then te σ3 H8 fun u H9 => ∃ acc, H9 D = some (.lst acc) ∧ acc.length < sizeLine ∧ Pv (j + 1) (upd H9 D (.lst (acc ++ [u]))) else Pv (j + 1) H8)
    (hd : ∀ H', Pv ys.length H' → Nx H') :
    ∃ W1 : Nat → Nat → Hp → Prop, (∃ m, W1 0 m H4) ∧ ∀ j k H, W1 j k H →
      (J1.stop j H ∧ Nx H) ∨ (J1.go j H ∧ ∃ Nx1 : Hp → Prop, (∀ H', Nx1 H' → ∃ k', k' < k ∧ W1 (j + 1) k' H') ∧ ∀ x H', J1.yld j H x H' → g1 x (wipe σ2 vs1) H' fun σ3 H5 => wipe σ3 vs1 = wipe σ2 vs1 ∧ tt1 σ3 H5 fun b H6 =>
        if b = true then te σ3 H6 fun y H7 => ∃ acc, H7 D = some (.lst acc) ∧ acc.length < sizeLine ∧ Nx1 (upd H7 D (.lst (acc ++ [y]))) else Nx1 H6) := by
  refine ⟨fun j k H' => k = ys.length - j ∧ j ≤ ys.length ∧ Pv j H', ⟨ys.length, rfl, Nat.zero_le _, h0⟩, ?_⟩
  rintro j k H' ⟨rfl, hj, p⟩
  rcases Nat.lt_or_ge j ys.length with hlt | hge
  · refine .inr ⟨W.go j _ _ (hok j H' p) (List.getElem?_eq_getElem hlt), Pv (j + 1), fun H2 p2 => ⟨ys.length - (j + 1), by omega, rfl, hlt, p2⟩, fun v H2 y => ?_⟩
    obtain ⟨x, hx, hy⟩ := W.yld j H' v H2 (hok j H' p) y
    exact hs j x v H' H2 hx p hy
  · have e : j = ys.length := by omega
    subst e
    exact .inl ⟨W.stop _ _ (hok _ H' p) (Nat.le_refl _), hd H' p⟩
theorem lc2_out {J : It} {xs : List V} {ok : Hp → Prop} {Y : Nat → V → V → Hp → Hp → Prop} {D : Addr} {σ : L2.St} {H1 : Hp} {Qd : Hp → Prop} (W : Wlk J xs ok Y) (Pv : Nat → Hp → Prop) (h0 : Pv 0 (upd H1 D (.lst []))) (hok : ∀ i H', Pv i H' → ok H')
    (hs : ∀ i x v H' H'', xs[i]? = some x → Pv i H' → Y i x v H' H'' → g v (wipe σ vs) H'' fun σ2 H2 => wipe σ2 vs = wipe σ vs ∧ tt σ2 H2 fun b H3 =>
      if b = true then wi1 σ2 H3 fun J1 H4 => ∃ W1 : Nat → Nat → Hp → Prop, (∃ m, W1 0 m H4) ∧ ∀ j k H, W1 j k H →
      (J1.stop j H ∧ Pv (i + 1) H) ∨ (J1.go j H ∧ ∃ Nx1 : Hp → Prop, (∀ H', Nx1 H' → ∃ k', k' < k ∧ W1 (j + 1) k' H') ∧ ∀ x H', J1.yld j H x H' → g1 x (wipe σ2 vs1) H' fun σ3 H5 => wipe σ3 vs1 = wipe σ2 vs1 ∧ tt1 σ3 H5 fun b H6 =>
        if b = true then te σ3 H6 fun y H7 => ∃ acc, H7 D = some (.lst acc) ∧ acc.length < sizeLine ∧ Nx1 (upd H7 D (.lst (acc ++ [y]))) else Nx1 H6)
      else Pv (i + 1) H3)
    (hd : ∀ H', Pv xs.length H' → Qd H') :
    ∃ W : Nat → Nat → Hp → Prop, (∃ m, W 0 m (upd H1 D (.lst []))) ∧ ∀ i m H, W i m H →
  (J.stop i H ∧ Qd H) ∨ (J.go i H ∧ ∃ Nx : Hp → Prop, (∀ H', Nx H' → ∃ m', m' < m ∧ W (i + 1) m' H') ∧ ∀ x H', J.yld i H x H' → g x (wipe σ vs) H' fun σ2 H2 => wipe σ2 vs = wipe σ vs ∧ tt σ2 H2 fun b H3 =>
    if b = true then wi1 σ2 H3 fun J1 H4 => ∃ W1 : Nat → Nat → Hp → Prop, (∃ m, W1 0 m H4) ∧ ∀ j k H, W1 j k H →
      (J1.stop j H ∧ Nx H) ∨ (J1.go j H ∧ ∃ Nx1 : Hp → Prop, (∀ H', Nx1 H' → ∃ k', k' < k ∧ W1 (j + 1) k' H') ∧ ∀ x H', J1.yld j H x H' → g1 x (wipe σ2 vs1) H' fun σ3 H5 => wipe σ3 vs1 = wipe σ2 vs1 ∧ tt1 σ3 H5 fun b H6 =>
        if b = true then te σ3 H6 fun y H7 => ∃ acc, H7 D = some (.lst acc) ∧ acc.length < sizeLine ∧ Nx1 (upd H7 D (.lst (acc ++ [y]))) else Nx1 H6)
    else Nx H3) := by
  refine ⟨fun i k H' => k = xs.length - i ∧ i ≤ xs.length ∧ Pv i H', ⟨xs.length, rfl, Nat.zero_le _, h0⟩, ?_⟩
  rintro i k H' ⟨rfl, hi, p⟩
  rcases Nat.lt_or_ge i xs.length with hlt | hge
  · refine .inr ⟨W.go i _ _ (hok i H' p) (List.getElem?_eq_getElem hlt), Pv (i + 1), fun H2 p2 => ⟨xs.length - (i + 1), by omega, rfl, hlt, p2⟩, fun v H2 y => ?_⟩
    obtain ⟨x, hx, hy⟩ := W.yld i H' v H2 (hok i H' p) y
    exact hs i x v H' H2 hx p hy
  · have e : i = xs.length := by omega
    subst e
    exact .inl ⟨W.stop _ _ (hok _ H' p) (Nat.le_refl _), hd H' p⟩
end
/-! what such a comprehension gathers -/
def selI (f : PyData → Bool) (e : Nat → PyData → PyData) : Nat → List PyData → List PyData
  | _, [] => []
  | j, d :: l => (if f d = true then [e j d] else []) ++ selI f e (j + 1) l
theorem selI_snoc {f : PyData → Bool} {e : Nat → PyData → PyData} {d : PyData} : ∀ {j : Nat} {l : List PyData}, selI f e j (l ++ [d]) = selI f e j l ++ (if f d = true then [e (j + l.length) d] else [])
  | j, [] => by
    show (if f d = true then [e j d] else []) ++ [] = [] ++ _
    rw [List.append_nil, List.nil_append]
    rfl
  | j, x :: l => by
    show (if f x = true then [e j x] else []) ++ selI f e (j + 1) (l ++ [d]) = ((if f x = true then [e j x] else []) ++ selI f e (j + 1) l) ++ _
    rw [selI_snoc (j := j + 1) (l := l), List.append_assoc, List.length_cons, show j + 1 + l.length = j + (l.length + 1) by omega]
theorem selI_len {f : PyData → Bool} {e : Nat → PyData → PyData} : ∀ {j : Nat} {l : List PyData}, (selI f e j l).length ≤ l.length
  | _, [] => Nat.le_refl _
  | j, d :: l => by
    show ((if f d = true then [e j d] else []) ++ selI f e (j + 1) l).length ≤ _
    have := selI_len (f := f) (e := e) (j := j + 1) (l := l)
    rw [List.length_append, List.length_cons]
    split
    · rw [List.length_singleton]
      omega
    · rw [List.length_nil]
      omega
def flatI (F : Nat → List PyData → List PyData) : Nat → List (List PyData) → List PyData
  | _, [] => []
  | i, r :: rs => F i r ++ flatI F (i + 1) rs
theorem flatI_snoc {F : Nat → List PyData → List PyData} {r : List PyData} : ∀ {i : Nat} {rs : List (List PyData)}, flatI F i (rs ++ [r]) = flatI F i rs ++ F (i + rs.length) r
  | i, [] => by
    show F i r ++ [] = [] ++ _
    rw [List.append_nil, List.nil_append]
    rfl
  | i, x :: rs => by
    show F i x ++ flatI F (i + 1) (rs ++ [r]) = (F i x ++ flatI F (i + 1) rs) ++ _
    rw [flatI_snoc (i := i + 1) (rs := rs), List.append_assoc, List.length_cons, show i + 1 + rs.length = i + (rs.length + 1) by omega]
theorem flatI_len {F : Nat → List PyData → List PyData} {n : Nat} (h : ∀ i r, r.length ≤ n → (F i r).length ≤ n) : ∀ {i : Nat} {rs : List (List PyData)}, (∀ r ∈ rs, r.length ≤ n) → (flatI F i rs).length ≤ rs.length * n
  | _, [], _ => Nat.zero_le _
  | i, r :: rs, hr => by
    show (F i r ++ flatI F (i + 1) rs).length ≤ _
    have h1 := h i r (hr r List.mem_cons_self)
    have h2 := flatI_len h (i := i + 1) (rs := rs) fun r m => hr r (List.mem_cons_of_mem _ m)
    rw [List.length_append, List.length_cons, Nat.succ_mul]
    omega
end TkS
set_option Elab.async false
set_option linter.all false
set_option maxRecDepth 100000
set_option maxHeartbeats 4000000
set_option exponentiation.threshold 5000
set_option pp.maxSteps 900
namespace K26
open PySem PySem.Spec PyProof.Rows L2 TkS LamX NdefX
def nzB (p : Nat) (d : PyData) : Bool := !PyData.eqv d (zeroD p)
/-- the table of a space: its numbers that aren't nothing, row by row -/
def tabL (p : Nat) (F : List (List PyData)) : List PyData := flatI (fun _ r => selI (nzB p) (fun _ d => d) 0 r) 0 F
/-- the pairs of a space's picture, as data -/
def prsL (p : Nat) (F : List (List PyData)) : List PyData := flatI (fun i r => selI (nzB p) (fun j _ => prD (i, j)) 0 r) 0 F
theorem selI_mem {f : PyData → Bool} {e : Nat → PyData → PyData} {x : PyData} : ∀ {j : Nat} {l : List PyData}, x ∈ selI f e j l → ∃ k d, l[k]? = some d ∧ f d = true ∧ x = e (j + k) d
  | _, [], h => nomatch h
  | j, d :: l, h => by
    rcases List.mem_append.mp h with h | h
    · split at h
      · rename_i c
        rw [List.mem_singleton] at h
        exact ⟨0, d, rfl, c, h⟩
      · cases h
    · obtain ⟨k, d', e1, e2, e3⟩ := selI_mem h
      exact ⟨k + 1, d', e1, e2, by rw [e3, show j + 1 + k = j + (k + 1) by omega]⟩
theorem flatI_mem {F : Nat → List PyData → List PyData} {x : PyData} : ∀ {i : Nat} {rs : List (List PyData)}, x ∈ flatI F i rs → ∃ k r, rs[k]? = some r ∧ x ∈ F (i + k) r
  | _, [], h => nomatch h
  | i, r :: rs, h => by
    rcases List.mem_append.mp h with h | h
    · exact ⟨0, r, rfl, h⟩
    · obtain ⟨k, r', e1, e2⟩ := flatI_mem h
      exact ⟨k + 1, r', e1, by rw [show i + (k + 1) = i + 1 + k by omega]; exact e2⟩
theorem sel_nodup {f : PyData → Bool} {i : Int} : ∀ {j : Nat} {l : List PyData}, ((selI f (fun k _ => prD (i, (k : Int))) j l).map prOf).Nodup
  | _, [] => .nil
  | j, d :: l => by
    show (((if f d = true then [prD (i, (j : Int))] else []) ++ selI f _ (j + 1) l).map prOf).Nodup
    have ih := sel_nodup (f := f) (i := i) (j := j + 1) (l := l)
    split
    · show (prOf (prD (i, (j : Int))) :: (selI f _ (j + 1) l).map prOf).Nodup
      refine List.nodup_cons.mpr ⟨fun m => ?_, ih⟩
      obtain ⟨x, mx, ex⟩ := List.mem_map.mp m
      obtain ⟨k, d', _, _, rfl⟩ := selI_mem mx
      rw [prOf_prD, prOf_prD] at ex
      have := congrArg Prod.snd ex
      dsimp only at this
      omega
    · exact ih
theorem flat_nodup {f : PyData → Bool} : ∀ {i : Nat} {rs : List (List PyData)}, ((flatI (fun i r => selI f (fun k _ => prD ((i : Int), (k : Int))) 0 r) i rs).map prOf).Nodup
  | _, [] => .nil
  | i, r :: rs => by
    show ((selI f _ 0 r ++ flatI _ (i + 1) rs).map prOf).Nodup
    rw [List.map_append, List.nodup_append]
    refine ⟨sel_nodup, flat_nodup, fun a ma b mb e => ?_⟩
    obtain ⟨x, mx, rfl⟩ := List.mem_map.mp ma
    obtain ⟨y, my, rfl⟩ := List.mem_map.mp mb
    obtain ⟨k, d, _, _, rfl⟩ := selI_mem mx
    obtain ⟨k2, r2, _, m2⟩ := flatI_mem my
    obtain ⟨k3, d3, _, _, rfl⟩ := selI_mem m2
    rw [prOf_prD, prOf_prD] at e
    have := congrArg Prod.fst e
    dsimp only at this
    omega
def prsZ (p : Nat) (F : List (List PyData)) : List (Int × Int) := (prsL p F).map prOf
theorem prsL_mem {p : Nat} {F : List (List PyData)} {x : PyData} (h : x ∈ prsL p F) : ∃ (i j : Nat) (r : List PyData) (d : PyData), F[i]? = some r ∧ r[j]? = some d ∧ nzB p d = true ∧ x = prD ((i : Int), (j : Int)) := by
  obtain ⟨i, r, e1, m⟩ := flatI_mem h
  obtain ⟨j, d, e2, e3, e4⟩ := selI_mem m
  exact ⟨i, j, r, d, e1, e2, e3, by rw [e4]; simp⟩
theorem prsL_is (p : Nat) (F : List (List PyData)) : prsL p F = (prsZ p F).map prD := by
  unfold prsZ
  rw [List.map_map]
  refine (List.map_id _).symm.trans (List.map_congr_left fun x m => ?_)
  obtain ⟨i, j, r, d, _, _, _, rfl⟩ := prsL_mem m
  rfl
theorem prsZ_nodup (p : Nat) (F : List (List PyData)) : (prsZ p F).Nodup := flat_nodup
theorem prsZ_ins {p n m : Nat} {F : List (List PyData)} (hF : F.length = n) (hr : ∀ r ∈ F, r.length = m) : Ins n m (prsZ p F) := fun q h => by
  obtain ⟨x, mx, rfl⟩ := List.mem_map.mp h
  obtain ⟨i, j, r, d, e1, e2, _, rfl⟩ := prsL_mem mx
  have h1 := (List.getElem?_eq_some_iff.mp e1).1
  have h2 := (List.getElem?_eq_some_iff.mp e2).1
  rw [hr r (List.mem_of_getElem? e1)] at h2
  rw [prOf_prD]
  exact ⟨by dsimp only; omega, by dsimp only; omega, by dsimp only; omega, by dsimp only; omega⟩
theorem table_len {p : Nat} {R S : List (List PyData)} : (tableD p R S).length = R.length ∧ ∀ r ∈ tableD p R S, r.length = S.length := ⟨by unfold tableD; rw [List.length_map], fun r m => by
  obtain ⟨x, _, rfl⟩ := List.mem_map.mp m
  rw [List.length_map]⟩
theorem table_nb {p n : Nat} {R S : List (List PyData)} (fp : Fp p) (gR : Gd p n R) (gS : Gd p n S) : ∀ r ∈ tableD p R S, ∀ d ∈ r, Nb p 1807 d := fun r m d md => by
  obtain ⟨x, mx, rfl⟩ := List.mem_map.mp m
  obtain ⟨t, mt, rfl⟩ := List.mem_map.mp md
  exact gR.dot fp gS mx mt
theorem sel_take {f : PyData → Bool} {e : Nat → PyData → PyData} {r : List PyData} {j : Nat} {d : PyData} (h : r[j]? = some d) : selI f e 0 (r.take (j + 1)) = selI f e 0 (r.take j) ++ if f d = true then [e j d] else [] := by
  have hj := (List.getElem?_eq_some_iff.mp h).1
  rw [List.take_add_one, h]
  show selI f e 0 (r.take j ++ [d]) = _
  rw [selI_snoc, List.length_take, Nat.min_eq_left (Nat.le_of_lt hj), Nat.zero_add]
theorem flat_take {F : Nat → List PyData → List PyData} {rs : List (List PyData)} {i : Nat} {r : List PyData} (h : rs[i]? = some r) : flatI F 0 (rs.take (i + 1)) = flatI F 0 (rs.take i) ++ F i r := by
  have hi := (List.getElem?_eq_some_iff.mp h).1
  rw [List.take_add_one, h]
  show flatI F 0 (rs.take i ++ [r]) = _
  rw [flatI_snoc, List.length_take, Nat.min_eq_left (Nat.le_of_lt hi), Nat.zero_add]
theorem flat_sel_len {f : PyData → Bool} {e : Nat → Nat → PyData → PyData} {rs : List (List PyData)} (h5 : rs.length ≤ 5) (hr : ∀ r ∈ rs, r.length ≤ 5) : (flatI (fun i r => selI f (e i) 0 r) 0 rs).length ≤ 25 := by
  have := flatI_len (F := fun i r => selI f (e i) 0 r) (n := 5) (fun i r h => Nat.le_trans selI_len h) (i := 0) hr
  omega
def sp_table_of_space (CR CF C : Addr) : Sp := fun vs H Q _ => ∃ (a f : Addr) (p n : Nat) (R S : List (List PyData)) (m : Int), vs = [.ref a] ∧ SpO C H a f (rowsD R) (rowsD S) m ∧ Fld CR CF H f p ∧ Gd p n R ∧ Gd p n S ∧ ∀ v H', Same H H' → Dq H' v (.tuple (tabL p (tableD p R S))) → Q v H'
def sp_picture_of (CR CF C CP : Addr) : Sp := fun vs H Q _ => ∃ (a f : Addr) (p n : Nat) (R S : List (List PyData)) (m : Int), vs = [.ref a] ∧ SpO C H a f (rowsD R) (rowsD S) m ∧ Fld CR CF H f p ∧ Gd p n R ∧ Gd p n S ∧ ∀ b H', Same H H' → Pic CP H' b R.length S.length (srt (prsZ p (tableD p R S))) → Q (.ref b) H'
theorem yes_go {R : Bool → Hp → Prop} {σ : L2.St} {H : Hp} (h : R true H) : tYes σ H R := h
theorem ret_cbE {r : List V → Hp → VK → Prop} {te : TE} {D : Ends} {σ : L2.St} {H : Hp} (h : te σ H fun v H1 => r [v] H1 D.rt) : tRet (tCB r (tCons te tNil)) D σ H := h
section
variable {P : Program} {w : World} {K : PySem.W.Frag} {mg : Str → Option Value} {base : Heap} {cw Pw : Addr × Addr}
end
end K26
set_option Elab.async false
set_option linter.all false
set_option maxRecDepth 100000
set_option maxHeartbeats 4000000
set_option exponentiation.threshold 5000
set_option pp.maxSteps 900
namespace K26
open PySem PySem.Spec PyProof.Rows L2 TkS LamX NdefX
/-- the heap without the law's state: its list h, and g, the list of great numbers in it -/
def Vw (h g : Addr) (H : Hp) : Hp := TkS.Off g (TkS.Off h H)
structure Hnd (h g : Addr) (H : Hp) : Prop where
  ne : h ≠ g
  ex : ∃ (cells : List Int) (t c : Int), H h = some (.lst [.ref g, .int t, .int c]) ∧ H g = some (.lst (cells.map V.int)) ∧ 0 ≤ t ∧ t < 2 ^ 40 ∧ ∀ z ∈ cells, (0 : Int) ≤ z
/-- all but the state is kept -/
def Kp (h g : Addr) (H H' : Hp) : Prop := ∀ b o, b ≠ h → b ≠ g → H b = some o → H' b = some o
theorem Kp.refl {h g : Addr} {H : Hp} : Kp h g H H := fun _ _ _ _ e => e
theorem Kp.trans {h g : Addr} {H H1 H2 : Hp} (a : Kp h g H H1) (b : Kp h g H1 H2) : Kp h g H H2 := fun c o n m e => b c o n m (a c o n m e)
theorem Kp.of {h g : Addr} {H H' : Hp} (s : Same H H') : Kp h g H H' := fun b o _ _ e => s b o e
theorem Kp.vw {h g : Addr} {H H' : Hp} (k : Kp h g H H') : Same (Vw h g H) (Vw h g H') := by
  intro b o e
  unfold Vw TkS.Off at e ⊢
  by_cases c1 : b = g
  · rw [if_pos c1] at e
    cases e
  · rw [if_neg c1] at e ⊢
    by_cases c2 : b = h
    · rw [if_pos c2] at e
      cases e
    · rw [if_neg c2] at e ⊢
      exact k b o c2 c1 e
theorem vw_at {h g a : Addr} {H : Hp} {o : HO} (n1 : a ≠ h) (n2 : a ≠ g) (e : H a = some o) : Vw h g H a = some o := off_at n2 (off_at n1 e)
theorem vw_same {h g : Addr} {H : Hp} : Same (Vw h g H) H := fun b o e => off_same (h := h) b o (off_same (h := g) b o e)
theorem Hnd.same {h g : Addr} {H H' : Hp} (x : Hnd h g H) (s : Same H H') : Hnd h g H' := by
  obtain ⟨cells, t, c, h1, h2, q⟩ := x.ex
  exact ⟨x.ne, cells, t, c, s _ _ h1, s _ _ h2, q⟩
theorem Hnd.ext {h g : Addr} {H H' : Hp} (x : Hnd h g H) (s : ExtN H H') : Hnd h g H' := by
  obtain ⟨cells, t, c, h1, h2, q⟩ := x.ex
  exact ⟨x.ne, cells, t, c, s _ _ h1 (fun _ z => nomatch z), s _ _ h2 (fun _ z => nomatch z), q⟩
theorem Hnd.fresh {h g a : Addr} {H : Hp} (x : Hnd h g H) (n : H a = none) : a ≠ h ∧ a ≠ g := by
  obtain ⟨cells, t, c, h1, h2, q⟩ := x.ex
  exact ⟨fun z => (by rw [z, h1] at n; cases n), fun z => (by rw [z, h2] at n; cases n)⟩
/-- what was made since stands outside the state -/
theorem Hnd.vwS {h g : Addr} {H H' : Hp} (x : Hnd h g H) (s : Same H H') : Same (Vw h g H) (Vw h g H') := (Kp.of s).vw
mutual
theorem dq_vw {h g : Addr} {H : Hp} (x : Hnd h g H) : ∀ {v : V} (d : PyData), noList d = true → Dq H v d → Dq (Vw h g H) v d
  | _, .none, _, .non => .non
  | _, .bool _, _, .bl b => .bl b
  | _, .int _, _, .int i => .int i
  | _, .str _, _, .str x => .str x
  | _, .list _, n, .lst e u => by cases n
  | _, .tuple ds, n, .tup e u => .tup (by
      obtain ⟨cells, t, c, h1, h2, q⟩ := x.ex
      exact vw_at (fun z => by rw [z, h1] at e; cases e) (fun z => by rw [z, h2] at e; cases e) e) (dqs_vw x ds n u)
theorem dqs_vw {h g : Addr} {H : Hp} (x : Hnd h g H) : ∀ {vs : List V} (ds : List PyData), noLists ds = true → DqAll H vs ds → DqAll (Vw h g H) vs ds
  | _, [], _, .nil => .nil
  | _, d :: ds, n, .cons u v => by
    have n' : (noList d && noLists ds) = true := n
    obtain ⟨n1, n2⟩ := Bool.and_eq_true_iff.mp n'
    exact .cons (dq_vw x d n1 u) (dqs_vw x ds n2 v)
end
theorem ixN_zero {n : Nat} (h : 0 < n) : ixN n 0 = some 0 := by
  unfold ixN
  rw [if_pos (Int.le_refl 0), if_pos (by omega)]
  rfl
theorem all_push {cells : List Int} {z : Int} (h : ∀ x ∈ cells, (0 : Int) ≤ x) (hz : 0 ≤ z) : ∀ x ∈ cells ++ [z], (0 : Int) ≤ x := by
  intro x hx
  rcases List.mem_append.mp hx with e | e
  · exact h x e
  · rw [List.mem_singleton.mp e]
    exact hz
theorem six_zero {n : Nat} (h : 0 < n) : seqIndex? 0 n = some 0 := (ixN_seq (ixN_zero h)).1
def sd_law_start (K : PySem.W.Frag) : Sp := fun vs H Q _ => ∃ (a : Addr) (ns : List Int), vs = [.ref a] ∧ SqL K H a (ns.map V.int) ∧ ns.length ≤ 63 ∧ ∀ H' h g, Same H H' → H h = none → H g = none → Hnd h g H' → Q (.ref h) H'
def sd_law_draw : Sp := fun vs H Q _ => ∃ (h g : Addr) (m : Int), vs = [.ref h, .int m] ∧ Hnd h g H ∧ 0 < m ∧ m < 1073741824 ∧ ∀ H' r, Kp h g H H' → Hnd h g H' → 0 ≤ r → r < m → Q (.int r) H'
section
variable {P : Program} {w : World} {K : PySem.W.Frag} {mg : Str → Option Value} {base : Heap}
theorem ok_law_draw (T : Txt K mg) : FnOk P w K mg base CX0 2 T.f_law_draw T.d_law_draw ["_law_state", "_law_many"] sd_law_draw := by
  refine T.F_law_draw.ok sc_law_draw (fun vs H Q E h => ?_) (fun cdv A outer s H vs Q E hr h => ?_)
  · obtain ⟨h, g, m, rfl, _⟩ := h
    rfl
  · obtain ⟨h, g, m, rfl, hd, m0, m1, q⟩ := h
    refine ⟨_, (pss_cons (ps_set (i := 2) sc_law_draw.nd rfl (.inl rfl) (pe_ix ix_list (pv 0) pe_int (fun _ _ => rfl)))
      (pss_cons (ps_if (pt_truth (pv 2) (by intro _; rfl))
        (pss_cons (ps_set (i := 3) sc_law_draw.nd rfl (.inl rfl) (pe_callTy call_int1 (by rfl) T.m_int (by decide +kernel) (pa_cons (pe_ix ix_list (pv 2) pe_int (fun _ _ => rfl)) pa_nil)))
        (pss_cons (ps_asg (pe_op op_fdiv (pv 3) (pv 1)) (pg_sub (pv 2) pe_int set_list))
        (pss_cons (ps_if (pt_cmpR op_eq (pe_ix ix_list (pv 2) pe_int (fun _ _ => rfl)) pe_int (nomark _))
          (pss_one (ps_expr (pe_bm PySem.F.plainAttrs_list PySem.F.slot_list_pop PySem.F.type_list_pop mt_popAt (pv 2) (pa_cons pe_int pa_nil))))
          pss_nil)
        (pss_one (ps_ret (pe_op op_mod (pe_callTy call_int1 (by rfl) T.m_int (by decide +kernel) (pa_cons (pv 3) pa_nil)) (pv 1)))))))
        pss_nil)
      (pss_cons (ps_asg (pe_op op_add (pe_ix ix_list (pv 0) pe_int (fun _ _ => rfl)) pe_int) (pg_sub (pv 0) pe_int set_list))
      (pss_cons (ps_asg (pe_op op_mod (pe_callTy call_int1 (by rfl) T.m_int (by decide +kernel) (pa_cons (pe_op op_add (pe_op op_add (pe_op op_mul (pe_ix ix_list (pv 0) pe_int (fun _ _ => rfl)) pe_int) (pe_op op_mul (pe_ix ix_list (pv 0) pe_int (fun _ _ => rfl)) pe_int)) pe_int) pa_nil)) pe_int) (pg_sub (pv 0) pe_int set_list))
      (pss_cons (ps_set (i := 4) sc_law_draw.nd rfl (.inl rfl) (pe_op op_mod (pe_callTy call_int1 (by rfl) T.m_int (by decide +kernel) (pa_cons (pe_op op_add (pe_op op_add (pe_op op_mul (pe_ix ix_list (pv 0) pe_int (fun _ _ => rfl)) (pe_ix ix_list (pv 0) pe_int (fun _ _ => rfl))) (pe_op op_mul (pe_ix ix_list (pv 0) pe_int (fun _ _ => rfl)) pe_int)) (pe_op op_fdiv (pe_ix ix_list (pv 0) pe_int (fun _ _ => rfl)) pe_int)) pa_nil)) pe_int))
      (pss_one (ps_ret (pe_op op_mod (pe_callTy call_int1 (by rfl) T.m_int (by decide +kernel) (pa_cons (pe_op op_fdiv (pv 4) pe_int) pa_nil)) (pv 1))))))))), ?_⟩
    obtain ⟨cells, t, c, h1, h2, t0, t1, hc⟩ := hd.ex
    have hn := hd.ne
    refine ⟨_, rfl, h, _, 0, _, rfl, rfl, SqL.of h1, at_of (j := 0) rfl rfl, ?_⟩
    cases cells with
    | cons z zs =>
      have z0 := hc z List.mem_cons_self
      refine ⟨_, rfl, true, .inl ⟨_, SqL.of h2, rfl⟩, iteT ?_⟩
      refine ⟨_, rfl, g, _, 0, _, rfl, rfl, SqL.of h2, at_of (j := 0) rfl rfl, .inl ⟨z, rfl, ?_⟩⟩
      refine ⟨_, rfl, _, rfl, z, m, rfl, rfl, ⟨m0, m1⟩, _, rfl, g, _, 0, 0, rfl, rfl, h2, ixN_zero (by simp), ?_⟩
      have e1 : (upd H g (.lst ((List.map V.int (z :: zs)).set 0 (.int (z / m))))) g = some (.lst (((z / m) :: zs).map V.int)) := upd_same
      have k1 : Kp h g H (upd H g (.lst ((List.map V.int (z :: zs)).set 0 (.int (z / m))))) := fun b o n1 n2 e => by
        rw [upd_ne n2]
        exact e
      have h1' : (upd H g (.lst ((List.map V.int (z :: zs)).set 0 (.int (z / m))))) h = some (.lst [.ref g, .int t, .int c]) := by
        rw [upd_ne hn]
        exact h1
      generalize upd H g (.lst ((List.map V.int (z :: zs)).set 0 (.int (z / m)))) = H1 at e1 k1 h1' ⊢
      have d0 : 0 ≤ z / m := Int.ediv_nonneg z0 (by omega)
      have r0 : 0 ≤ z % m := Int.emod_nonneg _ (by omega)
      have r1 : z % m < m := Int.emod_lt_of_pos _ m0
      refine ⟨_, rfl, g, _, 0, .int (z / m), rfl, rfl, SqL.of e1, at_of (j := 0) rfl rfl, rfl, _, rfl, ite2 (fun c1 => ?_) (fun c1 => ?_)⟩
      · refine ⟨_, rfl, .inl ⟨rfl, _, .inl (.inl e1)⟩, g, _, 0, 0, .int (z / m), rfl, rfl, e1, by decide, by decide, six_zero (by simp), rfl, ?_⟩
        refine ⟨_, rfl, .inl ⟨z, rfl, _, rfl, z, m, rfl, rfl, m0, ?_⟩⟩
        refine q _ _ (fun b o n1 n2 e => ?_) ⟨hn, zs, t, c, ?_, upd_same, t0, t1, fun y m => hc y (List.mem_cons_of_mem _ m)⟩ r0 r1
        · rw [upd_ne n2]
          exact k1 b o n1 n2 e
        · rw [upd_ne hn]
          exact h1'
      · refine ⟨_, rfl, .inl ⟨z, rfl, _, rfl, z, m, rfl, rfl, m0, ?_⟩⟩
        exact q _ _ k1 ⟨hn, (z / m) :: zs, t, c, h1', e1, t0, t1, fun y my => by
          rcases List.mem_cons.mp my with rfl | my
          · exact d0
          · exact hc y (List.mem_cons_of_mem _ my)⟩ r0 r1
    | nil =>
      refine ⟨_, rfl, false, .inl ⟨_, SqL.of h2, rfl⟩, iteF ?_⟩
      refine ⟨_, rfl, h, _, 2, .int c, rfl, rfl, SqL.of h1, at_of (j := 2) rfl rfl, c, 1, rfl, rfl, _, rfl, h, _, 2, 2, rfl, rfl, h1, rfl, ?_⟩
      have e1 : (upd H h (.lst ([V.ref g, .int t, .int c].set 2 (.int (c + 1))))) h = some (.lst [.ref g, .int t, .int (c + 1)]) := upd_same
      have k1 : Kp h g H (upd H h (.lst ([V.ref g, .int t, .int c].set 2 (.int (c + 1))))) := fun b o n1 n2 e => by
        rw [upd_ne n1]
        exact e
      have h2' : (upd H h (.lst ([V.ref g, .int t, .int c].set 2 (.int (c + 1))))) g = some (.lst (([] : List Int).map V.int)) := by
        rw [upd_ne hn.symm]
        exact h2
      generalize upd H h (.lst ([V.ref g, .int t, .int c].set 2 (.int (c + 1)))) = H1 at e1 k1 h2' ⊢
      have mo : (0 : Int) < 2147483647 := by decide
      refine ⟨_, rfl, h, _, 1, .int t, rfl, rfl, SqL.of e1, at_of (j := 1) rfl rfl, t, 48271, rfl, rfl, .inr (by decide), _, rfl, h, _, 2, .int (c + 1), rfl, rfl, SqL.of e1, at_of (j := 2) rfl rfl, c + 1, 7919, rfl, rfl, .inr (by decide), _, _, rfl, rfl, _, 1, rfl, rfl, .inl ⟨_, rfl, _, 2147483647, rfl, rfl, mo, ?_⟩⟩
      generalize (t * 48271 + (c + 1) * 7919 + 1) = u
      have u0 : 0 ≤ u % 2147483647 := Int.emod_nonneg _ (by decide)
      have u1 : u % 2147483647 < 2147483647 := Int.emod_lt_of_pos _ mo
      refine ⟨_, rfl, h, _, 1, 1, rfl, rfl, e1, rfl, ?_⟩
      have e2 : (upd H1 h (.lst ([V.ref g, .int t, .int (c + 1)].set 1 (.int (u % 2147483647))))) h = some (.lst [.ref g, .int (u % 2147483647), .int (c + 1)]) := upd_same
      have k2 : Kp h g H (upd H1 h (.lst ([V.ref g, .int t, .int (c + 1)].set 1 (.int (u % 2147483647))))) := fun b o n1 n2 e => by
        rw [upd_ne n1]
        exact k1 b o n1 n2 e
      have h3 : (upd H1 h (.lst ([V.ref g, .int t, .int (c + 1)].set 1 (.int (u % 2147483647))))) g = some (.lst (([] : List Int).map V.int)) := by
        rw [upd_ne hn.symm]
        exact h2'
      refine ⟨_, rfl, h, _, 1, .int (u % 2147483647), rfl, rfl, SqL.of e2, at_of (j := 1) rfl rfl, _, rfl, h, _, 1, .int (u % 2147483647), rfl, rfl, SqL.of e2, at_of (j := 1) rfl rfl, (u % 2147483647), (u % 2147483647), rfl, rfl, .inl ⟨by omega, by omega⟩, _, rfl, h, _, 2, .int (c + 1), rfl, rfl, SqL.of e2, at_of (j := 2) rfl rfl, c + 1, 65537, rfl, rfl, .inr (by decide), _, _, rfl, rfl, _, rfl, h, _, 1, .int (u % 2147483647), rfl, rfl, SqL.of e2, at_of (j := 1) rfl rfl, (u % 2147483647), 97, rfl, rfl, ⟨by decide, by decide⟩, _, _, rfl, rfl, .inl ⟨_, rfl, _, 2147483629, rfl, rfl, by show (0 : Int) < 2147483629; decide, ?_⟩⟩
      refine ⟨_, rfl, _, 64, rfl, rfl, ⟨by decide, by decide⟩, .inl ⟨_, rfl, _, rfl, _, m, rfl, rfl, m0, ?_⟩⟩
      exact q _ _ k2 ⟨hn, [], (u % 2147483647), c + 1, e2, h3, u0, by omega, fun y my => nomatch my⟩ (Int.emod_nonneg _ (by omega)) (Int.emod_lt_of_pos _ m0)
theorem ok_law_start (T : Txt K mg) : FnOk P w K mg base CX0 1 T.f_law_start T.d_law_start ["_law_script"] (sd_law_start K) := by
  refine T.F_law_start.ok sc_law_start (fun vs H Q E h => ?_) (fun cdv A outer s H vs Q E hr h => ?_)
  · obtain ⟨a, b, rfl, _⟩ := h
    rfl
  · obtain ⟨a, ns, rfl, hS, hlen, q⟩ := h
    refine ⟨_, (pss_cons (ps_set (i := 1) sc_law_start.nd rfl (.inl rfl) (pe_op op_add (pe_callB call_len_seq (by rfl) T.m_len (by decide +kernel) (pa_cons (pv 0) pa_nil)) pe_int))
      (pss_cons (ps_set (i := 2) sc_law_start.nd rfl (.inl rfl) (pe_lst pa_nil))
      (pss_cons (ps_for PassesOwn.never rfl (pi_list (pv 0)) (pg_name (i := 3) sc_law_start.nd rfl (.inl rfl))
        (pss_cons (ps_set (i := 1) sc_law_start.nd rfl (.inl rfl) (pe_op op_mod (pe_callTy call_int1 (by rfl) T.m_int (by decide +kernel) (pa_cons (pe_op op_add (pe_op op_mul (pv 1) pe_int) (pe_callTy call_int1 (by rfl) T.m_int (by decide +kernel) (pa_cons (pv 3) pa_nil))) pa_nil)) pe_int))
        (pss_one (ps_if (pt_cmpR op_ge (pe_callB call_abs (by rfl) T.m_abs (by decide +kernel) (pa_cons (pe_callTy call_int1 (by rfl) T.m_int (by decide +kernel) (pa_cons (pv 3) pa_nil)) pa_nil)) (pe_op op_pow pe_int pe_int) (nomark _))
          (pss_one (ps_expr (pe_bm PySem.F.plainAttrs_list PySem.F.slot_list_append PySem.F.type_list_append mt_append (pv 2) (pa_cons (pe_callB call_abs (by rfl) T.m_abs (by decide +kernel) (pa_cons (pe_callTy call_int1 (by rfl) T.m_int (by decide +kernel) (pa_cons (pv 3) pa_nil)) pa_nil)) pa_nil))))
          pss_nil))))
      (pss_one (ps_ret (pe_lst (pa_cons (pv 2) (pa_cons (pv 1) (pa_cons pe_int pa_nil))))))))), ?_⟩
    refine ⟨_, rfl, a, _, rfl, .inl hS, _, _, rfl, rfl, Nat.zero_le _, fun c nc => ?_⟩
    have s1 : Same H (upd H c (.lst [])) := fun b x e => by
      rw [upd_ne (ne_of_none e nc)]
      exact e
    refine ⟨_, rfl, a, rfl, ⟨_, s1.seq hS⟩, for_list (xs := ns.map V.int) (fun i σ H' => ∃ (t : Int) (y : Option V) (cells : List Int), σ = [some (.ref a), some (.int t), some (.ref c), y] ∧ Same H H' ∧ H' c = some (.lst (cells.map V.int)) ∧ cells.length ≤ i ∧ 0 ≤ t ∧ t < 2 ^ 40 ∧ ∀ z ∈ cells, (0 : Int) ≤ z)
      ⟨_, none, [], rfl, s1, upd_same, Nat.le_refl _, by rw [List.length_map]; omega, by rw [List.length_map]; omega, fun z hz => by cases hz⟩ (fun i σ H' _ hP => by obtain ⟨_, _, _, _, sm, _⟩ := hP; exact sm.seq hS) (fun i x σ H' hx hP => ?_) (fun σ H' hP => ?_)⟩
    · obtain ⟨t, y, cells, rfl, sm, ec, el, t0, t1, hz⟩ := hP
      obtain ⟨n, hn, rfl⟩ : ∃ n, ns[i]? = some n ∧ V.int n = x := by
        rw [List.getElem?_map] at hx
        exact Option.map_eq_some_iff.mp hx
      have hi : i < ns.length := (List.getElem?_eq_some_iff.mp hn).1
      have mo : (0 : Int) < 2147483587 := by decide
      have u0 : 0 ≤ (t * 1693 + n) % 2147483587 := Int.emod_nonneg _ (by decide)
      have u1 : (t * 1693 + n) % 2147483587 < 2147483587 := Int.emod_lt_of_pos _ mo
      refine ⟨_, rfl, t, 1693, rfl, rfl, .inr (by decide), _, rfl, .inl ⟨_, rfl, _, _, rfl, rfl, .inl ⟨_, rfl, _, 2147483587, rfl, rfl, mo, ?_⟩⟩⟩
      refine ⟨_, rfl, .inl ⟨_, rfl, _, rfl, 10, 18, rfl, rfl, ⟨by decide, by decide, by decide⟩, _, _, rfl, rfl, _, rfl, ite2 (fun c1 => ?_) (fun c1 => ?_)⟩⟩
      · refine ⟨_, rfl, .inl ⟨rfl, _, .inl (.inl ec)⟩, _, rfl, .inl ⟨_, rfl, _, rfl, c, _, _, rfl, rfl, ec, ?_, ?_⟩⟩
        · rw [List.length_map]
          exact small1000 (by omega)
        · refine ⟨_, _, cells ++ [(if n < 0 then -n else n)], rfl, fun b u e => ?_, ?_, ?_, u0, by omega, all_push hz (by split <;> omega)⟩
          · rw [upd_ne (ne_of_none e nc)]
            exact sm _ _ e
          · rw [upd_same, List.map_append]
            rfl
          · rw [List.length_append, List.length_singleton]
            omega
      · exact ⟨_, _, cells, rfl, sm, ec, by omega, u0, by omega, hz⟩
    · obtain ⟨t, y, cells, rfl, sm, ec, el, t0, t1, hz⟩ := hP
      refine ⟨_, rfl, _, rfl, (by show 3 ≤ sizeLine; decide), fun h nh => ?_⟩
      have nch : c ≠ h := ne_of_none ec nh
      refine q _ h c (fun b u e => ?_) (sm.free nh) nc ⟨nch.symm, cells, t, 0, upd_same, ?_, t0, t1, hz⟩
      · rw [upd_ne (ne_of_none (sm _ _ e) nh)]
        exact sm _ _ e
      · rw [upd_ne nch]
        exact ec
end
end K26
set_option Elab.async false
set_option linter.all false
set_option maxRecDepth 100000
set_option maxHeartbeats 4000000
set_option exponentiation.threshold 5000
set_option pp.maxSteps 900
namespace K26
open PySem PySem.Spec PyProof.Rows L2 TkS LamX NdefX
def someD (p : Nat) (n : Int) : PyData := if p = 0 then frD (n, 1) else .int (n % (p : Int))
theorem some_zero (p : Nat) : someD p 0 = zeroD p := by
  unfold someD zeroD
  by_cases c : p = 0
  · rw [if_pos c, if_pos c]
  · rw [if_neg c, if_neg c, Int.zero_emod]
theorem some_one {p : Nat} (fp : Fp p) : someD p 1 = oneD p := by
  unfold someD oneD
  by_cases c : p = 0
  · rw [if_pos c, if_pos c]
  · have := fp.cases c
    rw [if_neg c, if_neg c, Int.emod_eq_of_lt (by decide) (by omega)]
theorem Fp.le {p : Nat} (fp : Fp p) : p ≤ 20000 := by
  rcases fp with h | h
  · omega
  · exact h.2
def sl_gcd : Sp := fun vs H Q _ => ∃ a b : Int, vs = [.int a, .int b] ∧ Q (.int ((Int.gcd a b : Nat) : Int)) H
def sl_low : Sp := fun vs H Q _ => ∃ t b : Int, vs = [.int t, .int b] ∧ b ≠ 0 ∧ Fin 8800 b ∧ ∀ l H', Same H H' → Dq H' (.ref l) (frD (low t b)) → Q (.ref l) H'
def sl_some : Sp := fun vs H Q _ => ∃ (p : Nat) (n : Int), vs = [.int (p : Int), .int n] ∧ ∀ v H', Same H H' → Dq H' v (someD p n) → Q v H'
def sl_nought : Sp := fun vs H Q _ => ∃ (p k : Nat) (x : V) (d : PyData), vs = [.int (p : Int), x] ∧ Fp p ∧ Dq H x d ∧ Nb p k d ∧ ∀ H', Same H H' → Q (.bl (!nzB p d)) H'
def sl_dot : Sp := fun vs H Q _ => ∃ (p : Nat) (x y : V) (d e : PyData) (ds es : List PyData), vs = [.int (p : Int), x, y] ∧ Fp p ∧ Dq H x d ∧ itemsD d = some ds ∧ Dq H y e ∧ itemsD e = some es ∧ ds.length = es.length ∧ ds.length ≤ 6 ∧ (∀ d ∈ ds, Nb p 700 d) ∧ (∀ d ∈ es, Nb p 700 d) ∧ (∀ i, i ≤ ds.length → Nb p 1990 (dotD p (ds.take i) (es.take i) (zeroD p))) ∧
  ∀ v H', Same H H' → Dq H' v (dotD p ds es (zeroD p)) → Q v H'
section
variable {P : Program} {w : World} {K : PySem.W.Frag} {mg : Str → Option Value} {base : Heap}
theorem ok_law_gcd (T : Txt K mg) : FnOk P w K mg base CX0 1 T.f_law_gcd T.d_law_gcd ["_law_one", "_law_other"] sl_gcd := by
  refine T.F_law_gcd.ok sc_law_gcd (fun vs H Q E h => ?_) (fun cdv A outer s H vs Q E hr h => ?_)
  · obtain ⟨a, b, rfl, _⟩ := h
    rfl
  · obtain ⟨a, b, rfl, q⟩ := h
    refine ⟨_, (pss_cons (ps_set (i := 0) sc_law_gcd.nd rfl (.inl rfl) (pe_callB call_abs (by rfl) T.m_abs (by decide +kernel) (pa_cons (pv 0) pa_nil)))
      (pss_cons (ps_set (i := 1) sc_law_gcd.nd rfl (.inl rfl) (pe_callB call_abs (by rfl) T.m_abs (by decide +kernel) (pa_cons (pv 1) pa_nil)))
      (pss_cons (ps_while PassesOwn.never (pt_cmpR op_gt (pv 1) pe_int (nomark _))
        (pss_cons (ps_set (i := 2) sc_law_gcd.nd rfl (.inl rfl) (pe_op op_mod (pe_callTy call_int1 (by rfl) T.m_int (by decide +kernel) (pa_cons (pv 0) pa_nil)) (pv 1)))
        (pss_cons (ps_set (i := 0) sc_law_gcd.nd rfl (.inl rfl) (pv 1))
        (pss_one (ps_set (i := 1) sc_law_gcd.nd rfl (.inl rfl) (pv 2))))))
      (pss_one (ps_ret (pv 0)))))), ?_⟩
    refine ⟨_, rfl, a, rfl, _, rfl, b, rfl, ?_⟩
    dsimp only
    rw [abs_nat, abs_nat]
    refine ⟨fun m σ H' => ∃ (x y : Nat) (y2 : Option V), σ = [some (.int (x : Int)), some (.int (y : Int)), y2] ∧ H = H' ∧ Nat.gcd x y = Int.gcd a b ∧ m = y, ⟨_, a.natAbs, b.natAbs, none, rfl, rfl, rfl, rfl⟩, fun m σ H' hW => ?_⟩
    obtain ⟨x, y, y2, rfl, rfl, hg, rfl⟩ := hW
    refine ⟨_, rfl, _, _, rfl, rfl, _, rfl, ite2 (fun c => ?_) (fun c => ?_)⟩
    · have c' : (0 : Int) < (m : Int) := of_decide_eq_true c
      refine ⟨fun σ' H' => ∃ m', m' < m ∧ ∃ (x y : Nat) (y2 : Option V), σ' = [some (.int (x : Int)), some (.int (y : Int)), y2] ∧ H = H' ∧ Nat.gcd x y = Int.gcd a b ∧ m' = y, fun _ _ z => z, ?_⟩
      refine ⟨_, rfl, .inl ⟨_, rfl, _, rfl, x, m, rfl, rfl, c', ?_⟩⟩
      refine ⟨_, rfl, _, rfl, x % m, Nat.mod_lt _ (by omega), m, x % m, _, rfl, rfl, ?_, rfl⟩
      rw [← hg, Nat.gcd_comm x m, Nat.gcd_rec m x, Nat.gcd_comm]
    · have c' : ¬ (0 : Int) < (m : Int) := fun z => c (decide_eq_true z)
      have y0 : m = 0 := by omega
      subst y0
      rw [Nat.gcd_zero_right] at hg
      rw [hg]
      exact ⟨_, rfl, q⟩
theorem ok_law_low (T : Txt K mg) : FnOk P w K mg base CX0 2 T.f_law_low T.d_law_low ["_law_top", "_law_bottom"] sl_low := by
  refine T.F_law_low.ok sc_law_low (fun vs H Q E h => ?_) (fun cdv A outer s H vs Q E hr h => ?_)
  · obtain ⟨t, b, rfl, _⟩ := h
    rfl
  · obtain ⟨t, b, rfl, b0, fb, q⟩ := h
    refine ⟨_, (pss_cons (ps_set (i := 2) sc_law_low.nd rfl (.inl rfl) (pe_call (ok_law_gcd T) (hr.mono (by decide)) (by rfl) T.g_law_gcd T.F_law_gcd.kp T.b_law_gcd .nil pass0 (pa_cons (pv 0) (pa_cons (pv 1) pa_nil))))
      (Evl.pss_cut (ps_if (pt_cmpR op_lt (pv 1) pe_int (nomark _))
        (pss_one (ps_set (i := 2) sc_law_low.nd rfl (.inl rfl) (pe_un un_neg (pv 2))))
        pss_nil)
      (pss_one (ps_ret (pe_tup (pa_cons (pe_op op_fdivA (pv 0) (pv 2)) (pa_cons (pe_op op_fdivA (pv 1) (pv 2)) pa_nil))))))), ?_⟩
    refine ⟨_, rfl, _, rfl, t, b, rfl, ?_⟩
    refine ⟨fun σ H' => σ = [some (.int t), some (.int b), some (.int (gS t b))] ∧ H = H', ?_, fun σ H' hM => ?_⟩
    · refine ⟨_, rfl, _, _, rfl, rfl, _, rfl, ite2 (fun c => ?_) (fun c => ?_)⟩
      · have c' : b < 0 := of_decide_eq_true c
        refine ⟨_, rfl, _, rfl, ?_, rfl⟩
        unfold gS
        rw [if_pos c']
        rfl
      · have c' : ¬ b < 0 := fun z => c (decide_eq_true z)
        refine ⟨?_, rfl⟩
        unfold gS
        rw [if_neg c']
        rfl
    · obtain ⟨rfl, rfl⟩ := hM
      have g0 := gS_ne (t := t) b0
      have gl := fin_log (gS_fin (t := t) b0 fb) (by decide) (by decide)
      refine ⟨_, rfl, _, rfl, t, _, rfl, rfl, ⟨g0, gl⟩, _, rfl, _, rfl, b, _, rfl, rfl, ⟨g0, gl⟩, (by show 2 ≤ sizeLine; decide), fun l nl => ?_⟩
      exact q l _ (same_new nl) (fr_dq (q := low t b) upd_same)
theorem ok_law_some (T : Txt K mg) : FnOk P w K mg base CX0 1 T.f_law_some T.d_law_some ["_law_p", "_law_number_here"] sl_some := by
  refine T.F_law_some.ok sc_law_some (fun vs H Q E h => ?_) (fun cdv A outer s H vs Q E hr h => ?_)
  · obtain ⟨p, n, rfl, _⟩ := h
    rfl
  · obtain ⟨p, n, rfl, q⟩ := h
    refine ⟨_, (pss_cons (ps_if (pt_cmpR op_gt (pv 0) pe_int (nomark _))
        (pss_one (ps_ret (pe_op op_mod (pe_callTy call_int1 (by rfl) T.m_int (by decide +kernel) (pa_cons (pv 1) pa_nil)) (pv 0))))
        pss_nil)
      (pss_one (ps_ret (pe_tup (pa_cons (pv 1) (pa_cons pe_int pa_nil)))))), ?_⟩
    unfold someD at q
    refine ⟨_, rfl, _, _, rfl, rfl, _, rfl, ite2 (fun c => ?_) (fun c => ?_)⟩
    · have c' : (0 : Int) < (p : Int) := of_decide_eq_true c
      rw [if_neg (by omega)] at q
      exact ⟨_, rfl, .inl ⟨_, rfl, _, rfl, n, p, rfl, rfl, c', q _ _ (fun _ _ z => z) (.int _)⟩⟩
    · have c' : ¬ (0 : Int) < (p : Int) := fun z => c (decide_eq_true z)
      rw [if_pos (by omega)] at q
      refine ⟨_, rfl, (by show 2 ≤ sizeLine; decide), fun l nl => ?_⟩
      exact q _ _ (same_new nl) (fr_dq (q := (n, 1)) upd_same)
theorem ok_law_times (T : Txt K mg) : FnOk P w K mg base CX0 3 T.f_law_times T.d_law_times ["_law_p", "_law_one", "_law_other"] (sp_law_op timesD) := by
  refine T.F_law_times.ok sc_law_times (fun vs H Q E h => ?_) (fun cdv A outer s H vs Q E hr h => ?_)
  · obtain ⟨p, x, y, a, b, rfl, _⟩ := h
    rfl
  · obtain ⟨p, x, y, a, b, rfl, ka, kb, na, nb, le, q⟩ := h
    refine ⟨_, (pss_cons (ps_if (pt_cmpR op_gt (pv 0) pe_int (nomark _))
        (pss_one (ps_ret (pe_op op_mod (pe_callTy call_int1 (by rfl) T.m_int (by decide +kernel) (pa_cons (pe_op op_mulW (pv 1) (pv 2)) pa_nil)) (pv 0))))
        pss_nil)
      (pss_one (ps_ret (pe_call (ok_law_low T) (hr.mono (by decide)) (by rfl) T.g_law_low T.F_law_low.kp T.b_law_low .nil pass0 (pa_cons (pe_op op_mulW (pe_ix ix_tup (pv 1) pe_int (fun _ _ => rfl)) (pe_ix ix_tup (pv 2) pe_int (fun _ _ => rfl))) (pa_cons (pe_op op_mulW (pe_ix ix_tup (pv 1) pe_int (fun _ _ => rfl)) (pe_ix ix_tup (pv 2) pe_int (fun _ _ => rfl))) pa_nil)))))), ?_⟩
    unfold timesD at q
    cases na with
    | @fr k r a1 a2 a3 =>
      cases nb with
      | @fr k t b1 b2 b3 =>
        rw [if_pos rfl] at q
        obtain ⟨l1, rfl, h1⟩ := fr_at ka
        obtain ⟨l2, rfl, h2⟩ := fr_at kb
        have w1 := Fin.mulW a2 b2 (by decide) (by decide) (by decide)
        have w2 := Fin.mulW a3 b3 (by decide) (by decide) (by decide)
        refine ⟨_, rfl, _, _, rfl, rfl, _, rfl, iteF ⟨_, rfl, l1, _, 0, _, rfl, rfl, SqT.of h1, at_of (j := 0) rfl rfl, _, rfl, l2, _, 0, _, rfl, rfl, SqT.of h2, at_of (j := 0) rfl rfl, _, _, rfl, rfl, w1, _, rfl, l1, _, 1, _, rfl, rfl, SqT.of h1, at_of (j := 1) rfl rfl, _, rfl, l2, _, 1, _, rfl, rfl, SqT.of h2, at_of (j := 1) rfl rfl, _, _, rfl, rfl, w2, _, _, rfl, mul_ne a1.1 b1.1, Fin.mul a3 b3, fun l H' s k => q _ H' s k⟩⟩
      | rs n _ => exact absurd rfl n
    | @rs p k x n a1 =>
      cases nb with
      | fr _ _ _ => exact absurd rfl n
      | @rs p k y n2 b1 =>
        rw [if_neg n] at q
        cases ka
        cases kb
        have p0 : (0 : Int) < p := by omega
        refine ⟨_, rfl, _, _, rfl, rfl, _, rfl, ite2 (fun _ => ⟨_, rfl, _, rfl, _, _, rfl, rfl, Fin.mulW (med_lt a1 le) (med_lt b1 le) (by decide) (by decide) (by decide), .inl ⟨_, rfl, _, rfl, _, _, rfl, rfl, p0, q _ _ (fun _ _ z => z) (.int _)⟩⟩) (fun c => absurd (decide_eq_true p0) c)⟩
theorem ok_law_plus (T : Txt K mg) : FnOk P w K mg base CX0 3 T.f_law_plus T.d_law_plus ["_law_p", "_law_one", "_law_other"] (sp_law_op plusD) := by
  refine T.F_law_plus.ok sc_law_plus (fun vs H Q E h => ?_) (fun cdv A outer s H vs Q E hr h => ?_)
  · obtain ⟨p, x, y, a, b, rfl, _⟩ := h
    rfl
  · obtain ⟨p, x, y, a, b, rfl, ka, kb, na, nb, le, q⟩ := h
    refine ⟨_, (pss_cons (ps_if (pt_cmpR op_gt (pv 0) pe_int (nomark _))
        (pss_one (ps_ret (pe_op op_mod (pe_callTy call_int1 (by rfl) T.m_int (by decide +kernel) (pa_cons (pe_op op_add (pv 1) (pv 2)) pa_nil)) (pv 0))))
        pss_nil)
      (pss_one (ps_ret (pe_call (ok_law_low T) (hr.mono (by decide)) (by rfl) T.g_law_low T.F_law_low.kp T.b_law_low .nil pass0 (pa_cons (pe_op op_add (pe_op op_mulW (pe_ix ix_tup (pv 1) pe_int (fun _ _ => rfl)) (pe_ix ix_tup (pv 2) pe_int (fun _ _ => rfl))) (pe_op op_mulW (pe_ix ix_tup (pv 2) pe_int (fun _ _ => rfl)) (pe_ix ix_tup (pv 1) pe_int (fun _ _ => rfl)))) (pa_cons (pe_op op_mulW (pe_ix ix_tup (pv 1) pe_int (fun _ _ => rfl)) (pe_ix ix_tup (pv 2) pe_int (fun _ _ => rfl))) pa_nil)))))), ?_⟩
    unfold plusD at q
    cases na with
    | @fr k r a1 a2 a3 =>
      cases nb with
      | @fr k t b1 b2 b3 =>
        rw [if_pos rfl] at q
        obtain ⟨l1, rfl, h1⟩ := fr_at ka
        obtain ⟨l2, rfl, h2⟩ := fr_at kb
        have w1 := Fin.mulW a2 b3 (by decide) (by decide) (by decide)
        have w2 := Fin.mulW b2 a3 (by decide) (by decide) (by decide)
        have w3 := Fin.mulW a3 b3 (by decide) (by decide) (by decide)
        refine ⟨_, rfl, _, _, rfl, rfl, _, rfl, iteF ⟨_, rfl, l1, _, 0, _, rfl, rfl, SqT.of h1, at_of (j := 0) rfl rfl, _, rfl, l2, _, 1, _, rfl, rfl, SqT.of h2, at_of (j := 1) rfl rfl, _, _, rfl, rfl, w1, _, rfl, l2, _, 0, _, rfl, rfl, SqT.of h2, at_of (j := 0) rfl rfl, _, rfl, l1, _, 1, _, rfl, rfl, SqT.of h1, at_of (j := 1) rfl rfl, _, _, rfl, rfl, w2, _, _, rfl, rfl, _, rfl, l1, _, 1, _, rfl, rfl, SqT.of h1, at_of (j := 1) rfl rfl, _, rfl, l2, _, 1, _, rfl, rfl, SqT.of h2, at_of (j := 1) rfl rfl, _, _, rfl, rfl, w3, _, _, rfl, mul_ne a1.1 b1.1, Fin.mul a3 b3, fun l H' s k => q _ H' s k⟩⟩
      | rs n _ => exact absurd rfl n
    | @rs p k x n a1 =>
      cases nb with
      | fr _ _ _ => exact absurd rfl n
      | @rs p k y n2 b1 =>
        rw [if_neg n] at q
        cases ka
        cases kb
        have p0 : (0 : Int) < p := by omega
        refine ⟨_, rfl, _, _, rfl, rfl, _, rfl, ite2 (fun _ => ⟨_, rfl, _, rfl, _, _, rfl, rfl, .inl ⟨_, rfl, _, rfl, _, _, rfl, rfl, p0, q _ _ (fun _ _ z => z) (.int _)⟩⟩) (fun c => absurd (decide_eq_true p0) c)⟩
theorem ok_law_nought (T : Txt K mg) : FnOk P w K mg base CX0 2 T.f_law_nought T.d_law_nought ["_law_p", "_law_thing"] sl_nought := by
  refine T.F_law_nought.ok sc_law_nought (fun vs H Q E h => ?_) (fun cdv A outer s H vs Q E hr h => ?_)
  · obtain ⟨p, k, x, d, rfl, _⟩ := h
    rfl
  · obtain ⟨p, k, x, d, rfl, fp, kx, nd, q⟩ := h
    refine ⟨_, (pss_one (ps_ret (pe_cmpR (op_eqD hr.units) (pv 1) (pe_call (ok_law_some T) (hr.mono (by decide)) (by rfl) T.g_law_some T.F_law_some.kp T.b_law_some .nil pass0 (pa_cons (pv 0) (pa_cons pe_int pa_nil))) (nomark _)))), ?_⟩
    refine ⟨_, rfl, _, rfl, p, 0, rfl, fun v H1 s1 kv => ?_⟩
    rw [some_zero] at kv
    refine ⟨d, zeroD p, (kx.same s1).dp, kv.dp, nb_shp nd, zero_shp p, ?_⟩
    have := q H1 s1
    unfold nzB at this
    rw [Bool.not_not] at this
    exact this
end
end K26
set_option Elab.async false
set_option linter.all false
set_option maxRecDepth 100000
set_option maxHeartbeats 4000000
set_option exponentiation.threshold 5000
set_option pp.maxSteps 900
namespace K26
open PySem PySem.Spec PyProof.Rows L2 TkS LamX NdefX
def sl_good : Sp := fun vs H Q _ => ∃ (p : Nat) (x : V) (d : PyData), vs = [.int (p : Int), x] ∧ Dq H x d ∧ Nb p 4300 d ∧ Q (.bl true) H
def sl_good_row : Sp := fun vs H Q _ => ∃ (p : Nat) (x : V) (ds : List PyData), vs = [.int (p : Int), x, .int (ds.length : Int)] ∧ Dq H x (.tuple ds) ∧ (∀ d ∈ ds, Nb p 4300 d) ∧ Q (.bl true) H
def sl_good_rows : Sp := fun vs H Q _ => ∃ (p n : Nat) (x : V) (R : List (List PyData)), vs = [.int (p : Int), x, .int (R.length : Int), .int (n : Int)] ∧ Dq H x (rowsD R) ∧ (∀ r ∈ R, r.length = n) ∧ (∀ r ∈ R, ∀ d ∈ r, Nb p 4300 d) ∧ Q (.bl true) H
def sl_prime : Sp := fun vs H Q _ => ∃ (h g : Addr), vs = [.ref h] ∧ Hnd h g H ∧ ∀ (p : Nat) H', Kp h g H H' → Hnd h g H' → Fp p → p ≤ 9973 → Q (.int (p : Int)) H'
def sl_field (CR CF : Addr) : Sp := fun vs H Q _ => ∃ p : Nat, vs = [.int (p : Int)] ∧ Fp p ∧ ∀ y H', Same H H' → H y = none → Fld CR CF H' y p → Q (.ref y) H'
section
variable {P : Program} {w : World} {K : PySem.W.Frag} {mg : Str → Option Value} {base : Heap}
theorem ok_law_good (T : Txt K mg) : FnOk P w K mg base CX0 2 T.f_law_good T.d_law_good ["_law_p", "_law_thing"] sl_good := by
  refine T.F_law_good.ok sc_law_good (fun vs H Q E h => ?_) (fun cdv A outer s H vs Q E hr h => ?_)
  · obtain ⟨p, x, d, rfl, _⟩ := h
    rfl
  · obtain ⟨p, x, d, rfl, kx, nb, q⟩ := h
    refine ⟨_, (pss_cons (ps_if (pt_cmpR op_gt (pv 0) pe_int (nomark _))
        (pss_one (ps_ret (pe_and (pe_call (ok_law_whole T) (hr.mono (by decide)) (by rfl) T.g_law_whole T.F_law_whole.kp T.b_law_whole .nil pass0 (pa_cons (pv 1) pa_nil)) (pe_one (pe_chain op_le op_lt pe_int (pv 1) (pv 0))))))
        pss_nil)
      (pss_cons (ps_if (PW.pt (pw_or (pt_not (pt_val (pe_callB call_isi (by rfl) T.m_isinstance (by decide +kernel) (pa_cons (pv 1) (pa_cons (pe_bltn (v := .ty "tuple") (u := .type "tuple") (by rfl) T.m_tuple (by decide +kernel) rfl) pa_nil))))) (pw_or (pt_cmpR op_ne (pe_callB call_len_seq (by rfl) T.m_len (by decide +kernel) (pa_cons (pv 1) pa_nil)) pe_int (nomark _)) (pw_or (pt_not (pt_val (pe_call (ok_law_whole T) (hr.mono (by decide)) (by rfl) T.g_law_whole T.F_law_whole.kp T.b_law_whole .nil pass0 (pa_cons (pe_ix ix_tup (pv 1) pe_int (fun _ _ => rfl)) pa_nil)))) (pw_or1 (pt_not (pt_val (pe_call (ok_law_whole T) (hr.mono (by decide)) (by rfl) T.g_law_whole T.F_law_whole.kp T.b_law_whole .nil pass0 (pa_cons (pe_ix ix_tup (pv 1) pe_int (fun _ _ => rfl)) pa_nil)))))))))
        (pss_one (ps_ret pe_bl))
        pss_nil)
      (pss_one (ps_ret (pe_and (pe_cmpR op_gt (pe_ix ix_tup (pv 1) pe_int (fun _ _ => rfl)) pe_int (nomark _)) (pe_one (pe_cmpR op_eq (pe_call (ok_law_gcd T) (hr.mono (by decide)) (by rfl) T.g_law_gcd T.F_law_gcd.kp T.b_law_gcd .nil pass0 (pa_cons (pe_ix ix_tup (pv 1) pe_int (fun _ _ => rfl)) (pa_cons (pe_ix ix_tup (pv 1) pe_int (fun _ _ => rfl)) pa_nil))) pe_int (nomark _)))))))), ?_⟩
    cases nb with
    | @fr k r l f1 f2 =>
      obtain ⟨l1, rfl, h1⟩ := fr_at kx
      obtain ⟨t, ty, k1, k2, k3⟩ := dq_ty (K := K) kx
      refine ⟨_, rfl, ((0 : Nat) : Int), 0, rfl, rfl, _, rfl, iteF ?_⟩
      refine ⟨_, rfl, _, .ty "tuple", t, _, true, rfl, .ty _, ty, k3.2, true, rfl, iteF ?_⟩
      refine ⟨_, rfl, l1, _, rfl, .inr (SqT.of h1), rfl, _, rfl, iteF ?_⟩
      refine ⟨_, rfl, l1, _, 0, _, rfl, rfl, SqT.of h1, at_of (j := 0) rfl rfl, .int r.1, .int r.1, rfl, .int _, true, rfl, iteF ?_⟩
      refine ⟨_, rfl, l1, _, 1, _, rfl, rfl, SqT.of h1, at_of (j := 1) rfl rfl, .int r.2, .int r.2, rfl, .int _, true, rfl, iteF ?_⟩
      refine ⟨_, rfl, l1, _, 1, _, rfl, rfl, SqT.of h1, at_of (j := 1) rfl rfl, r.2, 0, rfl, rfl, _, rfl, ite2 (fun c => ?_) (fun c => ?_)⟩
      · refine ⟨_, rfl, l1, _, 0, _, rfl, rfl, SqT.of h1, at_of (j := 0) rfl rfl, _, rfl, l1, _, 1, _, rfl, rfl, SqT.of h1, at_of (j := 1) rfl rfl, _, _, rfl, rfl, ?_⟩
        rw [l.2]
        exact q
      · exact absurd (decide_eq_true l.1) c
    | @rs p k n p0 l =>
      cases kx
      refine ⟨_, rfl, (p : Int), 0, rfl, rfl, _, rfl, ite2 (fun c => ?_) (fun c => ?_)⟩
      · refine ⟨_, rfl, .int (n : Int), .int (n : Int), rfl, .int _, true, rfl, iteT ?_⟩
        refine ⟨_, rfl, 0, (n : Int), rfl, rfl, _, rfl, ite2 (fun _ => ?_) (fun c => absurd (decide_eq_true (show (0 : Int) ≤ (n : Int) by omega)) c)⟩
        refine ⟨_, rfl, (n : Int), (p : Int), rfl, rfl, ?_⟩
        show Q (.bl (decide ((n : Int) < (p : Int)))) H
        rw [decide_eq_true (show (n : Int) < (p : Int) by omega)]
        exact q
      · exact absurd (decide_eq_true (show (0 : Int) < (p : Int) by omega)) c
theorem ok_law_good_row (T : Txt K mg) : FnOk P w K mg base CX0 3 T.f_law_good_row T.d_law_good_row ["_law_p", "_law_row", "_law_width"] sl_good_row := by
  refine T.F_law_good_row.ok sc_law_good_row (fun vs H Q E h => ?_) (fun cdv A outer s H vs Q E hr h => ?_)
  · obtain ⟨p, x, ds, rfl, _⟩ := h
    rfl
  · obtain ⟨p, x, ds, rfl, kx, nd, q⟩ := h
    refine ⟨_, (pss_cons (ps_if (PW.pt (pw_or (pt_not (pt_val (pe_callB call_isi (by rfl) T.m_isinstance (by decide +kernel) (pa_cons (pv 1) (pa_cons (pe_bltn (v := .ty "tuple") (u := .type "tuple") (by rfl) T.m_tuple (by decide +kernel) rfl) pa_nil))))) (pw_or1 (pt_cmpR op_ne (pe_callB call_len_seq (by rfl) T.m_len (by decide +kernel) (pa_cons (pv 1) pa_nil)) (pv 2) (nomark _)))))
        (pss_one (ps_ret pe_bl))
        pss_nil)
      (pss_cons (ps_for PassesOwn.never rfl (pi_tup (pv 1)) (pg_name (i := 3) sc_law_good_row.nd rfl (.inl rfl))
        (pss_one (ps_if (pt_not (pt_val (pe_call (ok_law_good T) (hr.mono (by decide)) (by rfl) T.g_law_good T.F_law_good.kp T.b_law_good .nil pass0 (pa_cons (pv 0) (pa_cons (pv 3) pa_nil)))))
          (pss_one (ps_ret pe_bl))
          pss_nil)))
      (pss_one (ps_ret pe_bl)))), ?_⟩
    obtain ⟨t, ty, k1, k2, k3⟩ := dq_ty (K := K) kx
    cases kx with
    | @tup a xs _ e1 u1 =>
    have lx := u1.len
    refine ⟨_, rfl, _, .ty "tuple", t, _, true, rfl, .ty _, ty, k3.2, true, rfl, iteF ?_⟩
    refine ⟨_, rfl, a, xs, rfl, .inr (SqT.of e1), _, rfl, rfl, _, rfl, ?_⟩
    rw [lx, decide_eq_true (rfl : V.int (ds.length : Int) = _)]
    refine iteF ?_
    refine ⟨_, rfl, a, rfl, ⟨xs, SqT.of e1⟩, for_tup (xs := xs) (fun i σ H' => ∃ y3, σ = [some (.int (p : Int)), some (.ref a), some (.int (ds.length : Int)), y3] ∧ H = H') ⟨none, rfl, rfl⟩ (fun i σ H' _ hP => by obtain ⟨_, _, rfl⟩ := hP; exact SqT.of e1) (fun i x σ H' hx hP => ?_) (fun σ H' hP => ?_)⟩
    · obtain ⟨y3, rfl, rfl⟩ := hP
      obtain ⟨d, hd, kd⟩ := u1.get hx
      exact ⟨_, rfl, _, rfl, p, x, d, rfl, kd, nd d (List.mem_of_getElem? hd), _, rfl, iteF ⟨_, rfl, rfl⟩⟩
    · obtain ⟨y3, rfl, rfl⟩ := hP
      exact q
theorem ok_law_good_rows (T : Txt K mg) : FnOk P w K mg base CX0 4 T.f_law_good_rows T.d_law_good_rows ["_law_p", "_law_rows_here", "_law_many", "_law_width"] sl_good_rows := by
  refine T.F_law_good_rows.ok sc_law_good_rows (fun vs H Q E h => ?_) (fun cdv A outer s H vs Q E hr h => ?_)
  · obtain ⟨p, n, x, R, rfl, _⟩ := h
    rfl
  · obtain ⟨p, n, x, R, rfl, kx, ln, nd, q⟩ := h
    refine ⟨_, (pss_cons (ps_if (PW.pt (pw_or (pt_not (pt_val (pe_callB call_isi (by rfl) T.m_isinstance (by decide +kernel) (pa_cons (pv 1) (pa_cons (pe_bltn (v := .ty "tuple") (u := .type "tuple") (by rfl) T.m_tuple (by decide +kernel) rfl) pa_nil))))) (pw_or1 (pt_cmpR op_ne (pe_callB call_len_seq (by rfl) T.m_len (by decide +kernel) (pa_cons (pv 1) pa_nil)) (pv 2) (nomark _)))))
        (pss_one (ps_ret pe_bl))
        pss_nil)
      (pss_cons (ps_for PassesOwn.never rfl (pi_tup (pv 1)) (pg_name (i := 4) sc_law_good_rows.nd rfl (.inl rfl))
        (pss_one (ps_if (pt_not (pt_val (pe_call (ok_law_good_row T) (hr.mono (by decide)) (by rfl) T.g_law_good_row T.F_law_good_row.kp T.b_law_good_row .nil pass0 (pa_cons (pv 0) (pa_cons (pv 4) (pa_cons (pv 3) pa_nil))))))
          (pss_one (ps_ret pe_bl))
          pss_nil)))
      (pss_one (ps_ret pe_bl)))), ?_⟩
    obtain ⟨t, ty, k1, k2, k3⟩ := dq_ty (K := K) kx
    cases kx with
    | @tup a xs _ e1 u1 =>
    have lx := u1.len
    rw [List.length_map] at lx
    refine ⟨_, rfl, _, .ty "tuple", t, _, true, rfl, .ty _, ty, k3.2, true, rfl, iteF ?_⟩
    refine ⟨_, rfl, a, xs, rfl, .inr (SqT.of e1), _, rfl, rfl, _, rfl, ?_⟩
    rw [lx, decide_eq_true (rfl : V.int (R.length : Int) = _)]
    refine iteF ?_
    refine ⟨_, rfl, a, rfl, ⟨xs, SqT.of e1⟩, for_tup (xs := xs) (fun i σ H' => ∃ y3, σ = [some (.int (p : Int)), some (.ref a), some (.int (R.length : Int)), some (.int (n : Int)), y3] ∧ H = H') ⟨none, rfl, rfl⟩ (fun i σ H' _ hP => by obtain ⟨_, _, rfl⟩ := hP; exact SqT.of e1) (fun i x σ H' hx hP => ?_) (fun σ H' hP => ?_)⟩
    · obtain ⟨y3, rfl, rfl⟩ := hP
      obtain ⟨d, hd, kd⟩ := u1.get hx
      rw [List.getElem?_map] at hd
      obtain ⟨r, hr', rfl⟩ := Option.map_eq_some_iff.mp hd
      have mr := List.mem_of_getElem? hr'
      exact ⟨_, rfl, _, rfl, _, rfl, p, x, r, (by rw [ln r mr]; rfl), kd, nd r mr, _, rfl, iteF ⟨_, rfl, rfl⟩⟩
    · obtain ⟨y3, rfl, rfl⟩ := hP
      exact q
theorem ok_law_prime (T : Txt K mg) : FnOk P w K mg base CX0 3 T.f_law_prime T.d_law_prime ["_law_state"] sl_prime := by
  refine T.F_law_prime.ok sc_law_prime (fun vs H Q E h => ?_) (fun cdv A outer s H vs Q E hr h => ?_)
  · obtain ⟨h, g, rfl, _⟩ := h
    rfl
  · obtain ⟨h, g, rfl, hd, q⟩ := h
    refine ⟨_, (pss_one (ps_ret (pe_ix ix_tup (pe_tup (pa_cons pe_int (pa_cons pe_int (pa_cons pe_int (pa_cons pe_int (pa_cons pe_int (pa_cons pe_int (pa_cons pe_int (pa_cons pe_int pa_nil))))))))) (pe_call (ok_law_draw T) (hr.mono (by decide)) (by rfl) T.g_law_draw T.F_law_draw.kp T.b_law_draw .nil pass0 (pa_cons (pv 0) (pa_cons pe_int pa_nil))) (fun _ _ => rfl)))), ?_⟩
    refine ⟨(by show 8 ≤ sizeLine; decide), fun l nl => ⟨_, rfl, h, g, 8, rfl, hd.same (same_new nl), by decide, by decide, fun H1 r k1 h1 r0 r1 => ?_⟩⟩
    obtain ⟨n1, n2⟩ := hd.fresh nl
    have e1 := k1 l _ n1 n2 upd_same
    have kk : Kp h g H H1 := (Kp.of (same_new nl)).trans k1
    have fin : ∀ p : Nat, Fp p → p ≤ 9973 → Q (.int (p : Int)) H1 := fun p fp l => q p _ kk h1 fp l
    have cases8 : r = 0 ∨ r = 1 ∨ r = 2 ∨ r = 3 ∨ r = 4 ∨ r = 5 ∨ r = 6 ∨ r = 7 := by omega
    rcases cases8 with rfl | rfl | rfl | rfl | rfl | rfl | rfl | rfl
    · exact ⟨l, _, 0, _, rfl, rfl, SqT.of e1, at_of (j := 0) rfl rfl, fin 3 (.inr ⟨pr_small (by decide +kernel) (by decide) (by decide), by decide⟩) (by decide)⟩
    · exact ⟨l, _, 1, _, rfl, rfl, SqT.of e1, at_of (j := 1) rfl rfl, fin 5 (.inr ⟨pr_small (by decide +kernel) (by decide) (by decide), by decide⟩) (by decide)⟩
    · exact ⟨l, _, 2, _, rfl, rfl, SqT.of e1, at_of (j := 2) rfl rfl, fin 7 (.inr ⟨pr_small (by decide +kernel) (by decide) (by decide), by decide⟩) (by decide)⟩
    · exact ⟨l, _, 3, _, rfl, rfl, SqT.of e1, at_of (j := 3) rfl rfl, fin 0 (.inl rfl) (by decide)⟩
    · exact ⟨l, _, 4, _, rfl, rfl, SqT.of e1, at_of (j := 4) rfl rfl, fin 2 (.inr ⟨pr_small (by decide +kernel) (by decide) (by decide), by decide⟩) (by decide)⟩
    · exact ⟨l, _, 5, _, rfl, rfl, SqT.of e1, at_of (j := 5) rfl rfl, fin 11 (.inr ⟨pr_small (by decide +kernel) (by decide) (by decide), by decide⟩) (by decide)⟩
    · exact ⟨l, _, 6, _, rfl, rfl, SqT.of e1, at_of (j := 6) rfl rfl, fin 101 (.inr ⟨pr_small (by decide +kernel) (by decide) (by decide), by decide⟩) (by decide)⟩
    · exact ⟨l, _, 7, _, rfl, rfl, SqT.of e1, at_of (j := 7) rfl rfl, fin 9973 (.inr ⟨pr_small (by decide +kernel) (by decide) (by decide), by decide⟩) (by decide)⟩
theorem ok_law_field (T : Txt K mg) : FnOk P w K mg base CX0 5 T.f_law_field T.d_law_field ["_law_p"] (sl_field T.C_RestField T.C_FractionField) := by
  refine T.F_law_field.ok sc_law_field (fun vs H Q E h => ?_) (fun cdv A outer s H vs Q E hr h => ?_)
  · obtain ⟨p, rfl, _⟩ := h
    rfl
  · obtain ⟨p, rfl, fp, q⟩ := h
    refine ⟨_, (pss_cons (ps_if (pt_cmpR op_gt (pv 0) pe_int (nomark _))
        (pss_one (ps_ret (pe_make T.M_RestField (ok_RestField_init T) (hr.mono (by decide)) (by rfl) T.g_RestField T.b_RestField_init .nil passL (pa_cons (pv 0) pa_nil))))
        pss_nil)
      (pss_one (ps_ret (pe_make0 T.M_FractionField (ok_FractionField_init T) (hr.mono (by decide)) (by rfl) T.g_FractionField T.b_FractionField_init .nil pass0)))), ?_⟩
    refine ⟨_, rfl, _, _, rfl, rfl, _, rfl, ite2 (fun c => ?_) (fun c => ?_)⟩
    · have c' : (0 : Int) < (p : Int) := of_decide_eq_true c
      have p0 : p ≠ 0 := by omega
      obtain ⟨pr, le⟩ : Pr p ∧ p ≤ 20000 := fp.resolve_left p0
      refine ⟨_, rfl, mk_rest (.int _) (fun e => ?_) fun p' e pr' le' H' y s n f => ?_⟩
      · rw [prime_is pr le] at e
        cases e
      · have : p = p' := by
          have := PyData.int.inj e
          omega
        subst this
        exact q y H' s n ⟨fp, fun z => absurd z p0, fun _ => f⟩
    · have p0 : p = 0 := by
        have : ¬ (0 : Int) < (p : Int) := fun z => c (decide_eq_true z)
        omega
      subst p0
      exact mk_frac fun H' y s n f => q y H' s n ⟨.inl rfl, fun _ => f, fun z => absurd rfl z⟩
end
end K26
set_option Elab.async false
set_option linter.all false
/-! rows over a ring in which what is not zero has an inverse: spans, echelons, solutions (no kit) -/
namespace Lin
variable {R : Type} [Lean.Grind.CommRing R]
def sN : Nat → (Nat → R) → R
  | 0, _ => 0
  | m + 1, f => sN m f + f m
theorem sN_congr {f g : Nat → R} : ∀ {m : Nat}, (∀ i, i < m → f i = g i) → sN m f = sN m g
  | 0, _ => rfl
  | m + 1, h => by
    show sN m f + f m = sN m g + g m
    rw [sN_congr fun i hi => h i (by omega), h m (by omega)]
theorem sN_zero : ∀ {m : Nat}, sN m (fun _ => (0 : R)) = 0
  | 0 => rfl
  | m + 1 => by
    show sN m (fun _ => (0 : R)) + 0 = 0
    rw [sN_zero]
    grind
theorem sN_add {f g : Nat → R} : ∀ {m : Nat}, sN m (fun i => f i + g i) = sN m f + sN m g
  | 0 => by show (0 : R) = 0 + 0; grind
  | m + 1 => by
    show sN m (fun i => f i + g i) + (f m + g m) = (sN m f + f m) + (sN m g + g m)
    rw [sN_add]
    grind
theorem sN_mul {c : R} {f : Nat → R} : ∀ {m : Nat}, sN m (fun i => c * f i) = c * sN m f
  | 0 => by show (0 : R) = c * 0; grind
  | m + 1 => by
    show sN m (fun i => c * f i) + c * f m = c * (sN m f + f m)
    rw [sN_mul]
    grind
theorem sN_swap {f : Nat → Nat → R} : ∀ {m n : Nat}, sN m (fun i => sN n fun k => f i k) = sN n (fun k => sN m fun i => f i k)
  | 0, n => by
    show (0 : R) = sN n fun _ => 0
    rw [sN_zero]
  | m + 1, n => by
    show sN m (fun i => sN n fun k => f i k) + sN n (fun k => f m k) = sN n (fun k => sN m (fun i => f i k) + f m k)
    rw [sN_swap, sN_add]
theorem sN_one {f : Nat → R} {k : Nat} : ∀ {m : Nat}, k < m → (∀ i, i < m → i ≠ k → f i = 0) → sN m f = f k
  | 0, h, _ => absurd h (by omega)
  | m + 1, h, z => by
    show sN m f + f m = f k
    by_cases c : k = m
    · subst c
      rw [sN_congr (g := fun _ => 0) fun i hi => z i (by omega) (by omega), sN_zero]
      grind
    · rw [sN_one (by omega) fun i hi ne => z i (by omega) ne, z m (by omega) (by omega)]
      grind
/-- v is a sum of the m rows, as far as column l -/
def Span (m : Nat) (A : Nat → Nat → R) (l : Nat) (v : Nat → R) : Prop := ∃ a : Nat → R, ∀ j, j < l → v j = sN m fun i => a i * A i j
theorem span_row {m l i : Nat} {A : Nat → Nat → R} (h : i < m) : Span m A l (A i) := ⟨fun k => if k = i then 1 else 0, fun j _ => by
  rw [sN_one (k := i) h fun k _ ne => by dsimp only; rw [if_neg ne]; grind]
  dsimp only
  rw [if_pos rfl]
  grind⟩
theorem span_add {m l : Nat} {A : Nat → Nat → R} {u v : Nat → R} (x y : R) (hu : Span m A l u) (hv : Span m A l v) : Span m A l fun j => x * u j + y * v j := by
  obtain ⟨a, ha⟩ := hu
  obtain ⟨b, hb⟩ := hv
  refine ⟨fun i => x * a i + y * b i, fun j hj => ?_⟩
  show x * u j + y * v j = _
  rw [ha j hj, hb j hj, ← sN_mul, ← sN_mul, ← sN_add]
  exact sN_congr fun i _ => by grind
theorem span_congr {m l : Nat} {A : Nat → Nat → R} {u v : Nat → R} (hu : Span m A l u) (h : ∀ j, j < l → v j = u j) : Span m A l v := by
  obtain ⟨a, ha⟩ := hu
  exact ⟨a, fun j hj => (h j hj).trans (ha j hj)⟩
theorem span_trans {m n l : Nat} {A B : Nat → Nat → R} {v : Nat → R} (h : ∀ i, i < n → Span m A l (B i)) (hv : Span n B l v) : Span m A l v := by
  obtain ⟨b, hb⟩ := hv
  have ex : ∃ c : Nat → Nat → R, ∀ i, i < n → ∀ j, j < l → B i j = sN m fun k => c i k * A k j := by
    refine ⟨fun i => if hi : i < n then Classical.choose (h i hi) else fun _ => 0, fun i hi j hj => ?_⟩
    dsimp only
    rw [dif_pos hi]
    exact Classical.choose_spec (h i hi) j hj
  obtain ⟨c, hc⟩ := ex
  refine ⟨fun k => sN n fun i => b i * c i k, fun j hj => ?_⟩
  rw [hb j hj]
  have e1 : sN n (fun i => b i * B i j) = sN n fun i => sN m fun k => b i * (c i k * A k j) := sN_congr fun i hi => by rw [hc i hi j hj, sN_mul]
  rw [e1, sN_swap]
  refine sN_congr fun k _ => ?_
  have : sN n (fun i => b i * (c i k * A k j)) = sN n fun i => A k j * (b i * c i k) := sN_congr fun i _ => by grind
  rw [this, sN_mul]
  grind
/-- the same sums -/
def Eqs (m : Nat) (A : Nat → Nat → R) (n : Nat) (B : Nat → Nat → R) (l : Nat) : Prop := (∀ i, i < n → Span m A l (B i)) ∧ ∀ i, i < m → Span n B l (A i)
theorem Eqs.refl {m l : Nat} {A : Nat → Nat → R} : Eqs m A m A l := ⟨fun _ h => span_row h, fun _ h => span_row h⟩
theorem Eqs.trans {m n k l : Nat} {A B C : Nat → Nat → R} (x : Eqs m A n B l) (y : Eqs n B k C l) : Eqs m A k C l := ⟨fun i h => span_trans x.1 (y.1 i h), fun i h => span_trans y.2 (x.2 i h)⟩
theorem Eqs.iff {m n l : Nat} {A B : Nat → Nat → R} (x : Eqs m A n B l) {v : Nat → R} : Span m A l v ↔ Span n B l v := ⟨span_trans x.2, span_trans x.1⟩
/-- some sum begins at column c -/
def LS (m : Nat) (A : Nat → Nat → R) (l c : Nat) : Prop := ∃ v, Span m A l v ∧ (∀ j, j < c → v j = 0) ∧ v c ≠ 0
theorem Eqs.ls {m n l c : Nat} {A B : Nat → Nat → R} (x : Eqs m A n B l) : LS m A l c ↔ LS n B l c := ⟨fun ⟨v, h, z⟩ => ⟨v, x.iff.mp h, z⟩, fun ⟨v, h, z⟩ => ⟨v, x.iff.mpr h, z⟩⟩
open Classical in
noncomputable def cnt (m : Nat) (A : Nat → Nat → R) (l : Nat) : Nat → Nat
  | 0 => 0
  | c + 1 => cnt m A l c + if LS m A l c then 1 else 0
open Classical in
theorem Eqs.cnt {m n l : Nat} {A B : Nat → Nat → R} (x : Eqs m A n B l) : ∀ c, Lin.cnt m A l c = Lin.cnt n B l c
  | 0 => rfl
  | c + 1 => by
    have e : LS m A l c = LS n B l c := propext x.ls
    show Lin.cnt m A l c + (if LS m A l c then 1 else 0) = Lin.cnt n B l c + (if LS n B l c then 1 else 0)
    rw [x.cnt c]
    congr 1
    by_cases h : LS m A l c
    · rw [if_pos h, if_pos (x.ls.mp h)]
    · rw [if_neg h, if_neg fun z => h (x.ls.mpr z)]
open Classical in
theorem cnt_yes {m l c : Nat} {A : Nat → Nat → R} (h : LS m A l c) : cnt m A l (c + 1) = cnt m A l c + 1 := by
  show cnt m A l c + (if LS m A l c then 1 else 0) = _
  rw [if_pos h]
open Classical in
theorem cnt_no {m l c : Nat} {A : Nat → Nat → R} (h : ¬ LS m A l c) : cnt m A l (c + 1) = cnt m A l c := by
  show cnt m A l c + (if LS m A l c then 1 else 0) = _
  rw [if_neg h]
  rfl
/-- what is not zero has an inverse -/
def Inv (R : Type) [Lean.Grind.CommRing R] : Prop := ∀ x : R, x ≠ 0 → ∃ y : R, y * x = 1
theorem Inv.cancel (I : Inv R) {x y : R} (h : x * y = 0) (n : y ≠ 0) : x = 0 := by
  obtain ⟨z, hz⟩ := I y n
  have : x = z * (x * y) := by grind
  rw [this, h]
  grind
/-- steps: the first r rows begin at the columns cs, the others are zero as far as place -/
structure Ech (m : Nat) (A : Nat → Nat → R) (r : Nat) (cs : Nat → Nat) (place : Nat) : Prop where
  rm : r ≤ m
  lt : ∀ i, i < r → cs i < place
  up : ∀ i k, i < k → k < r → cs i < cs k
  z : ∀ i, i < r → ∀ j, j < cs i → A i j = 0
  nz : ∀ i, i < r → A i (cs i) ≠ 0
  rest : ∀ i, r ≤ i → i < m → ∀ j, j < place → A i j = 0
theorem ech0 {m : Nat} {A : Nat → Nat → R} {cs : Nat → Nat} : Ech m A 0 cs 0 := ⟨Nat.zero_le _, fun _ h => absurd h (by omega), fun _ _ _ h => absurd h (by omega), fun _ h => absurd h (by omega), fun _ h => absurd h (by omega), fun _ _ _ _ h => absurd h (by omega)⟩
/-- a sum that is zero before c has no part of the rows that begin before c -/
theorem Ech.low (I : Inv R) {m l r place : Nat} {A : Nat → Nat → R} {cs : Nat → Nat} (x : Ech m A r cs place) (pl : place ≤ l) {a : Nat → R} {c : Nat} (cl : c ≤ place) (h : ∀ j, j < c → sN m (fun i => a i * A i j) = 0) : ∀ i, i < r → cs i < c → a i = 0 := by
  intro i
  induction i using Nat.strongRecOn with
  | ind i ih =>
    intro hi hc
    have e := h (cs i) hc
    have : sN m (fun k => a k * A k (cs i)) = a i * A i (cs i) := sN_one (by have := x.rm; omega) fun k hk ne => by
      by_cases hkr : k < r
      · rcases Nat.lt_or_gt_of_ne ne with lt | gt
        · rw [ih k lt hkr (Nat.lt_trans (x.up k i lt hi) hc)]
          grind
        · rw [x.z k hkr (cs i) (x.up i k gt hkr)]
          grind
      · rw [x.rest k (by omega) hk (cs i) (by omega)]
        grind
    rw [this] at e
    exact I.cancel e (x.nz i hi)
/-- where no row begins, no sum begins -/
theorem Ech.no (I : Inv R) {m l r place c : Nat} {A : Nat → Nat → R} {cs : Nat → Nat} (x : Ech m A r cs place) (pl : place ≤ l) (cl : c < l) (cp : c ≤ place) (zr : ∀ i, r ≤ i → i < m → A i c = 0) (nc : ∀ i, i < r → cs i ≠ c) : ¬ LS m A l c := by
  rintro ⟨v, ⟨a, ha⟩, z, n⟩
  have low := x.low I pl (a := a) cp fun j hj => by rw [← ha j (by omega)]; exact z j hj
  refine n ?_
  rw [ha c cl, sN_congr (g := fun _ => 0) fun i hi => ?_, sN_zero]
  by_cases hr : i < r
  · rcases Nat.lt_or_gt_of_ne (nc i hr) with lt | gt
    · rw [low i hr lt]
      grind
    · rw [x.z i hr c gt]
      grind
  · rw [zr i (by omega) hi]
    grind
/-- sums of which one more is asked -/
theorem cnt_le {m n l : Nat} {A B : Nat → Nat → R} (h : ∀ v, Span m A l v → Span n B l v) : ∀ c, cnt m A l c ≤ cnt n B l c
  | 0 => Nat.le_refl _
  | c + 1 => by
    have ih := cnt_le h c
    by_cases x : LS m A l c
    · have y : LS n B l c := by
        obtain ⟨v, hv, z⟩ := x
        exact ⟨v, h v hv, z⟩
      rw [cnt_yes x, cnt_yes y]
      omega
    · rw [cnt_no x]
      by_cases y : LS n B l c
      · rw [cnt_yes y]
        omega
      · rw [cnt_no y]
        exact ih
theorem cnt_all {m n l : Nat} {A B : Nat → Nat → R} (h : ∀ v, Span m A l v → Span n B l v) : ∀ c, cnt m A l c = cnt n B l c → ∀ j, j < c → LS n B l j → LS m A l j
  | 0, _, j, hj, _ => absurd hj (by omega)
  | c + 1, e, j, hj, hl => by
    have le := cnt_le h c
    by_cases x : LS m A l c
    · have y : LS n B l c := by
        obtain ⟨v, hv, z⟩ := x
        exact ⟨v, h v hv, z⟩
      rw [cnt_yes x, cnt_yes y] at e
      by_cases cj : j = c
      · rw [cj]; exact x
      · exact cnt_all h c (by omega) j (by omega) hl
    · by_cases y : LS n B l c
      · rw [cnt_no x, cnt_yes y] at e
        omega
      · rw [cnt_no x, cnt_no y] at e
        by_cases cj : j = c
        · rw [cj] at hl
          exact absurd hl y
        · exact cnt_all h c e j (by omega) hl
theorem in_span (I : Inv R) {m n l : Nat} {A B : Nat → Nat → R} (h : ∀ v, Span m A l v → Span n B l v) (e : cnt m A l l = cnt n B l l) {v : Nat → R} (hv : Span n B l v) : Span m A l v := by
  have go : ∀ k, k ≤ l → ∀ v, Span n B l v → (∀ j, j < l - k → v j = 0) → Span m A l v := fun k => by
    induction k with
    | zero =>
      intro _ v _ z
      exact ⟨fun _ => 0, fun j hj => by rw [z j (by omega), sN_congr (g := fun _ => 0) fun i _ => by grind, sN_zero]⟩
    | succ k ih =>
      intro hk v hv z
      by_cases c : v (l - (k + 1)) = 0
      · refine ih (by omega) v hv fun j hj => ?_
        by_cases cj : j = l - (k + 1)
        · rw [cj]; exact c
        · exact z j (by omega)
      · obtain ⟨u, hu, zu, nu⟩ := cnt_all h l e (l - (k + 1)) (by omega) ⟨v, hv, z, c⟩
        obtain ⟨y, hy⟩ := I _ nu
        have s := ih (by omega) (fun j => 1 * v j + (-(v (l - (k + 1)) * y)) * u j) (span_add 1 _ hv (h u hu)) fun j hj => by
          by_cases cj : j = l - (k + 1)
          · rw [cj]
            grind
          · rw [z j (by omega), zu j (by omega)]
            grind
        refine span_congr (span_add 1 (v (l - (k + 1)) * y) s hu) fun j _ => ?_
        grind
  exact go l (Nat.le_refl _) v hv fun j hj => absurd hj (by omega)
end Lin
set_option Elab.async false
set_option linter.all false
namespace Lin
variable {R : Type} [Lean.Grind.CommRing R]
theorem Ech.step {m r place : Nat} {A B : Nat → Nat → R} {cs : Nat → Nat} (x : Ech m A r cs place) (hr : r < m) (old : ∀ i, i < r → ∀ j, j < place → B i j = A i j) (z : ∀ j, j < place → B r j = 0) (nz : B r place ≠ 0) (rest : ∀ i, r < i → i < m → ∀ j, j ≤ place → B i j = 0) :
    Ech m B (r + 1) (fun i => if i = r then place else cs i) (place + 1) := by
  refine ⟨hr, fun i hi => ?_, fun i k ik hk => ?_, fun i hi j hj => ?_, fun i hi => ?_, fun i hi hm j hj => rest i (by omega) hm j (by omega)⟩
  · try dsimp only
    by_cases c : i = r
    · rw [if_pos c]; omega
    · rw [if_neg c]
      have := x.lt i (by omega)
      omega
  · try dsimp only
    rw [if_neg (show i ≠ r by omega)]
    by_cases c : k = r
    · rw [if_pos c]
      exact x.lt i (by omega)
    · rw [if_neg c]
      exact x.up i k ik (by omega)
  · try dsimp only at hj
    by_cases c : i = r
    · rw [if_pos c] at hj
      rw [c]
      exact z j hj
    · rw [if_neg c] at hj
      have := x.lt i (by omega)
      rw [old i (by omega) j (by omega)]
      exact x.z i (by omega) j hj
  · try dsimp only
    by_cases c : i = r
    · rw [if_pos c, c]
      exact nz
    · rw [if_neg c, old i (by omega) _ (x.lt i (by omega))]
      exact x.nz i (by omega)
theorem Ech.skip {m r place : Nat} {A : Nat → Nat → R} {cs : Nat → Nat} (x : Ech m A r cs place) (z : ∀ i, r ≤ i → i < m → A i place = 0) : Ech m A r cs (place + 1) :=
  ⟨x.rm, fun i h => Nat.lt_succ_of_lt (x.lt i h), x.up, x.z, x.nz, fun i h1 h2 j hj => by
    by_cases c : j = place
    · rw [c]; exact z i h1 h2
    · exact x.rest i h1 h2 j (by omega)⟩
theorem Ech.found {m l r place at' : Nat} {A : Nat → Nat → R} {cs : Nat → Nat} (x : Ech m A r cs place) (h1 : r ≤ at') (h2 : at' < m) (nz : A at' place ≠ 0) : LS m A l place := ⟨A at', span_row h2, fun j hj => x.rest at' h1 h2 j hj, nz⟩
theorem Ech.none (I : Inv R) {m l r place : Nat} {A : Nat → Nat → R} {cs : Nat → Nat} (x : Ech m A r cs place) (pl : place < l) (z : ∀ i, r ≤ i → i < m → A i place = 0) : ¬ LS m A l place :=
  x.no I (Nat.le_of_lt pl) pl (Nat.le_refl _) z fun i hi e => by have := x.lt i hi; omega
def sw (r at' i : Nat) : Nat := if i = at' then r else i
theorem pivot_eqs {m l r at' : Nat} {A B : Nat → Nat → R} {u w : R} {f : Nat → R} (hr : r < m) (ha : at' < m) (uw : w * u = 1) (hBr : ∀ j, j < l → B r j = u * A at' j) (hB : ∀ i, i < m → i ≠ r → ∀ j, j < l → B i j = A (sw r at' i) j + f i * A at' j) : Eqs m A m B l := by
  have sl : ∀ i, i < m → sw r at' i < m := fun i hi => by unfold sw; split <;> omega
  have lead : Span m B l (A at') := span_congr (span_add w 0 (span_row hr) (span_row hr)) fun j hj => by
    try dsimp only
    rw [hBr j hj]
    grind
  have back : ∀ i, i < m → i ≠ r → Span m B l (A (sw r at' i)) := fun i hi ne => span_congr (span_add 1 (-(f i)) (span_row hi) lead) fun j hj => by
    try dsimp only
    rw [hB i hi ne j hj]
    grind
  refine ⟨fun i hi => ?_, fun k hk => ?_⟩
  · by_cases c : i = r
    · rw [c]
      refine span_congr (span_add u 0 (span_row ha) (span_row ha)) fun j hj => ?_
      try dsimp only
      rw [hBr j hj]
      grind
    · refine span_congr (span_add 1 (f i) (span_row (sl i hi)) (span_row ha)) fun j hj => ?_
      try dsimp only
      rw [hB i hi c j hj]
      grind
  · by_cases c : k = at'
    · rw [c]; exact lead
    · by_cases d : k = r
      · have := back at' ha (fun z => c (by rw [d, z]))
        unfold sw at this
        rw [if_pos rfl] at this
        rw [d]
        exact this
      · have := back k hk d
        unfold sw at this
        rw [if_neg c] at this
        exact this
/-- ones at the leads, zeros over and under them -/
structure Red (m : Nat) (A : Nat → Nat → R) (r : Nat) (cs : Nat → Nat) : Prop where
  one : ∀ i, i < r → A i (cs i) = 1
  zr : ∀ i, i < r → ∀ k, k < m → k ≠ i → A k (cs i) = 0
theorem Red.step {m r at' place : Nat} {A B : Nat → Nat → R} {cs : Nat → Nat} {u : R} {f : Nat → R} {l : Nat} (e : Ech m A r cs place) (x : Red m A r cs) (pl : place < l) (ra : r ≤ at') (ha : at' < m) (hBr : ∀ j, j < l → B r j = u * A at' j) (hB : ∀ i, i < m → i ≠ r → ∀ j, j < l → B i j = A (sw r at' i) j + f i * A at' j) (o : B r place = 1) (z : ∀ i, i < m → i ≠ r → B i place = 0) :
    Red m B (r + 1) (fun i => if i = r then place else cs i) := by
  have lz : ∀ i, i < r → A at' (cs i) = 0 := fun i hi => e.rest at' ra ha _ (e.lt i hi)
  refine ⟨fun i hi => ?_, fun i hi k hk ne => ?_⟩
  · try dsimp only
    by_cases c : i = r
    · rw [if_pos c, c]; exact o
    · have hir : i < r := by omega
      rw [if_neg c, hB i (by omega) c _ (by have := e.lt i hir; omega), lz i hir]
      have : sw r at' i = i := by unfold sw; rw [if_neg (by omega)]
      rw [this, x.one i hir]
      grind
  · try dsimp only
    by_cases c : i = r
    · rw [if_pos c]
      exact z k hk (by omega)
    · have hir : i < r := by omega
      have hc := e.lt i hir
      rw [if_neg c]
      by_cases d : k = r
      · rw [d, hBr _ (by omega), lz i hir]
        grind
      · rw [hB k hk d _ (by omega), lz i hir]
        have : A (sw r at' k) (cs i) = 0 := by
          unfold sw
          split
          · exact e.rest r (Nat.le_refl _) (by omega) _ hc
          · exact x.zr i hir k hk ne
        rw [this]
        grind
/-- weights that make the last column out of the others -/
def Sol (m : Nat) (A : Nat → Nat → R) (n : Nat) (w : Nat → R) : Prop := ∀ i, i < m → sN n (fun k => w k * A i k) = A i n
theorem sol_span {m n : Nat} {A : Nat → Nat → R} {w v : Nat → R} (s : Sol m A n w) (h : Span m A (n + 1) v) : sN n (fun k => w k * v k) = v n := by
  obtain ⟨a, ha⟩ := h
  rw [ha n (by omega)]
  have e1 : sN n (fun k => w k * v k) = sN n fun k => sN m fun i => a i * (w k * A i k) := sN_congr fun k hk => by
    rw [ha k (by omega), ← sN_mul]
    exact sN_congr fun i _ => by grind
  rw [e1, sN_swap]
  refine sN_congr fun i hi => ?_
  rw [sN_mul, s i hi]
theorem Eqs.sol {m k n : Nat} {A B : Nat → Nat → R} {w : Nat → R} (x : Eqs m A k B (n + 1)) (s : Sol k B n w) : Sol m A n w := fun i hi => sol_span s (x.2 i hi)
theorem Eqs.symm {m k l : Nat} {A B : Nat → Nat → R} (x : Eqs m A k B l) : Eqs k B m A l := ⟨x.2, x.1⟩
theorem red_sol {m n r : Nat} {A : Nat → Nat → R} {cs : Nat → Nat} {w : Nat → R} (e : Ech m A r cs n) (x : Red m A r cs) (hl : ∀ i, r ≤ i → i < m → A i n = 0) (hw : ∀ i, i < r → w (cs i) = A i n) (h0 : ∀ k, k < n → (∀ i, i < r → cs i ≠ k) → w k = 0) : Sol m A n w := fun i hi => by
  by_cases c : i < r
  · rw [sN_one (k := cs i) (e.lt i c) fun k hk ne => ?_, hw i c, x.one i c]
    · grind
    · by_cases d : ∃ i', i' < r ∧ cs i' = k
      · obtain ⟨i', h1, h2⟩ := d
        have : i ≠ i' := fun z => ne (by rw [← h2, z])
        rw [← h2, x.zr i' h1 i hi this]
        grind
      · rw [h0 k hk fun i' h1 h2 => d ⟨i', h1, h2⟩]
        grind
  · rw [sN_congr (g := fun _ => 0) fun k hk => ?_, sN_zero, hl i (by omega) hi]
    rw [e.rest i (by omega) hi k hk]
    grind
theorem no_sol {m n r i : Nat} {A : Nat → Nat → R} {cs : Nat → Nat} {w : Nat → R} (e : Ech m A r cs n) (h1 : r ≤ i) (h2 : i < m) (nz : A i n ≠ 0) : ¬ Sol m A n w := fun s => by
  refine nz ?_
  rw [← s i h2, sN_congr (g := fun _ => 0) fun k hk => ?_, sN_zero]
  rw [e.rest i h1 h2 k hk]
  grind
/-- as many steps as columns: each column is a step -/
theorem Ech.all {m r n : Nat} {A : Nat → Nat → R} {cs : Nat → Nat} (e : Ech m A r cs n) (h : n ≤ r) : ∀ i, i < n → cs i = i := by
  have ge : ∀ i, i < r → i ≤ cs i := fun i => by
    induction i with
    | zero => intro _; omega
    | succ i ih =>
      intro hi
      have := ih (by omega)
      have := e.up i (i + 1) (by omega) hi
      omega
  have le : ∀ k i, i + k < r → cs i + k ≤ cs (i + k) := fun k => by
    induction k with
    | zero => intro i _; exact Nat.le_refl _
    | succ k ih =>
      intro i hi
      have h1 := ih i (by omega)
      have h2 := e.up (i + k) (i + (k + 1)) (by omega) hi
      omega
  intro i hi
  have h1 := ge i (by omega)
  have h2 := le (r - 1 - i) i (by omega)
  have h3 := e.lt (i + (r - 1 - i)) (by omega)
  omega
end Lin
set_option Elab.async false
set_option linter.all false
set_option maxRecDepth 100000
set_option maxHeartbeats 4000000
set_option exponentiation.threshold 5000
set_option pp.maxSteps 900
namespace K26
open PySem PySem.Spec PyProof.Rows L2 TkS LamX NdefX
theorem low_eq {t b t' b' : Int} (hb : b ≠ 0) (hb' : b' ≠ 0) (e : t * b' = t' * b) : low t b = low t' b' := by
  obtain ⟨l1, l2⟩ := low_ok (t := t') hb'
  refine low_is hb l1 ?_
  have : (t * (low t' b').2) * b' = ((low t' b').1 * b) * b' := by grind
  exact Int.eq_of_mul_eq_mul_right hb' this
/-- a number as a fraction of a known denominator, of a known size -/
inductive Fb : Nat → Int → Int → PyData → Prop
  | fr {D T t : Int} : 0 < D → -T ≤ t → t ≤ T → Fb 0 D T (frD (low t D))
  | rs {p : Nat} {D T : Int} {x : Nat} : p ≠ 0 → x < p → Fb p D T (.int (x : Int))
theorem Fb.up {p : Nat} {D T T' : Int} {d : PyData} (h : Fb p D T d) (l : T ≤ T') : Fb p D T' d := by
  cases h with
  | fr a b c => exact .fr a (by omega) (by omega)
  | rs a b => exact .rs a b
theorem Fb.scale {p : Nat} {D T c : Int} {d : PyData} (h : Fb p D T d) (c0 : 0 < c) : Fb p (c * D) (c * T) d := by
  cases h with
  | @fr D T t a b e =>
    have : low t D = low (c * t) (c * D) := low_eq (by omega) (by have := Int.mul_pos c0 a; omega) (by grind)
    rw [this]
    refine .fr (Int.mul_pos c0 a) ?_ (Int.mul_le_mul_of_nonneg_left e (by omega))
    have := Int.mul_le_mul_of_nonneg_left b (show 0 ≤ c by omega)
    rw [Int.mul_neg] at this
    exact this
  | rs a b => exact .rs a b
theorem Fb.nb {p k : Nat} {D T : Int} {d : PyData} (h : Fb p D T d) (hD : D < 2 ^ k) (hT : T < 2 ^ k) : Nb p k d := by
  cases h with
  | @fr D T t a b e =>
    have e2 : ((2 ^ k : Nat) : Int) = 2 ^ k := Int.natCast_pow 2 k
    refine nb_lowS (by omega) ?_ ?_ <;> unfold Fin <;> omega
  | rs a b => exact .rs a b
theorem frOf_fr (q : Int × Int) : frOf (frD q) = q := rfl
theorem pos_ne {x : Int} (h : 0 < x) : x ≠ 0 := by omega
theorem fb_rest {p : Nat} {D T : Int} {z : Int} (n : p ≠ 0) : Fb p D T (.int (z % (p : Int))) := by
  obtain ⟨y, e⟩ : ∃ y : Nat, z % (p : Int) = (y : Int) := ⟨(z % (p : Int)).toNat, (Int.toNat_of_nonneg (Int.emod_nonneg _ (by omega))).symm⟩
  have := Int.emod_lt_of_pos z (show (0 : Int) < p by omega)
  rw [e] at this ⊢
  exact .rs n (by omega)
theorem Fb.plus {p : Nat} {D T T' : Int} {a b : PyData} (ha : Fb p D T a) (hb : Fb p D T' b) : Fb p D (T + T') (plusD p a b) := by
  unfold plusD
  cases ha with
  | @fr D T t a1 a2 a3 =>
    cases hb with
    | @fr D T' u b1 b2 b3 =>
      rw [if_pos rfl, frOf_fr, frOf_fr]
      obtain ⟨l1, e1⟩ := low_ok (t := t) (pos_ne a1)
      obtain ⟨l2, e2⟩ := low_ok (t := u) (pos_ne a1)
      have : plusF (low t D) (low u D) = low (t + u) D := low_eq (mul_ne l1.1 l2.1) (pos_ne a1) (by grind)
      rw [this]
      exact .fr a1 (by omega) (by omega)
    | rs n _ => exact absurd rfl n
  | rs n _ =>
    rw [if_neg n]
    exact fb_rest n
theorem abs_mul_le {x y X Y : Int} (h1 : -X ≤ x) (h2 : x ≤ X) (h3 : -Y ≤ y) (h4 : y ≤ Y) : -(X * Y) ≤ x * y ∧ x * y ≤ X * Y := by
  have X0 : 0 ≤ X := by omega
  have Y0 : 0 ≤ Y := by omega
  have a1 := Int.mul_nonneg (show 0 ≤ X - x by omega) (show 0 ≤ Y + y by omega)
  have a2 := Int.mul_nonneg (show 0 ≤ X + x by omega) (show 0 ≤ Y - y by omega)
  have a3 := Int.mul_nonneg (show 0 ≤ X - x by omega) (show 0 ≤ Y - y by omega)
  have a4 := Int.mul_nonneg (show 0 ≤ X + x by omega) (show 0 ≤ Y + y by omega)
  constructor <;> grind
theorem Fb.times {p : Nat} {D D' T T' : Int} {a b : PyData} (ha : Fb p D T a) (hb : Fb p D' T' b) : Fb p (D * D') (T * T') (timesD p a b) := by
  unfold timesD
  cases ha with
  | @fr D T t a1 a2 a3 =>
    cases hb with
    | @fr D' T' u b1 b2 b3 =>
      rw [if_pos rfl, frOf_fr, frOf_fr]
      obtain ⟨l1, e1⟩ := low_ok (t := t) (pos_ne a1)
      obtain ⟨l2, e2⟩ := low_ok (t := u) (pos_ne b1)
      have : timesF (low t D) (low u D') = low (t * u) (D * D') := low_eq (mul_ne l1.1 l2.1) (mul_ne a1 b1) (by grind)
      rw [this]
      obtain ⟨c1, c2⟩ := abs_mul_le a2 a3 b2 b3
      exact .fr (Int.mul_pos a1 b1) c1 c2
    | rs n _ => exact absurd rfl n
  | rs n _ =>
    rw [if_neg n]
    exact fb_rest n
/-- a fraction with one of the bottoms 1, 2, 3 -/
theorem fb_six {t b M : Int} (b1 : 1 ≤ b) (b3 : b ≤ 3) (h1 : -M ≤ t) (h2 : t ≤ M) : Fb 0 6 (6 * M) (frD (low t b)) := by
  have : b = 1 ∨ b = 2 ∨ b = 3 := by omega
  rcases this with rfl | rfl | rfl
  · rw [low_eq (t := t) (b := 1) (t' := 6 * t) (b' := 6) (by decide) (by decide) (by omega)]
    exact .fr (by decide) (by omega) (by omega)
  · rw [low_eq (t := t) (b := 2) (t' := 3 * t) (b' := 6) (by decide) (by decide) (by omega)]
    exact .fr (by decide) (by omega) (by omega)
  · rw [low_eq (t := t) (b := 3) (t' := 2 * t) (b' := 6) (by decide) (by decide) (by omega)]
    exact .fr (by decide) (by omega) (by omega)
theorem low_one : low 1 1 = (1, 1) := low_is (by decide) ⟨by decide, by decide⟩ (by decide)
theorem low_self {M : Int} (h : 0 < M) : low M M = (1, 1) := by
  rw [← low_one]
  exact low_eq (pos_ne h) (by decide) (by omega)
theorem low_zero {M : Int} (h : 0 < M) : low 0 M = (0, 1) := low_is (pos_ne h) ⟨by decide, by decide⟩ (by omega)
theorem fb_one {p : Nat} (fp : Fp p) {M : Int} (h : 0 < M) : Fb p M M (oneD p) := by
  unfold oneD
  by_cases c : p = 0
  · rw [if_pos c]
    subst c
    rw [← low_self h]
    exact .fr h (by omega) (Int.le_refl _)
  · rw [if_neg c]
    have := fp.cases c
    exact .rs (x := 1) c (by omega)
theorem fb_zero {p : Nat} (fp : Fp p) {M T : Int} (h : 0 < M) (t0 : 0 ≤ T) : Fb p M T (zeroD p) := by
  unfold zeroD
  by_cases c : p = 0
  · rw [if_pos c]
    subst c
    rw [← low_zero h]
    exact .fr h (by omega) (by omega)
  · rw [if_neg c]
    have := fp.cases c
    exact .rs (x := 0) c (by omega)
theorem fb_minus {p : Nat} (fp : Fp p) {M : Int} (h : 0 < M) : Fb p M M (minusD p) := by
  unfold minusD
  by_cases c : p = 0
  · rw [if_pos c]
    subst c
    have : low (-M) M = (-1, 1) := low_is (pos_ne h) ⟨by decide, by decide⟩ (by omega)
    rw [← this]
    exact .fr h (by omega) (by omega)
  · rw [if_neg c]
    have := fp.cases c
    have e : ((p : Int) - 1) = ((p - 1 : Nat) : Int) := by omega
    rw [e]
    exact .rs c (by omega)
theorem Fb.dot {p : Nat} {D D' T T' : Int} : ∀ {xs ys : List PyData} {a : PyData} {A : Int}, (∀ d ∈ xs, Fb p D T d) → (∀ d ∈ ys, Fb p D' T' d) → xs.length = ys.length → Fb p (D * D') A a → Fb p (D * D') (A + xs.length * (T * T')) (dotD p xs ys a)
  | [], [], a, A, _, _, _, h => by
    show Fb p (D * D') (A + (0 : Nat) * (T * T')) a
    exact h.up (by omega)
  | [], _ :: _, _, _, _, _, l, _ => by simp at l
  | _ :: _, [], _, _, _, _, l, _ => by simp at l
  | x :: xs, y :: ys, a, A, hx, hy, l, h => by
    have := Fb.dot (xs := xs) (ys := ys) (fun d m => hx d (List.mem_cons_of_mem _ m)) (fun d m => hy d (List.mem_cons_of_mem _ m)) (by simpa using l) (h.plus ((hx x List.mem_cons_self).times (hy y List.mem_cons_self)))
    show Fb p (D * D') _ (dotD p xs ys (plusD p a (timesD p x y)))
    refine this.up ?_
    rw [List.length_cons]
    push_cast
    grind
/-! numbers of either field in a ring -/
def overD (p : Nat) (x y : PyData) : PyData := if p = 0 then frD (quotF (frOf x) (frOf y)) else .int (((intOf x).toNat * (intOf y).toNat ^ (p - 2) % p : Nat) : Int)
structure Phi (p : Nat) (R : Type) [Lean.Grind.CommRing R] (φ : PyData → R) : Prop where
  plus : ∀ {k m : Nat} {a b : PyData}, Nb p k a → Nb p m b → φ (plusD p a b) = φ a + φ b
  less : ∀ {k m : Nat} {a b : PyData}, Nb p k a → Nb p m b → φ (lessD p a b) = φ a - φ b
  times : ∀ {k m : Nat} {a b : PyData}, Nb p k a → Nb p m b → φ (timesD p a b) = φ a * φ b
  zero : φ (zeroD p) = 0
  one : φ (oneD p) = 1
  minus : φ (minusD p) = -1
  over : ∀ {k m : Nat} {a b : PyData}, Nb p k a → Nb p m b → b ≠ zeroD p → φ (overD p a b) * φ b = φ a
  inj : ∀ {k m : Nat} {a b : PyData}, Nb p k a → Nb p m b → φ a = φ b → a = b
def rv (d : PyData) : Rat := ((frOf d).1 : Rat) / ((frOf d).2 : Rat)
theorem rat_ne {b : Int} (h : b ≠ 0) : (b : Rat) ≠ 0 := fun z => h (by exact_mod_cast z)
theorem rv_low {t b : Int} (hb : b ≠ 0) : rv (frD (low t b)) = (t : Rat) / (b : Rat) := by
  obtain ⟨l1, h⟩ := low_ok (t := t) hb
  unfold rv
  rw [frOf_fr]
  have n1 := rat_ne (pos_ne l1.1)
  have n2 := rat_ne hb
  have e : ((t * (low t b).2 : Int) : Rat) = (((low t b).1 * b : Int) : Rat) := by rw [h]
  rw [Rat.intCast_mul, Rat.intCast_mul] at e
  grind
theorem phi_rat : Phi 0 Rat rv where
  plus := fun {k m a b} na nb => by
    cases na with
    | @fr k q l1 _ _ =>
      cases nb with
      | @fr m r l2 _ _ =>
        show rv (frD (plusF q r)) = _
        have n1 := rat_ne (pos_ne l1.1)
        have n2 := rat_ne (pos_ne l2.1)
        unfold plusF
        rw [rv_low (mul_ne l1.1 l2.1), Rat.intCast_mul, Rat.intCast_add, Rat.intCast_mul, Rat.intCast_mul]
        unfold rv
        rw [frOf_fr, frOf_fr]
        grind
      | rs n _ => exact absurd rfl n
    | rs n _ => exact absurd rfl n
  less := fun {k m a b} na nb => by
    cases na with
    | @fr k q l1 _ _ =>
      cases nb with
      | @fr m r l2 _ _ =>
        show rv (frD (lessF q r)) = _
        have n1 := rat_ne (pos_ne l1.1)
        have n2 := rat_ne (pos_ne l2.1)
        unfold lessF
        rw [rv_low (mul_ne l1.1 l2.1), Rat.intCast_mul, Rat.intCast_sub, Rat.intCast_mul, Rat.intCast_mul]
        unfold rv
        rw [frOf_fr, frOf_fr]
        grind
      | rs n _ => exact absurd rfl n
    | rs n _ => exact absurd rfl n
  times := fun {k m a b} na nb => by
    cases na with
    | @fr k q l1 _ _ =>
      cases nb with
      | @fr m r l2 _ _ =>
        show rv (frD (timesF q r)) = _
        have n1 := rat_ne (pos_ne l1.1)
        have n2 := rat_ne (pos_ne l2.1)
        unfold timesF
        rw [rv_low (mul_ne l1.1 l2.1), Rat.intCast_mul, Rat.intCast_mul]
        unfold rv
        rw [frOf_fr, frOf_fr]
        grind
      | rs n _ => exact absurd rfl n
    | rs n _ => exact absurd rfl n
  zero := by
    show ((0 : Int) : Rat) / ((1 : Int) : Rat) = 0
    grind
  one := by
    show ((1 : Int) : Rat) / ((1 : Int) : Rat) = 1
    grind
  minus := by
    show ((-1 : Int) : Rat) / ((1 : Int) : Rat) = -1
    grind
  over := fun {k m a b} na nb nz => by
    cases na with
    | @fr k q l1 _ _ =>
      cases nb with
      | @fr m r l2 _ _ =>
        have r1 := fr_zero l2 nz
        show rv (frD (quotF q r)) * _ = _
        have n1 := rat_ne (pos_ne l1.1)
        have n2 := rat_ne (pos_ne l2.1)
        have n3 := rat_ne r1
        unfold quotF
        rw [rv_low (fun z => (Int.mul_eq_zero.mp z).elim (fun h => pos_ne l1.1 h) r1), Rat.intCast_mul, Rat.intCast_mul]
        unfold rv
        rw [frOf_fr, frOf_fr]
        grind
      | rs n _ => exact absurd rfl n
    | rs n _ => exact absurd rfl n
  inj := fun {k m a b} na nb e => by
    cases na with
    | @fr k q l1 _ _ =>
      cases nb with
      | @fr m r l2 _ _ =>
        have n1 := rat_ne (pos_ne l1.1)
        have n2 := rat_ne (pos_ne l2.1)
        unfold rv at e
        rw [frOf_fr, frOf_fr] at e
        have e2 : (q.1 : Rat) * (r.2 : Rat) = (r.1 : Rat) * (q.2 : Rat) := by grind
        rw [← Rat.intCast_mul, ← Rat.intCast_mul] at e2
        rw [low_uniq l1 l2 (by exact_mod_cast e2)]
      | rs n _ => exact absurd rfl n
    | rs n _ => exact absurd rfl n
def rn (p : Nat) [NeZero p] (d : PyData) : _root_.Fin p := Fin.ofNat p (intOf d).toNat
theorem rn_nat {p : Nat} [NeZero p] (x : Nat) : rn p (.int (x : Int)) = Fin.ofNat p x := by
  show Fin.ofNat p ((x : Int)).toNat = _
  rw [Int.toNat_natCast]
theorem ofNat_mod {p : Nat} [NeZero p] (x : Nat) : Fin.ofNat p (x % p) = Fin.ofNat p x := by
  apply Fin.ext
  simp
theorem ofNat_mul {p : Nat} [NeZero p] (x y : Nat) : Fin.ofNat p (x * y) = Fin.ofNat p x * Fin.ofNat p y := by
  apply Fin.ext
  simp [Fin.val_mul]
theorem ofNat_add {p : Nat} [NeZero p] (x y : Nat) : Fin.ofNat p (x + y) = Fin.ofNat p x + Fin.ofNat p y := by
  apply Fin.ext
  simp [Fin.val_add]
theorem times_nat {p x y : Nat} (n : p ≠ 0) : timesD p (.int (x : Int)) (.int (y : Int)) = .int ((x * y % p : Nat) : Int) := by
  unfold timesD
  rw [if_neg n]
  rfl
theorem plus_nat {p x y : Nat} (n : p ≠ 0) : plusD p (.int (x : Int)) (.int (y : Int)) = .int (((x + y) % p : Nat) : Int) := by
  unfold plusD
  rw [if_neg n]
  rfl
theorem less_nat {p x y : Nat} (n : p ≠ 0) (h : y < p) : lessD p (.int (x : Int)) (.int (y : Int)) = .int (((x + (p - y)) % p : Nat) : Int) := by
  unfold lessD
  rw [if_neg n]
  show PyData.int (((x : Int) - (y : Int)) % (p : Int)) = _
  rw [show (x : Int) - (y : Int) = ((x + (p - y) : Nat) : Int) - (p : Int) by omega, Int.sub_emod, Int.emod_self, Int.sub_zero, Int.emod_emod_of_dvd _ (Int.dvd_refl _)]
  rfl
theorem over_nat {p x y : Nat} (n : p ≠ 0) : overD p (.int (x : Int)) (.int (y : Int)) = .int ((x * y ^ (p - 2) % p : Nat) : Int) := by
  unfold overD
  rw [if_neg n]
  rfl
theorem nz_nat {p y : Nat} (n : p ≠ 0) (h : PyData.int (y : Int) ≠ zeroD p) : y ≠ 0 := fun z => h (by
  unfold zeroD
  rw [if_neg n, z]
  rfl)
theorem inv_one {p y : Nat} [NeZero p] (pr : Pr p) (y0 : y ≠ 0) (ly : y < p) : Fin.ofNat p (y ^ (p - 2)) * Fin.ofNat p y = 1 := by
  have := pow_inv pr (not_dvd (by omega) ly)
  rw [← ofNat_mul, ← ofNat_mod, this]
  rfl
theorem phi_fin {p : Nat} (n0 : p ≠ 0) (pr : Pr p) [NeZero p] : Phi p (_root_.Fin p) (rn p) where
  plus := fun {k m a b} na nb => by
    cases na with
    | fr _ _ _ => exact absurd rfl n0
    | @rs p k x n lx =>
      cases nb with
      | fr _ _ _ => exact absurd rfl n0
      | @rs p m y n ly => rw [plus_nat n0, rn_nat, rn_nat, rn_nat, ofNat_mod, ofNat_add]
  less := fun {k m a b} na nb => by
    cases na with
    | fr _ _ _ => exact absurd rfl n0
    | @rs p k x n lx =>
      cases nb with
      | fr _ _ _ => exact absurd rfl n0
      | @rs p m y n ly =>
        rw [less_nat n0 ly, rn_nat, rn_nat, rn_nat, ofNat_mod, ofNat_add]
        have h : Fin.ofNat p (p - y) + Fin.ofNat p y = 0 := by
          rw [← ofNat_add, show p - y + y = p by omega]
          apply Fin.ext
          simp
        grind
  times := fun {k m a b} na nb => by
    cases na with
    | fr _ _ _ => exact absurd rfl n0
    | @rs p k x n lx =>
      cases nb with
      | fr _ _ _ => exact absurd rfl n0
      | @rs p m y n ly => rw [times_nat n0, rn_nat, rn_nat, rn_nat, ofNat_mod, ofNat_mul]
  zero := by
    unfold zeroD
    rw [if_neg n0]
    exact (rn_nat 0).trans rfl
  one := by
    unfold oneD
    rw [if_neg n0]
    exact (rn_nat 1).trans rfl
  minus := by
    unfold minusD
    rw [if_neg n0, show ((p : Int) - 1) = ((p - 1 : Nat) : Int) by omega, rn_nat]
    have h : Fin.ofNat p (p - 1) + Fin.ofNat p 1 = 0 := by
      rw [← ofNat_add, show p - 1 + 1 = p by omega]
      apply Fin.ext
      simp
    have h1 : Fin.ofNat p 1 = 1 := rfl
    rw [h1] at h
    grind
  over := fun {k m a b} na nb nz => by
    cases na with
    | fr _ _ _ => exact absurd rfl n0
    | @rs p k x n lx =>
      cases nb with
      | fr _ _ _ => exact absurd rfl n0
      | @rs p m y n ly =>
        have := inv_one pr (nz_nat n0 nz) ly
        rw [over_nat n0, rn_nat, rn_nat, rn_nat, ofNat_mod, ofNat_mul]
        grind
  inj := fun {k m a b} na nb e => by
    cases na with
    | fr _ _ _ => exact absurd rfl n0
    | @rs p k x n lx =>
      cases nb with
      | fr _ _ _ => exact absurd rfl n0
      | @rs p m y n ly =>
        rw [rn_nat, rn_nat] at e
        have := congrArg Fin.val e
        simp [Nat.mod_eq_of_lt lx, Nat.mod_eq_of_lt ly] at this
        rw [this]
theorem phi_has {p : Nat} (fp : Fp p) : ∃ (R : Type) (i : Lean.Grind.CommRing R) (φ : PyData → R), Phi p R φ := by
  by_cases c : p = 0
  · subst c
    exact ⟨Rat, inferInstance, rv, phi_rat⟩
  · have : NeZero p := ⟨c⟩
    exact ⟨_, inferInstance, rn p, phi_fin c (fp.resolve_left c).1⟩
theorem inv_rat : Lin.Inv Rat := fun x h => ⟨x⁻¹, Rat.inv_mul_cancel x h⟩
theorem inv_fin {p : Nat} [NeZero p] (pr : Pr p) : Lin.Inv (_root_.Fin p) := fun x h => by
  have e : Fin.ofNat p x.val = x := by
    apply Fin.ext
    simp [Nat.mod_eq_of_lt x.isLt]
  have x0 : x.val ≠ 0 := fun z => h (by
    apply Fin.ext
    rw [z]
    simp)
  have := inv_one pr x0 x.isLt
  rw [e] at this
  exact ⟨_, this⟩
theorem phi_inv {p : Nat} (fp : Fp p) : ∃ (R : Type) (i : Lean.Grind.CommRing R) (φ : PyData → R), Phi p R φ ∧ Lin.Inv R := by
  by_cases c : p = 0
  · subst c
    exact ⟨Rat, inferInstance, rv, phi_rat, inv_rat⟩
  · have : NeZero p := ⟨c⟩
    exact ⟨_, inferInstance, rn p, phi_fin c (fp.resolve_left c).1, inv_fin (fp.resolve_left c).1⟩
theorem Fb.less {p : Nat} {D T T' : Int} {a b : PyData} (ha : Fb p D T a) (hb : Fb p D T' b) : Fb p D (T + T') (lessD p a b) := by
  unfold lessD
  cases ha with
  | @fr D T t a1 a2 a3 =>
    cases hb with
    | @fr D T' u b1 b2 b3 =>
      rw [if_pos rfl, frOf_fr, frOf_fr]
      obtain ⟨l1, e1⟩ := low_ok (t := t) (pos_ne a1)
      obtain ⟨l2, e2⟩ := low_ok (t := u) (pos_ne a1)
      have : lessF (low t D) (low u D) = low (t - u) D := low_eq (mul_ne l1.1 l2.1) (pos_ne a1) (by grind)
      rw [this]
      exact .fr a1 (by omega) (by omega)
    | rs n _ => exact absurd rfl n
  | rs n _ =>
    rw [if_neg n]
    exact fb_rest n
/-- all quotients by one number have one bottom -/
theorem fb_overs {p : Nat} {D T : Int} {v : PyData} (hv : Fb p D T v) (nz : v ≠ zeroD p) (T1 : 1 ≤ T) : ∃ M, 0 < M ∧ M ≤ T ∧ ∀ u, Fb p D T u → Fb p M T (overD p u v) := by
  cases hv with
  | @fr D T t' b1 b2 b3 =>
    have t0 : t' ≠ 0 := fun z => nz (by rw [z, low_zero b1]; rfl)
    have main : ∀ t, overD 0 (frD (low t D)) (frD (low t' D)) = frD (low t t') := fun t => by
      obtain ⟨l1, e1⟩ := low_ok (t := t) (pos_ne b1)
      obtain ⟨l2, e2⟩ := low_ok (t := t') (pos_ne b1)
      have r1 : (low t' D).1 ≠ 0 := fun z => by
        rw [z, Int.zero_mul] at e2
        rcases Int.mul_eq_zero.mp e2 with h | h
        · exact t0 h
        · exact pos_ne l2.1 h
      have e : quotF (low t D) (low t' D) = low t t' := by
        refine low_eq (fun z => (Int.mul_eq_zero.mp z).elim (fun h => pos_ne l1.1 h) r1) t0 ?_
        refine Int.eq_of_mul_eq_mul_right (pos_ne b1) ?_
        grind
      show frD (quotF (low t D) (low t' D)) = _
      rw [e]
    rcases Int.lt_or_gt_of_ne t0 with h | h
    · refine ⟨-t', by omega, by omega, fun u hu => ?_⟩
      cases hu with
      | @fr _ _ t a1 a2 a3 =>
        rw [main t, low_eq (t := t) (b := t') (t' := -t) (b' := -t') t0 (by omega) (by grind)]
        exact .fr (by omega) (by omega) (by omega)
      | rs n _ => exact absurd rfl n
    · refine ⟨t', h, by omega, fun u hu => ?_⟩
      cases hu with
      | @fr _ _ t a1 a2 a3 =>
        rw [main t]
        exact .fr h a2 a3
      | rs n _ => exact absurd rfl n
  | @rs p D T y n ly =>
    refine ⟨1, by decide, T1, fun u hu => ?_⟩
    cases hu with
    | fr _ _ _ => exact absurd rfl n
    | @rs _ _ _ x _ lx =>
      rw [over_nat n]
      exact .rs n (Nat.mod_lt _ (by omega))
end K26
set_option Elab.async false
set_option linter.all false
set_option maxRecDepth 100000
set_option maxHeartbeats 4000000
set_option exponentiation.threshold 5000
set_option pp.maxSteps 900
namespace K26
open PySem PySem.Spec PyProof.Rows L2 TkS LamX NdefX
theorem vw_upd {h g D : Addr} {H : Hp} {o : HO} : TkS.Off D (Vw h g (upd H D o)) = TkS.Off D (Vw h g H) := by
  funext b
  unfold Vw TkS.Off
  by_cases z : b = D
  · rw [if_pos z, if_pos z]
  · rw [if_neg z, if_neg z, upd_ne z]
theorem dqs_upd {h g D : Addr} {H : Hp} {o : HO} {acc xs : List V} {ds : List PyData} (n1 : D ≠ h) (n2 : D ≠ g) (hD : H D = some (.lst acc)) (nl : noLists ds = true) (k : DqAll (Vw h g H) xs ds) : DqAll (Vw h g (upd H D o)) xs ds := by
  have := dqs_noL (vw_at n1 n2 hD) ds nl k
  rw [← vw_upd (o := o)] at this
  exact DqAll.same off_same _ this
theorem dq_upd {h g D : Addr} {H : Hp} {o : HO} {acc : List V} {x : V} {d : PyData} (n1 : D ≠ h) (n2 : D ≠ g) (hD : H D = some (.lst acc)) (nl : noList d = true) (k : Dq (Vw h g H) x d) : Dq (Vw h g (upd H D o)) x d := by
  have := dq_noL (vw_at n1 n2 hD) d nl k
  rw [← vw_upd (o := o)] at this
  exact this.same off_same
theorem Hnd.upd {h g D : Addr} {H : Hp} {o : HO} (x : Hnd h g H) (n1 : D ≠ h) (n2 : D ≠ g) : Hnd h g (L2.upd H D o) := by
  obtain ⟨cells, t, c, h1, h2, q⟩ := x.ex
  exact ⟨x.ne, cells, t, c, by rw [upd_ne (Ne.symm n1)]; exact h1, by rw [upd_ne (Ne.symm n2)]; exact h2, q⟩
theorem Kp.put {h g D : Addr} {H H' : Hp} {o : HO} (k : Kp h g H H') (nD : H D = none) : Kp h g H (upd H' D o) := fun b u n1 n2 e => by
  rw [upd_ne (ne_of_none e nD)]
  exact k b u n1 n2 e
end K26
namespace TkS
open PySem PySem.Spec PyProof.Rows L2
theorem DqAll.set {H : Hp} : ∀ {xs : List V} {ds : List PyData} {v : V} {d : PyData} (n : Nat), DqAll H xs ds → Dq H v d → DqAll H (xs.set n v) (ds.set n d)
  | _, _, _, _, _, .nil, _ => .nil
  | _, _, _, _, 0, .cons _ t, k => .cons k t
  | _, _, _, _, n + 1, .cons h t, k => .cons h (DqAll.set n t k)
end TkS
namespace K26
open PySem PySem.Spec PyProof.Rows L2 TkS LamX NdefX
theorem nbs_noL {p k : Nat} {ds : List PyData} (h : ∀ d ∈ ds, Nb p k d) : noLists ds = true := noLs_all fun d m => nb_noL (h d m)
theorem nz_one {p : Nat} (fp : Fp p) : nzB p (oneD p) = true := by
  unfold nzB
  rw [nb_ne (nb_one fp (Nat.le_refl 1)) (nb_zero fp (Nat.le_refl 1)) fun z => ?_]
  · rfl
  · unfold oneD zeroD at z
    by_cases c : p = 0
    · rw [if_pos c, if_pos c] at z
      have := frD_inj z
      exact absurd (congrArg Prod.fst this) (by decide)
    · rw [if_neg c, if_neg c] at z
      exact absurd (PyData.int.inj z) (by decide)
theorem if_valC {r : List V → Hp → VK → Prop} {te : TE} {t1 t2 : TS} {D : Ends} {σ : L2.St} {H : Hp} (h : te σ H fun v H1 => r [v] H1 fun u H2 => ∃ b, u = .bl b ∧ if b = true then t1 D σ H2 else t2 D σ H2) : tIfS (tTest (tCB r (tCons te tNil))) t1 t2 D σ H := h
/-- what is new since H, the law's state left out: no list that stood in H -/
def Nw (h g : Addr) (H H' : Hp) : Hp := fun b => match H b with
  | some (.lst _) => none
  | _ => Vw h g H' b
theorem nw_some {h g b : Addr} {H H' : Hp} {o : HO} (e : Nw h g H H' b = some o) : (∀ acc, H b ≠ some (.lst acc)) ∧ Vw h g H' b = some o := by
  unfold Nw at e
  split at e
  · cases e
  · rename_i n
    exact ⟨n, e⟩
theorem nw_is {h g b : Addr} {H H' : Hp} {o : HO} (n : ∀ acc, H b ≠ some (.lst acc)) (e : Vw h g H' b = some o) : Nw h g H H' b = some o := by
  unfold Nw
  split
  · rename_i acc z
    exact absurd z (n acc)
  · exact e
theorem vw_some {h g b : Addr} {H : Hp} {o : HO} (e : Vw h g H b = some o) : b ≠ h ∧ b ≠ g ∧ H b = some o := by
  unfold Vw TkS.Off at e
  by_cases c : b = g
  · rw [if_pos c] at e
    cases e
  · rw [if_neg c] at e
    by_cases c2 : b = h
    · rw [if_pos c2] at e
      cases e
    · rw [if_neg c2] at e
      exact ⟨c2, c, e⟩
theorem nw_vw {h g : Addr} {H H' : Hp} : Same (Nw h g H H') (Vw h g H') := fun b o e => (nw_some e).2
theorem nw_off {h g D : Addr} {H H' : Hp} {acc : List V} (hD : H D = some (.lst acc)) : Same (Nw h g H H') (TkS.Off D (Vw h g H')) := fun b o e => by
  obtain ⟨n, e'⟩ := nw_some e
  exact off_at (fun z => n acc (by rw [z]; exact hD)) e'
theorem nw_mono {h g : Addr} {H H' H2 : Hp} (k : Kp h g H' H2) : Same (Nw h g H H') (Nw h g H H2) := fun b o e => by
  obtain ⟨n, e'⟩ := nw_some e
  exact nw_is n (k.vw b o e')
theorem nw_old {h g : Addr} {H H1 H' : Hp} (k : Kp h g H H1) : Same (Nw h g H1 H') (Nw h g H H') := fun b o e => by
  obtain ⟨n, e'⟩ := nw_some e
  obtain ⟨n1, n2, _⟩ := vw_some e'
  exact nw_is (fun acc z => n acc (k b _ n1 n2 z)) e'
theorem Kp.free {h g b : Addr} {H G : Hp} (k : Kp h g H G) (x : Hnd h g G) (n : G b = none) : H b = none := by
  obtain ⟨n1, n2⟩ := x.fresh n
  cases e : H b with
  | none => rfl
  | some o =>
    rw [k b o n1 n2 e] at n
    cases n
theorem nw_at {h g b : Addr} {H H' : Hp} {o : HO} (n : H b = none) (n1 : b ≠ h) (n2 : b ≠ g) (e : H' b = some o) : Nw h g H H' b = some o := nw_is (fun acc z => by rw [n] at z; cases z) (vw_at n1 n2 e)
mutual
theorem dq_nw {h g : Addr} {H H' : Hp} (k : Kp h g H H') : ∀ {v : V} (d : PyData), noList d = true → Dq (Vw h g H') v d → Dq (Nw h g H H') v d
  | _, .none, _, .non => .non
  | _, .bool _, _, .bl b => .bl b
  | _, .int _, _, .int i => .int i
  | _, .str _, _, .str x => .str x
  | _, .list _, n, .lst e u => by cases n
  | _, .tuple ds, n, .tup e u => .tup (by
      obtain ⟨n1, n2, e'⟩ := vw_some e
      exact nw_is (fun acc z => by rw [k _ _ n1 n2 z] at e'; cases e') e) (dqs_nw k ds n u)
theorem dqs_nw {h g : Addr} {H H' : Hp} (k : Kp h g H H') : ∀ {vs : List V} (ds : List PyData), noLists ds = true → DqAll (Vw h g H') vs ds → DqAll (Nw h g H H') vs ds
  | _, [], _, .nil => .nil
  | _, d :: ds, n, .cons u v => by
    have n' : (noList d && noLists ds) = true := n
    obtain ⟨n1, n2⟩ := Bool.and_eq_true_iff.mp n'
    exact .cons (dq_nw k d n1 u) (dqs_nw k ds n2 v)
end
theorem nw_put {h g D : Addr} {H H2 H' : Hp} {o : HO} {acc : List V} (k : Kp h g H H2) (hD : H2 D = some (.lst acc)) : Same (Nw h g H2 H') (Nw h g H (upd H' D o)) := fun b u e => by
  obtain ⟨n, e'⟩ := nw_some e
  obtain ⟨n1, n2, e2⟩ := vw_some e'
  have nb : b ≠ D := fun z => n acc (by rw [z]; exact hD)
  exact nw_is (fun acc z => n acc (k b _ n1 n2 z)) (vw_at n1 n2 (by rw [upd_ne nb]; exact e2))
theorem fbs_noL {p : Nat} {D T : Int} {ds : List PyData} (h : ∀ d ∈ ds, Fb p D T d) : noLists ds = true := noLs_all fun d m => by
  cases h d m <;> rfl
theorem Fb.n24 {p : Nat} {d : PyData} (h : Fb p 6 12582912 d) : Nb p 24 d := h.nb (by decide) (by decide)
def sl_number : Sp := fun vs H Q _ => ∃ (h g : Addr) (p : Nat), vs = [.ref h, .int (p : Int)] ∧ Hnd h g H ∧ Fp p ∧ ∀ v H' d, Kp h g H H' → Hnd h g H' → Dq (Vw h g H') v d → Fb p 6 12582912 d → Q v H'
def sl_row : Sp := fun vs H Q _ => ∃ (h g : Addr) (p n : Nat), vs = [.ref h, .int (p : Int), .int (n : Int)] ∧ Hnd h g H ∧ Fp p ∧ 1 ≤ n ∧ n ≤ 6 ∧
  ∀ a H' ds, Kp h g H H' → Hnd h g H' → Dq (Nw h g H H') (.ref a) (.list ds) → ds.length = n → (∀ d ∈ ds, Fb p 6 12582912 d) → ds.any (nzB p) = true → Q (.ref a) H'
section
variable {P : Program} {w : World} {K : PySem.W.Frag} {mg : Str → Option Value} {base : Heap}
theorem ok_law_number (T : Txt K mg) : FnOk P w K mg base CX0 3 T.f_law_number T.d_law_number ["_law_state", "_law_p"] sl_number := by
  refine T.F_law_number.ok sc_law_number (fun vs H Q E h => ?_) (fun cdv A outer s H vs Q E hr h => ?_)
  · obtain ⟨h, g, p, rfl, _⟩ := h
    rfl
  · obtain ⟨h, g, p, rfl, hd, fp, q⟩ := h
    refine ⟨_, (pss_cons (ps_if (pt_cmpR op_gt (pv 1) pe_int (nomark _))
        (pss_one (ps_ret (pe_call (ok_law_draw T) (hr.mono (by decide)) (by rfl) T.g_law_draw T.F_law_draw.kp T.b_law_draw .nil pass0 (pa_cons (pv 0) (pa_cons (pv 1) pa_nil)))))
        pss_nil)
      (pss_cons (ps_set (i := 2) sc_law_number.nd rfl (.inl rfl) (pe_op op_sub (pe_call (ok_law_draw T) (hr.mono (by decide)) (by rfl) T.g_law_draw T.F_law_draw.kp T.b_law_draw .nil pass0 (pa_cons (pv 0) (pa_cons pe_int pa_nil))) pe_int))
      (Evl.pss_cut (ps_if (pt_cmpR op_eq (pe_call (ok_law_draw T) (hr.mono (by decide)) (by rfl) T.g_law_draw T.F_law_draw.kp T.b_law_draw .nil pass0 (pa_cons (pv 0) (pa_cons pe_int pa_nil))) pe_int (nomark _))
        (pss_one (ps_set (i := 2) sc_law_number.nd rfl (.inl rfl) (pe_op op_add (pv 2) (pe_call (ok_law_draw T) (hr.mono (by decide)) (by rfl) T.g_law_draw T.F_law_draw.kp T.b_law_draw .nil pass0 (pa_cons (pv 0) (pa_cons (pe_op op_pow pe_int pe_int) pa_nil))))))
        pss_nil)
      (pss_one (ps_ret (pe_call (ok_law_low T) (hr.mono (by decide)) (by rfl) T.g_law_low T.F_law_low.kp T.b_law_low .nil pass0 (pa_cons (pv 2) (pa_cons (pe_op op_add pe_int (pe_call (ok_law_draw T) (hr.mono (by decide)) (by rfl) T.g_law_draw T.F_law_draw.kp T.b_law_draw .nil pass0 (pa_cons (pv 0) (pa_cons pe_int pa_nil)))) pa_nil)))))))), ?_⟩
    refine ⟨_, rfl, _, _, rfl, rfl, _, rfl, ite2 (fun c => ?_) (fun c => ?_)⟩
    · have c' : (0 : Int) < (p : Int) := of_decide_eq_true c
      have p0 : p ≠ 0 := by omega
      have le := fp.le
      refine ⟨_, rfl, _, rfl, h, g, (p : Int), rfl, hd, c', by omega, fun H1 r k1 h1 r0 r1 => ?_⟩
      obtain ⟨n, rfl⟩ : ∃ n : Nat, r = (n : Int) := ⟨r.toNat, by omega⟩
      exact q _ H1 (.int _) k1 h1 (.int _) (.rs p0 (by omega))
    · have p0 : p = 0 := by
        have : ¬ (0 : Int) < (p : Int) := fun z => c (decide_eq_true z)
        omega
      subst p0
      refine ⟨_, rfl, h, g, 9, rfl, hd, by decide, by decide, fun H1 r k1 h1 r0 r1 => ⟨_, _, rfl, rfl, ?_⟩⟩
      refine ⟨fun σ H' => ∃ t : Int, σ = [some (.ref h), some (.int ((0 : Nat) : Int)), some (.int t)] ∧ Kp h g H H' ∧ Hnd h g H' ∧ t.natAbs < 2 ^ 21, ?_, fun σ H' hM => ?_⟩
      · refine ⟨_, rfl, h, g, 12, rfl, h1, by decide, by decide, fun H2 r2 k2 h2 r20 r21 => ⟨rfl, _, rfl, ite2 (fun c => ?_) (fun c => ?_)⟩⟩
        · refine ⟨_, rfl, _, rfl, 10, 6, rfl, rfl, ⟨by decide, by decide, by decide⟩, h, g, _, rfl, h2, by decide, by decide, fun H3 r3 k3 h3 r30 r31 => ⟨_, _, rfl, rfl, ?_⟩⟩
          have r31' : r3 < 1000000 := r31
          exact ⟨_, rfl, (k1.trans k2).trans k3, h3, by omega⟩
        · exact ⟨_, rfl, k1.trans k2, h2, by omega⟩
      · obtain ⟨t, rfl, k4, h4, t1⟩ := hM
        refine ⟨_, rfl, _, rfl, h, g, 3, rfl, h4, by decide, by decide, fun H5 r5 k5 h5 r50 r51 => ⟨_, _, rfl, rfl, ?_⟩⟩
        have b0 : 1 + r5 ≠ 0 := by omega
        have ft : Fin 22 t := Nat.lt_trans t1 (by decide)
        have fb : Fin 22 (1 + r5) := by
          unfold Fin
          omega
        obtain ⟨f1, f2⟩ := low_fin b0 ft fb
        refine ⟨t, 1 + r5, rfl, b0, fin_up fb (by decide), fun l H6 s6 k6 => ?_⟩
        exact q _ H6 _ ((k4.trans k5).trans (Kp.of s6)) (h5.same s6) (dq_vw (h5.same s6) _ rfl k6) (fb_six (M := 2097152) (by omega) (by omega) (by omega) (by omega))
end
end K26
set_option Elab.async false
set_option linter.all false
set_option maxRecDepth 100000
set_option maxHeartbeats 4000000
set_option exponentiation.threshold 5000
set_option pp.maxSteps 900
namespace K26
open PySem PySem.Spec PyProof.Rows L2 TkS LamX NdefX
abbrev lrowsD (R : List (List PyData)) : PyData := .list (R.map .list)
def sl_full : Sp := fun vs H Q _ => ∃ (p n : Nat) (x y : V) (R S : List (List PyData)), vs = [.int (p : Int), x, y] ∧ Fp p ∧ Dq H x (lrowsD R) ∧ Dq H y (lrowsD S) ∧ Gd p n R ∧ Gd p n S ∧ ∀ v H', Same H H' → Dq H' v (lrowsD (tableD p R S)) → Q v H'
section
variable {P : Program} {w : World} {K : PySem.W.Frag} {mg : Str → Option Value} {base : Heap}
end
end K26
set_option Elab.async false
set_option linter.all false
set_option maxRecDepth 100000
set_option maxHeartbeats 4000000
set_option exponentiation.threshold 5000
set_option pp.maxSteps 900
namespace K26
open PySem PySem.Spec PyProof.Rows L2 TkS LamX NdefX
/-- a meet, as it stands in the heap -/
structure MtO (C : Addr) (H : Hp) (a : Addr) (x y z : PyData) : Prop where
  at_ : ∃ dx vx vy vz, H a = some (.ins C dx [("first", vx), ("second", vy), ("row", vz)]) ∧ Dq H vx x ∧ Dq H vy y ∧ Dq H vz z
theorem MtO.same {C : Addr} {H H' : Hp} {a : Addr} {x y z : PyData} (h : MtO C H a x y z) (s : Same H H') : MtO C H' a x y z := by
  obtain ⟨dx, vx, vy, vz, h1, h2, h3, h4⟩ := h.at_
  exact ⟨dx, vx, vy, vz, s _ _ h1, h2.same s, h3.same s, h4.same s⟩
def sp_Meet_init (C : Addr) : Sp := fun vs H Q _ => ∃ (a dx : Addr) (vx vy vz : V) (x y z : PyData), vs = [.ref a, vx, vy, vz] ∧ H a = some (.ins C dx []) ∧ Dq H vx x ∧ Dq H vy y ∧ Dq H vz z ∧ ∀ H', KeepA a H H' → MtO C H' a x y z → Q .non H'
theorem mk_meet {C : Addr} {H1 : Hp} {R : Addr → Hp → Prop} {E : XK} {vx vy vz : V} {x y z : PyData} (kx : Dq H1 vx x) (ky : Dq H1 vy y) (kz : Dq H1 vz z) (hQ : ∀ H' a, Same H1 H' → H1 a = none → MtO C H' a x y z → R a H') :
    ∀ y' dx, H1 y' = none → H1 dx = none → dx ≠ y' → sp_Meet_init C (.ref y' :: ([vx, vy, vz] ++ [])) (upd (upd H1 dx (.own y')) y' (.ins C dx [])) (fun v H2 => v = .non ∧ R y' H2) E := fun y' dx nx nd ne => by
  have s0 : Same H1 (upd (upd H1 dx (.own y')) y' (.ins C dx [])) := Same.made nx nd fun b o e _ => e
  exact ⟨y', dx, vx, vy, vz, x, y, z, rfl, upd_same, kx.same s0, ky.same s0, kz.same s0, fun H' k m => ⟨rfl, hQ H' y' (Same.made nx nd k) nx m⟩⟩
section
variable {P : Program} {w : World} {K : PySem.W.Frag} {mg : Str → Option Value} {base : Heap} {cw Pw : Addr × Addr}
end
end K26
set_option Elab.async false
set_option linter.all false
set_option maxRecDepth 100000
set_option maxHeartbeats 4000000
set_option exponentiation.threshold 5000
set_option pp.maxSteps 900
namespace K26
open PySem PySem.Spec PyProof.Rows L2 TkS LamX NdefX
def colD (L : List PyData) (j : Nat) : List PyData := L.map fun d => (rowOf d).getD j .none
theorem noLs_mem : ∀ {ds : List PyData} {d : PyData}, noLists ds = true → d ∈ ds → noList d = true
  | x :: ds, d, h, m => by
    have h' : (noList x && noLists ds) = true := h
    obtain ⟨a, b⟩ := Bool.and_eq_true_iff.mp h'
    rcases List.mem_cons.mp m with rfl | m
    · exact a
    · exact noLs_mem b m
def sp_columns_of : Sp := fun vs H Q _ => ∃ (n : Nat) (x : V) (d : PyData) (L : List PyData), vs = [.int (n : Int), x] ∧ n ≤ 900 ∧ Dq H x d ∧ itemsD d = some L ∧ L.length ≤ 900 ∧ (∀ e ∈ L, ∃ r, itemsD e = some r ∧ n ≤ r.length ∧ noLists r = true) ∧
  ∀ D H', Same H H' → H D = none → Dq H' (.ref D) (.list ((List.range n).map fun j => .list (colD L j))) → Q (.ref D) H'
section
variable {P : Program} {w : World} {K : PySem.W.Frag} {mg : Str → Option Value} {base : Heap} {cw Pw : Addr × Addr}
theorem ok_columns_of (T : Txt K mg) : FnOk P w K mg base CX0 1 T.f_columns_of T.d_columns_of ["width", "rows"] sp_columns_of := by
  refine T.F_columns_of.ok sc_columns_of (fun vs H Q E h => ?_) (fun cdv A outer s H vs Q E hr h => ?_)
  · obtain ⟨n, x, d, L, rfl, _⟩ := h
    rfl
  · obtain ⟨n, x, d, L, rfl, n9, kx, ed, l9, al, q⟩ := h
    refine ⟨_, (pss_one (ps_ret (pe_lc rfl sc_columns_of.nd (pi_range1 (by rfl) T.m_range (pa_cons (pv 0) pa_nil)) (blkOk_by (own := [("place", 2)]) (N := ["width", "rows", "place", "row"]) (sc := defScope s_columns_of) (by decide +kernel)) (fun _ _ _ _ _ => (pg_name (i := 2) sc_columns_of.nd rfl (.inr rfl))) (fun _ _ _ _ _ => pts_nil) (fun _ _ _ _ _ => (show PE _ _ (tLc (iSeq K (tVar 1)) (gName 3) tYes (tOp (rIx K) (tVar 3) (tVar 2)) [3]) from pe_lc (own := [("row", 3)]) rfl sc_columns_of.nd (pi_seq (pv 1)) (by show BlkOk ["width", "rows", "place", "row"] { kind := .function, names := [(".0", .local), ("place", .cell), ("rows", .cell)], isGenerator := false, isCoroutine := false } _ _; exact blkOk_by (by decide +kernel)) (fun _ _ _ _ _ => (pg_name (i := 3) sc_columns_of.nd rfl (.inl rfl))) (fun _ _ _ _ _ => pts_nil) (fun _ _ _ _ _ => (pe_ix ix_seq (pv 3) (pv 2) (fun _ _ => rfl)))))))), ?_⟩
    obtain ⟨ax, xs, rfl, hxs, hsx⟩ := sq_of (K := K) kx ed
    refine ⟨_, rfl, (n : Int), rfl, by omega, by omega, fun D nD => ?_⟩
    rw [show ((n : Nat) : Int).toNat = n by omega]
    refine lc_rngD (fun _ => true) (fun j => .list (colD L j)) nD (by omega) (fun _ => rfl) (fun j H1 Q1 hj s1 q1 => q1 _ fun _ _ z => z) (fun j H1 Q1 hj _ s1 acc q1 => ?_) (fun H1 s1 kD => ?_)
    · obtain ⟨ac, hac⟩ := acc
      refine lc_seqD (f := fun _ => true) (e := fun d => (rowOf d).getD j .none) (fun Q h => ⟨_, rfl, h⟩) (hsx.same s1) (DqAll.same s1 _ hxs) l9 (fun x => rfl) (fun i x d H' Q _ _ _ h => h _ fun _ _ z => z) (fun D2 i y e H2 Q2 nD2 he _ s2 k2 acc2 q2 => ?_) (fun D2 H2 nD2 s2 kd => ?_)
      · obtain ⟨ac2, hac2⟩ := acc2
        obtain ⟨r, er, nr, nl⟩ := al e (List.mem_of_getElem? he)
        obtain ⟨ay, ys, rfl, hys, hsy⟩ := sq_of (K := K) k2 er
        have hr' := List.getElem?_eq_getElem (show j < r.length by omega)
        obtain ⟨z, hz, kz⟩ := dqs_at hys hr'
        have eg : (rowOf e).getD j .none = r[j] := by
          unfold rowOf
          rw [er]
          show r.getD j .none = _
          rw [List.getD_eq_getElem?_getD, hr']
          rfl
        refine ⟨_, rfl, _, rfl, ?_⟩
        refine rix_sq hsy (at_of (j := j) (by omega) hz) ?_
        refine q2 _ _ (fun _ _ z => z) ?_
        rw [eg]
        exact dq_noL hac2 _ (noLs_mem nl (List.getElem_mem _)) kz
      · rw [List.filter_eq_self.mpr fun _ _ => rfl] at kd
        refine q1 _ H2 s2 ?_
        have hac2 := s2 _ _ hac
        cases kd with
        | lst e u =>
          refine .lst (off_at (fun z => ?_) e) (dqs_noL hac2 _ (noLs_all fun x m => ?_) u)
          · rw [z, hac] at nD2
            cases nD2
          · obtain ⟨e', m', rfl⟩ := List.mem_map.mp m
            obtain ⟨r, er, nr, nl⟩ := al e' m'
            unfold rowOf
            rw [er]
            show noList (r.getD j .none) = true
            rw [List.getD_eq_getElem?_getD, List.getElem?_eq_getElem (show j < r.length by omega)]
            exact noLs_mem nl (List.getElem_mem _)
    · rw [List.filter_eq_self.mpr fun _ _ => rfl] at kD
      exact q D H1 s1 nD kD
end
end K26
set_option Elab.async false
set_option linter.all false
set_option maxRecDepth 100000
set_option maxHeartbeats 4000000
set_option exponentiation.threshold 5000
set_option pp.maxSteps 900
namespace K26
open PySem PySem.Spec PyProof.Rows L2 TkS LamX NdefX
/-- rows, at least one, all of n numbers -/
def sp_columns_as_rows : Sp := fun vs H Q _ => ∃ (n : Nat) (x : V) (d : PyData) (L : List PyData), vs = [x] ∧ n ≤ 900 ∧ Dq H x d ∧ itemsD d = some L ∧ 1 ≤ L.length ∧ L.length ≤ 900 ∧ (∀ e ∈ L, ∃ r, itemsD e = some r ∧ r.length = n ∧ noLists r = true) ∧
  ∀ D H', Same H H' → H D = none → Dq H' (.ref D) (.list ((List.range n).map fun j => .list (colD L j))) → Q (.ref D) H'
section
variable {P : Program} {w : World} {K : PySem.W.Frag} {mg : Str → Option Value} {base : Heap} {cw Pw : Addr × Addr}
theorem ok_columns_as_rows (T : Txt K mg) : FnOk P w K mg base CX0 2 T.f_columns_as_rows T.d_columns_as_rows ["rows"] sp_columns_as_rows := by
  refine T.F_columns_as_rows.ok sc_columns_as_rows (fun vs H Q E h => ?_) (fun cdv A outer s H vs Q E hr h => ?_)
  · obtain ⟨n, x, d, L, rfl, _⟩ := h
    rfl
  · obtain ⟨n, x, d, L, rfl, n9, kx, ed, l1, l9, al, q⟩ := h
    refine ⟨_, (pss_one (ps_ret (pe_ifExp (pt_truth (pv 0) (by intro _; rfl)) (pe_call (ok_columns_of T) (hr.mono (by decide)) (by rfl) T.g_columns_of T.F_columns_of.kp T.b_columns_of .nil pass0 (pa_cons (pe_callB call_len_seq (by rfl) T.m_len (by decide +kernel) (pa_cons (pe_ix ix_seq (pv 0) pe_int (fun _ _ => rfl)) pa_nil)) (pa_cons (pv 0) pa_nil))) (pe_lst pa_nil)))), ?_⟩
    obtain ⟨ax, xs, rfl, hxs, hsx⟩ := sq_of (K := K) kx ed
    have lx := hxs.len
    have he0 := List.getElem?_eq_getElem (show 0 < L.length by omega)
    obtain ⟨x0, hx0, kx0⟩ := dqs_at hxs he0
    obtain ⟨r0, er0, lr0, nl0⟩ := al _ (List.getElem_mem (show 0 < L.length by omega))
    obtain ⟨a0, x0s, rfl, hx0s, hs0⟩ := sq_of (K := K) kx0 er0
    have l0 := hx0s.len
    have ne : (!xs.isEmpty) = true := by
      cases xs with
      | nil => rw [List.length_nil] at lx; omega
      | cons a b => rfl
    refine ⟨_, rfl, true, hsx.elim (fun h => .inl ⟨xs, h, ne.symm⟩) (fun h => .inr (.inl ⟨xs, h, ne.symm⟩)), iteT ?_⟩
    refine ⟨_, rfl, ?_⟩
    refine rix_sq hsx (at_of (j := 0) rfl hx0) ?_
    refine ⟨a0, x0s, rfl, hs0, _, rfl, n, .ref ax, d, L, ?_, n9, kx, ed, l9, fun e m => ?_, q⟩
    · rw [l0, lr0]
      rfl
    · obtain ⟨r, e1, e2, e3⟩ := al e m
      exact ⟨r, e1, by omega, e3⟩
end
end K26
set_option Elab.async false
set_option linter.all false
set_option maxRecDepth 100000
set_option maxHeartbeats 4000000
set_option exponentiation.threshold 5000
set_option pp.maxSteps 900
namespace K26
open PySem PySem.Spec PyProof.Rows L2 TkS LamX NdefX
section
variable {P : Program} {w : World} {K : PySem.W.Frag} {mg : Str → Option Value} {base : Heap} {cw Pw : Addr × Addr}
/-- the product of one row of weights and m rows of n numbers -/
def sp_rows_product (CR CF : Addr) : Sp := fun vs H Q _ => ∃ (f : Addr) (p n : Nat) (x y : V) (dx dy : PyData) (A B : List (List PyData)) (c c2 : List PyData → PyData), vs = [.ref f, x, y] ∧ Fld CR CF H f p ∧ (∀ r, itemsD (c r) = some r) ∧ (∀ r, itemsD (c2 r) = some r) ∧ Dq H x dx ∧ itemsD dx = some (A.map c) ∧ Dq H y dy ∧ itemsD dy = some (B.map c2) ∧
  A.length ≤ 900 ∧ 1 ≤ B.length ∧ B.length ≤ 6 ∧ n ≤ 900 ∧ (∀ r ∈ A, r.length = B.length ∧ ∀ d ∈ r, Nb p 150 d) ∧ (∀ r ∈ B, r.length = n ∧ ∀ d ∈ r, Nb p 150 d) ∧
  ∀ l H', Same H H' → Dq H' (.ref l) (rowsD (A.map fun r => (List.range n).map fun j => dotD p r (B.map fun b => b.getD j .none) (zeroD p))) → Q (.ref l) H'
theorem ret_callE {sp : Sp} {E : XK} {te : TE} {D : Ends} {σ : L2.St} {H : Hp} (h : te σ H fun v H1 => sp ([v] ++ []) H1 D.rt E) : tRet (tCall sp [] E (tCons te tNil)) D σ H := h
theorem ok_rows_product (T : Txt K mg) : FnOk P w K mg base CX0 8 T.f_rows_product T.d_rows_product ["field", "rows", "others"] (sp_rows_product T.C_RestField T.C_FractionField) := by
  refine T.F_rows_product.ok sc_rows_product (fun vs H Q E h => ?_) (fun cdv A outer s H vs Q E hr h => ?_)
  · obtain ⟨f, p, n, x, y, dx, dy, A, B, c, c2, rfl, _⟩ := h
    rfl
  · obtain ⟨f, p, n, x, y, dx, dy, A', B, c, c2, rfl, hf, hc, hc2, kx, ex, ky, ey, a9, b1, b6, n9, hA, hB, q⟩ := h
    refine ⟨_, (pss_cons (ps_set (i := 3) sc_rows_product.nd rfl (.inr rfl) (pe_call (ok_columns_as_rows T) (hr.mono (by decide)) (by rfl) T.g_columns_as_rows T.F_columns_as_rows.kp T.b_columns_as_rows .nil pass0 (pa_cons (pv 2) pa_nil)))
      (pss_one (ps_ret (pe_call (ok_as_tuples T) (hr.mono (by decide)) (by rfl) T.g_as_tuples T.F_as_tuples.kp T.b_as_tuples .nil pass0 (pa_cons (pe_lc rfl sc_rows_product.nd (pi_seq (pv 1)) (blkOk_by (own := [("row", 4)]) (N := ["field", "rows", "others", "columns", "row", "column"]) (sc := defScope s_rows_product) (by decide +kernel)) (fun _ _ _ _ _ => (pg_name (i := 4) sc_rows_product.nd rfl (.inr rfl))) (fun _ _ _ _ _ => pts_nil) (fun _ _ _ _ _ => (show PE _ _ (tLc (iSeq K (tVar 3)) (gName 5) tYes (tCall (sp_product_sum T.C_RestField T.C_FractionField) [] E0 (tCons (tVar 0) (tCons (tVar 4) (tCons (tVar 5) tNil)))) [5]) from pe_lc (own := [("column", 5)]) rfl sc_rows_product.nd (pi_seq (pv 3)) (by show BlkOk ["field", "rows", "others", "columns", "row", "column"] { kind := .function, names := [(".0", .local), ("row", .cell), ("columns", .cell), ("field", .cell)], isGenerator := false, isCoroutine := false } _ _; exact blkOk_by (by decide +kernel)) (fun _ _ _ _ _ => (pg_name (i := 5) sc_rows_product.nd rfl (.inl rfl))) (fun _ _ _ _ _ => pts_nil) (fun _ _ _ _ _ => (pe_call (ok_product_sum T) (hr.mono (by decide)) (by rfl) T.g_product_sum T.F_product_sum.kp T.b_product_sum .nil pass0 (pa_cons (pv 0) (pa_cons (pv 4) (pa_cons (pv 5) pa_nil)))))))) pa_nil))))), ?_⟩
    have nlB : ∀ e ∈ B.map c2, ∃ r, itemsD e = some r ∧ r.length = n ∧ noLists r = true := fun e m => by
      obtain ⟨r, mr, rfl⟩ := List.mem_map.mp m
      exact ⟨r, hc2 r, (hB r mr).1, noLs_all fun d md => nb_noL ((hB r mr).2 d md)⟩
    refine ⟨_, rfl, n, y, dy, B.map c2, rfl, n9, ky, ey, by rw [List.length_map]; exact b1, by rw [List.length_map]; omega, nlB, fun Dc H1 s1 nDc kc => ?_⟩
    dsimp only
    have fp := hf.fp
    have ec : ∀ j, colD (B.map c2) j = B.map fun b => b.getD j .none := fun j => by
      unfold colD
      rw [List.map_map]
      refine List.map_congr_left fun b _ => ?_
      show ((itemsD (c2 b)).getD []).getD j .none = _
      rw [hc2 b]
      rfl
    obtain ⟨ax, xs, rfl, hxs, hsx⟩ := sq_of (K := K) (kx.same s1) ex
    obtain ⟨_, cs, z, hcs, hsc⟩ := sq_of (K := K) kc rfl
    cases z
    have nbc : ∀ j, j < n → ∀ d ∈ (B.map fun b => b.getD j .none), Nb p 150 d := fun j hj d m => by
      obtain ⟨b, mb, rfl⟩ := List.mem_map.mp m
      obtain ⟨l, nb⟩ := hB b mb
      rw [List.getD_eq_getElem?_getD, List.getElem?_eq_getElem (show j < b.length by omega)]
      exact nb _ (List.getElem_mem _)
    have nbd : ∀ r ∈ A', ∀ j, j < n → Nb p 1807 (dotD p r (B.map fun b => b.getD j .none) (zeroD p)) := fun r mr j hj => (dot_nb (hA r mr).2 (nbc j hj) (nb_zero fp (Nat.le_refl 1))).up (by have := (hA r mr).1; omega)
    refine ret_callE ?_
    refine lc_seqD (f := fun _ => true) (e := fun d => .list ((List.range n).map fun j => dotD p (rowOf d) (B.map fun b => b.getD j .none) (zeroD p))) (fun Q h => ⟨_, rfl, h⟩) hsx hxs (by rw [List.length_map]; omega) (fun x => rfl) (fun i x d H' Q _ _ _ h => h _ fun _ _ z => z) (fun D i x d H2 Q2 nD hd0 _ s2 k2 acc q2 => ?_) (fun D H2 nD s2 kd => ?_)
    · obtain ⟨ac, hac⟩ := acc
      rw [List.getElem?_map] at hd0
      obtain ⟨r, hr', rfl⟩ := Option.map_eq_some_iff.mp hd0
      have mr := List.mem_of_getElem? hr'
      have er : rowOf (c r) = r := by
        unfold rowOf
        rw [hc r]
        rfl
      rw [er] at q2
      refine lc_seqD (f := fun _ => true) (e := fun d => dotD p r (rowOf d) (zeroD p)) (fun Q h => ⟨_, rfl, h⟩) (hsc.same s2) (DqAll.same s2 _ hcs) (by rw [List.length_map, List.length_range]; omega) (fun x => rfl) (fun i x d H' Q _ _ _ h => h _ fun _ _ z => z) (fun D2 j y e H3 Q3 nD2 he _ s3 k3 acc2 q3 => ?_) (fun D2 H3 nD2 s3 kd => ?_)
      · obtain ⟨ac2, hac2⟩ := acc2
        rw [List.getElem?_map] at he
        obtain ⟨j', hj', rfl⟩ := Option.map_eq_some_iff.mp he
        have hjn : j' < n := List.mem_range.mp (List.mem_of_getElem? hj')
        have ej : rowOf (PyData.list (colD (B.map c2) j')) = B.map fun b => b.getD j' .none := by
          show colD (B.map c2) j' = _
          exact ec j'
        rw [ej] at q3
        exact ⟨_, rfl, _, rfl, _, rfl, f, p, x, y, c r, _, r, _, rfl, (hf.same s1).same (s2.trans s3), k2.same s3, hc r, k3, congrArg some (ec j'), by rw [(hA r mr).1, List.length_map], by rw [(hA r mr).1]; exact b6, (hA r mr).2, nbc j' hjn, fun v H4 s4 kv => q3 v H4 s4 (dq_noL (s4 _ _ hac2) _ (nb_noL (nbd r mr j' hjn)) kv)⟩
      · rw [List.filter_eq_self.mpr fun _ _ => rfl, List.map_map] at kd
        have hac3 := s3 _ _ hac
        have e2 : (List.range n).map ((fun d => dotD p r (rowOf d) (zeroD p)) ∘ fun j => PyData.list (colD (B.map c2) j)) = (List.range n).map fun j => dotD p r (B.map fun b => b.getD j .none) (zeroD p) := List.map_congr_left fun j _ => by
          show dotD p r (colD (B.map c2) j) (zeroD p) = _
          rw [ec j]
        rw [e2] at kd
        refine q2 _ H3 s3 ?_
        cases kd with
        | lst e u =>
          refine .lst (off_at (fun z => by rw [z, hac] at nD2; cases nD2) e) (dqs_noL hac3 _ (noLs_all fun d md => ?_) u)
          obtain ⟨j, mj, rfl⟩ := List.mem_map.mp md
          exact nb_noL (nbd r mr j (List.mem_range.mp mj))
    · rw [List.filter_eq_self.mpr fun _ _ => rfl, List.map_map] at kd
      refine ⟨.ref D, _, _, rfl, kd, rfl, by rw [List.length_map]; omega, fun e m => ?_, fun l H3 s3 k3 => q l H3 ((s1.trans s2).trans s3) ?_⟩
      · obtain ⟨r, mr, rfl⟩ := List.mem_map.mp m
        refine ⟨_, rfl, noLs_all fun d md => ?_⟩
        obtain ⟨j, mj, rfl⟩ := List.mem_map.mp md
        have er : rowOf (c r) = r := by
          unfold rowOf
          rw [hc r]
          rfl
        rw [er]
        exact nb_noL (nbd r mr j (List.mem_range.mp mj))
      · have e3 : tupsD (.list (A'.map ((fun d => PyData.list ((List.range n).map fun j => dotD p (rowOf d) (B.map fun b => b.getD j .none) (zeroD p))) ∘ c))) = rowsD (A'.map fun r => (List.range n).map fun j => dotD p r (B.map fun b => b.getD j .none) (zeroD p)) := by
          show PyData.tuple ((A'.map _).map _) = PyData.tuple ((A'.map _).map _)
          rw [List.map_map, List.map_map]
          refine congrArg PyData.tuple (List.map_congr_left fun r _ => ?_)
          show PyData.tuple ((List.range n).map fun j => dotD p (rowOf (c r)) _ _) = _
          have er : rowOf (c r) = r := by
            unfold rowOf
            rw [hc r]
            rfl
          rw [er]
          rfl
        rw [e3] at k3
        exact k3
end
end K26
set_option Elab.async false
set_option linter.all false
set_option maxRecDepth 100000
set_option maxHeartbeats 4000000
set_option exponentiation.threshold 5000
set_option pp.maxSteps 900
namespace K26
open PySem PySem.Spec PyProof.Rows L2 TkS LamX NdefX
def secD (p : Nat) (x y : PyData) : PyData := timesD p (minusD p) (overD p x y)
theorem over_nb {p k m : Nat} {x y : PyData} (nx : Nb p k x) (ny : Nb p m y) (nz : y ≠ zeroD p) : Nb p (k + m) (overD p x y) := by
  cases nx with
  | @fr k q l1 f1 f2 =>
    cases ny with
    | @fr m r l2 g1 g2 =>
      have r1 := fr_zero l2 nz
      exact nb_lowS (fun z => (Int.mul_eq_zero.mp z).elim (fun h => pos_ne l1.1 h) r1) (Fin.mul f1 g2) (Fin.mul f2 g1)
    | rs n _ => exact absurd rfl n
  | @rs p k x n lx =>
    cases ny with
    | fr _ _ _ => exact absurd rfl n
    | @rs p m y _ ly =>
      rw [over_nat n]
      exact .rs n (Nat.mod_lt _ (by omega))
theorem sec_nb {p k m : Nat} {x y : PyData} (fp : Fp p) (nx : Nb p k x) (ny : Nb p m y) (nz : y ≠ zeroD p) : Nb p (1 + (k + m)) (secD p x y) := timesD_nb (nb_minus fp (Nat.le_refl 1)) (over_nb nx ny nz)
theorem rv_inj {q r : Int × Int} (l1 : Lowest q) (l2 : Lowest r) (e : rv (frD q) = rv (frD r)) : q = r := by
  have n1 := rat_ne (pos_ne l1.1)
  have n2 := rat_ne (pos_ne l2.1)
  unfold rv at e
  rw [frOf_fr, frOf_fr] at e
  have e2 : (q.1 : Rat) * (r.2 : Rat) = (r.1 : Rat) * (q.2 : Rat) := by grind
  rw [← Rat.intCast_mul, ← Rat.intCast_mul] at e2
  exact low_uniq l1 l2 (by exact_mod_cast e2)
theorem sec_phi {p k m : Nat} {R : Type} [Lean.Grind.CommRing R] {φ : PyData → R} (F : Phi p R φ) (fp : Fp p) {x y : PyData} (nx : Nb p k x) (ny : Nb p m y) (nz : y ≠ zeroD p) : φ (secD p x y) * φ y = - φ x := by
  unfold secD
  rw [F.times (nb_minus (k := 1) fp (Nat.le_refl 1)) (over_nb nx ny nz), F.minus]
  have := F.over nx ny nz
  grind
theorem rv_quot {u r : Int × Int} (l1 : Lowest u) (l2 : Lowest r) (r1 : r.1 ≠ 0) : u.2 * r.1 ≠ 0 ∧ rv (frD (quotF u r)) = rv (frD u) * ((r.2 : Rat) / (r.1 : Rat)) := by
  have n1 := rat_ne (pos_ne l1.1)
  have n2 := rat_ne (pos_ne l2.1)
  have n3 := rat_ne r1
  have b2 : u.2 * r.1 ≠ 0 := fun z => (Int.mul_eq_zero.mp z).elim (fun h => pos_ne l1.1 h) r1
  refine ⟨b2, ?_⟩
  unfold quotF
  rw [rv_low b2, Rat.intCast_mul, Rat.intCast_mul]
  unfold rv
  rw [frOf_fr]
  grind
theorem sec_fr {q r : Int × Int} (l1 : Lowest q) (l2 : Lowest r) (r1 : r.1 ≠ 0) : frD (quotF (lessF (0, 1) q) r) = secD 0 (frD q) (frD r) := by
  have n1 := rat_ne (pos_ne l1.1)
  have b1 : (1 : Int) * q.2 ≠ 0 := by have := l1.1; omega
  have L : Lowest (lessF (0, 1) q) := (low_ok (t := 0 * q.2 - q.1 * 1) b1).1
  have e1 : rv (frD (lessF (0, 1) q)) = - rv (frD q) := by
    unfold lessF
    rw [rv_low b1, Int.zero_mul, Int.mul_one, Int.one_mul, Int.zero_sub, Rat.intCast_neg]
    unfold rv
    rw [frOf_fr]
    grind
  obtain ⟨b2, e2⟩ := rv_quot L l2 r1
  obtain ⟨b3, e3⟩ := rv_quot l1 l2 r1
  have M : Lowest (quotF q r) := (low_ok b3).1
  have e4 : rv (frD (timesF (-1, 1) (quotF q r))) = - rv (frD (quotF q r)) := by
    unfold timesF
    rw [rv_low (mul_ne (by decide) M.1), Rat.intCast_mul, Rat.intCast_mul]
    unfold rv
    rw [frOf_fr]
    have := rat_ne (pos_ne M.1)
    grind
  refine congrArg frD (rv_inj (low_ok b2).1 (low_ok (mul_ne (by decide) M.1)).1 ?_)
  show rv (frD (quotF (lessF (0, 1) q) r)) = rv (frD (timesF (-1, 1) (quotF q r)))
  rw [e2, e4, e3, e1]
  grind
theorem sec_rs {p x y r : Nat} (fp : Fp p) (n0 : p ≠ 0) (lx : x < p) (ly : y < p) (y0 : y ≠ 0) (h : (r : Int) * (y : Int) % (p : Int) = 1) : PyData.int ((0 - (x : Int)) % (p : Int) * (r : Int) % (p : Int)) = secD p (.int (x : Int)) (.int (y : Int)) := by
  have pr := (fp.resolve_left n0).1
  have p2 := pr.1
  have : NeZero p := ⟨n0⟩
  have F := phi_fin n0 pr
  have fx : (0 - (x : Int)) % (p : Int) = (((p - x) % p : Nat) : Int) := by
    rw [show (0 - (x : Int)) = ((p - x : Nat) : Int) - (p : Int) by omega, Int.sub_emod, Int.emod_self, Int.sub_zero, Int.emod_emod_of_dvd _ (Int.dvd_refl _)]
    rfl
  have fr : (((p - x) % p : Nat) : Int) * (r : Int) % (p : Int) = (((p - x) % p * r % p : Nat) : Int) := rfl
  rw [fx, fr]
  have yz : PyData.int (y : Int) ≠ zeroD p := fun z => by
    unfold zeroD at z
    rw [if_neg n0] at z
    have := PyData.int.inj z
    omega
  have nx : Nb p 1 (.int (x : Int)) := .rs n0 lx
  have ny : Nb p 1 (.int (y : Int)) := .rs n0 ly
  refine F.inj (k := 1) (.rs n0 (Nat.mod_lt _ (by omega))) (sec_nb fp nx ny yz) ?_
  have s := sec_phi F fp nx ny yz
  have h1 : Fin.ofNat p r * Fin.ofNat p y = 1 := by
    rw [← ofNat_mul, ← ofNat_mod]
    have : r * y % p = 1 := by exact_mod_cast h
    rw [this]
    rfl
  have h2 : Fin.ofNat p (p - x) + Fin.ofNat p x = 0 := by
    rw [← ofNat_add, show p - x + x = p by omega]
    apply Fin.ext
    simp
  rw [rn_nat] at *
  rw [rn_nat] at s
  rw [ofNat_mod, ofNat_mul, ofNat_mod]
  grind
/-- the weights at two numbers, not both zero: they make zero of them -/
def w1D (p : Nat) (y : PyData) : PyData := if nzB p y = true then oneD p else zeroD p
def w2D (p : Nat) (x y : PyData) : PyData := if nzB p y = true then secD p x y else oneD p
theorem nz_iff {p k : Nat} {y : PyData} (fp : Fp p) (ny : Nb p k y) : nzB p y = true ↔ y ≠ zeroD p := by
  unfold nzB
  constructor
  · intro h z
    rw [z] at h
    rw [nb_self (nb_zero fp (Nat.le_refl 1))] at h
    cases h
  · intro h
    rw [nb_ne ny (nb_zero fp (Nat.le_refl 1)) h]
    rfl
def sp_weights_on (CR CF : Addr) : Sp := fun vs H Q _ => ∃ (f : Addr) (p : Nat) (v : V) (x y : PyData), vs = [.ref f, v] ∧ Fld CR CF H f p ∧ Dq H v (.tuple [x, y]) ∧ Nb p 150 x ∧ Nb p 150 y ∧
  ∀ l H', Same H H' → Dq H' (.ref l) (.tuple [w1D p y, w2D p x y]) → Q (.ref l) H'
theorem two_dqN {H : Hp} {xs : List V} {x y : PyData} (u : DqAll H xs [x, y]) : ∃ a b, xs = [a, b] ∧ Dq H a x ∧ Dq H b y := by
  cases u with
  | cons h t => cases t with
    | cons h2 t2 => cases t2; exact ⟨_, _, rfl, h, h2⟩
section
variable {P : Program} {w : World} {K : PySem.W.Frag} {mg : Str → Option Value} {base : Heap} {cw Pw : Addr × Addr}
theorem fld_one (T : Txt K mg) {H : Hp} {f : Addr} {p : Nat} (hf : Fld T.C_RestField T.C_FractionField H f p) : ∃ C dx fs v, H f = some (.ins C dx fs) ∧ Cls K C ∧ NoAttr K C "one" ∧ fs.lookup ("one" : Str) = some v ∧ Dq H v (oneD p) := by
  unfold oneD
  by_cases p0 : p = 0
  · rw [if_pos p0]
    obtain ⟨dx, z, o, n, ea, ez, eo, em⟩ := (hf.fr p0).at_
    exact ⟨_, dx, _, _, ea, T.cl_FractionField, T.na_FractionField_one, rfl, fr_dq (q := (1, 1)) eo⟩
  · rw [if_neg p0]
    obtain ⟨⟨dx, ha⟩, pr, le⟩ := id (hf.rs p0)
    exact ⟨_, dx, _, _, ha, T.cl_RestField, T.na_RestField_one, rfl, .int _⟩
end
end K26
set_option Elab.async false
set_option linter.all false
set_option maxRecDepth 100000
set_option maxHeartbeats 4000000
set_option exponentiation.threshold 5000
set_option pp.maxSteps 900
namespace K26
open PySem PySem.Spec PyProof.Rows L2 TkS LamX NdefX
/-! the reduced rows, as data -/
def atR (M : List (List PyData)) (i j : Nat) : PyData := (M.getD i []).getD j .none
def rowLess (p : Nat) (r : List PyData) (f : PyData) (lead : List PyData) : List PyData := List.zipWith (fun x y => lessD p x (timesD p f y)) r lead
def leadRow (p : Nat) (r : List PyData) (place : Nat) : List PyData := r.map fun x => overD p x (r.getD place .none)
def swapM (M : List (List PyData)) (index many : Nat) : List (List PyData) := M.set index (M.getD many [])
def stepR (p : Nat) (M : List (List PyData)) (many index place : Nat) : List (List PyData) :=
  (List.range M.length).map fun i => if i = many then leadRow p (M.getD index []) place else rowLess p ((swapM M index many).getD i []) (((swapM M index many).getD i []).getD place .none) (leadRow p (M.getD index []) place)
def leadAt (p : Nat) (M : List (List PyData)) (first place : Nat) : Option Nat := ((List.range M.length).filter fun i => decide (first ≤ i) && nzB p (atR M i place)).head?
def redN (p : Nat) (M : List (List PyData)) : Nat → List (List PyData) × List Nat
  | 0 => (M, [])
  | k + 1 => match leadAt p (redN p M k).1 (redN p M k).2.length k with
    | none => ((redN p M k).1, (redN p M k).2)
    | some i => (stepR p (redN p M k).1 (redN p M k).2.length i k, (redN p M k).2 ++ [k])
def TB : Nat → Int
  | 0 => 2 ^ 65
  | r + 1 => 2 * (TB r * TB r)
def DB : Nat → Int
  | 0 => 2 ^ 65
  | r + 1 => DB r * TB r
theorem TB.pos : ∀ r, 1 ≤ TB r
  | 0 => by decide
  | r + 1 => by
    have := TB.pos r
    have h : 1 * 1 ≤ TB r * TB r := Int.mul_le_mul this this (by decide) (by omega)
    show 1 ≤ 2 * (TB r * TB r)
    omega
theorem DB.le : ∀ r, 0 < DB r ∧ DB r ≤ TB r
  | 0 => by decide
  | r + 1 => by
    obtain ⟨h1, h2⟩ := DB.le r
    have t := TB.pos r
    have h3 : DB r * TB r ≤ TB r * TB r := Int.mul_le_mul_of_nonneg_right h2 (by omega)
    have h4 : 0 < DB r * TB r := Int.mul_pos h1 (by omega)
    refine ⟨h4, ?_⟩
    show DB r * TB r ≤ 2 * (TB r * TB r)
    omega
/-- rows of one length, with one bottom -/
structure Gm (p l r : Nat) (M : List (List PyData)) : Prop where
  ln : ∀ x ∈ M, x.length = l
  fb : ∃ D, 0 < D ∧ D ≤ DB r ∧ ∀ x ∈ M, ∀ d ∈ x, Fb p D (TB r) d
theorem getD_memL {M : List (List PyData)} {i : Nat} (h : i < M.length) : M.getD i [] ∈ M := by
  rw [List.getD_eq_getElem?_getD, List.getElem?_eq_getElem h]
  exact List.getElem_mem h
theorem getD_mem {r : List PyData} {j : Nat} (h : j < r.length) : r.getD j .none ∈ r := by
  rw [List.getD_eq_getElem?_getD, List.getElem?_eq_getElem h]
  exact List.getElem_mem h
theorem big_nb {p r : Nat} {D : Int} {d : PyData} (hr : r ≤ 6) (hD : D ≤ DB r) (h : Fb p D (TB r) d) : Nb p 4300 d := by
  have up : ∀ {k m}, k ≤ m → TB k ≤ TB m := fun {k m} l => by
    induction m with
    | zero => rw [show k = 0 by omega]; exact Int.le_refl _
    | succ m ih =>
      by_cases c : k = m + 1
      · rw [c]; exact Int.le_refl _
      · have := ih (by omega)
        have t := TB.pos m
        have h2 : TB m * 1 ≤ TB m * TB m := Int.mul_le_mul_of_nonneg_left t (by omega)
        have : TB m ≤ 2 * (TB m * TB m) := by omega
        show TB k ≤ 2 * (TB m * TB m)
        omega
  have t6 : TB 6 < 2 ^ 4300 := by decide +kernel
  have h1 := up hr
  have h2 := (DB.le r).2
  exact h.nb (by omega) (by omega)
theorem Gm.nb {p l r : Nat} {M : List (List PyData)} (g : Gm p l r M) (hr : r ≤ 6) : ∀ x ∈ M, ∀ d ∈ x, Nb p 4300 d := by
  obtain ⟨D, d0, d1, f⟩ := g.fb
  exact fun x mx d md => big_nb hr d1 (f x mx d md)
theorem leadAt_none {p : Nat} {M : List (List PyData)} {first place : Nat} (h : leadAt p M first place = none) : ∀ i, first ≤ i → i < M.length → nzB p (atR M i place) = false := fun i h1 h2 => by
  unfold leadAt at h
  rw [List.head?_eq_none_iff] at h
  cases e : nzB p (atR M i place) with
  | false => rfl
  | true =>
    have : i ∈ (List.range M.length).filter fun i => decide (first ≤ i) && nzB p (atR M i place) := List.mem_filter.mpr ⟨List.mem_range.mpr h2, by rw [e, decide_eq_true h1]; rfl⟩
    rw [h] at this
    cases this
theorem leadAt_some {p : Nat} {M : List (List PyData)} {first place i : Nat} (h : leadAt p M first place = some i) : first ≤ i ∧ i < M.length ∧ nzB p (atR M i place) = true := by
  unfold leadAt at h
  have := List.mem_of_head? h
  obtain ⟨m1, m2⟩ := List.mem_filter.mp this
  obtain ⟨b1, b2⟩ := Bool.and_eq_true_iff.mp m2
  exact ⟨of_decide_eq_true b1, List.mem_range.mp m1, b2⟩
section
variable {p l r m : Nat} {M : List (List PyData)}
theorem step_len {many index place : Nat} : (stepR p M many index place).length = M.length := by
  unfold stepR
  rw [List.length_map, List.length_range]
theorem step_at {many index place i : Nat} (h : i < M.length) : (stepR p M many index place).getD i [] = if i = many then leadRow p (M.getD index []) place else rowLess p ((swapM M index many).getD i []) (((swapM M index many).getD i []).getD place .none) (leadRow p (M.getD index []) place) := by
  unfold stepR
  rw [List.getD_eq_getElem?_getD, List.getElem?_map, List.getElem?_range h]
  rfl
theorem swap_at {many index i : Nat} (h1 : many < M.length) (h : i < M.length) : (swapM M index many).getD i [] = M.getD (Lin.sw many index i) [] := by
  unfold swapM Lin.sw
  rw [List.getD_eq_getElem?_getD]
  by_cases c : i = index
  · subst c
    rw [List.getElem?_set_self h, if_pos rfl]
    rfl
  · rw [List.getElem?_set_ne (Ne.symm c), if_neg c, List.getD_eq_getElem?_getD]
theorem less_at {x : List PyData} {f : PyData} {y : List PyData} {j : Nat} (h1 : j < x.length) (h2 : j < y.length) : (rowLess p x f y).getD j .none = lessD p (x.getD j .none) (timesD p f (y.getD j .none)) := by
  unfold rowLess
  rw [List.getD_eq_getElem?_getD, List.getElem?_zipWith, List.getElem?_eq_getElem h1, List.getElem?_eq_getElem h2, List.getD_eq_getElem?_getD, List.getD_eq_getElem?_getD, List.getElem?_eq_getElem h1, List.getElem?_eq_getElem h2]
  rfl
theorem lead_at {x : List PyData} {place j : Nat} (h1 : j < x.length) : (leadRow p x place).getD j .none = overD p (x.getD j .none) (x.getD place .none) := by
  unfold leadRow
  generalize x.getD place .none = u
  rw [List.getD_eq_getElem?_getD, List.getElem?_map, List.getElem?_eq_getElem h1, List.getD_eq_getElem?_getD, List.getElem?_eq_getElem h1]
  rfl
theorem lead_len {x : List PyData} {place : Nat} : (leadRow p x place).length = x.length := by
  unfold leadRow
  rw [List.length_map]
theorem less_len {x : List PyData} {f : PyData} {y : List PyData} : (rowLess p x f y).length = min x.length y.length := by
  unfold rowLess
  rw [List.length_zipWith]
theorem mem_getD {x : List PyData} {d : PyData} (h : d ∈ x) : ∃ j, j < x.length ∧ d = x.getD j .none := by
  obtain ⟨j, hj⟩ := List.getElem?_of_mem h
  refine ⟨j, (List.getElem?_eq_some_iff.mp hj).1, ?_⟩
  rw [List.getD_eq_getElem?_getD, hj]
  rfl
theorem mem_getDL {x : List PyData} (h : x ∈ M) : ∃ i, i < M.length ∧ x = M.getD i [] := by
  obtain ⟨j, hj⟩ := List.getElem?_of_mem h
  refine ⟨j, (List.getElem?_eq_some_iff.mp hj).1, ?_⟩
  rw [List.getD_eq_getElem?_getD, hj]
  rfl
/-- a step of the reduction: its bounds -/
theorem Gm.step {many index place : Nat} (g : Gm p l r M) (h1 : many < M.length) (h2 : index < M.length) (pl : place < l) (nz : atR M index place ≠ zeroD p) : Gm p l (r + 1) (stepR p M many index place) := by
  obtain ⟨D, d0, d1, f⟩ := g.fb
  have mi := getD_memL h2
  have li := g.ln _ mi
  have fu : Fb p D (TB r) (atR M index place) := f _ mi _ (getD_mem (by omega))
  have t1 := TB.pos r
  obtain ⟨N, n0, n1, fo⟩ := fb_overs fu nz t1
  have dl := (DB.le r).2
  have flead : ∀ d ∈ leadRow p (M.getD index []) place, Fb p N (TB r) d := fun d md => by
    unfold leadRow at md
    obtain ⟨x, mx, rfl⟩ := List.mem_map.mp md
    exact fo x (f _ mi x mx)
  have rowsE : ∀ x ∈ stepR p M many index place, x.length = l ∧ ∀ d ∈ x, Fb p (D * N) (TB (r + 1)) d := fun x mx => by
    obtain ⟨i, hi, rfl⟩ := mem_getDL mx
    rw [step_len] at hi
    rw [step_at hi]
    by_cases c : i = many
    · rw [if_pos c]
      refine ⟨by rw [lead_len]; exact li, fun d md => ((flead d md).scale d0).up ?_⟩
      have : D * TB r ≤ TB r * TB r := Int.mul_le_mul_of_nonneg_right (by omega) (by omega)
      have h0 : 0 ≤ TB r * TB r := Int.mul_nonneg (by omega) (by omega)
      show D * TB r ≤ 2 * (TB r * TB r)
      omega
    · rw [if_neg c, swap_at h1 hi]
      have hs : Lin.sw many index i < M.length := by unfold Lin.sw; split <;> omega
      have ms := getD_memL hs
      have ls := g.ln _ ms
      have e1 : (rowLess p (M.getD (Lin.sw many index i) []) ((M.getD (Lin.sw many index i) []).getD place .none) (leadRow p (M.getD index []) place)).length = l := by rw [less_len, lead_len, ls, li, Nat.min_self]
      refine ⟨e1, fun d md => ?_⟩
      obtain ⟨j, hj, rfl⟩ := mem_getD md
      rw [e1] at hj
      rw [less_at (by omega) (by rw [lead_len]; omega)]
      have fa : Fb p D (TB r) ((M.getD (Lin.sw many index i) []).getD j .none) := f _ ms _ (getD_mem (by omega))
      have fv : Fb p D (TB r) ((M.getD (Lin.sw many index i) []).getD place .none) := f _ ms _ (getD_mem (by omega))
      have fb := flead _ (getD_mem (j := j) (by rw [lead_len]; omega))
      have s1 := fa.scale n0
      rw [Int.mul_comm N D] at s1
      refine (s1.less (fv.times fb)).up ?_
      have : N * TB r ≤ TB r * TB r := Int.mul_le_mul_of_nonneg_right n1 (by omega)
      show N * TB r + TB r * TB r ≤ 2 * (TB r * TB r)
      omega
  refine ⟨fun x mx => (rowsE x mx).1, D * N, Int.mul_pos d0 n0, ?_, fun x mx => (rowsE x mx).2⟩
  show D * N ≤ DB r * TB r
  exact Int.mul_le_mul d1 n1 (by omega) (by have := (DB.le r).1; omega)
end
end K26
set_option Elab.async false
set_option linter.all false
set_option maxRecDepth 100000
set_option maxHeartbeats 4000000
set_option exponentiation.threshold 5000
set_option pp.maxSteps 900
namespace K26
open PySem PySem.Spec PyProof.Rows L2 TkS LamX NdefX
open Lin
def fM {R : Type} (φ : PyData → R) (M : List (List PyData)) : Nat → Nat → R := fun i j => φ (atR M i j)
theorem snoc_getD {ls : List Nat} {k : Nat} : (fun i => (ls ++ [k]).getD i 0) = fun i => if i = ls.length then k else ls.getD i 0 := by
  funext i
  rw [List.getD_eq_getElem?_getD, List.getD_eq_getElem?_getD]
  by_cases c : i = ls.length
  · rw [if_pos c, c, List.getElem?_append_right (Nat.le_refl _), Nat.sub_self]
    rfl
  · rw [if_neg c]
    by_cases d : i < ls.length
    · rw [List.getElem?_append_left d]
    · rw [List.getElem?_eq_none (by rw [List.length_append]; simp; omega), List.getElem?_eq_none (by omega)]
structure RedOk {R : Type} [Lean.Grind.CommRing R] (φ : PyData → R) (p l k : Nat) (M A : List (List PyData)) (ls : List Nat) : Prop where
  len : A.length = M.length
  gm : Gm p l ls.length A
  lk : ls.length ≤ k
  ech : Ech M.length (fM φ A) ls.length (fun i => ls.getD i 0) k
  red : Red M.length (fM φ A) ls.length (fun i => ls.getD i 0)
  eqs : Eqs M.length (fM φ M) M.length (fM φ A) l
  cnt : ls.length = Lin.cnt M.length (fM φ M) l k
section
variable {p l : Nat} {M : List (List PyData)} {R : Type} [Lean.Grind.CommRing R] {φ : PyData → R}
theorem at_nb {A : List (List PyData)} {r i j : Nat} (g : Gm p l r A) (r6 : r ≤ 6) (hi : i < A.length) (hj : j < l) : Nb p 4300 (atR A i j) := by
  have m := getD_memL hi
  exact g.nb r6 _ m _ (getD_mem (by rw [g.ln _ m]; exact hj))
theorem nz_phi (F : Phi p R φ) (fp : Fp p) {k : Nat} {d : PyData} (n : Nb p k d) : nzB p d = true ↔ φ d ≠ 0 := by
  rw [nz_iff fp n]
  have nz := nb_zero (p := p) (k := 1) fp (Nat.le_refl 1)
  exact ⟨fun h z => h (F.inj n nz (by rw [z, F.zero])), fun h z => h (by rw [z, F.zero])⟩
theorem red_all (F : Phi p R φ) (I : Lin.Inv R) (fp : Fp p) (g0 : Gm p l 0 M) : ∀ k, k ≤ l → k ≤ 6 → RedOk φ p l k M (redN p M k).1 (redN p M k).2
  | 0, _, _ => ⟨rfl, g0, Nat.le_refl _, ech0, ⟨fun i h => absurd h (Nat.not_lt_zero i), fun i h => absurd h (Nat.not_lt_zero i)⟩, Eqs.refl, rfl⟩
  | k + 1, kl, k6 => by
    have ih := red_all F I fp g0 k (by omega) (by omega)
    rw [redN]
    generalize (redN p M k).1 = A at ih ⊢
    generalize (redN p M k).2 = ls at ih ⊢
    have iA := ih.len
    have r6 : ls.length ≤ 6 := by have := ih.lk; omega
    have r5 : ls.length + 1 ≤ 6 := by have := ih.lk; omega
    have nbA : ∀ i j, i < M.length → j < l → Nb p 4300 (atR A i j) := fun i j hi hj => at_nb ih.gm r6 (by rw [ih.len]; exact hi) hj
    cases e : leadAt p A ls.length k with
    | none =>
      have z : ∀ i, ls.length ≤ i → i < M.length → fM φ A i k = 0 := fun i h1 h2 => by
        have h := leadAt_none e i h1 (by rw [ih.len]; exact h2)
        refine Classical.byContradiction fun q => ?_
        rw [(nz_phi F fp (nbA i k h2 (by omega))).mpr q] at h
        cases h
      refine ⟨ih.len, ih.gm, by have := ih.lk; show ls.length ≤ k + 1; omega, ih.ech.skip z, ih.red, ih.eqs, ?_⟩
      rw [cnt_no fun h => ih.ech.none I (by omega) z (ih.eqs.ls.mp h)]
      exact ih.cnt
    | some i =>
      obtain ⟨h1, h2, h3⟩ := leadAt_some e
      have him : i < M.length := by rw [← ih.len]; exact h2
      have hrA : ls.length < A.length := by omega
      have nu := nbA i k him (by omega)
      have un := (nz_iff fp nu).mp h3
      have un0 := (nz_phi F fp nu).mp h3
      obtain ⟨w, hw⟩ := I _ un0
      have one0 : (1 : R) ≠ 0 := fun z => un0 (by
        have : φ (atR A i k) = φ (atR A i k) * 1 := by grind
        rw [this, z]
        grind)
      have li := ih.gm.ln _ (getD_memL h2)
      have leadE : ∀ j, j < l → φ ((leadRow p (A.getD i []) k).getD j .none) = w * fM φ A i j := fun j hj => by
        rw [lead_at (by omega)]
        have := F.over (nbA i j him hj) nu un
        show φ (overD p (atR A i j) (atR A i k)) = w * φ (atR A i j)
        grind
      have hBr : ∀ j, j < l → fM φ (stepR p A ls.length i k) ls.length j = w * fM φ A i j := fun j hj => by
        show φ (((stepR p A ls.length i k).getD ls.length []).getD j .none) = _
        rw [step_at hrA, if_pos rfl]
        exact leadE j hj
      have gstep := ih.gm.step hrA h2 (show k < l by omega) un
      have lead_nb : ∀ j, j < l → Nb p 4300 ((leadRow p (A.getD i []) k).getD j .none) := fun j hj => by
        have := at_nb gstep r5 (i := ls.length) (j := j) (by rw [step_len]; exact hrA) hj
        unfold atR at this
        rw [step_at hrA, if_pos rfl] at this
        exact this
      have hB : ∀ i', i' < M.length → i' ≠ ls.length → ∀ j, j < l → fM φ (stepR p A ls.length i k) i' j = fM φ A (sw ls.length i i') j + (-(fM φ A (sw ls.length i i') k * w)) * fM φ A i j := fun i' hi' ne j hj => by
        have hs : sw ls.length i i' < A.length := by unfold sw; split <;> omega
        have ls' := ih.gm.ln _ (getD_memL hs)
        show φ (((stepR p A ls.length i k).getD i' []).getD j .none) = _
        rw [step_at (by omega), if_neg ne, swap_at hrA (by omega), less_at (by omega) (by rw [lead_len]; omega)]
        have nS := nbA (sw ls.length i i') j (by omega) hj
        have nK := nbA (sw ls.length i i') k (by omega) (by omega)
        have nL := lead_nb j hj
        show φ (lessD p (atR A (sw ls.length i i') j) (timesD p (atR A (sw ls.length i i') k) _)) = _
        rw [F.less nS (timesD_nb nK nL), F.times nK nL, leadE j hj]
        show fM φ A (sw ls.length i i') j - fM φ A (sw ls.length i i') k * (w * fM φ A i j) = _
        grind
      have o : fM φ (stepR p A ls.length i k) ls.length k = 1 := by
        rw [hBr k (by omega)]
        exact hw
      have z : ∀ i', i' < M.length → i' ≠ ls.length → fM φ (stepR p A ls.length i k) i' k = 0 := fun i' hi' ne => by
        rw [hB i' hi' ne k (by omega)]
        have : w * fM φ A i k = 1 := hw
        grind
      have za : ∀ j, j < k → fM φ A i j = 0 := fun j hj => ih.ech.rest i h1 him j hj
      refine ⟨by rw [step_len]; exact ih.len, ?_, by rw [List.length_append]; have := ih.lk; simp; omega, ?_, ?_, ?_, ?_⟩
      · rw [List.length_append]
        exact gstep
      · rw [snoc_getD, List.length_append]
        refine ih.ech.step (by omega) (fun i' hi' j hj => ?_) (fun j hj => ?_) (by rw [o]; exact one0) (fun i' h4 h5 j hj => ?_)
        · rw [hB i' (by omega) (by omega) j (by omega), za j hj]
          have : sw ls.length i i' = i' := by unfold sw; rw [if_neg (by omega)]
          rw [this]
          grind
        · rw [hBr j (by omega), za j hj]
          grind
        · by_cases c : j = k
          · rw [c]
            exact z i' h5 (by omega)
          · rw [hB i' h5 (by omega) j (by omega), za j (by omega)]
            have : fM φ A (sw ls.length i i') j = 0 := ih.ech.rest _ (by unfold sw; split <;> omega) (by unfold sw; split <;> omega) j (by omega)
            rw [this]
            grind
      · rw [snoc_getD, List.length_append]
        exact ih.red.step ih.ech (show k < l by omega) h1 him hBr hB o z
      · exact ih.eqs.trans (pivot_eqs (w := fM φ A i k) (by omega) him (by show φ (atR A i k) * w = 1; grind) hBr hB)
      · rw [cnt_yes (ih.eqs.ls.mpr (ih.ech.found h1 him un0)), ← ih.cnt, List.length_append]
        rfl
end
end K26
set_option Elab.async false
set_option linter.all false
set_option maxRecDepth 100000
set_option maxHeartbeats 4000000
set_option exponentiation.threshold 5000
set_option pp.maxSteps 900
namespace K26
open PySem PySem.Spec PyProof.Rows L2 TkS LamX NdefX
open Lin
/-! the law's own rank, as data -/
def addRow (p : Nat) (f : PyData) (x y : List PyData) : List PyData := (List.range x.length).map fun j => plusD p (x.getD j .none) (timesD p f (y.getD j .none))
def swapB (M : List (List PyData)) (at' r : Nat) : List (List PyData) := (M.set at' (M.getD r [])).set r (M.getD at' [])
def facL (p : Nat) (S : List (List PyData)) (r place i : Nat) : PyData := secD p (atR S i place) (atR S r place)
def rowL (p : Nat) (S : List (List PyData)) (r place i : Nat) : List PyData := if i ≤ r then S.getD i [] else addRow p (facL p S r place i) (S.getD i []) (S.getD r [])
def partL (p : Nat) (S : List (List PyData)) (r place m : Nat) : List (List PyData) := (List.range S.length).map fun i => if i < m then rowL p S r place i else S.getD i []
def stepL (p : Nat) (M : List (List PyData)) (r at' place : Nat) : List (List PyData) := partL p (swapB M at' r) r place M.length
def rkN (p : Nat) (M : List (List PyData)) : Nat → List (List PyData) × Nat
  | 0 => (M, 0)
  | k + 1 => match leadAt p (rkN p M k).1 (rkN p M k).2 k with
    | none => ((rkN p M k).1, (rkN p M k).2)
    | some i => (stepL p (rkN p M k).1 (rkN p M k).2 i k, (rkN p M k).2 + 1)
section
variable {p l r many place at' : Nat} {M : List (List PyData)}
theorem swapB_len : (swapB M at' many).length = M.length := by
  unfold swapB
  rw [List.length_set, List.length_set]
theorem swapB_at {i : Nat} (h1 : many < M.length) (h : i < M.length) : (swapB M at' many).getD i [] = if i = many then M.getD at' [] else M.getD (sw many at' i) [] := by
  unfold swapB
  rw [List.getD_eq_getElem?_getD]
  by_cases c : i = many
  · subst c
    rw [if_pos rfl, List.getElem?_set_self (by rw [List.length_set]; exact h)]
    rfl
  · rw [if_neg c, List.getElem?_set_ne (Ne.symm c)]
    unfold sw
    by_cases d : i = at'
    · subst d
      rw [if_pos rfl, List.getElem?_set_self h]
      rfl
    · rw [if_neg d, List.getElem?_set_ne (Ne.symm d), ← List.getD_eq_getElem?_getD]
theorem partL_len {S : List (List PyData)} {m : Nat} : (partL p S r place m).length = S.length := by
  unfold partL
  rw [List.length_map, List.length_range]
theorem partL_at {S : List (List PyData)} {m i : Nat} (h : i < S.length) : (partL p S r place m).getD i [] = if i < m then rowL p S r place i else S.getD i [] := by
  unfold partL
  rw [List.getD_eq_getElem?_getD, List.getElem?_map, List.getElem?_range h]
  rfl
theorem ext_getD {A B : List (List PyData)} (hl : A.length = B.length) (h : ∀ i, i < A.length → A.getD i [] = B.getD i []) : A = B := by
  refine List.ext_getElem hl fun i h1 h2 => ?_
  have := h i h1
  rw [List.getD_eq_getElem?_getD, List.getD_eq_getElem?_getD, List.getElem?_eq_getElem h1, List.getElem?_eq_getElem h2] at this
  exact this
theorem partL_start {S : List (List PyData)} : partL p S r place (r + 1) = S := by
  refine ext_getD partL_len fun i hi => ?_
  rw [partL_len] at hi
  rw [partL_at hi]
  split
  · unfold rowL
    rw [if_pos (by omega)]
  · rfl
theorem partL_next {S : List (List PyData)} {m : Nat} (hm : m < S.length) : (partL p S r place m).set m (rowL p S r place m) = partL p S r place (m + 1) := by
  refine ext_getD (by rw [List.length_set, partL_len, partL_len]) fun i hi => ?_
  rw [List.length_set, partL_len] at hi
  rw [partL_at hi, List.getD_eq_getElem?_getD]
  by_cases c : i = m
  · subst c
    rw [List.getElem?_set_self (by rw [partL_len]; exact hm), if_pos (by omega)]
    rfl
  · rw [List.getElem?_set_ne (Ne.symm c), ← List.getD_eq_getElem?_getD, partL_at hi]
    by_cases d : i < m
    · rw [if_pos d, if_pos (by omega)]
    · rw [if_neg d, if_neg (by omega)]
theorem stepL_len : (stepL p M many at' place).length = M.length := by
  unfold stepL
  rw [partL_len, swapB_len]
theorem stepL_at {i : Nat} (h : i < M.length) : (stepL p M many at' place).getD i [] = rowL p (swapB M at' many) many place i := by
  unfold stepL
  rw [partL_at (by rw [swapB_len]; exact h), if_pos h]
theorem add_len {f : PyData} {x y : List PyData} : (addRow p f x y).length = x.length := by
  unfold addRow
  rw [List.length_map, List.length_range]
theorem add_at {f : PyData} {x y : List PyData} {j : Nat} (h : j < x.length) : (addRow p f x y).getD j .none = plusD p (x.getD j .none) (timesD p f (y.getD j .none)) := by
  unfold addRow
  rw [List.getD_eq_getElem?_getD, List.getElem?_map, List.getElem?_range h]
  rfl
theorem gm_swap (g : Gm p l r M) (h1 : many < M.length) (h2 : at' < M.length) : Gm p l r (swapB M at' many) := by
  have mem : ∀ x ∈ swapB M at' many, x ∈ M := fun x mx => by
    obtain ⟨i, hi, rfl⟩ := mem_getDL mx
    rw [swapB_len] at hi
    rw [swapB_at h1 hi]
    split
    · exact getD_memL h2
    · exact getD_memL (by unfold sw; split <;> omega)
  obtain ⟨D, d0, d1, f⟩ := g.fb
  exact ⟨fun x mx => g.ln x (mem x mx), D, d0, d1, fun x mx => f x (mem x mx)⟩
/-- what one line of the elimination does to the sizes -/
structure FacOk (p l r many place : Nat) (S : List (List PyData)) : Prop where
  ov : ∀ i, i < S.length → Nb p 4300 (overD p (atR S i place) (atR S many place))
  fac : ∀ i, i < S.length → Nb p 4300 (facL p S many place i)
  prod : ∀ i j, i < S.length → j < l → Nb p 4300 (timesD p (facL p S many place i) (atR S many j))
  row : ∀ i j, i < S.length → j < l → Nb p 4300 (plusD p (atR S i j) (timesD p (facL p S many place i) (atR S many j)))
theorem sq_le (r : Nat) : TB r * TB r ≤ TB (r + 1) := by
  have : 0 ≤ TB r * TB r := by have := TB.pos r; exact Int.mul_nonneg (by omega) (by omega)
  show TB r * TB r ≤ 2 * (TB r * TB r)
  omega
theorem t_le (r : Nat) : TB r ≤ TB r * TB r := by
  have := TB.pos r
  have h := Int.mul_le_mul_of_nonneg_left this (show 0 ≤ TB r by omega)
  rw [Int.mul_one] at h
  exact h
theorem elim_ok (fp : Fp p) {S : List (List PyData)} (g : Gm p l r S) (h1 : many < S.length) (pl : place < l) (nz : atR S many place ≠ zeroD p) (r5 : r + 1 ≤ 6) : ∃ D, 0 < D ∧ D ≤ DB (r + 1) ∧ (∀ x ∈ S, ∀ d ∈ x, Fb p D (TB (r + 1)) d) ∧ (∀ i j, i < S.length → j < l → Fb p D (TB (r + 1)) (plusD p (atR S i j) (timesD p (facL p S many place i) (atR S many j)))) ∧ FacOk p l r many place S := by
  obtain ⟨D, d0, d1, f⟩ := g.fb
  have t1 := TB.pos r
  have dl := (DB.le r).2
  have at_ : ∀ i j, i < S.length → j < l → Fb p D (TB r) (atR S i j) := fun i j hi hj => by
    have m := getD_memL hi
    exact f _ m _ (getD_mem (by rw [g.ln _ m]; exact hj))
  obtain ⟨N, n0, n1, fo⟩ := fb_overs (at_ many place h1 pl) nz t1
  have fac : ∀ i, i < S.length → Fb p N (TB r) (facL p S many place i) := fun i hi => by
    have := (fb_minus fp (show (0 : Int) < 1 by decide)).times (fo _ (at_ i place hi pl))
    rw [Int.one_mul, Int.one_mul] at this
    exact this
  have prod : ∀ i j, i < S.length → j < l → Fb p (N * D) (TB r * TB r) (timesD p (facL p S many place i) (atR S many j)) := fun i j hi hj => (fac i hi).times (at_ many j h1 hj)
  have up1 : N * TB r ≤ TB r * TB r := Int.mul_le_mul_of_nonneg_right n1 (by omega)
  have row : ∀ i j, i < S.length → j < l → Fb p (N * D) (TB (r + 1)) (plusD p (atR S i j) (timesD p (facL p S many place i) (atR S many j))) := fun i j hi hj => by
    refine (((at_ i j hi hj).scale n0).plus (prod i j hi hj)).up ?_
    show N * TB r + TB r * TB r ≤ 2 * (TB r * TB r)
    omega
  have dN : N * D ≤ DB (r + 1) := by
    show N * D ≤ DB r * TB r
    rw [Int.mul_comm]
    exact Int.mul_le_mul d1 n1 (by omega) (by have := (DB.le r).1; omega)
  have sq := sq_le r
  have tl := t_le r
  have nN : N ≤ DB (r + 1) := by
    have hD := (DB.le r).1
    have : 1 * TB r ≤ DB r * TB r := Int.mul_le_mul_of_nonneg_right (by omega) (by omega)
    show N ≤ DB r * TB r
    omega
  refine ⟨N * D, Int.mul_pos n0 d0, dN, fun x mx d md => ((f x mx d md).scale n0).up (by omega), row, ⟨fun i hi => ?_, fun i hi => ?_, fun i j hi hj => ?_, fun i j hi hj => ?_⟩⟩
  · exact big_nb r5 nN ((fo _ (at_ i place hi pl)).up (by omega))
  · exact big_nb r5 nN ((fac i hi).up (by omega))
  · exact big_nb r5 dN ((prod i j hi hj).up (by omega))
  · exact big_nb r5 dN (row i j hi hj)
theorem Gm.stepL (fp : Fp p) (g : Gm p l r M) (h1 : many < M.length) (h2 : at' < M.length) (pl : place < l) (nz : atR M at' place ≠ zeroD p) (r5 : r + 1 ≤ 6) : Gm p l (r + 1) (K26.stepL p M many at' place) := by
  have gs := gm_swap g h1 h2
  have e1 : atR (swapB M at' many) many place = atR M at' place := by
    unfold atR
    rw [swapB_at h1 h1, if_pos rfl]
  obtain ⟨D, d0, d1, f, row, _⟩ := elim_ok fp gs (many := many) (place := place) (by rw [swapB_len]; exact h1) pl (by rw [e1]; exact nz) r5
  have rowsE : ∀ x ∈ K26.stepL p M many at' place, x.length = l ∧ ∀ d ∈ x, Fb p D (TB (r + 1)) d := fun x mx => by
    obtain ⟨i, hi, rfl⟩ := mem_getDL mx
    rw [stepL_len] at hi
    rw [stepL_at hi]
    have ms : (swapB M at' many).getD i [] ∈ swapB M at' many := getD_memL (by rw [swapB_len]; exact hi)
    unfold rowL
    split
    · exact ⟨gs.ln _ ms, f _ ms⟩
    · refine ⟨by rw [add_len]; exact gs.ln _ ms, fun d md => ?_⟩
      obtain ⟨j, hj, rfl⟩ := mem_getD md
      rw [add_len] at hj
      rw [add_at hj]
      exact row i j (by rw [swapB_len]; exact hi) (by rw [← gs.ln _ ms]; exact hj)
  exact ⟨fun x mx => (rowsE x mx).1, D, d0, d1, fun x mx => (rowsE x mx).2⟩
end
structure RkOk {R : Type} [Lean.Grind.CommRing R] (φ : PyData → R) (p l k : Nat) (M A : List (List PyData)) (r : Nat) : Prop where
  len : A.length = M.length
  gm : Gm p l r A
  lk : r ≤ k
  ech : ∃ cs, Ech M.length (fM φ A) r cs k
  eqs : Eqs M.length (fM φ M) M.length (fM φ A) l
  cnt : r = Lin.cnt M.length (fM φ M) l k
section
variable {p l : Nat} {M : List (List PyData)} {R : Type} [Lean.Grind.CommRing R] {φ : PyData → R}
theorem rk_all (F : Phi p R φ) (I : Lin.Inv R) (fp : Fp p) (g0 : Gm p l 0 M) : ∀ k, k ≤ l → k ≤ 6 → RkOk φ p l k M (rkN p M k).1 (rkN p M k).2
  | 0, _, _ => ⟨rfl, g0, Nat.le_refl _, ⟨fun _ => 0, ech0⟩, Eqs.refl, rfl⟩
  | k + 1, kl, k6 => by
    have ih := rk_all F I fp g0 k (by omega) (by omega)
    rw [rkN]
    generalize (rkN p M k).1 = A at ih ⊢
    generalize (rkN p M k).2 = r at ih ⊢
    have iA := ih.len
    have r6 : r ≤ 6 := by have := ih.lk; omega
    have r5 : r + 1 ≤ 6 := by have := ih.lk; omega
    obtain ⟨cs, ech⟩ := ih.ech
    have nbA : ∀ i j, i < M.length → j < l → Nb p 4300 (atR A i j) := fun i j hi hj => at_nb ih.gm r6 (by rw [ih.len]; exact hi) hj
    cases e : leadAt p A r k with
    | none =>
      have z : ∀ i, r ≤ i → i < M.length → fM φ A i k = 0 := fun i h1 h2 => by
        have h := leadAt_none e i h1 (by rw [ih.len]; exact h2)
        refine Classical.byContradiction fun q => ?_
        rw [(nz_phi F fp (nbA i k h2 (by omega))).mpr q] at h
        cases h
      refine ⟨ih.len, ih.gm, by have := ih.lk; show r ≤ k + 1; omega, ⟨cs, ech.skip z⟩, ih.eqs, ?_⟩
      rw [cnt_no fun h => ech.none I (by omega) z (ih.eqs.ls.mp h)]
      exact ih.cnt
    | some i =>
      obtain ⟨h1, h2, h3⟩ := leadAt_some e
      have him : i < M.length := by rw [← ih.len]; exact h2
      have hrA : r < A.length := by omega
      have nu := nbA i k him (by omega)
      have un := (nz_iff fp nu).mp h3
      have un0 := (nz_phi F fp nu).mp h3
      have gs := gm_swap ih.gm hrA h2
      have eL : ∀ j, atR (swapB A i r) r j = atR A i j := fun j => by
        unfold atR
        rw [swapB_at hrA hrA, if_pos rfl]
      have eO : ∀ i', i' < M.length → i' ≠ r → ∀ j, atR (swapB A i r) i' j = atR A (sw r i i') j := fun i' hi' ne j => by
        unfold atR
        rw [swapB_at hrA (by omega), if_neg ne]
      obtain ⟨_, _, _, _, _, fo⟩ := elim_ok fp gs (many := r) (place := k) (by rw [swapB_len]; exact hrA) (by omega) (by rw [eL]; exact un) r5
      have hBr : ∀ j, j < l → fM φ (stepL p A r i k) r j = 1 * fM φ A i j := fun j hj => by
        show φ (((stepL p A r i k).getD r []).getD j .none) = _
        rw [stepL_at hrA]
        unfold rowL
        rw [if_pos (Nat.le_refl _)]
        show φ (atR (swapB A i r) r j) = _
        rw [eL]
        show φ (atR A i j) = 1 * φ (atR A i j)
        grind
      have hB : ∀ i', i' < M.length → i' ≠ r → ∀ j, j < l → fM φ (stepL p A r i k) i' j = fM φ A (sw r i i') j + (if i' < r then 0 else φ (facL p (swapB A i r) r k i')) * fM φ A i j := fun i' hi' ne j hj => by
        have hs : sw r i i' < M.length := by unfold sw; split <;> omega
        have ms : (swapB A i r).getD i' [] ∈ swapB A i r := getD_memL (by rw [swapB_len]; omega)
        show φ (((stepL p A r i k).getD i' []).getD j .none) = _
        rw [stepL_at (by omega)]
        unfold rowL
        by_cases c : i' < r
        · rw [if_pos (by omega), if_pos c]
          show φ (atR (swapB A i r) i' j) = _
          rw [eO i' hi' ne]
          show φ (atR A (sw r i i') j) = φ (atR A (sw r i i') j) + 0 * φ (atR A i j)
          grind
        · rw [if_neg (by omega), if_neg c, add_at (by rw [gs.ln _ ms]; exact hj)]
          show φ (plusD p (atR (swapB A i r) i' j) (timesD p (facL p (swapB A i r) r k i') (atR (swapB A i r) r j))) = _
          rw [F.plus (by rw [eO i' hi' ne]; exact nbA _ j hs hj) (fo.prod i' j (by rw [swapB_len]; omega) hj), F.times (fo.fac i' (by rw [swapB_len]; omega)) (by rw [eL]; exact nbA i j him hj), eL, eO i' hi' ne]
          rfl
      have facE : ∀ i', r < i' → i' < M.length → φ (facL p (swapB A i r) r k i') * fM φ A i k = - fM φ A (sw r i i') k := fun i' h4 h5 => by
        unfold facL
        rw [eL, eO i' h5 (by omega)]
        exact sec_phi F fp (nbA _ k (by unfold sw; split <;> omega) (by omega)) nu un
      have za : ∀ j, j < k → fM φ A i j = 0 := fun j hj => ech.rest i h1 him j hj
      refine ⟨by rw [stepL_len]; exact ih.len, ih.gm.stepL fp hrA h2 (by omega) un r5, by have := ih.lk; show r + 1 ≤ k + 1; omega, ⟨_, ech.step (by omega) (fun i' hi' j hj => ?_) (fun j hj => ?_) ?_ (fun i' h4 h5 j hj => ?_)⟩, ?_, ?_⟩
      · rw [hB i' (by omega) (by omega) j (by omega), if_pos hi']
        have : sw r i i' = i' := by unfold sw; rw [if_neg (by omega)]
        rw [this]
        grind
      · rw [hBr j (by omega), za j hj]
        grind
      · rw [hBr k (by omega)]
        intro z
        refine un0 ?_
        have : φ (atR A i k) = 1 * fM φ A i k := by show _ = 1 * φ (atR A i k); grind
        rw [this, z]
      · by_cases c : j = k
        · rw [c, hB i' h5 (by omega) k (by omega), if_neg (by omega), facE i' h4 h5]
          grind
        · rw [hB i' h5 (by omega) j (by omega), za j (by omega)]
          have : fM φ A (sw r i i') j = 0 := ech.rest _ (by unfold sw; split <;> omega) (by unfold sw; split <;> omega) j (by omega)
          rw [this]
          grind
      · exact ih.eqs.trans (pivot_eqs (u := 1) (w := 1) (by omega) him (by grind) hBr hB)
      · rw [cnt_yes (ih.eqs.ls.mpr (ech.found h1 him un0)), ← ih.cnt]
end
end K26
set_option Elab.async false
set_option linter.all false
set_option maxRecDepth 100000
set_option maxHeartbeats 4000000
set_option exponentiation.threshold 5000
set_option pp.maxSteps 900
namespace K26
open PySem PySem.Spec PyProof.Rows L2 TkS LamX NdefX
theorem some_minus {p : Nat} (fp : Fp p) : someD p (-1) = minusD p := by
  unfold someD minusD
  by_cases c : p = 0
  · rw [if_pos c, if_pos c]
  · have := fp.cases c
    rw [if_neg c, if_neg c]
    refine congrArg PyData.int ?_
    rw [show (-1 : Int) = ((p : Int) - 1) + (p : Int) * (-1) by omega, Int.add_mul_emod_self_left, Int.emod_eq_of_lt (by omega) (by omega)]
def sl_minus : Sp := fun vs H Q _ => ∃ (p : Nat) (x : V) (d : PyData), vs = [.int (p : Int), x] ∧ Fp p ∧ Dq H x d ∧ Nb p 4300 d ∧ ∀ v H', Same H H' → Dq H' v (timesD p (minusD p) d) → Q v H'
def sl_over : Sp := fun vs H Q _ => ∃ (p : Nat) (x y : V) (a b : PyData), vs = [.int (p : Int), x, y] ∧ Fp p ∧ Dq H x a ∧ Dq H y b ∧ Nb p 4300 a ∧ Nb p 4300 b ∧ b ≠ zeroD p ∧ ∀ v H', Same H H' → Dq H' v (overD p a b) → Q v H'
theorem pow_odd (b n : Nat) : b ^ n = (b * b) ^ (n / 2) * (if n % 2 = 1 then b else 1) := by
  have e : n = 2 * (n / 2) + n % 2 := by omega
  have h : n % 2 = 0 ∨ n % 2 = 1 := by omega
  rcases h with h | h
  · rw [h, if_neg (by decide), Nat.mul_one, ← Nat.pow_two, ← Nat.pow_mul]
    congr 1
    omega
  · rw [h, if_pos rfl, ← Nat.pow_two, ← Nat.pow_mul, ← Nat.pow_succ]
    congr 1
    omega
section
variable {P : Program} {w : World} {K : PySem.W.Frag} {mg : Str → Option Value} {base : Heap}
theorem ok_law_minus (T : Txt K mg) : FnOk P w K mg base CX0 4 T.f_law_minus T.d_law_minus ["_law_p", "_law_one"] sl_minus := by
  refine T.F_law_minus.ok sc_law_minus (fun vs H Q E h => ?_) (fun cdv A outer s H vs Q E hr h => ?_)
  · obtain ⟨p, x, d, rfl, _⟩ := h
    rfl
  · obtain ⟨p, x, d, rfl, fp, kx, nd, q⟩ := h
    refine ⟨_, (pss_one (ps_ret (pe_call (ok_law_times T) (hr.mono (by decide)) (by rfl) T.g_law_times T.F_law_times.kp T.b_law_times .nil pass0 (pa_cons (pv 0) (pa_cons (pe_call (ok_law_some T) (hr.mono (by decide)) (by rfl) T.g_law_some T.F_law_some.kp T.b_law_some .nil pass0 (pa_cons (pv 0) (pa_cons (pe_un un_neg pe_int) pa_nil))) (pa_cons (pv 1) pa_nil)))))), ?_⟩
    refine ⟨_, rfl, _, rfl, 1, rfl, p, -1, rfl, fun v H1 s1 k1 => ?_⟩
    rw [some_minus fp] at k1
    exact ⟨_, rfl, p, v, x, minusD p, d, rfl, k1, kx.same s1, nb_minus fp (by decide), nd.up (by decide), fp.le, fun v2 H2 s2 k2 => q v2 H2 (s1.trans s2) k2⟩
theorem ok_law_over (T : Txt K mg) : FnOk P w K mg base CX0 3 T.f_law_over T.d_law_over ["_law_p", "_law_one", "_law_other"] sl_over := by
  refine T.F_law_over.ok sc_law_over (fun vs H Q E h => ?_) (fun cdv A outer s H vs Q E hr h => ?_)
  · obtain ⟨p, x, y, a, b, rfl, _⟩ := h
    rfl
  · obtain ⟨p, x, y, a, b, rfl, fp, kx, ky, na, nb, nz, q⟩ := h
    refine ⟨_, (pss_cons (ps_if (pt_cmpR op_eq (pv 0) pe_int (nomark _))
        (pss_one (ps_ret (pe_call (ok_law_low T) (hr.mono (by decide)) (by rfl) T.g_law_low T.F_law_low.kp T.b_law_low .nil pass0 (pa_cons (pe_op op_mulW (pe_ix ix_tup (pv 1) pe_int (fun _ _ => rfl)) (pe_ix ix_tup (pv 2) pe_int (fun _ _ => rfl))) (pa_cons (pe_op op_mulW (pe_ix ix_tup (pv 1) pe_int (fun _ _ => rfl)) (pe_ix ix_tup (pv 2) pe_int (fun _ _ => rfl))) pa_nil)))))
        pss_nil)
      (pss_cons (ps_set (i := 3) sc_law_over.nd rfl (.inl rfl) (pe_op op_mod (pe_callTy call_int1 (by rfl) T.m_int (by decide +kernel) (pa_cons (pv 1) pa_nil)) (pv 0)))
      (pss_cons (ps_set (i := 4) sc_law_over.nd rfl (.inl rfl) (pe_op op_mod (pe_callTy call_int1 (by rfl) T.m_int (by decide +kernel) (pa_cons (pv 2) pa_nil)) (pv 0)))
      (pss_cons (ps_set (i := 5) sc_law_over.nd rfl (.inl rfl) (pe_op op_sub (pv 0) pe_int))
      (pss_cons (ps_while PassesOwn.never (pt_cmpR op_gt (pv 5) pe_int (nomark _))
        (Evl.pss_cut (ps_if (pt_cmpR op_eq (pe_op op_mod (pe_callTy call_int1 (by rfl) T.m_int (by decide +kernel) (pa_cons (pv 5) pa_nil)) pe_int) pe_int (nomark _))
          (pss_one (ps_set (i := 3) sc_law_over.nd rfl (.inl rfl) (pe_op op_mod (pe_callTy call_int1 (by rfl) T.m_int (by decide +kernel) (pa_cons (pe_op op_mulW (pv 3) (pv 4)) pa_nil)) (pv 0))))
          pss_nil)
        (pss_cons (ps_set (i := 4) sc_law_over.nd rfl (.inl rfl) (pe_op op_mod (pe_callTy call_int1 (by rfl) T.m_int (by decide +kernel) (pa_cons (pe_op op_mulW (pv 4) (pv 4)) pa_nil)) (pv 0)))
        (pss_one (ps_set (i := 5) sc_law_over.nd rfl (.inl rfl) (pe_op op_fdiv (pv 5) pe_int))))))
      (pss_one (ps_ret (pv 3)))))))), ?_⟩
    unfold overD at q
    cases na with
    | @fr k r a1 a2 a3 =>
      cases nb with
      | @fr k t b1 b2 b3 =>
        rw [if_pos rfl] at q
        obtain ⟨l1, rfl, h1⟩ := fr_at kx
        obtain ⟨l2, rfl, h2⟩ := fr_at ky
        have t1 := fr_zero b1 nz
        have w1 := Fin.mulW a2 b3 (by decide) (by decide) (by decide)
        have w2 := Fin.mulW a3 b2 (by decide) (by decide) (by decide)
        exact ⟨_, rfl, rfl, _, rfl, iteT ⟨_, rfl, l1, _, 0, _, rfl, rfl, SqT.of h1, at_of (j := 0) rfl rfl, _, rfl, l2, _, 1, _, rfl, rfl, SqT.of h2, at_of (j := 1) rfl rfl, _, _, rfl, rfl, w1, _, rfl, l1, _, 1, _, rfl, rfl, SqT.of h1, at_of (j := 1) rfl rfl, _, rfl, l2, _, 0, _, rfl, rfl, SqT.of h2, at_of (j := 0) rfl rfl, _, _, rfl, rfl, w2, _, _, rfl, (fun z => (Int.mul_eq_zero.mp z).elim (fun h => pos_ne a1.1 h) t1), fin_up (Fin.mul a3 b2) (by decide), fun l H' s k => q _ H' s k⟩⟩
      | rs n _ => exact absurd rfl n
    | @rs p k X n lx =>
      cases nb with
      | fr _ _ _ => exact absurd rfl n
      | @rs _ _ Y _ ly =>
        rw [if_neg n] at q
        cases kx
        cases ky
        have p2 := fp.cases n
        have le := fp.le
        have p0 : (0 : Int) < (p : Int) := by omega
        refine ⟨_, rfl, rfl, _, rfl, ite2 (fun c => ?_) (fun _ => ?_)⟩
        · exact absurd (show (p : Int) = 0 by simpa using c) (by omega)
        refine ⟨_, rfl, .inl ⟨_, rfl, _, rfl, _, _, rfl, rfl, p0, _, rfl, .inl ⟨_, rfl, _, rfl, _, _, rfl, rfl, p0, ?_⟩⟩⟩
        refine ⟨_, rfl, _, _, rfl, rfl, ?_⟩
        dsimp only
        have ex : (X : Int) % (p : Int) = (X : Int) := Int.emod_eq_of_lt (by omega) (by omega)
        have ey : (Y : Int) % (p : Int) = (Y : Int) := Int.emod_eq_of_lt (by omega) (by omega)
        rw [ex, ey]
        refine ⟨fun m σ H' => ∃ (o b : Nat), σ = [some (.int (p : Int)), some (.int (X : Int)), some (.int (Y : Int)), some (.int (o : Int)), some (.int (b : Int)), some (.int (m : Int))] ∧ H = H' ∧ o < p ∧ b < p ∧ m ≤ 20000 ∧ o * b ^ m % p = X * Y ^ (p - 2) % p, ⟨p - 2, X, Y, by rw [show ((p - 2 : Nat) : Int) = (p : Int) - 2 by omega]; rfl, rfl, lx, ly, by omega, rfl⟩, fun m σ H' hW => ?_⟩
        obtain ⟨o, b, rfl, rfl, lo, lb, lm, hp⟩ := hW
        refine ⟨_, rfl, _, _, rfl, rfl, _, rfl, ite2 (fun c => ?_) (fun c => ?_)⟩
        · have c' : (0 : Int) < (m : Int) := of_decide_eq_true c
          refine ⟨fun σ' H' => ∃ m', m' < m ∧ ∃ (o b : Nat), σ' = [some (.int (p : Int)), some (.int (X : Int)), some (.int (Y : Int)), some (.int (o : Int)), some (.int (b : Int)), some (.int (m' : Int))] ∧ H = H' ∧ o < p ∧ b < p ∧ m' ≤ 20000 ∧ o * b ^ m' % p = X * Y ^ (p - 2) % p, fun _ _ z => z, ?_⟩
          have po := pow_odd b m
          have wb := Fin.mulW (med_lt lb le) (med_lt lb le) (by decide) (by decide) (by decide)
          have wo := Fin.mulW (med_lt lo le) (med_lt lb le) (by decide) (by decide) (by decide)
          refine ⟨fun σ H' => ∃ o' : Nat, σ = [some (.int (p : Int)), some (.int (X : Int)), some (.int (Y : Int)), some (.int (o' : Int)), some (.int (b : Int)), some (.int (m : Int))] ∧ H = H' ∧ o' < p ∧ o' * (b * b) ^ (m / 2) % p = X * Y ^ (p - 2) % p, ?_, fun σ H' hM => ?_⟩
          · refine ⟨_, rfl, .inl ⟨_, rfl, _, 2, rfl, rfl, (by show (0 : Int) < 2; decide), rfl, _, rfl, ite2 (fun c2 => ?_) (fun c2 => ?_)⟩⟩
            · have c2' : (m : Int) % 2 = 1 := by simpa using c2
              refine ⟨_, rfl, _, rfl, _, _, rfl, rfl, wo, .inl ⟨_, rfl, _, rfl, _, _, rfl, rfl, p0, ?_⟩⟩
              refine ⟨o * b % p, rfl, rfl, Nat.mod_lt _ (by omega), ?_⟩
              rw [if_pos (show m % 2 = 1 by omega)] at po
              rw [po] at hp
              rw [← hp, Nat.mod_mul_mod]
              congr 1
              rw [Nat.mul_assoc, Nat.mul_comm b]
            · have c2' : ¬ (m : Int) % 2 = 1 := fun z => c2 (by simpa using z)
              refine ⟨o, rfl, rfl, lo, ?_⟩
              rw [if_neg (show ¬ m % 2 = 1 by omega), Nat.mul_one] at po
              rw [← po]
              exact hp
          · obtain ⟨o', rfl, rfl, lo', hp'⟩ := hM
            refine ⟨_, rfl, _, rfl, _, _, rfl, rfl, wb, .inl ⟨_, rfl, _, rfl, _, _, rfl, rfl, p0, ?_⟩⟩
            refine ⟨_, rfl, _, _, rfl, rfl, ⟨by decide, by decide⟩, ?_⟩
            refine ⟨m / 2, by omega, o', b * b % p, rfl, rfl, lo', Nat.mod_lt _ (by omega), by omega, ?_⟩
            rw [← hp', Nat.mul_mod, ← Nat.pow_mod, ← Nat.mul_mod]
        · have c' : ¬ (0 : Int) < (m : Int) := fun z => c (decide_eq_true z)
          have m0 : m = 0 := by omega
          subst m0
          rw [Nat.pow_zero, Nat.mul_one, Nat.mod_eq_of_lt lo] at hp
          refine ⟨_, rfl, q _ _ (fun _ _ z => z) ?_⟩
          rw [hp]
          exact .int _
end
end K26
set_option Elab.async false
set_option linter.all false
set_option maxRecDepth 100000
set_option maxHeartbeats 4000000
/-! data of a tuple, by a block -/
namespace TkS
open PySem PySem.Spec PyProof.Rows L2
theorem lc_tupD {K : PySem.W.Frag} {a : Addr} {xs : List V} {ds : List PyData} {tt : TT} {te : TE} {vs : List Nat} {σ : L2.St} {H : Hp} {D : Addr} {Qd : Hp → Prop} {j : Nat} (f : PyData → Bool) (e : PyData → PyData)
    (hq : SqT K H a xs) (hx : DqAll H xs ds) (nD : H D = none) (hl : ds.length ≤ 900) (hw : ∀ x : V, wipe ((wipe σ vs).set j (some x)) vs = wipe σ vs)
    (ht : ∀ (i : Nat) (x : V) (d : PyData) (H' : Hp) (Q : Bool → Hp → Prop), ds[i]? = some d → Same H H' → Dq H' x d → (∀ H'', Same H' H'' → Q (f d) H'') → tt ((wipe σ vs).set j (some x)) H' Q)
    (he : ∀ (i : Nat) (x : V) (d : PyData) (H' : Hp) (Q : VK), ds[i]? = some d → f d = true → Same H H' → Dq H' x d → (∃ acc, H' D = some (.lst acc)) → (∀ y H'', Same H' H'' → Dq (TkS.Off D H'') y (e d) → Q y H'') → te ((wipe σ vs).set j (some x)) H' Q)
    (hd : ∀ H', Same H H' → Dq H' (.ref D) (.list ((ds.filter f).map e)) → Qd H') :
    ∃ W : Nat → Nat → Hp → Prop, (∃ m, W 0 m (upd H D (.lst []))) ∧ ∀ i m H, W i m H →
      ((Itt K a).stop i H ∧ Qd H) ∨ ((Itt K a).go i H ∧ ∃ Nx : Hp → Prop, (∀ H', Nx H' → ∃ m', m' < m ∧ W (i + 1) m' H') ∧ ∀ x H', (Itt K a).yld i H x H' → gName j x (wipe σ vs) H' fun σ2 H2 => wipe σ2 vs = wipe σ vs ∧ tt σ2 H2 fun b H3 =>
        if b = true then te σ2 H3 fun y H4 => ∃ acc, H4 D = some (.lst acc) ∧ acc.length < sizeLine ∧ Nx (upd H4 D (.lst (acc ++ [y]))) else Nx H3) := by
  refine lc_tup (xs := xs) (fun i H' => Acc H D (((ds.take i).filter f).map e) H') (Acc.nil nD) (fun i H' _ hP => seqT_same hP.1 hq) (fun i x H' hxi hP => ?_) (fun H' hP => ?_)
  · obtain ⟨d, hdi, kd⟩ := hx.get hxi
    have kd1 := kd.same hP.1
    refine ⟨hw _, ht i x d H' _ hdi hP.1 kd1 fun H2 s2 => ?_⟩
    have hP2 := hP.mv s2
    cases c : f d with
    | true =>
      refine he i x d H2 _ hdi c hP2.1 (kd1.same s2) ⟨_, hP2.2.choose_spec.1⟩ fun y H3 s3 k => ?_
      rw [filter_snoc _ _ hdi, if_pos c]
      refine hP2.put nD ?_ s3 k
      have := len_ft f e (ds.take i)
      rw [List.length_take] at this
      omega
    | false =>
      show Acc _ _ _ _
      rw [filter_snoc _ _ hdi, c, if_neg Bool.false_ne_true]
      exact hP2
  · rw [hx.len, List.take_length] at hP
    exact hd H' hP.1 hP.dq
theorem lc_seqDI {K : PySem.W.Frag} {a : Addr} {xs : List V} {ds : List PyData} {tl : TE} {tt : TT} {te : TE} {vs : List Nat} {σ : L2.St} {H : Hp} {Q : VK} {j : Nat} (I : Nat → Prop) (e : PyData → PyData) (I0 : I 0)
    (ht0 : ∀ Q : VK, Q (.ref a) H → tl σ H Q) (hq : Sq K H a xs) (hx : DqAll H xs ds) (hl : ds.length ≤ 900) (hw : ∀ x : V, wipe ((wipe σ vs).set j (some x)) vs = wipe σ vs)
    (ht : ∀ (σ2 : L2.St) (H' : Hp) (Q : Bool → Hp → Prop), Q true H' → tt σ2 H' Q)
    (he : ∀ (D : Addr) (i : Nat) (x : V) (d : PyData) (H' : Hp) (Q : VK), H D = none → ds[i]? = some d → I i → Same H H' → Dq H' x d → (∃ acc, H' D = some (.lst acc)) → (∀ y H'', I (i + 1) → Same H' H'' → Dq (TkS.Off D H'') y (e d) → Q y H'') → te ((wipe σ vs).set j (some x)) H' Q)
    (hd : ∀ D H', H D = none → I ds.length → Same H H' → Dq H' (.ref D) (.list (ds.map e)) → Q (.ref D) H') :
    tLc (iSeq K tl) (gName j) tt te vs σ H Q := by
  refine lc_seq (fun D i H' => I i ∧ Acc H D ((ds.take i).map e) H') ht0 hq (fun D nD => ⟨I0, Acc.nil nD⟩) (fun D i H' _ _ hP => hP.2.1) (fun D i x H' nD hxi hP => ?_) (fun D H' nD hP => ?_)
  · obtain ⟨Ii, hP⟩ := hP
    obtain ⟨d, hdi, kd⟩ := hx.get hxi
    have kd1 := kd.same hP.1
    refine ⟨hw _, ht _ _ _ ?_⟩
    refine he D i x d H' _ nD hdi Ii hP.1 kd1 ⟨_, hP.2.choose_spec.1⟩ fun y H3 I3 s3 k => ?_
    have er : (ds.take (i + 1)).map e = (ds.take i).map e ++ [e d] := by
      rw [List.take_add_one, hdi]
      show (ds.take i ++ [d]).map e = _
      rw [List.map_append]
      rfl
    rw [er]
    obtain ⟨acc, h1, h2, h3⟩ := hP.put nD (by rw [List.length_map, List.length_take]; omega) s3 k
    exact ⟨acc, h1, h2, I3, h3⟩
  · rw [hx.len, List.take_length] at hP
    exact hd D H' nD hP.1 hP.2.1 hP.2.dq
/-- data over zip -/
theorem lc_zipD {t1 t2 : Bool} {K : PySem.W.Frag} {a b : Addr} {xs ys : List V} {ds es : List PyData} {g : TG} {tt : TT} {te : TE} {vs : List Nat} {σ : L2.St} {H1 : Hp} {D : Addr} {Qd : Hp → Prop} (e : PyData → PyData → PyData) (hx : DqAll H1 xs ds) (hy : DqAll H1 ys es) (hl : ds.length = es.length) (hn : ds.length ≤ 900) (nD : H1 D = none)
    (qx : RZM.SqS t1 K H1 a xs) (qy : RZM.SqS t2 K H1 b ys)
    (hs : ∀ (i : Nat) (x y : V) (d d' : PyData) (T : Addr) (H' : Hp) (R : V → Hp → Prop) (N : Hp → Prop), ds[i]? = some d → es[i]? = some d' → Same H1 H' → H' T = some (.tup [x, y]) → Dq H' x d → Dq H' y d' → (∃ acc, H' D = some (.lst acc)) → (∀ v H'', Same H' H'' → Dq (TkS.Off D H'') v (e d d') → R v H'') →
      g (.ref T) (wipe σ vs) H' fun σ2 H2 => wipe σ2 vs = wipe σ vs ∧ tt σ2 H2 fun b H3 => if b = true then te σ2 H3 R else N H3)
    (hd : ∀ H', Same H1 H' → Dq H' (.ref D) (.list (List.zipWith e ds es)) → Qd H') :
    ∃ W : Nat → Nat → Hp → Prop, (∃ m, W 0 m (upd H1 D (.lst []))) ∧ ∀ i m H, W i m H →
      ((RZM.ItzS t1 t2 K a b).stop i H ∧ Qd H) ∨ ((RZM.ItzS t1 t2 K a b).go i H ∧ ∃ Nx : Hp → Prop, (∀ H', Nx H' → ∃ m', m' < m ∧ W (i + 1) m' H') ∧ ∀ x H', (RZM.ItzS t1 t2 K a b).yld i H x H' → g x (wipe σ vs) H' fun σ2 H2 => wipe σ2 vs = wipe σ vs ∧ tt σ2 H2 fun b H3 =>
        if b = true then te σ2 H3 fun y H4 => ∃ acc, H4 D = some (.lst acc) ∧ acc.length < sizeLine ∧ Nx (upd H4 D (.lst (acc ++ [y]))) else Nx H3) := by
  have hlx := hx.len
  have hly := hy.len
  refine lc_zipS (xs := xs) (ys := ys) (by omega) (fun i H' => Acc H1 D ((List.zipWith e ds es).take i) H') (Acc.nil nD) (fun i H' hP => ⟨sqs_same hP.1 qx, sqs_same hP.1 qy⟩) (fun i x y T H' hxi hyi hP nT => ?_) (fun H' hP => ?_)
  · obtain ⟨d, hdi, kd⟩ := hx.get hxi
    obtain ⟨d', hdi', kd'⟩ := hy.get hyi
    have sT : Same H' (upd H' T (.tup [x, y])) := same_new nT
    have hP2 := hP.mv sT
    have er : (List.zipWith e ds es).take (i + 1) = (List.zipWith e ds es).take i ++ [e d d'] := by
      rw [List.take_add_one]
      have : (List.zipWith e ds es)[i]? = some (e d d') := by
        rw [List.getElem?_zipWith, hdi, hdi']
      rw [this]
      rfl
    refine hs i x y d d' T _ _ _ hdi hdi' hP2.1 upd_same (kd.same hP2.1) (kd'.same hP2.1) ⟨_, hP2.2.choose_spec.1⟩ fun v H'' s k => ?_
    rw [er]
    exact hP2.put nD (by rw [List.length_take, List.length_zipWith]; omega) s k
  · have : xs.length = (List.zipWith e ds es).length := by
      rw [List.length_zipWith]
      omega
    rw [this, List.take_length] at hP
    exact hd H' hP.1 hP.dq
end TkS
set_option Elab.async false
set_option linter.all false
set_option maxRecDepth 100000
set_option maxHeartbeats 4000000
namespace TkS
open PySem PySem.Spec PyProof.Rows L2
def tOr (t1 t2 : TE) : TE := fun σ H Q => t1 σ H Q ∨ t2 σ H Q
theorem pe_orT {X : Cx} {e : Expr} {t1 t2 : TE} (a : PE X e t1) (b : PE X e t2) : PE X e (tOr t1 t2) := pe_or2 a b
end TkS
set_option Elab.async false
set_option linter.all false
set_option maxRecDepth 100000
set_option maxHeartbeats 4000000
set_option exponentiation.threshold 5000
set_option pp.maxSteps 900
namespace K26
open PySem PySem.Spec PyProof.Rows L2 TkS LamX NdefX
theorem nb_rs {p k : Nat} {d : PyData} (h : Nb p k d) (n : p ≠ 0) : ∃ x : Nat, d = .int (x : Int) ∧ x < p := by
  cases h with
  | fr _ _ _ => exact absurd rfl n
  | @rs p k x _ l => exact ⟨x, rfl, l⟩
theorem nb_fr0 {k : Nat} {d : PyData} (h : Nb 0 k d) : ∃ q, d = frD q ∧ Lowest q ∧ Fin k q.1 ∧ Fin k q.2 := by
  generalize e0 : 0 = p0 at h
  cases h with
  | @fr k q a b c => exact ⟨q, rfl, a, b, c⟩
  | rs n _ => exact absurd e0.symm n
/-- things that hold the rows of M -/
def Rw (ds : List PyData) (M : List (List PyData)) : Prop := ds.map itemsD = M.map some
theorem Rw.len {ds : List PyData} {M : List (List PyData)} (h : Rw ds M) : ds.length = M.length := by
  have := congrArg List.length h
  rw [List.length_map, List.length_map] at this
  exact this
theorem Rw.at_ {ds : List PyData} {M : List (List PyData)} (h : Rw ds M) {i : Nat} (hi : i < M.length) : ∃ d, ds[i]? = some d ∧ itemsD d = some (M.getD i []) := by
  have l := h.len
  have h1 := List.getElem?_eq_getElem (show i < ds.length by omega)
  refine ⟨_, h1, ?_⟩
  have e := congrArg (fun z => z[i]?) h
  rw [List.getElem?_map, List.getElem?_map, h1, List.getElem?_eq_getElem hi] at e
  rw [List.getD_eq_getElem?_getD, List.getElem?_eq_getElem hi]
  exact Option.some.inj e
theorem rw_lists (M : List (List PyData)) : Rw (M.map .list) M := by
  unfold Rw
  rw [List.map_map]
  rfl
theorem leadAt_is {p : Nat} {M : List (List PyData)} {first place i : Nat} (h1 : first ≤ i) (h2 : i < M.length) (h3 : nzB p (atR M i place) = true) (no : ∀ j, first ≤ j → j < i → nzB p (atR M j place) = false) : leadAt p M first place = some i := by
  unfold leadAt
  have e : List.range M.length = List.range i ++ (List.range (M.length - i)).map (i + ·) := by
    rw [← List.range_add]
    congr 1
    omega
  have z : (List.range i).filter (fun i => decide (first ≤ i) && nzB p (atR M i place)) = [] := by
    rw [List.filter_eq_nil_iff]
    intro j mj hj
    obtain ⟨b1, b2⟩ := Bool.and_eq_true_iff.mp hj
    rw [no j (of_decide_eq_true b1) (List.mem_range.mp mj)] at b2
    cases b2
  rw [e, List.filter_append, z, List.nil_append]
  obtain ⟨k, hk⟩ : ∃ k, M.length - i = k + 1 := ⟨M.length - i - 1, by omega⟩
  rw [hk, List.range_succ_eq_map, List.map_cons, Nat.add_zero, List.filter_cons, if_pos (by rw [decide_eq_true h1, h3]; rfl)]
  rfl
theorem leadAt_no {p : Nat} {M : List (List PyData)} {first place : Nat} (no : ∀ j, first ≤ j → j < M.length → nzB p (atR M j place) = false) : leadAt p M first place = none := by
  unfold leadAt
  rw [List.head?_eq_none_iff, List.filter_eq_nil_iff]
  intro j mj hj
  obtain ⟨b1, b2⟩ := Bool.and_eq_true_iff.mp hj
  rw [no j (of_decide_eq_true b1) (List.mem_range.mp mj)] at b2
  cases b2
theorem getD_some {r : List PyData} {j : Nat} (h : j < r.length) : r[j]? = some (r.getD j .none) := by
  rw [List.getD_eq_getElem?_getD, List.getElem?_eq_getElem h]
  rfl
def optI : Option Nat → V
  | none => .non
  | some i => .int (i : Int)
def sp_place_of_lead (CR CF : Addr) : Sp := fun vs H Q _ => ∃ (f a : Addr) (p l r first place : Nat) (ds : List PyData) (M : List (List PyData)), vs = [.ref f, .ref a, .int (first : Int), .int (place : Int)] ∧ Fld CR CF H f p ∧ Dq H (.ref a) (.list ds) ∧ Rw ds M ∧ Gm p l r M ∧ r ≤ 6 ∧ place < l ∧ M.length ≤ 900 ∧ first ≤ 900 ∧ ∀ H', Same H H' → Q (optI (leadAt p M first place)) H'
def sp_row_less (CR CF : Addr) : Sp := fun vs H Q _ => ∃ (f : Addr) (p : Nat) (x v y : V) (dx dy d : PyData) (xs ys : List PyData), vs = [.ref f, x, v, y] ∧ Fld CR CF H f p ∧ Dq H x dx ∧ itemsD dx = some xs ∧ Dq H v d ∧ Dq H y dy ∧ itemsD dy = some ys ∧ xs.length = ys.length ∧ xs.length ≤ 900 ∧ Nb p 4300 d ∧ (∀ e ∈ xs, Nb p 4300 e) ∧ (∀ e ∈ ys, Nb p 4300 e ∧ Nb p 4300 (timesD p d e)) ∧ (∀ e ∈ rowLess p xs d ys, Nb p 4300 e) ∧
  ∀ l H', Same H H' → H l = none → Dq H' (.ref l) (.list (rowLess p xs d ys)) → Q (.ref l) H'
section
variable {P : Program} {w : World} {K : PySem.W.Frag} {mg : Str → Option Value} {base : Heap}
theorem ok_place_of_lead (T : Txt K mg) : FnOk P w K mg base CX0 1 T.f_place_of_lead T.d_place_of_lead ["field", "rows", "first", "place"] (sp_place_of_lead T.C_RestField T.C_FractionField) := by
  refine T.F_place_of_lead.ok sc_place_of_lead (fun vs H Q E h => ?_) (fun cdv A outer s H vs Q E hr h => ?_)
  · obtain ⟨f, a, p, l, r, first, place, ds, M, rfl, _⟩ := h
    rfl
  · obtain ⟨f, a, p, l, r, first, place, ds, M, rfl, hf, kd, rw', gm, r6, pl, m9, f9, q⟩ := h
    refine ⟨_, (pss_cons (ps_for PassesOwn.never rfl (pi_range2 (by rfl) T.m_range (pa_cons (pv 2) (pa_cons (pe_callB call_len_seq (by rfl) T.m_len (by decide +kernel) (pa_cons (pv 1) pa_nil)) pa_nil))) (pg_name (i := 4) sc_place_of_lead.nd rfl (.inl rfl))
        (pss_one (ps_if (pt_cmpR (op_neD hr.units) (pe_ix ix_seq (pe_ix ix_list (pv 1) (pv 4) (fun _ _ => rfl)) (pv 3) (fun _ _ => rfl)) (pe_fld (pv 0) rfl) (nomark _))
          (pss_one (ps_ret (pv 4)))
          pss_nil)))
      (pss_one (ps_ret pe_non))), ?_⟩
    have fp := hf.fp
    obtain ⟨C0, d0, fs0, v0, a1, a2, a3, a4, a5⟩ := fld_zero T hf
    cases kd with
    | @lst _ xs _ e u =>
    have lx := u.len
    have lM := rw'.len
    refine ⟨_, rfl, _, rfl, a, xs, rfl, .inl (SqL.of e), (first : Int), (xs.length : Int), rfl, ⟨by omega, by omega, by omega, by omega⟩, ?_⟩
    refine for_range (lo := (first : Int)) (n := ((xs.length : Int) - (first : Int)).toNat) (fun i σ H' => ∃ y4, σ = [some (.ref f), some (.ref a), some (.int (first : Int)), some (.int (place : Int)), y4] ∧ H = H' ∧ ∀ j, first ≤ j → j < first + i → nzB p (atR M j place) = false) ⟨none, rfl, rfl, fun j h1 h2 => absurd h2 (by omega)⟩ (fun i σ H' hi hP => ?_) (fun σ H' hP => ?_)
    · obtain ⟨y4, rfl, rfl, no⟩ := hP
      have him : first + i < M.length := by omega
      obtain ⟨d, hd, ed⟩ := rw'.at_ him
      obtain ⟨v, hv, kv⟩ := dqs_at u hd
      obtain ⟨b, zs, rfl, hzs, hsz⟩ := sq_of (K := K) kv ed
      have lr := gm.ln _ (getD_memL him)
      obtain ⟨z, hz, kz⟩ := dqs_at hzs (i := place) (d := atR M (first + i) place) (getD_some (by omega))
      have nb : Nb p 4300 (atR M (first + i) place) := gm.nb r6 _ (getD_memL him) _ (getD_mem (by omega))
      refine ⟨_, rfl, _, rfl, a, xs, (first : Int) + (i : Int), .ref b, rfl, rfl, SqL.of e, at_of (j := first + i) (by omega) hv, _, rfl, ?_⟩
      refine rix_sq hsz (at_of (j := place) rfl hz) ?_
      refine ⟨_, rfl, f, C0, d0, fs0, v0, rfl, a1, a2, a3, a4, atR M (first + i) place, zeroD p, kz.dp, a5.dp, nb_shp nb, zero_shp p, _, rfl, ite2 (fun c => ?_) (fun c => ?_)⟩
      · have nz : nzB p (atR M (first + i) place) = true := c
        refine ⟨_, rfl, ?_⟩
        have q1 := q H (fun _ _ z => z)
        rw [leadAt_is (show first ≤ first + i by omega) him nz no] at q1
        rw [show (first : Int) + (i : Int) = ((first + i : Nat) : Int) by omega]
        exact q1
      · have nz : nzB p (atR M (first + i) place) = false := by
          cases h : nzB p (atR M (first + i) place) with
          | true => exact absurd h c
          | false => rfl
        refine ⟨_, rfl, rfl, fun j h1 h2 => ?_⟩
        by_cases cj : j = first + i
        · rw [cj]; exact nz
        · exact no j h1 (by omega)
    · obtain ⟨y4, rfl, rfl, no⟩ := hP
      have q1 := q H (fun _ _ z => z)
      rw [leadAt_no fun j h1 h2 => no j h1 (by omega)] at q1
      exact q1
theorem ok_row_less (T : Txt K mg) : FnOk P w K mg base CX0 5 T.f_row_less T.d_row_less ["field", "row", "factor", "lead"] (sp_row_less T.C_RestField T.C_FractionField) := by
  refine T.F_row_less.ok sc_row_less (fun vs H Q E h => ?_) (fun cdv A outer s H vs Q E hr h => ?_)
  · obtain ⟨f, p, x, v, y, dx, dy, d, xs, ys, rfl, _⟩ := h
    rfl
  · obtain ⟨f, p, x, v, y, dx, dy, d, ds, es, rfl, hf, kx, ex, kv, ky, ey, le, l9, nd, nx, ny, nr, q⟩ := h
    refine ⟨_, (pss_one (ps_ret (pe_lc rfl sc_row_less.nd (RZM.pi_zipS (by rfl) T.m_zip (pa_cons (pv 1) (pa_cons (pv 3) pa_nil))) (blkOk_by (own := [("number", 4), ("other", 5)]) (N := ["field", "row", "factor", "lead", "number", "other"]) (sc := defScope s_row_less) (by decide +kernel)) (fun _ _ _ _ _ => (show PG _ _ (gTup K 2 (gCons (gName 4) (gCons (gName 5) gNil))) from pg_tup rfl (pgs_cons (pg_name (i := 4) sc_row_less.nd rfl (.inl rfl)) (pgs_cons (pg_name (i := 5) sc_row_less.nd rfl (.inl rfl)) pgs_nil)))) (fun _ _ _ _ _ => pts_nil) (fun _ _ _ _ _ => (pe_orT (pe_meth (pv 0) T.cl_RestField T.M_RestField_less (ok_RestField_less T) (hr.mono (by decide)) T.b_RestField_less .nil pass0 (pa_cons (pv 4) (pa_cons (pe_meth (pv 0) T.cl_RestField T.M_RestField_times (ok_RestField_times T) (hr.mono (by decide)) T.b_RestField_times .nil pass0 (pa_cons (pv 2) (pa_cons (pv 5) pa_nil))) pa_nil))) (pe_meth (pv 0) T.cl_FractionField T.M_FractionField_less (ok_FractionField_less T) (hr.mono (by decide)) T.b_FractionField_less .nil pass0 (pa_cons (pv 4) (pa_cons (pe_meth (pv 0) T.cl_FractionField T.M_FractionField_times (ok_FractionField_times T) (hr.mono (by decide)) T.b_FractionField_times .nil pass0 (pa_cons (pv 2) (pa_cons (pv 5) pa_nil))) pa_nil)))))))), ?_⟩
    obtain ⟨ax, xs, rfl, hxs, hsx⟩ := sq_of (K := K) kx ex
    obtain ⟨ay, ys, rfl, hys, hsy⟩ := sq_of (K := K) ky ey
    obtain ⟨t1, ht1⟩ := sqs_of' hsx
    obtain ⟨t2, ht2⟩ := sqs_of' hsy
    refine ⟨_, rfl, _, rfl, t1, t2, ax, ay, xs, ys, rfl, ht1, ht2, fun D nD => ?_⟩
    refine lc_zipD (K := K) (t1 := t1) (t2 := t2) (ds := ds) (es := es) (fun a b => lessD p a (timesD p d b)) hxs hys le l9 nD ht1 ht2 (fun i x0 y0 u u' T' H3 R N hu hu' s3 hT kx0 ky0 hacc yes => ?_) (fun H3 s3 hD => q D H3 s3 nD hD)
    obtain ⟨acc, ha⟩ := hacc
    refine ⟨T', _, rfl, SqT.of hT, rfl, _, _, rfl, _, _, rfl, rfl, rfl, ?_⟩
    have nu := nx u (List.mem_of_getElem? hu)
    obtain ⟨nu', nt⟩ := ny u' (List.mem_of_getElem? hu')
    have nl := nb_noL (nr (lessD p u (timesD p d u')) (List.mem_of_getElem? (i := i) (by unfold rowLess; rw [List.getElem?_zipWith, hu, hu'])))
    have kv3 := kv.same s3
    have hf3 := hf.same s3
    by_cases p0 : p = 0
    · subst p0
      obtain ⟨qu, rfl, b1, b2, b3⟩ := nb_fr0 nu
      obtain ⟨qv, rfl, c1, c2, c3⟩ := nb_fr0 nd
      obtain ⟨qy, rfl, d1, d2, d3⟩ := nb_fr0 nu'
      obtain ⟨dxf, z, o, m, ea, _⟩ := (hf3.fr rfl).at_
      refine .inr ⟨_, rfl, f, dxf, _, rfl, ea, rfl, _, rfl, _, rfl, f, dxf, _, rfl, ea, rfl, _, rfl, _, rfl, f, v, y0, qv, qy, rfl, hf3.fr rfl, kv3, ky0, ⟨c1, fin_up c2 (by decide), fin_up c3 (by decide)⟩, ⟨d1, fin_up d2 (by decide), fin_up d3 (by decide)⟩, fun l1 H4 s4 k4 => ?_⟩
      have et : timesD 0 (frD qv) (frD qy) = frD (timesF qv qy) := rfl
      rw [et] at nt nl
      obtain ⟨l3, f3, f4⟩ := nb_fr nt
      exact ⟨f, x0, .ref l1, qu, timesF qv qy, rfl, (hf3.fr rfl).same s4, kx0.same s4, k4, ⟨b1, fin_up b2 (by decide), fin_up b3 (by decide)⟩, ⟨l3, fin_up f3 (by decide), fin_up f4 (by decide)⟩, fun l H5 s5 k5 => yes _ H5 (s4.trans s5) (dq_noL ((s4.trans s5) _ _ ha) _ nl k5)⟩
    · obtain ⟨xn, rfl, b1⟩ := nb_rs nu p0
      obtain ⟨vn, rfl, c1⟩ := nb_rs nd p0
      obtain ⟨yn, rfl, d1⟩ := nb_rs nu' p0
      obtain ⟨⟨dxr, ea⟩, pr, le'⟩ := id (hf3.rs p0)
      cases kx0
      cases kv3
      cases ky0
      rw [times_nat p0, less_nat p0 (Nat.mod_lt _ (by omega))] at yes
      refine .inl ⟨_, rfl, f, dxr, _, rfl, ea, rfl, _, rfl, _, rfl, f, dxr, _, rfl, ea, rfl, _, rfl, _, rfl, f, p, (vn : Int), (yn : Int), rfl, hf3.rs p0, med_nat c1 le', med_nat d1 le', ?_⟩
      have e1 : (vn : Int) * (yn : Int) % (p : Int) = ((vn * yn % p : Nat) : Int) := rfl
      refine ⟨f, p, (xn : Int), ((vn * yn % p : Nat) : Int), rfl, hf3.rs p0, med_nat b1 le', med_nat (Nat.mod_lt _ (by omega)) le', ?_⟩
      have e2 : ((xn : Int) - ((vn * yn % p : Nat) : Int)) % (p : Int) = (((xn + (p - vn * yn % p)) % p : Nat) : Int) := by
        have := less_nat (p := p) (x := xn) (y := vn * yn % p) p0 (Nat.mod_lt _ (by omega))
        unfold lessD at this
        rw [if_neg p0] at this
        exact PyData.int.inj this
      show R (.int (((xn : Int) - ((vn * yn % p : Nat) : Int)) % (p : Int))) H3
      rw [e2]
      exact yes _ H3 (fun _ _ z => z) (.int _)
end
end K26
set_option Elab.async false
set_option linter.all false
set_option maxRecDepth 100000
set_option maxHeartbeats 4000000
set_option exponentiation.threshold 5000
set_option pp.maxSteps 900
namespace K26
open PySem PySem.Spec PyProof.Rows L2 TkS LamX NdefX
theorem asgE {te : TE} {gi : TG} {rest : TS} {D : Ends} {σ : L2.St} {H : Hp} (h : te σ H fun y H2 => gi y σ H2 (rest D)) : tSeq (tAsg te gi) rest D σ H := h
def sl_sum : Sp := fun vs H Q _ => ∃ (p n : Nat) (x y : V) (dx dy : PyData) (ws es : List PyData) (R : List (List PyData)), vs = [.int (p : Int), x, y, .int (n : Int)] ∧ Fp p ∧ Dq H x dx ∧ itemsD dx = some ws ∧ Dq H y dy ∧ itemsD dy = some es ∧ Rw es R ∧ ws.length = R.length ∧ R.length ≤ 6 ∧ n ≤ 6 ∧ (∀ d ∈ ws, Nb p 4300 d) ∧ (∀ r ∈ R, r.length = n ∧ ∀ d ∈ r, Nb p 4300 d) ∧
  (∀ i, i < R.length → ∀ j, j < n → Nb p 4300 (timesD p (ws.getD i .none) ((R.getD i []).getD j .none))) ∧ (∀ i, i ≤ R.length → ∀ j, j < n → Nb p 4300 (dotD p (ws.take i) ((R.map fun r => r.getD j .none).take i) (zeroD p))) ∧
  ∀ v H', Same H H' → Dq H' v (.tuple ((List.range n).map fun j => dotD p ws (R.map fun r => r.getD j .none) (zeroD p))) → Q v H'
section
variable {P : Program} {w : World} {K : PySem.W.Frag} {mg : Str → Option Value} {base : Heap}
theorem ok_law_sum (T : Txt K mg) : FnOk P w K mg base CX0 4 T.f_law_sum T.d_law_sum ["_law_p", "_law_weights", "_law_rows_here", "_law_width"] sl_sum := by
  refine T.F_law_sum.ok sc_law_sum (fun vs H Q E h => ?_) (fun cdv A outer s H vs Q E hr h => ?_)
  · obtain ⟨p, n, x, y, dx, dy, ws, es, R, rfl, _⟩ := h
    rfl
  · obtain ⟨p, n, x, y, dx, dy, ws, es, R, rfl, fp, kx, edx, ky, edy, rw0, lw, l2, n6, nw, nr, nT, nS, q⟩ := h
    refine ⟨_, (pss_cons (ps_set (i := 5) sc_law_sum.nd rfl (.inr rfl) (pe_lc rfl sc_law_sum.nd (pi_range1 (by rfl) T.m_range (pa_cons (pv 3) pa_nil)) (blkOk_by (own := [("_law_k", 4)]) (N := ["_law_p", "_law_weights", "_law_rows_here", "_law_width", "_law_k", "_law_total", "_law_i"]) (sc := defScope s_law_sum) (by decide +kernel)) (fun _ _ _ _ _ => (pg_name (i := 4) sc_law_sum.nd rfl (.inl rfl))) (fun _ _ _ _ _ => pts_nil) (fun _ _ _ _ _ => (pe_call (ok_law_some T) (hr.mono (by decide)) (by rfl) T.g_law_some T.F_law_some.kp T.b_law_some .nil pass0 (pa_cons (pv 0) (pa_cons pe_int pa_nil))))))
      (pss_cons (ps_for PassesOwn.never rfl (pi_range1 (by rfl) T.m_range (pa_cons (pe_callB call_len_seq (by rfl) T.m_len (by decide +kernel) (pa_cons (pv 2) pa_nil)) pa_nil)) (pg_name (i := 4) sc_law_sum.nd rfl (.inr rfl))
        (pss_one (ps_set (i := 5) sc_law_sum.nd rfl (.inr rfl) (pe_lc rfl sc_law_sum.nd (pi_range1 (by rfl) T.m_range (pa_cons (pv 3) pa_nil)) (blkOk_by (own := [("_law_i", 6)]) (N := ["_law_p", "_law_weights", "_law_rows_here", "_law_width", "_law_k", "_law_total", "_law_i"]) (sc := defScope s_law_sum) (by decide +kernel)) (fun _ _ _ _ _ => (pg_name (i := 6) sc_law_sum.nd rfl (.inl rfl))) (fun _ _ _ _ _ => pts_nil) (fun _ _ _ _ _ => (pe_call (ok_law_plus T) (hr.mono (by decide)) (by rfl) T.g_law_plus T.F_law_plus.kp T.b_law_plus .nil pass0 (pa_cons (pv 0) (pa_cons (show PE _ _ (tOp (rIxL K) (tVar 5) (tVar 6)) from pe_ix ix_list (pv 5) (pv 6) (fun _ _ => rfl)) (pa_cons (pe_call (ok_law_times T) (hr.mono (by decide)) (by rfl) T.g_law_times T.F_law_times.kp T.b_law_times .nil pass0 (pa_cons (pv 0) (pa_cons (show PE _ _ (tOp (rIx K) (tVar 1) (tVar 4)) from pe_ix ix_seq (pv 1) (pv 4) (fun _ _ => rfl)) (pa_cons (show PE _ _ (tOp (rIx K) (tOp (rIx K) (tVar 2) (tVar 4)) (tVar 6)) from pe_ix ix_seq (pe_ix ix_seq (pv 2) (pv 4) (fun _ _ => rfl)) (pv 6) (fun _ _ => rfl)) pa_nil)))) pa_nil)))))))))
      (pss_one (ps_ret (pe_callTy call_tupD (by rfl) T.m_tuple (by decide +kernel) (pa_cons (pv 5) pa_nil)))))), ?_⟩
    obtain ⟨ax, xs, rfl, ux, ex⟩ := sq_of (K := K) kx edx
    obtain ⟨ay, ys, rfl, uy, ey⟩ := sq_of (K := K) ky edy
    have lx := ux.len
    have ly := uy.len
    have lrw := rw0.len
    refine asgE ?_
    refine ⟨_, rfl, (n : Int), rfl, by omega, by omega, fun D nD => ?_⟩
    rw [show ((n : Nat) : Int).toNat = n by omega]
    refine lc_rngD (fun _ => true) (fun _ => zeroD p) nD (by omega) (fun _ => rfl) (fun j H1 Q1 hj s1 q1 => q1 _ fun _ _ z => z) (fun j H1 Q1 hj _ s1 acc q1 => ?_) (fun H1 s1 kD => ?_)
    · obtain ⟨ac, hac⟩ := acc
      refine ⟨_, rfl, p, 0, rfl, fun v H2 s2 kv => q1 v H2 s2 ?_⟩
      rw [some_zero] at kv
      exact dq_noL (s2 _ _ hac) _ (nb_noL (nb_zero fp (Nat.le_refl 1))) kv
    rw [List.filter_eq_self.mpr fun _ _ => rfl] at kD
    refine ⟨_, rfl, ay, ys, rfl, ey.same s1, _, rfl, by omega, by omega, ?_⟩
    rw [show ((ys.length : Nat) : Int).toNat = R.length by omega]
    refine for_range (lo := 0) (n := R.length) (fun i σ H' => ∃ (t : Addr) (y4 y6 : Option V), σ = [some (.int (p : Int)), some (.ref ax), some (.ref ay), some (.int (n : Int)), y4, some (.ref t), y6] ∧ Same H H' ∧ Dq H' (.ref t) (.list ((List.range n).map fun j => dotD p (ws.take i) ((R.map fun r => r.getD j .none).take i) (zeroD p)))) ⟨D, none, none, rfl, s1, kD⟩ (fun i σ H' hi hP => ?_) (fun σ H' hP => ?_)
    · obtain ⟨t, y4, y6, rfl, sm, kt⟩ := hP
      cases kt with
      | @lst _ ts _ et ut =>
      have lt := ut.len
      rw [List.length_map, List.length_range] at lt
      have hw := List.getElem?_eq_getElem (show i < ws.length by omega)
      have hr' := List.getElem?_eq_getElem hi
      obtain ⟨vw, hvw, kvw⟩ := dqs_at ux hw
      obtain ⟨dr, hdr, edr⟩ := rw0.at_ hi
      obtain ⟨vr, hvr, kvr⟩ := dqs_at uy hdr
      have nTi := nT i hi
      have nSi := nS i (by omega)
      rw [List.getD_eq_getElem?_getD, hw, List.getD_eq_getElem?_getD, hr'] at nTi
      rw [List.getD_eq_getElem?_getD, hr'] at edr
      dsimp only [Option.getD] at nTi edr
      have nwi := nw _ (List.mem_of_getElem? hw)
      obtain ⟨lri, nri⟩ := nr _ (List.mem_of_getElem? hr')
      generalize ws[i] = wi at *
      generalize R[i] = ri at *
      obtain ⟨ar, zs, rfl, ur, er⟩ := sq_of (K := K) kvr edr
      refine ⟨_, rfl, (n : Int), rfl, by omega, by omega, fun D2 nD2 => ?_⟩
      rw [show ((n : Nat) : Int).toNat = n by omega]
      refine lc_rngD (fun _ => true) (fun j => dotD p (ws.take (i + 1)) ((R.map fun r => r.getD j .none).take (i + 1)) (zeroD p)) nD2 (by omega) (fun _ => rfl) (fun j H1 Q1 hj s1 q1 => q1 _ fun _ _ z => z) (fun j H3 Q1 hj _ s3 acc q1 => ?_) (fun H3 s3 kD3 => ?_)
      · obtain ⟨ac, hac⟩ := acc
        have nx := dot_take (p := p) (xs := ws) (ys := R.map fun r => r.getD j .none) (i := i) (x := wi) (y := ri.getD j .none) (by rw [List.length_map]; exact lw) hw (by rw [List.getElem?_map, hr']; rfl) (zeroD p)
        have accN := nSi j hj
        have hrj := List.getElem?_eq_getElem (show j < ri.length by omega)
        have egd : ri.getD j .none = ri[j] := by
          rw [List.getD_eq_getElem?_getD, hrj]
          rfl
        obtain ⟨vz, hvz, kvz⟩ := dqs_at ur hrj
        obtain ⟨vt, hvt, kvt⟩ := dqs_at ut (i := j) (d := dotD p (ws.take i) ((R.map fun r => r.getD j .none).take i) (zeroD p)) (by rw [List.getElem?_map, List.getElem?_range hj]; rfl)
        have nz := nri _ (List.mem_of_getElem? hrj)
        rw [egd] at nx
        generalize dotD p (ws.take i) ((R.map fun r => r.getD j .none).take i) (zeroD p) = ac0 at *
        have nt := nTi j hj
        rw [egd] at nt
        refine ⟨_, rfl, _, rfl, _, rfl, t, ts, 0 + (j : Int), vt, rfl, rfl, SqL.of (s3 _ _ et), at_of (j := j) (by omega) hvt, ?_⟩
        refine ⟨_, rfl, _, rfl, _, rfl, ?_⟩
        refine rix_sq (ex.same (sm.trans s3)) (at_of (j := i) (by omega) hvw) ?_
        refine ⟨_, rfl, _, rfl, ?_⟩
        refine rix_sq (ey.same (sm.trans s3)) (at_of (j := i) (by omega) hvr) ?_
        refine ⟨_, rfl, ?_⟩
        refine rix_sq (er.same (sm.trans s3)) (at_of (j := j) (by omega) hvz) ?_
        refine ⟨p, vw, vz, wi, _, rfl, kvw.same (sm.trans s3), kvz.same (sm.trans s3), nwi.up (by decide), nz.up (by decide), fp.le, fun v4 H4 s4 k4 => ?_⟩
        refine ⟨p, vt, v4, _, _, rfl, (kvt.same s3).same s4, k4, accN.up (by decide), nt.up (by decide), fp.le, fun v5 H5 s5 k5 => ?_⟩
        refine q1 v5 H5 (s4.trans s5) ?_
        rw [nx]
        exact dq_noL ((s4.trans s5) _ _ hac) _ (nb_noL (plusD_nb accN nt)) k5
      · rw [List.filter_eq_self.mpr fun _ _ => rfl] at kD3
        exact ⟨D2, _, _, rfl, sm.trans s3, kD3⟩
    · obtain ⟨t, y4, y6, rfl, sm, kt⟩ := hP
      have e1 : ((List.range n).map fun j => dotD p (ws.take R.length) ((R.map fun r => r.getD j .none).take R.length) (zeroD p)) = (List.range n).map fun j => dotD p ws (R.map fun r => r.getD j .none) (zeroD p) := by
        refine List.map_congr_left fun j _ => ?_
        rw [List.take_of_length_le (by omega), List.take_of_length_le (by rw [List.length_map]; omega)]
      rw [e1] at kt
      refine ⟨_, rfl, .ref t, _, _, rfl, kt, rfl, fun l H4 s4 k4 => q (.ref l) H4 (sm.trans s4) k4⟩
end
end K26
set_option Elab.async false
set_option linter.all false
set_option maxRecDepth 100000
set_option maxHeartbeats 4000000
set_option exponentiation.threshold 5000
set_option pp.maxSteps 700
namespace K26
open PySem PySem.Spec PyProof.Rows L2 TkS LamX NdefX
def sl_rank : Sp := fun vs H Q _ => ∃ (p l : Nat) (x : V) (M : List (List PyData)), vs = [.int (p : Int), x] ∧ Fp p ∧ Dq H x (.list (M.map .tuple)) ∧ Gm p l 0 M ∧ l ≤ 6 ∧ M.length ≤ 900 ∧ ∀ H', Same H H' → Q (.int (((rkN p M l).2 : Nat) : Int)) H'
theorem rk_nil {p : Nat} : ∀ k, rkN p [] k = ([], 0)
  | 0 => rfl
  | k + 1 => by
    rw [rkN, rk_nil k]
    rfl
theorem off_self {p k : Nat} {H : Hp} {W : Addr} {vs : List V} {M : List (List PyData)} (eW : H W = some (.lst vs)) (u : DqAll H vs (M.map .list)) (nb : ∀ r ∈ M, ∀ d ∈ r, Nb p k d) : DqAll (TkS.Off W H) vs (M.map .list) := by
  have nW : ∀ (a : Addr) (us : List V) (r : List PyData), M ≠ [] → r ∈ M → H a = some (.lst us) → DqAll H us r → a ≠ W := fun a us r ne mr ea ua z => by
    subst z
    rw [eW] at ea
    cases ea
    cases M with
    | nil => exact ne rfl
    | cons r0 M' =>
      cases u with
      | cons k0 _ =>
        cases ua with
        | cons k1 _ =>
          have n1 := nb _ mr _ List.mem_cons_self
          cases k0 with
          | lst e1 _ =>
            cases n1 with
            | fr _ _ _ =>
              cases k1 with
              | tup e2 _ =>
                rw [e1] at e2
                cases e2
            | rs _ _ => cases k1
  have go : ∀ (vs' : List V) (M' : List (List PyData)), (∀ r ∈ M', r ∈ M) → DqAll H vs' (M'.map .list) → DqAll (TkS.Off W H) vs' (M'.map .list) := fun vs' M' => by
    induction M' generalizing vs' with
    | nil =>
      intro _ h
      cases h
      exact .nil
    | cons r M' ih =>
      intro hm h
      cases h with
      | cons k0 t =>
        refine .cons ?_ (ih _ (fun x mx => hm x (List.mem_cons_of_mem _ mx)) t)
        have mr := hm r List.mem_cons_self
        cases k0 with
        | lst e1 u1 => exact .lst (off_at (nW _ _ r (fun z => by rw [z] at mr; cases mr) mr e1 u1) e1) (dqs_noL eW _ (noLs_all fun d md => nb_noL (nb r mr d md)) u1)
  exact go vs M (fun _ h => h) u
section
variable {P : Program} {w : World} {K : PySem.W.Frag} {mg : Str → Option Value} {base : Heap}
theorem ok_law_rank (T : Txt K mg) : FnOk P w K mg base CX0 5 T.f_law_rank T.d_law_rank ["_law_p", "_law_rows_here"] sl_rank := by
  refine T.F_law_rank.ok sc_law_rank (fun vs H Q E h => ?_) (fun cdv A outer s H vs Q E hr h => ?_)
  · obtain ⟨p, l, x, M, rfl, _⟩ := h
    rfl
  · obtain ⟨p, l, x, M, rfl, fp, kx, g0, l6, m9, q⟩ := h
    refine ⟨_, (pss_cons (ps_setLc (i := 3) rfl sc_law_rank.nd rfl rfl (sw_true rfl rfl rfl (by decide +kernel)) (pi_seq (pv 1)) (blkOk_by (own := [("_law_row", 2)]) (N := ["_law_p", "_law_rows_here", "_law_row", "_law_left", "_law_rank_here", "_law_width", "_law_place", "_law_at", "_law_lead", "_law_k", "_law_factor", "_law_i"]) (sc := defScope s_law_rank) (by decide +kernel)) (fun _ _ _ _ _ => (pg_name (i := 2) sc_law_rank.nd rfl (.inl rfl))) (fun _ _ _ _ _ => pts_nil) (fun _ _ _ _ _ => (pe_callTy call_lstD (by rfl) T.m_list (by decide +kernel) (pa_cons (pv 2) pa_nil))))
      (pss_cons (ps_set (i := 4) sc_law_rank.nd rfl (.inl rfl) pe_int)
      (pss_cons (ps_set (i := 5) sc_law_rank.nd rfl (.inl rfl) pe_int)
      (Evl.pss_cut (ps_if (pt_truth (pv 3) (by intro _; rfl))
        (pss_one (ps_set (i := 5) sc_law_rank.nd rfl (.inl rfl) (pe_callB call_len_seq (by rfl) T.m_len (by decide +kernel) (pa_cons (pe_ix ix_list (pv 3) pe_int (fun _ _ => rfl)) pa_nil))))
        pss_nil)
      (Evl.pss_cut (ps_for PassesOwn.never rfl (pi_range1 (by rfl) T.m_range (pa_cons (pv 5) pa_nil)) (pg_name (i := 6) sc_law_rank.nd rfl (.inl rfl))
        (pss_cons (ps_set (i := 7) sc_law_rank.nd rfl (.inl rfl) (pv 4))
        (pss_cons (ps_while PassesOwn.never (PW.pt (pw_and (pt_cmpR op_lt (pv 7) (pe_callB call_len_seq (by rfl) T.m_len (by decide +kernel) (pa_cons (pv 3) pa_nil)) (nomark _)) (pw_and1 (pt_val (pe_call (ok_law_nought T) (hr.mono (by decide)) (by rfl) T.g_law_nought T.F_law_nought.kp T.b_law_nought .nil pass0 (pa_cons (pv 0) (pa_cons (pe_ix ix_list (pe_ix ix_list (pv 3) (pv 7) (fun _ _ => rfl)) (pv 6) (fun _ _ => rfl)) pa_nil)))))))
          (pss_one (ps_set (i := 7) sc_law_rank.nd rfl (.inl rfl) (pe_op op_add (pv 7) pe_int))))
        (pss_one (ps_if (pt_cmpR op_lt (pv 7) (pe_callB call_len_seq (by rfl) T.m_len (by decide +kernel) (pa_cons (pv 3) pa_nil)) (nomark _))
          (pss_cons (ps_set (i := 8) sc_law_rank.nd rfl (.inr rfl) (pe_ix ix_list (pv 3) (pv 7) (fun _ _ => rfl)))
          (pss_cons (ps_asg (pe_ix ix_list (pv 3) (pv 4) (fun _ _ => rfl)) (pg_sub (pv 3) (pv 7) set_list))
          (pss_cons (ps_asg (pv 8) (pg_sub (pv 3) (pv 4) set_list))
          (pss_cons (ps_for PassesOwn.never rfl (pi_range2 (by rfl) T.m_range (pa_cons (pe_op op_add (pv 4) pe_int) (pa_cons (pe_callB call_len_seq (by rfl) T.m_len (by decide +kernel) (pa_cons (pv 3) pa_nil)) pa_nil))) (pg_name (i := 9) sc_law_rank.nd rfl (.inl rfl))
            (pss_cons (ps_set (i := 10) sc_law_rank.nd rfl (.inr rfl) (pe_call (ok_law_minus T) (hr.mono (by decide)) (by rfl) T.g_law_minus T.F_law_minus.kp T.b_law_minus .nil pass0 (pa_cons (pv 0) (pa_cons (pe_call (ok_law_over T) (hr.mono (by decide)) (by rfl) T.g_law_over T.F_law_over.kp T.b_law_over .nil pass0 (pa_cons (pv 0) (pa_cons (pe_ix ix_list (pe_ix ix_list (pv 3) (pv 9) (fun _ _ => rfl)) (pv 6) (fun _ _ => rfl)) (pa_cons (pe_ix ix_list (pv 8) (pv 6) (fun _ _ => rfl)) pa_nil)))) pa_nil))))
            (pss_cons (ps_set (i := 2) sc_law_rank.nd rfl (.inr rfl) (pe_ix ix_list (pv 3) (pv 9) (fun _ _ => rfl)))
            (pss_one (ps_asg (pe_lc rfl sc_law_rank.nd (pi_range1 (by rfl) T.m_range (pa_cons (pv 5) pa_nil)) (blkOk_by (own := [("_law_i", 11)]) (N := ["_law_p", "_law_rows_here", "_law_row", "_law_left", "_law_rank_here", "_law_width", "_law_place", "_law_at", "_law_lead", "_law_k", "_law_factor", "_law_i"]) (sc := defScope s_law_rank) (by decide +kernel)) (fun _ _ _ _ _ => (pg_name (i := 11) sc_law_rank.nd rfl (.inl rfl))) (fun _ _ _ _ _ => pts_nil) (fun _ _ _ _ _ => (pe_call (ok_law_plus T) (hr.mono (by decide)) (by rfl) T.g_law_plus T.F_law_plus.kp T.b_law_plus .nil pass0 (pa_cons (pv 0) (pa_cons (show PE _ _ (tOp (rIxL K) (tVar 2) (tVar 11)) from pe_ix ix_list (pv 2) (pv 11) (fun _ _ => rfl)) (pa_cons (pe_call (ok_law_times T) (hr.mono (by decide)) (by rfl) T.g_law_times T.F_law_times.kp T.b_law_times .nil pass0 (pa_cons (pv 0) (pa_cons (pv 10) (pa_cons (show PE _ _ (tOp (rIxL K) (tVar 8) (tVar 11)) from pe_ix ix_list (pv 8) (pv 11) (fun _ _ => rfl)) pa_nil)))) pa_nil)))))) (pg_sub (pv 3) (pv 9) set_list))))))
          (pss_one (ps_set (i := 4) sc_law_rank.nd rfl (.inl rfl) (pe_op op_add (pv 4) pe_int)))))))
          pss_nil)))))
      (pss_one (ps_ret (pv 4)))))))), ?_⟩
    obtain ⟨R, iR, φ, F, I⟩ := phi_inv fp
    cases kx with
    | @lst ax xs _ ex ux =>
    have lx := ux.len
    rw [List.length_map] at lx
    refine asgE ?_
    refine lc_seqD (f := fun _ => true) (e := fun d => .list (rowOf d)) (fun Q h => ⟨_, rfl, h⟩) (.inl (SqL.of ex)) ux (by rw [List.length_map]; omega) (fun x => rfl) (fun i x d H' Q _ _ _ h => h _ fun _ _ z => z) (fun D i y d H2 Q2 nD hd _ s2 k2 acc q2 => ?_) (fun W H1 nW s1 kW => ?_)
    · obtain ⟨ac, hac⟩ := acc
      obtain ⟨r, mr, rfl⟩ := List.mem_map.mp (List.mem_of_getElem? hd)
      refine ⟨_, rfl, y, .tuple r, r, rfl, k2, rfl, fun la H4 s4 na ka => q2 _ H4 s4 ?_⟩
      have nl : noLists r = true := noLs_all fun z mz => nb_noL (g0.nb (by omega) r mr z mz)
      have hD := s4 _ _ hac
      cases ka with
      | lst e u =>
        refine .lst (off_at (fun z => ?_) e) (dqs_noL hD _ nl u)
        rw [z, hac] at na
        cases na
    rw [List.filter_eq_self.mpr fun _ _ => rfl, List.map_map] at kW
    have eM : (M.map ((fun d => PyData.list (rowOf d)) ∘ PyData.tuple)) = M.map .list := List.map_congr_left fun _ _ => rfl
    rw [eM] at kW
    cases kW with
    | @lst _ vs _ eW uW =>
    have lv := uW.len
    rw [List.length_map] at lv
    obtain ⟨wd, hwd, hw0⟩ : ∃ wd : Nat, wd = (if M = [] then 0 else l) ∧ wd ≤ l := ⟨_, rfl, by split <;> omega⟩
    refine ⟨fun σ H' => σ = [some (.int (p : Int)), some (.ref ax), none, some (.ref W), some (.int 0), some (.int (wd : Int)), none, none, none, none, none, none] ∧ H1 = H', ?_, fun σ H' hP => ?_⟩
    · refine ⟨_, rfl, !vs.isEmpty, .inl ⟨_, SqL.of eW, rfl⟩, ?_⟩
      cases vs with
      | nil =>
        have : M = [] := List.eq_nil_of_length_eq_zero lv.symm
        refine iteF ⟨?_, rfl⟩
        rw [hwd, if_pos this]
        rfl
      | cons v0 vs' =>
        have ne : M ≠ [] := fun z => by rw [z] at lv; cases lv
        have m0 : 0 < M.length := by cases M with
          | nil => exact absurd rfl ne
          | cons _ _ => exact Nat.succ_pos _
        obtain ⟨u0, hu0, ku0⟩ := dqs_at uW (i := 0) (d := .list (M.getD 0 [])) (by rw [List.getElem?_map, List.getElem?_eq_getElem m0, List.getD_eq_getElem?_getD, List.getElem?_eq_getElem m0]; rfl)
        cases ku0 with
        | @lst b0 us0 _ eb0 ub0 =>
        have lb := ub0.len
        have ll := g0.ln _ (getD_memL m0)
        refine iteT ⟨_, rfl, W, _, 0, .ref b0, rfl, rfl, SqL.of eW, at_of (j := 0) rfl hu0, b0, us0, rfl, .inl (SqL.of eb0), ?_, rfl⟩
        rw [hwd, if_neg ne, show us0.length = l by omega]
        rfl
    obtain ⟨rfl, rfl⟩ := hP
    refine ⟨fun σ H' => ∃ y2 y6 y7 y8 y9 y10 y11, σ = [some (.int (p : Int)), some (.ref ax), y2, some (.ref W), some (.int (((rkN p M wd).2 : Nat) : Int)), some (.int (wd : Int)), y6, y7, y8, y9, y10, y11] ∧ Same H H', ?_, fun σ H' hP => ?_⟩
    · refine ⟨_, rfl, (wd : Int), rfl, by omega, by omega, ?_⟩
      rw [show ((wd : Nat) : Int).toNat = wd by omega]
      refine for_range (lo := 0) (n := wd) (fun i σ H' => ∃ y2 y6 y7 y8 y9 y10 y11 vs, σ = [some (.int (p : Int)), some (.ref ax), y2, some (.ref W), some (.int (((rkN p M i).2 : Nat) : Int)), some (.int (wd : Int)), y6, y7, y8, y9, y10, y11] ∧ Same H H' ∧ H' W = some (.lst vs) ∧ DqAll (TkS.Off W H') vs ((rkN p M i).1.map .list)) ⟨none, none, none, none, none, none, none, vs, rfl, s1, eW, ?_⟩ (fun i σ H' hi hP => ?_) (fun σ H' hP => ?_)
      · exact off_self eW uW fun r mr d md => g0.nb (by omega) r mr d md
      · obtain ⟨y2, y6, y7, y8, y9, y10, y11, vs, rfl, sm, eV, kV⟩ := hP
        have ro := rk_all F I fp g0 i (by omega) (by omega)
        have e0 : rkN p M (i + 1) = (match leadAt p (rkN p M i).1 (rkN p M i).2 i with
          | none => ((rkN p M i).1, (rkN p M i).2)
          | some i' => (stepL p (rkN p M i).1 (rkN p M i).2 i' i, (rkN p M i).2 + 1)) := rfl
        generalize rkN p M (i + 1) = B at *
        generalize (rkN p M i).1 = A at *
        generalize (rkN p M i).2 = r at *
        have lA := ro.len
        have lvs := kV.len
        rw [List.length_map] at lvs
        obtain ⟨cs, ech⟩ := ro.ech
        have rm := ech.rm
        have r6 : r ≤ 6 := by have := ro.lk; omega
        have nWH : H W = none := nW
        have nbA := fun i' j hi' hj => at_nb ro.gm r6 (i := i') (j := j) hi' hj
        have rowAt : ∀ {H'' : Hp} {vs : List V} {L : List (List PyData)} {j : Nat}, DqAll (TkS.Off W H'') vs (L.map .list) → j < L.length → ∃ b us, vs[j]? = some (.ref b) ∧ b ≠ W ∧ H'' b = some (.lst us) ∧ DqAll (TkS.Off W H'') us (L.getD j []) := fun {H'' vs L j} k hj => by
          obtain ⟨u0, hu0, ku0⟩ := dqs_at k (i := j) (d := .list (L.getD j [])) (by rw [List.getElem?_map, List.getElem?_eq_getElem hj, List.getD_eq_getElem?_getD, List.getElem?_eq_getElem hj]; rfl)
          cases ku0 with
          | @lst b0 us0 _ eb0 ub0 =>
            refine ⟨b0, us0, hu0, fun z => ?_, off_same _ _ eb0, ub0⟩
            rw [z] at eb0
            unfold TkS.Off at eb0
            rw [if_pos rfl] at eb0
            cases eb0
        refine ⟨_, rfl, fun m σ H'' => ∃ at' : Nat, σ = [some (.int (p : Int)), some (.ref ax), y2, some (.ref W), some (.int (r : Int)), some (.int (wd : Int)), some (.int (0 + (i : Int))), some (.int (at' : Int)), y8, y9, y10, y11] ∧ Same H' H'' ∧ r ≤ at' ∧ at' ≤ A.length ∧ (∀ j, r ≤ j → j < at' → nzB p (atR A j i) = false) ∧ m = A.length - at', ⟨_, r, rfl, fun _ _ z => z, Nat.le_refl _, by omega, fun j h1 h2 => absurd h1 (by omega), rfl⟩, fun m σ H'' hW => ?_⟩
        obtain ⟨at', rfl, s2, r1, r2, no, rfl⟩ := hW
        have eV2 := s2 _ _ eV
        have kV2 := DqAll.same (off_of s2) _ kV
        refine ⟨_, rfl, _, rfl, W, vs, rfl, .inl (SqL.of eV2), _, _, rfl, rfl, _, rfl, ite2 (fun c => ?_) (fun c => ?_)⟩
        · have c' : at' < A.length := by
            have := of_decide_eq_true c
            omega
          obtain ⟨b, us, hb, nb', eb, ub⟩ := rowAt kV2 c'
          have mA := getD_memL c'
          obtain ⟨vz, hvz, kvz⟩ := dqs_at ub (i := i) (d := atR A at' i) (getD_some (by rw [ro.gm.ln _ mA]; omega))
          refine ⟨_, rfl, _, rfl, _, rfl, W, vs, (at' : Int), .ref b, rfl, rfl, SqL.of eV2, at_of (j := at') rfl hb, ?_⟩
          refine ⟨_, rfl, b, us, 0 + (i : Int), vz, rfl, rfl, SqL.of eb, at_of (j := i) (by omega) hvz, ?_⟩
          refine ⟨p, 4300, vz, atR A at' i, rfl, fp, kvz.same off_same, nbA _ _ c' (by omega), fun H3 s3 => ⟨_, rfl, ?_⟩⟩
          have s23 := s2.trans s3
          cases zz : nzB p (atR A at' i) with
          | false =>
            refine iteT ⟨fun σ' H'_1 => ∃ m', m' < A.length - at' ∧ ∃ at'' : Nat, σ' = [some (.int (p : Int)), some (.ref ax), y2, some (.ref W), some (.int (r : Int)), some (.int (wd : Int)), some (.int (0 + (i : Int))), some (.int (at'' : Int)), y8, y9, y10, y11] ∧ Same H' H'_1 ∧ r ≤ at'' ∧ at'' ≤ A.length ∧ (∀ j, r ≤ j → j < at'' → nzB p (atR A j i) = false) ∧ m' = A.length - at'', fun _ _ z => z, ?_⟩
            refine ⟨_, rfl, _, _, rfl, rfl, A.length - (at' + 1), by omega, at' + 1, rfl, s23, by omega, by omega, fun j h1 h2 => ?_, rfl⟩
            by_cases d : j = at'
            · rw [d]; exact zz
            · exact no j h1 (by omega)
          | true =>
            have hl := leadAt_is r1 c' zz no
            rw [hl] at e0
            dsimp only at e0
            subst e0
            have eV3 := s3 _ _ eV2
            have kV3 := DqAll.same (off_of s3) _ kV2
            have sH3 := sm.trans s23
            refine iteF ?_
            refine ⟨_, rfl, _, rfl, W, vs, rfl, .inl (SqL.of eV3), _, _, rfl, rfl, _, rfl, ?_⟩
            refine ite2 (fun _ => ?_) (fun d => absurd (decide_eq_true (by omega)) d)
            have wl : wd = l := by
              rw [hwd] at hi ⊢
              split at hi
              · omega
              · rename_i z
                rw [if_neg z]
            have hr : r < A.length := by omega
            obtain ⟨br, usr, hbr, nbr, ebr, ubr⟩ := rowAt kV3 hr
            have un := (nz_iff fp (nbA _ _ c' (by omega))).mp zz
            have gs := gm_swap ro.gm hr c'
            have lS : (swapB A at' r).length = A.length := swapB_len
            have eL : ∀ j, atR (swapB A at' r) r j = atR A at' j := fun j => by
              unfold atR
              rw [swapB_at hr hr, if_pos rfl]
            have eSr : (swapB A at' r).getD r [] = A.getD at' [] := by rw [swapB_at hr hr, if_pos rfl]
            obtain ⟨_, _, _, _, _, fo⟩ := elim_ok fp gs (many := r) (place := i) (by rw [lS]; exact hr) (by omega) (by rw [eL]; exact un) (by have := ro.lk; omega)
            have kS : DqAll (TkS.Off W (upd (upd H3 W (.lst (vs.set at' (.ref br)))) W (.lst ((vs.set at' (.ref br)).set r (.ref b))))) ((vs.set at' (.ref br)).set r (.ref b)) ((swapB A at' r).map .list) := by
              rw [off_put, off_put]
              unfold swapB
              rw [List.map_set, List.map_set]
              have eb3 : TkS.Off W H3 b = some (.lst us) := off_at nb' (s3 _ _ eb)
              have ub3 := DqAll.same (off_of s3) _ ub
              exact (kV3.set at' (.lst (off_at nbr ebr) ubr)).set r (.lst eb3 ub3)
            refine ⟨_, rfl, _, rfl, W, vs, (at' : Int), .ref b, rfl, rfl, SqL.of eV3, at_of (j := at') rfl hb, ?_⟩
            refine ⟨_, rfl, _, rfl, W, vs, (r : Int), .ref br, rfl, rfl, SqL.of eV3, at_of (j := r) rfl hbr, ?_⟩
            refine ⟨_, rfl, _, rfl, W, vs, (at' : Int), at', rfl, rfl, eV3, ?_, ?_⟩
            · unfold ixN
              rw [if_pos (by omega), if_pos (by omega)]
              rfl
            refine ⟨_, rfl, _, rfl, _, rfl, W, _, (r : Int), r, rfl, rfl, upd_same, ?_, ?_⟩
            · unfold ixN
              rw [List.length_set, if_pos (by omega), if_pos (by omega)]
              rfl
            have eb5 : TkS.Off W (upd (upd H3 W (.lst (vs.set at' (.ref br)))) W (.lst ((vs.set at' (.ref br)).set r (.ref b)))) b = some (.lst us) := by
              rw [off_put, off_put]
              exact off_at nb' (s3 _ _ eb)
            have ub5 : DqAll (TkS.Off W (upd (upd H3 W (.lst (vs.set at' (.ref br)))) W (.lst ((vs.set at' (.ref br)).set r (.ref b))))) us (A.getD at' []) := by
              rw [off_put, off_put]
              exact DqAll.same (off_of s3) _ ub
            have sH5 : Same H (TkS.Off W (upd (upd H3 W (.lst (vs.set at' (.ref br)))) W (.lst ((vs.set at' (.ref br)).set r (.ref b))))) := fun b' o e => by
              rw [off_put, off_put]
              exact off_at (ne_of_none e nWH) (sH3 _ _ e)
            have eW5 : (upd (upd H3 W (.lst (vs.set at' (.ref br)))) W (.lst ((vs.set at' (.ref br)).set r (.ref b)))) W = some (.lst ((vs.set at' (.ref br)).set r (.ref b))) := upd_same
            generalize upd (upd H3 W (.lst (vs.set at' (.ref br)))) W (.lst ((vs.set at' (.ref br)).set r (.ref b))) = H5 at *
            have offS : ∀ {Y : Hp}, Same (TkS.Off W H5) Y → Same (TkS.Off W H5) (TkS.Off W Y) := fun {Y} s b' o e => off_at (fun z => by
              rw [z] at e
              unfold TkS.Off at e
              rw [if_pos rfl] at e
              cases e) (s b' o e)
            have lw2 : ((vs.set at' (.ref br)).set r (.ref b)).length = A.length := by rw [List.length_set, List.length_set]; exact lvs
            refine ⟨_, rfl, _, _, rfl, rfl, _, rfl, W, _, rfl, .inl (SqL.of eW5), (r : Int) + 1, (A.length : Int), by rw [lw2], ⟨by omega, by omega, by omega, by omega⟩, ?_⟩
            refine for_range (lo := (r : Int) + 1) (n := ((A.length : Int) - ((r : Int) + 1)).toNat) (fun c σ H'' => ∃ y2 y9 y10 y11 vs'', σ = [some (.int (p : Int)), some (.ref ax), y2, some (.ref W), some (.int (r : Int)), some (.int (wd : Int)), some (.int (0 + (i : Int))), some (.int (at' : Int)), some (.ref b), y9, y10, y11] ∧ Same (TkS.Off W H5) H'' ∧ H'' W = some (.lst vs'') ∧ DqAll (TkS.Off W H'') vs'' ((partL p (swapB A at' r) r i (r + 1 + c)).map .list)) ⟨y2, y9, y10, y11, _, rfl, off_same, eW5, ?_⟩ (fun c σ H6 hc hP => ?_) (fun σ H6 hP => ?_)
            · rw [Nat.add_zero, partL_start]
              exact kS
            · obtain ⟨y2, y9, y10, y11, vs2, rfl, s6, eV6, kV6⟩ := hP
              have hk : r + 1 + c < A.length := by omega
              have eT : (r : Int) + 1 + (c : Int) = ((r + 1 + c : Nat) : Int) := by omega
              obtain ⟨k, ek⟩ : ∃ k, r + 1 + c = k := ⟨_, rfl⟩
              rw [ek] at kV6 hk
              rw [eT, ek]
              rw [show r + 1 + (c + 1) = k + 1 by omega]
              have hkS : k < (swapB A at' r).length := by omega
              have lv2 := kV6.len
              rw [List.length_map, partL_len, lS] at lv2
              obtain ⟨bk, usk, hbk, nbk, ebk, ubk⟩ := rowAt kV6 (j := k) (by rw [partL_len]; exact hkS)
              rw [partL_at hkS, if_neg (Nat.lt_irrefl k)] at ubk
              have mk := getD_memL hkS
              have lk := gs.ln _ mk
              have lr := gs.ln _ (getD_memL (show r < (swapB A at' r).length by omega))
              have eb6 := s6 _ _ eb5
              have ub6 := DqAll.same s6 _ ub5
              rw [← eSr] at ub6
              obtain ⟨vz, hvz, kvz⟩ := dqs_at ubk (i := i) (d := atR (swapB A at' r) k i) (getD_some (by omega))
              obtain ⟨vu, hvu, kvu⟩ := dqs_at ub6 (i := i) (d := atR (swapB A at' r) r i) (getD_some (by omega))
              have nS := fun j (hj : j < l) => at_nb gs r6 (i := k) (j := j) hkS hj
              have nR := fun j (hj : j < l) => at_nb gs r6 (i := r) (j := j) (by omega) hj
              refine ⟨_, rfl, _, rfl, _, rfl, _, rfl, W, vs2, (k : Int), .ref bk, rfl, rfl, SqL.of eV6, at_of (j := k) rfl hbk, ?_⟩
              refine ⟨_, rfl, bk, usk, 0 + (i : Int), vz, rfl, rfl, SqL.of ebk, at_of (j := i) (by omega) hvz, ?_⟩
              refine ⟨_, rfl, _, rfl, b, us, 0 + (i : Int), vu, rfl, rfl, SqL.of eb6, at_of (j := i) (by omega) hvu, ?_⟩
              refine ⟨p, vz, vu, _, _, rfl, fp, kvz.same off_same, kvu, nS i (by omega), nR i (by omega), by rw [eL]; exact un, fun v1 H7 s7 k7 => ?_⟩
              refine ⟨p, v1, _, rfl, fp, k7, fo.ov k hkS, fun v2 H8 s8 k8 => ?_⟩
              have k8 : Dq H8 v2 (facL p (swapB A at' r) r i k) := k8
              have s78 := s7.trans s8
              have eV8 := s78 _ _ eV6
              refine ⟨_, rfl, _, rfl, W, vs2, (k : Int), .ref bk, rfl, rfl, SqL.of eV8, at_of (j := k) rfl hbk, ?_⟩
              refine nx_go rfl ?_
              dsimp only
              refine ⟨_, rfl, (wd : Int), rfl, by omega, by omega, fun D2 nD2 => ?_⟩
              rw [show ((wd : Nat) : Int).toNat = wd by omega]
              refine lc_rngD (fun _ => true) (fun j => plusD p (atR (swapB A at' r) k j) (timesD p (facL p (swapB A at' r) r i k) (atR (swapB A at' r) r j))) nD2 (by omega) (fun _ => rfl) (fun j H1 Q1 hj s1 q1 => q1 _ fun _ _ z => z) (fun j H9 Q1 hj _ s9 acc q1 => ?_) (fun H9 s9 kD9 => ?_)
              · obtain ⟨ac, hac⟩ := acc
                obtain ⟨vt, hvt, kvt⟩ := dqs_at ubk (i := j) (d := atR (swapB A at' r) k j) (getD_some (by omega))
                obtain ⟨vl, hvl, kvl⟩ := dqs_at ub6 (i := j) (d := atR (swapB A at' r) r j) (getD_some (by omega))
                have s69 := s78.trans s9
                refine ⟨_, rfl, _, rfl, _, rfl, bk, usk, 0 + (j : Int), vt, rfl, rfl, SqL.of (s69 _ _ ebk), at_of (j := j) (by omega) hvt, ?_⟩
                refine ⟨_, rfl, _, rfl, _, rfl, _, rfl, b, us, 0 + (j : Int), vl, rfl, rfl, SqL.of (s69 _ _ eb6), at_of (j := j) (by omega) hvl, ?_⟩
                refine ⟨p, v2, vl, _, _, rfl, k8.same s9, kvl.same s69, (fo.fac k hkS).up (by decide), (nR j (by omega)).up (by decide), fp.le, fun v4 Ha sa ka => ?_⟩
                refine ⟨p, vt, v4, _, _, rfl, (kvt.same off_same).same (s69.trans sa), ka, (nS j (by omega)).up (by decide), (fo.prod k j hkS (by omega)).up (by decide), fp.le, fun v5 Hb sb kb => ?_⟩
                exact q1 v5 Hb (sa.trans sb) (dq_noL ((sa.trans sb) _ _ hac) _ (nb_noL (fo.row k j hkS (by omega))) kb)
              · rw [List.filter_eq_self.mpr fun _ _ => rfl] at kD9
                have eV9 := s9 _ _ eV8
                have s69 := s78.trans s9
                refine ⟨_, rfl, _, rfl, W, vs2, (k : Int), k, rfl, rfl, eV9, ?_, ?_⟩
                · unfold ixN
                  rw [if_pos (by omega), if_pos (by omega)]
                  rfl
                refine ⟨_, _, _, _, _, rfl, fun b' o e => ?_, upd_same, ?_⟩
                · have ne' : b' ≠ W := fun z => by
                    rw [z] at e
                    unfold TkS.Off at e
                    rw [if_pos rfl] at e
                    cases e
                  rw [upd_ne ne']
                  exact s69 _ _ (s6 _ _ e)
                · rw [off_put, ← partL_next hkS, List.map_set]
                  have eRow : PyData.list (rowL p (swapB A at' r) r i k) = .list ((List.range wd).map fun j => plusD p (atR (swapB A at' r) k j) (timesD p (facL p (swapB A at' r) r i k) (atR (swapB A at' r) r j))) := by
                    unfold rowL addRow
                    rw [if_neg (by omega), lk, wl]
                    rfl
                  rw [eRow]
                  refine (DqAll.same (off_of s69) _ kV6).set k ?_
                  have nD : D2 ≠ W := (ne_of_none eV8 nD2).symm
                  cases kD9 with
                  | lst e u =>
                    refine .lst (off_at nD e) (dqs_noL eV9 _ (noLs_all fun d md => ?_) u)
                    obtain ⟨j, mj, rfl⟩ := List.mem_map.mp md
                    exact nb_noL (fo.row k j hkS (by have := List.mem_range.mp mj; omega))
            · obtain ⟨y2, y9, y10, y11, vs2, rfl, s6, eV6, kV6⟩ := hP
              rw [show r + 1 + ((A.length : Int) - ((r : Int) + 1)).toNat = A.length by omega] at kV6
              refine ⟨_, rfl, _, _, rfl, rfl, ?_⟩
              exact ⟨_, _, _, _, _, _, _, vs2, rfl, fun b' o e => s6 _ _ (sH5 _ _ e), eV6, kV6⟩
        · have hl : leadAt p A r i = none := leadAt_no fun j h1 h2 => no j h1 (by
            have c' : ¬ at' < A.length := fun z => c (decide_eq_true (by omega))
            omega)
          rw [hl] at e0
          dsimp only at e0
          subst e0
          refine iteF ?_
          refine ⟨_, rfl, _, rfl, W, vs, rfl, .inl (SqL.of eV2), _, _, rfl, rfl, _, rfl, ?_⟩
          refine ite2 (fun d => absurd d c) (fun _ => ?_)
          exact ⟨_, _, _, _, _, _, _, vs, rfl, sm.trans s2, eV2, kV2⟩
      · obtain ⟨y2, y6, y7, y8, y9, y10, y11, vs, rfl, sm, eV, kV⟩ := hP
        exact ⟨_, _, _, _, _, _, _, rfl, sm⟩
    · obtain ⟨y2, y6, y7, y8, y9, y10, y11, rfl, sm⟩ := hP
      refine ⟨_, rfl, ?_⟩
      have q1 := q H' sm
      rw [hwd]
      by_cases z : M = []
      · rw [if_pos z]
        rw [z, rk_nil] at q1
        exact q1
      · rw [if_neg z]
        exact q1
end
end K26
set_option Elab.async false
set_option linter.all false
set_option maxRecDepth 100000
set_option maxHeartbeats 4000000
set_option exponentiation.threshold 5000
set_option pp.maxSteps 900
namespace K26
open PySem PySem.Spec PyProof.Rows L2 TkS LamX NdefX
def sl_tiny (T : Int) : Sp := fun vs H Q _ => ∃ (h g : Addr) (p : Nat), vs = [.ref h, .int (p : Int)] ∧ Hnd h g H ∧ Fp p ∧ ∀ v H' d, Kp h g H H' → Hnd h g H' → Dq (Vw h g H') v d → Fb p 6 T d → Q v H'
section
variable {P : Program} {w : World} {K : PySem.W.Frag} {mg : Str → Option Value} {base : Heap}
theorem ok_law_tiny (T : Txt K mg) : FnOk P w K mg base CX0 3 T.f_law_tiny T.d_law_tiny ["_law_state", "_law_p"] (sl_tiny 24) := by
  refine T.F_law_tiny.ok sc_law_tiny (fun vs H Q E h => ?_) (fun cdv A outer s H vs Q E hr h => ?_)
  · obtain ⟨h, g, p, rfl, _⟩ := h
    rfl
  · obtain ⟨h, g, p, rfl, hd, fp, q⟩ := h
    refine ⟨_, (pss_cons (ps_if (pt_cmpR op_gt (pv 1) pe_int (nomark _))
        (pss_one (ps_ret (pe_op op_add pe_int (pe_call (ok_law_draw T) (hr.mono (by decide)) (by rfl) T.g_law_draw T.F_law_draw.kp T.b_law_draw .nil pass0 (pa_cons (pv 0) (pa_cons (pe_op op_sub (pv 1) pe_int) pa_nil))))))
        pss_nil)
      (pss_one (ps_ret (pe_call (ok_law_low T) (hr.mono (by decide)) (by rfl) T.g_law_low T.F_law_low.kp T.b_law_low .nil pass0 (pa_cons (pe_op op_mul (pe_op op_add pe_int (pe_call (ok_law_draw T) (hr.mono (by decide)) (by rfl) T.g_law_draw T.F_law_draw.kp T.b_law_draw .nil pass0 (pa_cons (pv 0) (pa_cons pe_int pa_nil)))) (pe_op op_sub pe_int (pe_op op_mul pe_int (pe_call (ok_law_draw T) (hr.mono (by decide)) (by rfl) T.g_law_draw T.F_law_draw.kp T.b_law_draw .nil pass0 (pa_cons (pv 0) (pa_cons pe_int pa_nil)))))) (pa_cons (pe_op op_add pe_int (pe_call (ok_law_draw T) (hr.mono (by decide)) (by rfl) T.g_law_draw T.F_law_draw.kp T.b_law_draw .nil pass0 (pa_cons (pv 0) (pa_cons pe_int pa_nil)))) pa_nil)))))), ?_⟩
    refine ⟨_, rfl, _, _, rfl, rfl, _, rfl, ite2 (fun c => ?_) (fun c => ?_)⟩
    · have c' : (0 : Int) < (p : Int) := of_decide_eq_true c
      have p0 : p ≠ 0 := by omega
      have p2 := fp.cases p0
      have le := fp.le
      refine ⟨_, rfl, _, rfl, _, _, rfl, rfl, h, g, (p : Int) - 1, rfl, hd, by omega, by omega, fun H1 r k1 h1 r0 r1 => ⟨1, r, rfl, rfl, ?_⟩⟩
      obtain ⟨n, e⟩ : ∃ n : Nat, 1 + r = (n : Int) := ⟨(1 + r).toNat, by omega⟩
      show Q (.int (1 + r)) H1
      rw [e]
      exact q _ H1 (.int _) k1 h1 (.int _) (.rs p0 (by omega))
    · have p0 : p = 0 := by
        have : ¬ (0 : Int) < (p : Int) := fun z => c (decide_eq_true z)
        omega
      subst p0
      refine ⟨_, rfl, h, g, 4, rfl, hd, by decide, by decide, fun H1 r1 k1 h1 a1 b1 => ⟨1, r1, rfl, rfl, ?_⟩⟩
      refine ⟨_, rfl, h, g, 2, rfl, h1, by decide, by decide, fun H2 r2 k2 h2 a2 b2 => ⟨2, r2, rfl, rfl, .inl ⟨by omega, by omega⟩, 1, _, rfl, rfl, _, _, rfl, rfl, .inl ⟨by omega, by omega⟩, ?_⟩⟩
      refine ⟨_, rfl, h, g, 3, rfl, h2, by decide, by decide, fun H3 r3 k3 h3 a3 b3 => ⟨1, r3, rfl, rfl, ?_⟩⟩
      have hb : -4 ≤ (1 + r1) * (1 - 2 * r2) ∧ (1 + r1) * (1 - 2 * r2) ≤ 4 := by
        have : r2 = 0 ∨ r2 = 1 := by omega
        rcases this with rfl | rfl <;> omega
      refine ⟨_, 1 + r3, rfl, by omega, ?_, fun l H6 s6 k6 => ?_⟩
      · unfold Fin
        exact Nat.lt_of_lt_of_le (show (1 + r3).natAbs < 4 by omega) (by decide)
      exact q _ H6 _ (((k1.trans k2).trans k3).trans (Kp.of s6)) (h3.same s6) (dq_vw (h3.same s6) _ rfl k6) (fb_six (M := 4) (by omega) (by omega) hb.1 hb.2)
end
end K26
set_option Elab.async false
set_option linter.all false
set_option maxRecDepth 100000
set_option maxHeartbeats 4000000
set_option exponentiation.threshold 5000
set_option pp.maxSteps 700
namespace K26
open PySem PySem.Spec PyProof.Rows L2 TkS LamX NdefX
def RD : Nat → Int
  | 0 => 1
  | k + 1 => 6 * RD k
def RT : Nat → Int
  | 0 => 12582912
  | k + 1 => 48 * RT k
theorem rd_rt : ∀ k, 1 ≤ RD k ∧ RD k * 12582912 ≤ RT k
  | 0 => ⟨by decide, by decide⟩
  | k + 1 => by
    obtain ⟨h1, h2⟩ := rd_rt k
    show 1 ≤ 6 * RD k ∧ 6 * RD k * 12582912 ≤ 48 * RT k
    omega
/-- rows drawn: of one length, with one bottom -/
structure Rg (p n k : Nat) (M : List (List PyData)) : Prop where
  ln : ∀ r ∈ M, r.length = n
  fb : ∀ r ∈ M, ∀ d ∈ r, Fb p (RD k) (RT k) d
theorem Rg.push {p n k : Nat} {M : List (List PyData)} {r : List PyData} (g : Rg p n k M) (lr : r.length = n) (fr : ∀ d ∈ r, Fb p (RD (k + 1)) (RT (k + 1)) d) : Rg p n (k + 1) (M ++ [r]) := by
  refine ⟨fun x mx => ?_, fun x mx d md => ?_⟩
  · rcases List.mem_append.mp mx with m | m
    · exact g.ln x m
    · rw [List.mem_singleton.mp m]
      exact lr
  · rcases List.mem_append.mp mx with m | m
    · have := (g.fb x m d md).scale (show (0 : Int) < 6 by decide)
      refine this.up ?_
      obtain ⟨h1, h2⟩ := rd_rt k
      show 6 * RT k ≤ 48 * RT k
      omega
    · rw [List.mem_singleton.mp m] at md
      exact fr d md
theorem Rg.noL {p n k : Nat} {M : List (List PyData)} (g : Rg p n k M) : noLists (M.map .tuple) = true := noLs_all fun d md => by
  obtain ⟨r, mr, rfl⟩ := List.mem_map.mp md
  exact fbs_noL (g.fb r mr)
theorem sum_fb {p n : Nat} (fp : Fp p) {ws : List PyData} {R : List (List PyData)} {D T D' T' : Int} (d0 : 0 < D) (d0' : 0 < D') (hw : ∀ d ∈ ws, Fb p D T d) (hR : ∀ r ∈ R, r.length = n ∧ ∀ d ∈ r, Fb p D' T' d) (lw : ws.length = R.length) (i : Nat) (hi : i ≤ R.length) (j : Nat) (hj : j < n) : Fb p (D * D') ((i : Int) * (T * T')) (dotD p (ws.take i) ((R.map fun r => r.getD j .none).take i) (zeroD p)) := by
  have h := Fb.dot (p := p) (D := D) (D' := D') (T := T) (T' := T') (xs := ws.take i) (ys := (R.map fun r => r.getD j .none).take i) (a := zeroD p) (A := 0) (fun d m => hw d (List.mem_of_mem_take m)) (fun d m => ?_) (by rw [List.length_take, List.length_take, List.length_map]; omega) (fb_zero fp (Int.mul_pos d0 d0') (Int.le_refl 0))
  · rw [List.length_take, Int.zero_add, show min i ws.length = i by omega] at h
    exact h
  · obtain ⟨r, mr, rfl⟩ := List.mem_map.mp (List.mem_of_mem_take m)
    exact (hR r mr).2 _ (getD_mem (by rw [(hR r mr).1]; exact hj))
theorem sum_nb {p n : Nat} (fp : Fp p) {ws : List PyData} {R : List (List PyData)} {D T D' T' : Int} (d0 : 0 < D) (d0' : 0 < D') (t0 : 0 ≤ T) (t0' : 0 ≤ T') (hw : ∀ d ∈ ws, Fb p D T d) (hR : ∀ r ∈ R, r.length = n ∧ ∀ d ∈ r, Fb p D' T' d) (lw : ws.length = R.length) (l6 : R.length ≤ 6) (b1 : D * D' < 2 ^ 4300) (b2 : 6 * (T * T') < 2 ^ 4300) (b3 : D < 2 ^ 4300) (b4 : T < 2 ^ 4300) (b5 : D' < 2 ^ 4300) (b6 : T' < 2 ^ 4300) :
    (∀ d ∈ ws, Nb p 4300 d) ∧ (∀ r ∈ R, r.length = n ∧ ∀ d ∈ r, Nb p 4300 d) ∧ (∀ i, i < R.length → ∀ j, j < n → Nb p 4300 (timesD p (ws.getD i .none) ((R.getD i []).getD j .none))) ∧ (∀ i, i ≤ R.length → ∀ j, j < n → Nb p 4300 (dotD p (ws.take i) ((R.map fun r => r.getD j .none).take i) (zeroD p))) := by
  have tt : 0 ≤ T * T' := Int.mul_nonneg t0 t0'
  refine ⟨fun d md => (hw d md).nb b3 b4, fun r mr => ⟨(hR r mr).1, fun d md => ((hR r mr).2 d md).nb b5 b6⟩, fun i hi j hj => ?_, fun i hi j hj => ?_⟩
  · have mr := getD_memL hi
    exact ((hw _ (getD_mem (by omega))).times ((hR _ mr).2 _ (getD_mem (j := j) (by rw [(hR _ mr).1]; exact hj)))).nb b1 (by omega)
  · refine ((sum_fb fp d0 d0' hw hR lw i hi j hj).up (T' := 6 * (T * T')) ?_).nb b1 b2
    exact Int.mul_le_mul_of_nonneg_right (by omega) tt
theorem big_up {x : Int} (h : x < 2 ^ 70) : x < 2 ^ 4300 := Int.lt_trans h (by decide +kernel)
theorem rt_small {k : Nat} (h : k ≤ 6) : RT k < 2 ^ 60 := by
  match k, h with
  | 0, _ => decide
  | 1, _ => decide
  | 2, _ => decide
  | 3, _ => decide
  | 4, _ => decide
  | 5, _ => decide
  | 6, _ => decide
  | k + 7, h => omega
def sl_rows : Sp := fun vs H Q _ => ∃ (h g : Addr) (p m n : Nat), vs = [.ref h, .int (p : Int), .int (m : Int), .int (n : Int)] ∧ Hnd h g H ∧ Fp p ∧ m ≤ 6 ∧ n ≤ 6 ∧ ∀ a H' M, Kp h g H H' → Hnd h g H' → H a = none → Dq (Vw h g H') (.ref a) (.list (M.map .tuple)) → M.length = m → Rg p n m M → Q (.ref a) H'
section
variable {P : Program} {w : World} {K : PySem.W.Frag} {mg : Str → Option Value} {base : Heap}
theorem ok_law_rows (T : Txt K mg) : FnOk P w K mg base CX0 5 T.f_law_rows T.d_law_rows ["_law_state", "_law_p", "_law_many", "_law_width"] sl_rows := by
  refine T.F_law_rows.ok sc_law_rows (fun vs H Q E h => ?_) (fun cdv A outer s H vs Q E hr h => ?_)
  · obtain ⟨h, g, p, m, n, rfl, _⟩ := h
    rfl
  · obtain ⟨h, g, p, m, n, rfl, hd, fp, m6, n6, q⟩ := h
    refine ⟨_, (pss_cons (ps_set (i := 4) sc_law_rows.nd rfl (.inl rfl) (pe_lst pa_nil))
      (pss_cons (ps_for PassesOwn.never rfl (pi_range1 (by rfl) T.m_range (pa_cons (pv 2) pa_nil)) (pg_name (i := 5) sc_law_rows.nd rfl (.inl rfl))
        (pss_cons (ps_set (i := 6) sc_law_rows.nd rfl (.inl rfl) (pe_call (ok_law_draw T) (hr.mono (by decide)) (by rfl) T.g_law_draw T.F_law_draw.kp T.b_law_draw .nil pass0 (pa_cons (pv 0) (pa_cons pe_int pa_nil))))
        (pss_one (ps_if (PW.pt (pw_and (pt_cmpR op_eq (pv 6) pe_int (nomark _)) (pw_and1 (pt_truth (pv 4) (by intro _; rfl)))))
          (pss_cons (ps_set (i := 7) sc_law_rows.nd rfl (.inl rfl) (pe_lst (pa_cons (pe_call (ok_law_tiny T) (hr.mono (by decide)) (by rfl) T.g_law_tiny T.F_law_tiny.kp T.b_law_tiny .nil pass0 (pa_cons (pv 0) (pa_cons (pv 1) pa_nil))) (pa_cons (pe_call (ok_law_tiny T) (hr.mono (by decide)) (by rfl) T.g_law_tiny T.F_law_tiny.kp T.b_law_tiny .nil pass0 (pa_cons (pv 0) (pa_cons (pv 1) pa_nil))) pa_nil))))
          (pss_cons (ps_set (i := 8) sc_law_rows.nd rfl (.inl rfl) (pe_lst (pa_cons (pe_ix ix_list (pv 4) (pe_call (ok_law_draw T) (hr.mono (by decide)) (by rfl) T.g_law_draw T.F_law_draw.kp T.b_law_draw .nil pass0 (pa_cons (pv 0) (pa_cons (pe_callB call_len_seq (by rfl) T.m_len (by decide +kernel) (pa_cons (pv 4) pa_nil)) pa_nil))) (fun _ _ => rfl)) (pa_cons (pe_ix ix_list (pv 4) (pe_call (ok_law_draw T) (hr.mono (by decide)) (by rfl) T.g_law_draw T.F_law_draw.kp T.b_law_draw .nil pass0 (pa_cons (pv 0) (pa_cons (pe_callB call_len_seq (by rfl) T.m_len (by decide +kernel) (pa_cons (pv 4) pa_nil)) pa_nil))) (fun _ _ => rfl)) pa_nil))))
          (pss_one (ps_expr (pe_bm PySem.F.plainAttrs_list PySem.F.slot_list_append PySem.F.type_list_append mt_append (pv 4) (pa_cons (pe_call (ok_law_sum T) (hr.mono (by decide)) (by rfl) T.g_law_sum T.F_law_sum.kp T.b_law_sum .nil pass0 (pa_cons (pv 1) (pa_cons (pv 7) (pa_cons (pv 8) (pa_cons (pv 3) pa_nil))))) pa_nil))))))
          (pss_one (ps_if (PW.pt (pw_and (pt_cmpR op_eq (pv 6) pe_int (nomark _)) (pw_and1 (pt_cmpR op_eq (pe_call (ok_law_draw T) (hr.mono (by decide)) (by rfl) T.g_law_draw T.F_law_draw.kp T.b_law_draw .nil pass0 (pa_cons (pv 0) (pa_cons pe_int pa_nil))) pe_int (nomark _)))))
            (pss_one (ps_expr (pe_bm PySem.F.plainAttrs_list PySem.F.slot_list_append PySem.F.type_list_append mt_append (pv 4) (pa_cons (pe_callTy call_tupD (by rfl) T.m_tuple (by decide +kernel) (pa_cons (pe_lc rfl sc_law_rows.nd (pi_range1 (by rfl) T.m_range (pa_cons (pv 3) pa_nil)) (blkOk_by (own := [("_law_i", 9)]) (N := ["_law_state", "_law_p", "_law_many", "_law_width", "_law_told", "_law_k", "_law_kind", "_law_weights", "_law_picked", "_law_i"]) (sc := defScope s_law_rows) (by decide +kernel)) (fun _ _ _ _ _ => (pg_name (i := 9) sc_law_rows.nd rfl (.inl rfl))) (fun _ _ _ _ _ => pts_nil) (fun _ _ _ _ _ => (pe_call (ok_law_some T) (hr.mono (by decide)) (by rfl) T.g_law_some T.F_law_some.kp T.b_law_some .nil pass0 (pa_cons (pv 1) (pa_cons pe_int pa_nil))))) pa_nil)) pa_nil))))
            (pss_one (ps_expr (pe_bm PySem.F.plainAttrs_list PySem.F.slot_list_append PySem.F.type_list_append mt_append (pv 4) (pa_cons (pe_callTy call_tupD (by rfl) T.m_tuple (by decide +kernel) (pa_cons (pe_lc rfl sc_law_rows.nd (pi_range1 (by rfl) T.m_range (pa_cons (pv 3) pa_nil)) (blkOk_by (own := [("_law_i", 9)]) (N := ["_law_state", "_law_p", "_law_many", "_law_width", "_law_told", "_law_k", "_law_kind", "_law_weights", "_law_picked", "_law_i"]) (sc := defScope s_law_rows) (by decide +kernel)) (fun _ _ _ _ _ => (pg_name (i := 9) sc_law_rows.nd rfl (.inl rfl))) (fun _ _ _ _ _ => pts_nil) (fun _ _ _ _ _ => (pe_call (ok_law_number T) (hr.mono (by decide)) (by rfl) T.g_law_number T.F_law_number.kp T.b_law_number .nil pass0 (pa_cons (pv 0) (pa_cons (pv 1) pa_nil))))) pa_nil)) pa_nil))))))))))
      (pss_one (ps_ret (pv 4))))), ?_⟩
    refine ⟨by show 0 ≤ sizeLine; decide, fun t nt => ?_⟩
    obtain ⟨t1, t2⟩ := hd.fresh nt
    have et : (upd H t (.lst [])) t = some (.lst []) := upd_same
    have hd1 : Hnd h g (upd H t (.lst [])) := hd.upd t1 t2
    have k01 : Kp h g H (upd H t (.lst [])) := Kp.refl.put nt
    generalize upd H t (.lst []) = H1 at *
    refine ⟨_, rfl, (m : Int), rfl, by omega, by omega, ?_⟩
    rw [show ((m : Nat) : Int).toNat = m by omega]
    refine for_range (lo := 0) (n := m) (fun k σ H' => ∃ y5 y6 y7 y8 y9 ys M, σ = [some (.ref h), some (.int (p : Int)), some (.int (m : Int)), some (.int (n : Int)), some (.ref t), y5, y6, y7, y8, y9] ∧ Kp h g H H' ∧ Hnd h g H' ∧ H' t = some (.lst ys) ∧ DqAll (Vw h g H') ys (M.map .tuple) ∧ M.length = k ∧ Rg p n k M) ⟨none, none, none, none, none, [], [], rfl, k01, hd1, et, .nil, rfl, fun r mr => (by cases mr), fun r mr => (by cases mr)⟩ (fun k σ H' hk hP => ?_) (fun σ H' hP => ?_)
    · obtain ⟨y5, y6, y7, y8, y9, ys, M, rfl, k1, h1, et1, u1, lM, gM⟩ := hP
      have lys := u1.len
      rw [List.length_map] at lys
      refine ⟨_, rfl, h, g, 4, rfl, h1, by decide, by decide, fun H2 kind k2 h2 r0 r1 => ?_⟩
      have et2 := k2 t _ t1 t2 et1
      have u2 := DqAll.same k2.vw _ u1
      have k02 := k1.trans k2
      have app : ∀ (v : V) (H3 : Hp) (r : List PyData), Kp h g H2 H3 → Hnd h g H3 → Dq (Vw h g H3) v (.tuple r) → r.length = n → (∀ d ∈ r, Fb p (RD (k + 1)) (RT (k + 1)) d) → H3 t = some (.lst ys) ∧ ys.length < sizeLine ∧ Kp h g H (upd H3 t (.lst (ys ++ [v]))) ∧ Hnd h g (upd H3 t (.lst (ys ++ [v]))) ∧ (upd H3 t (.lst (ys ++ [v]))) t = some (.lst (ys ++ [v])) ∧ DqAll (Vw h g (upd H3 t (.lst (ys ++ [v])))) (ys ++ [v]) ((M ++ [r]).map .tuple) ∧ (M ++ [r]).length = k + 1 ∧ Rg p n (k + 1) (M ++ [r]) := fun v H3 r k3 h3 kv lr fr => by
        have g2 := gM.push lr fr
        have et3 := k3 t _ t1 t2 et2
        refine ⟨et3, small1000 (by omega), (k02.trans k3).put nt, h3.upd t1 t2, upd_same, dqs_upd t1 t2 et3 g2.noL ?_, by rw [List.length_append, lM]; rfl, g2⟩
        rw [List.map_append]
        exact (DqAll.same k3.vw _ u2).snoc kv
      refine ⟨_, rfl, rfl, _, rfl, ite2 (fun c1 => ?_) (fun c1 => ?_)⟩
      · have c1' : kind = 1 := by
          have := of_decide_eq_true c1
          exact V.int.inj this
        refine ⟨_, rfl, !ys.isEmpty, .inl ⟨_, SqL.of et2, rfl⟩, ?_⟩
        cases ys with
        | nil =>
          refine iteF ?_
          refine ⟨_, rfl, rfl, _, rfl, ite2 (fun c2 => ?_) (fun c2 => ?_)⟩
          · have := V.int.inj (of_decide_eq_true c2)
            omega
          · refine iteF ?_
            have et3 := et2
            refine ⟨_, rfl, .inl ⟨rfl, _, SqL.of et3⟩, ?_⟩
            refine ⟨_, rfl, (n : Int), rfl, by omega, by omega, fun D nD => ?_⟩
            obtain ⟨d1, d2⟩ := Hnd.fresh h2 nD
            rw [show ((n : Nat) : Int).toNat = n by omega]
            refine lc_range (fun i H' => ∃ zs ds, H' D = some (.lst zs) ∧ DqAll (Vw h g H') zs ds ∧ Kp h g H2 H' ∧ Hnd h g H' ∧ ds.length = i ∧ ∀ d ∈ ds, Fb p 6 12582912 d) ⟨[], [], upd_same, .nil, Kp.refl.put nD, Hnd.upd h2 d1 d2, rfl, fun d m => nomatch m⟩ (fun i H4 hi hP => ?_) (fun H4 hP => ?_)
            · obtain ⟨zs, ds, eD, kd, kk, h4, ld, nb⟩ := hP
              have lz := kd.len
              refine ⟨rfl, _, rfl, _, rfl, h, g, p, rfl, h4, fp, fun v H5 d k5 h5 kv nv => ?_⟩
              have eD5 := k5 D _ d1 d2 eD
              refine ⟨zs, eD5, small1000 (by omega), zs ++ [v], ds ++ [d], upd_same, dqs_upd d1 d2 eD5 (fbs_noL (p := p) (D := 6) (T := 12582912) fun e m => ?_) ((DqAll.same k5.vw _ kd).snoc kv), (kk.trans k5).put nD, h5.upd d1 d2, by rw [List.length_append, ld]; rfl, fun e m => ?_⟩
              all_goals
                rcases List.mem_append.mp m with m | m
                · exact nb e m
                · rw [List.mem_singleton.mp m]
                  exact nv
            · obtain ⟨zs, ds, eD, kd, kk, h4, ld, nb⟩ := hP
              refine ⟨.ref D, _, ds, rfl, .lst eD (DqAll.same vw_same _ kd), rfl, fun l H5 s5 k5 => ?_⟩
              have h5 := h4.same s5
              obtain ⟨a1, a2, a3, a4, a5, a6, a7, a8⟩ := app (.ref l) H5 ds ((Kp.trans (Kp.refl (h := h) (g := g) (H := H2)) kk).trans (Kp.of s5)) h5 (dq_vw h5 (.tuple ds) (fbs_noL nb) k5) ld (fun d md => by
                obtain ⟨b1, b2⟩ := rd_rt k
                have := (nb d md).scale (show (0 : Int) < RD k by omega)
                rw [Int.mul_comm (RD k) 6] at this
                refine this.up ?_
                show RD k * 12582912 ≤ 48 * RT k
                omega)
              exact ⟨t, [], _, rfl, rfl, a1, a2, _, _, _, _, _, _, _, rfl, a3, a4, a5, a6, a7, a8⟩
        | cons y0 yr =>
          refine iteT ?_
          have pos : 0 < (y0 :: yr).length := Nat.succ_pos _
          generalize y0 :: yr = ys at *
          refine ⟨_, rfl, _, rfl, h, g, p, rfl, h2, fp, fun v1 H3 e1 k3 h3 kv1 nv1 => ?_⟩
          refine ⟨_, rfl, _, rfl, h, g, p, rfl, h3, fp, fun v2 H4 e2 k4 h4 kv2 nv2 => ?_⟩
          refine ⟨by show 2 ≤ sizeLine; decide, fun lw nlw => ?_⟩
          obtain ⟨w1, w2⟩ := h4.fresh nlw
          have elw : (upd H4 lw (.lst [v1, v2])) lw = some (.lst [v1, v2]) := upd_same
          have s5 := same_new (o := .lst [v1, v2]) nlw
          have h5 := h4.same s5
          generalize upd H4 lw (.lst [v1, v2]) = H5 at *
          have k25 : Kp h g H2 H5 := (k3.trans k4).trans (Kp.of s5)
          have et5 := k25 t _ t1 t2 et2
          have kw1 := (kv1.same k4.vw).same (Kp.of (h := h) (g := g) s5).vw
          have kw2 := kv2.same (Kp.of (h := h) (g := g) s5).vw
          refine ⟨_, rfl, _, rfl, _, rfl, t, ys, rfl, .inl (SqL.of et5), h, g, ((ys.length : Nat) : Int), rfl, h5, by omega, by omega, fun H6 r1 k6 h6 r10 r11 => ?_⟩
          obtain ⟨a1, ha1⟩ : ∃ a1 : Nat, r1 = (a1 : Int) := ⟨r1.toNat, by omega⟩
          have la1 : a1 < M.length := by omega
          have et6 := k6 t _ t1 t2 et5
          have u6 := DqAll.same (k25.trans k6).vw _ u2
          obtain ⟨x1, hx1, kx1⟩ := dqs_at u6 (i := a1) (d := .tuple (M.getD a1 [])) (by rw [List.getElem?_map, List.getElem?_eq_getElem la1, List.getD_eq_getElem?_getD, List.getElem?_eq_getElem la1]; rfl)
          refine ⟨t, ys, r1, x1, rfl, rfl, SqL.of et6, at_of ha1 hx1, ?_⟩
          refine ⟨_, rfl, _, rfl, _, rfl, t, ys, rfl, .inl (SqL.of et6), h, g, ((ys.length : Nat) : Int), rfl, h6, by omega, by omega, fun H7 r2 k7 h7 r20 r21 => ?_⟩
          obtain ⟨a2, ha2⟩ : ∃ a2 : Nat, r2 = (a2 : Int) := ⟨r2.toNat, by omega⟩
          have la2 : a2 < M.length := by omega
          have et7 := k7 t _ t1 t2 et6
          have u7 := DqAll.same k7.vw _ u6
          obtain ⟨x2, hx2, kx2⟩ := dqs_at u7 (i := a2) (d := .tuple (M.getD a2 [])) (by rw [List.getElem?_map, List.getElem?_eq_getElem la2, List.getD_eq_getElem?_getD, List.getElem?_eq_getElem la2]; rfl)
          refine ⟨t, ys, r2, x2, rfl, rfl, SqL.of et7, at_of ha2 hx2, ?_⟩
          refine ⟨by show 2 ≤ sizeLine; decide, fun lp nlp => ?_⟩
          have s8 := same_new (o := .lst [x1, x2]) nlp
          have elp : (upd H7 lp (.lst [x1, x2])) lp = some (.lst [x1, x2]) := upd_same
          have h8 := h7.same s8
          generalize upd H7 lp (.lst [x1, x2]) = H8 at *
          have k58 : Kp h g H5 H8 := (k6.trans k7).trans (Kp.of s8)
          have et8 := s8 _ _ et7
          have elw8 := k58 lw _ w1 w2 elw
          have kw18 := (kw1.same k58.vw).same vw_same
          have kw28 := (kw2.same k58.vw).same vw_same
          have kx18 := ((kx1.same k7.vw).same vw_same).same s8
          have kx28 := (kx2.same vw_same).same s8
          have mem : ∀ i, i < M.length → (M.getD i []).length = n ∧ ∀ d ∈ M.getD i [], Fb p (RD k) (RT k) d := fun i hi => ⟨gM.ln _ (getD_memL hi), gM.fb _ (getD_memL hi)⟩
          have hw : ∀ d ∈ [e1, e2], Fb p 6 24 d := fun d md => by
            rcases List.mem_cons.mp md with rfl | md
            · exact nv1
            · rw [List.mem_singleton.mp md]
              exact nv2
          have hR : ∀ r ∈ [M.getD a1 [], M.getD a2 []], r.length = n ∧ ∀ d ∈ r, Fb p (RD k) (RT k) d := fun r mr => by
            rcases List.mem_cons.mp mr with rfl | mr
            · exact mem a1 la1
            · rw [List.mem_singleton.mp mr]
              exact mem a2 la2
          obtain ⟨b1, b2⟩ := rd_rt k
          have big := rt_small (k := k) (by omega)
          obtain ⟨q1, q2, q3, q4⟩ := sum_nb (n := n) fp (by decide) (by omega) (by decide) (by omega) hw hR rfl (by show 2 ≤ 6; decide) (big_up (by omega)) (big_up (by omega)) (big_up (by decide)) (big_up (by decide)) (big_up (by omega)) (big_up (by omega))
          refine ⟨_, rfl, .inl ⟨rfl, _, SqL.of et8⟩, ?_⟩
          refine ⟨_, rfl, _, rfl, _, rfl, _, rfl, p, n, .ref lw, .ref lp, .list [e1, e2], .list [.tuple (M.getD a1 []), .tuple (M.getD a2 [])], [e1, e2], [.tuple (M.getD a1 []), .tuple (M.getD a2 [])], [M.getD a1 [], M.getD a2 []], rfl, fp, .lst elw8 (.cons kw18 (.cons kw28 .nil)), rfl, .lst elp (.cons kx18 (.cons kx28 .nil)), rfl, rfl, rfl, (by show 2 ≤ 6; decide), n6, q1, q2, q3, q4, fun v H9 s9 k9 => ?_⟩
          have h9 := h8.same s9
          have fr : ∀ d ∈ (List.range n).map fun j => dotD p [e1, e2] ([M.getD a1 [], M.getD a2 []].map fun r => r.getD j .none) (zeroD p), Fb p (RD (k + 1)) (RT (k + 1)) d := fun d md => by
            obtain ⟨j, mj, rfl⟩ := List.mem_map.mp md
            refine (sum_fb (n := n) fp (show (0 : Int) < 6 by decide) (show 0 < RD k by omega) hw hR rfl 2 (Nat.le_refl 2) j (List.mem_range.mp mj)).up ?_
            show ((2 : Nat) : Int) * (24 * RT k) ≤ 48 * RT k
            omega
          obtain ⟨a1', a2', a3, a4, a5, a6, a7, a8⟩ := app v H9 _ ((k25.trans k58).trans (Kp.of s9)) h9 (dq_vw h9 (.tuple _) (fbs_noL fr) k9) (by rw [List.length_map, List.length_range]) fr
          exact ⟨t, ys, _, rfl, rfl, a1', a2', _, _, _, _, _, _, _, rfl, a3, a4, a5, a6, a7, a8⟩
      · refine iteF ?_
        refine ⟨_, rfl, rfl, _, rfl, ite2 (fun c2 => ?_) (fun c2 => ?_)⟩
        · refine ⟨_, rfl, h, g, 3, rfl, h2, by decide, by decide, fun H3 z3 k3 h3 z0 z1 => ?_⟩
          have et3 := k3 t _ t1 t2 et2
          refine ⟨rfl, _, rfl, ite2 (fun c3 => ?_) (fun c3 => ?_)⟩
          · refine ⟨_, rfl, .inl ⟨rfl, _, SqL.of et3⟩, ?_⟩
            refine ⟨_, rfl, (n : Int), rfl, by omega, by omega, fun D nD => ?_⟩
            rw [show ((n : Nat) : Int).toNat = n by omega]
            refine lc_rngD (fun _ => true) (fun _ => zeroD p) nD (by omega) (fun _ => rfl) (fun j H1 Q1 hj s1 q1 => q1 _ fun _ _ z => z) (fun j H4 Q1 hj _ s4 acc q1 => ?_) (fun H4 s4 kD => ?_)
            · obtain ⟨ac, hac⟩ := acc
              refine ⟨_, rfl, p, 0, rfl, fun v H5 s5 kv => q1 v H5 s5 ?_⟩
              rw [some_zero] at kv
              exact dq_noL (s5 _ _ hac) _ (nb_noL (nb_zero fp (Nat.le_refl 1))) kv
            · rw [List.filter_eq_self.mpr fun _ _ => rfl] at kD
              refine ⟨.ref D, _, _, rfl, kD, rfl, fun l H5 s5 k5 => ?_⟩
              have h5 := (h3.same s4).same s5
              have hz : ∀ d ∈ (List.range n).map (fun _ => zeroD p), Fb p (RD (k + 1)) (RT (k + 1)) d := fun d md => by
                obtain ⟨_, _, rfl⟩ := List.mem_map.mp md
                obtain ⟨b1, b2⟩ := rd_rt (k + 1)
                exact fb_zero fp (by omega) (by omega)
              obtain ⟨a1, a2, a3, a4, a5, a6, a7, a8⟩ := app (.ref l) H5 _ ((k3.trans (Kp.of s4)).trans (Kp.of s5)) h5 (dq_vw h5 (.tuple _) (fbs_noL hz) k5) (by rw [List.length_map, List.length_range]) hz
              exact ⟨t, ys, _, rfl, rfl, a1, a2, _, _, _, _, _, _, _, rfl, a3, a4, a5, a6, a7, a8⟩
          · have et3 := k3 t _ t1 t2 et2
            refine ⟨_, rfl, .inl ⟨rfl, _, SqL.of et3⟩, ?_⟩
            refine ⟨_, rfl, (n : Int), rfl, by omega, by omega, fun D nD => ?_⟩
            obtain ⟨d1, d2⟩ := Hnd.fresh h3 nD
            rw [show ((n : Nat) : Int).toNat = n by omega]
            refine lc_range (fun i H' => ∃ zs ds, H' D = some (.lst zs) ∧ DqAll (Vw h g H') zs ds ∧ Kp h g H3 H' ∧ Hnd h g H' ∧ ds.length = i ∧ ∀ d ∈ ds, Fb p 6 12582912 d) ⟨[], [], upd_same, .nil, Kp.refl.put nD, Hnd.upd h3 d1 d2, rfl, fun d m => nomatch m⟩ (fun i H4 hi hP => ?_) (fun H4 hP => ?_)
            · obtain ⟨zs, ds, eD, kd, kk, h4, ld, nb⟩ := hP
              have lz := kd.len
              refine ⟨rfl, _, rfl, _, rfl, h, g, p, rfl, h4, fp, fun v H5 d k5 h5 kv nv => ?_⟩
              have eD5 := k5 D _ d1 d2 eD
              refine ⟨zs, eD5, small1000 (by omega), zs ++ [v], ds ++ [d], upd_same, dqs_upd d1 d2 eD5 (fbs_noL (p := p) (D := 6) (T := 12582912) fun e m => ?_) ((DqAll.same k5.vw _ kd).snoc kv), (kk.trans k5).put nD, h5.upd d1 d2, by rw [List.length_append, ld]; rfl, fun e m => ?_⟩
              all_goals
                rcases List.mem_append.mp m with m | m
                · exact nb e m
                · rw [List.mem_singleton.mp m]
                  exact nv
            · obtain ⟨zs, ds, eD, kd, kk, h4, ld, nb⟩ := hP
              refine ⟨.ref D, _, ds, rfl, .lst eD (DqAll.same vw_same _ kd), rfl, fun l H5 s5 k5 => ?_⟩
              have h5 := h4.same s5
              obtain ⟨a1, a2, a3, a4, a5, a6, a7, a8⟩ := app (.ref l) H5 ds ((Kp.trans k3 kk).trans (Kp.of s5)) h5 (dq_vw h5 (.tuple ds) (fbs_noL nb) k5) ld (fun d md => by
                obtain ⟨b1, b2⟩ := rd_rt k
                have := (nb d md).scale (show (0 : Int) < RD k by omega)
                rw [Int.mul_comm (RD k) 6] at this
                refine this.up ?_
                show RD k * 12582912 ≤ 48 * RT k
                omega)
              exact ⟨t, ys, _, rfl, rfl, a1, a2, _, _, _, _, _, _, _, rfl, a3, a4, a5, a6, a7, a8⟩
        · refine iteF ?_
          have et3 := et2
          refine ⟨_, rfl, .inl ⟨rfl, _, SqL.of et3⟩, ?_⟩
          refine ⟨_, rfl, (n : Int), rfl, by omega, by omega, fun D nD => ?_⟩
          obtain ⟨d1, d2⟩ := Hnd.fresh h2 nD
          rw [show ((n : Nat) : Int).toNat = n by omega]
          refine lc_range (fun i H' => ∃ zs ds, H' D = some (.lst zs) ∧ DqAll (Vw h g H') zs ds ∧ Kp h g H2 H' ∧ Hnd h g H' ∧ ds.length = i ∧ ∀ d ∈ ds, Fb p 6 12582912 d) ⟨[], [], upd_same, .nil, Kp.refl.put nD, Hnd.upd h2 d1 d2, rfl, fun d m => nomatch m⟩ (fun i H4 hi hP => ?_) (fun H4 hP => ?_)
          · obtain ⟨zs, ds, eD, kd, kk, h4, ld, nb⟩ := hP
            have lz := kd.len
            refine ⟨rfl, _, rfl, _, rfl, h, g, p, rfl, h4, fp, fun v H5 d k5 h5 kv nv => ?_⟩
            have eD5 := k5 D _ d1 d2 eD
            refine ⟨zs, eD5, small1000 (by omega), zs ++ [v], ds ++ [d], upd_same, dqs_upd d1 d2 eD5 (fbs_noL (p := p) (D := 6) (T := 12582912) fun e m => ?_) ((DqAll.same k5.vw _ kd).snoc kv), (kk.trans k5).put nD, h5.upd d1 d2, by rw [List.length_append, ld]; rfl, fun e m => ?_⟩
            all_goals
              rcases List.mem_append.mp m with m | m
              · exact nb e m
              · rw [List.mem_singleton.mp m]
                exact nv
          · obtain ⟨zs, ds, eD, kd, kk, h4, ld, nb⟩ := hP
            refine ⟨.ref D, _, ds, rfl, .lst eD (DqAll.same vw_same _ kd), rfl, fun l H5 s5 k5 => ?_⟩
            have h5 := h4.same s5
            obtain ⟨a1, a2, a3, a4, a5, a6, a7, a8⟩ := app (.ref l) H5 ds ((Kp.trans (Kp.refl (h := h) (g := g) (H := H2)) kk).trans (Kp.of s5)) h5 (dq_vw h5 (.tuple ds) (fbs_noL nb) k5) ld (fun d md => by
              obtain ⟨b1, b2⟩ := rd_rt k
              have := (nb d md).scale (show (0 : Int) < RD k by omega)
              rw [Int.mul_comm (RD k) 6] at this
              refine this.up ?_
              show RD k * 12582912 ≤ 48 * RT k
              omega)
            exact ⟨t, ys, _, rfl, rfl, a1, a2, _, _, _, _, _, _, _, rfl, a3, a4, a5, a6, a7, a8⟩
    · obtain ⟨y5, y6, y7, y8, y9, ys, M, rfl, k1, h1, et1, u1, lM, gM⟩ := hP
      exact ⟨_, rfl, q t H' M k1 h1 nt (.lst (vw_at t1 t2 et1) u1) lM gM⟩
end
end K26
set_option Elab.async false
set_option linter.all false
set_option maxRecDepth 100000
set_option maxHeartbeats 4000000
set_option exponentiation.threshold 5000
set_option pp.maxSteps 900
namespace TkS
open PySem PySem.Spec PyProof.Rows L2
theorem wlk_enumL {K : PySem.W.Frag} {a : Addr} {xs : List V} : Wlk (Ite K a) xs (fun H => SqL K H a xs) Yenum where
  go i x H h e := ⟨xs, x, h, e⟩
  stop i H h e := ⟨xs, h, e⟩
  yld i H v H' h y := by
    obtain ⟨T, x, e1, e2, e3, e4⟩ := y
    exact ⟨x, e4 xs h, T, e1, e2, e3⟩
end TkS
namespace K26
open PySem PySem.Spec PyProof.Rows L2 TkS LamX NdefX
theorem quot_rs {p x y r : Nat} (fp : Fp p) (n0 : p ≠ 0) (lx : x < p) (ly : y < p) (y0 : y ≠ 0) (h : (r : Int) * (y : Int) % (p : Int) = 1) : PyData.int ((x : Int) * (r : Int) % (p : Int)) = overD p (.int (x : Int)) (.int (y : Int)) := by
  have pr := (fp.resolve_left n0).1
  have p2 := pr.1
  have : NeZero p := ⟨n0⟩
  have F := phi_fin n0 pr
  have fr : (x : Int) * (r : Int) % (p : Int) = ((x * r % p : Nat) : Int) := rfl
  rw [fr]
  have yz : PyData.int (y : Int) ≠ zeroD p := fun z => by
    unfold zeroD at z
    rw [if_neg n0] at z
    have := PyData.int.inj z
    omega
  have nx : Nb p 1 (.int (x : Int)) := .rs n0 lx
  have ny : Nb p 1 (.int (y : Int)) := .rs n0 ly
  refine F.inj (k := 1) (.rs n0 (Nat.mod_lt _ (by omega))) (over_nb nx ny yz) ?_
  have s := F.over nx ny yz
  have h1 : Fin.ofNat p r * Fin.ofNat p y = 1 := by
    rw [← ofNat_mul, ← ofNat_mod]
    have : r * y % p = 1 := by exact_mod_cast h
    rw [this]
    rfl
  rw [rn_nat, ofNat_mod, ofNat_mul]
  rw [rn_nat (p := p) y, rn_nat (p := p) x] at s
  grind
theorem lead_facts {p l r i k : Nat} {M : List (List PyData)} (g : Gm p l r M) (r5 : r + 1 ≤ 6) (hi : i < M.length) (kl : k < l) (nz : atR M i k ≠ zeroD p) : ∀ e ∈ leadRow p (M.getD i []) k, Nb p 4300 e ∧ ∀ s, s < M.length → Nb p 4300 (timesD p (atR M s k) e) := by
  obtain ⟨D, d0, d1, f⟩ := g.fb
  have mi := getD_memL hi
  have li := g.ln _ mi
  have t1 := TB.pos r
  have fu : Fb p D (TB r) (atR M i k) := f _ mi _ (getD_mem (by omega))
  obtain ⟨N, n0, n1, fo⟩ := fb_overs fu nz t1
  have db := (DB.le r).1
  have dl := (DB.le r).2
  have dn : D * N ≤ DB (r + 1) := Int.mul_le_mul d1 n1 (by omega) (by omega)
  intro e me
  unfold leadRow at me
  obtain ⟨x, mx, rfl⟩ := List.mem_map.mp me
  have fe := fo x (f _ mi x mx)
  have h0 : 0 ≤ TB r * TB r := Int.mul_nonneg (by omega) (by omega)
  refine ⟨?_, fun s hs => ?_⟩
  · have s1 := fe.scale d0
    refine big_nb r5 dn (s1.up ?_)
    have : D * TB r ≤ TB r * TB r := Int.mul_le_mul_of_nonneg_right (by omega) (by omega)
    show D * TB r ≤ 2 * (TB r * TB r)
    omega
  · have ms := getD_memL hs
    have fv : Fb p D (TB r) (atR M s k) := f _ ms _ (getD_mem (by rw [g.ln _ ms]; exact kl))
    refine big_nb r5 dn ((fv.times fe).up ?_)
    show TB r * TB r ≤ 2 * (TB r * TB r)
    omega
theorem Rw.set {ds : List PyData} {M : List (List PyData)} (h : Rw ds M) {i k : Nat} {d : PyData} (hd : ds[k]? = some d) (hk : k < M.length) : Rw (ds.set i d) (M.set i (M.getD k [])) := by
  obtain ⟨d', h1, h2⟩ := h.at_ hk
  rw [hd] at h1
  obtain rfl := Option.some.inj h1
  unfold Rw
  rw [List.map_set, List.map_set, h, h2]
theorem same_off2 {H H' : Hp} {a b : Addr} (s : Same H H') (na : H a = none) (nb : H b = none) : Same H (TkS.Off b (TkS.Off a H')) := fun c o e => off_at (fun z => by rw [z, nb] at e; cases e) (off_at (fun z => by rw [z, na] at e; cases e) (s c o e))
def sp_reduced_rows (CR CF : Addr) : Sp := fun vs H Q _ => ∃ (f : Addr) (p l wd : Nat) (x : V) (dx : PyData) (ds : List PyData) (M : List (List PyData)), vs = [.ref f, x, .int (wd : Int)] ∧ Fld CR CF H f p ∧ Dq H x dx ∧ itemsD dx = some ds ∧ Rw ds M ∧ Gm p l 0 M ∧ wd ≤ l ∧ wd ≤ 6 ∧ M.length ≤ 900 ∧ l ≤ 900 ∧
  ∀ t a b ds' H', Same H H' → H a = none → H b = none → H' t = some (.tup [.ref a, .ref b]) → H' a = some (.lst ds') → H' b = some (.lst ((redN p M wd).2.map fun i : Nat => V.int (i : Int))) → (∃ es, DqAll H' ds' es ∧ Rw es (redN p M wd).1) → Q (.ref t) H'
section
variable {P : Program} {w : World} {K : PySem.W.Frag} {mg : Str → Option Value} {base : Heap}
theorem ok_reduced_rows (T : Txt K mg) : FnOk P w K mg base CX0 9 T.f_reduced_rows T.d_reduced_rows ["field", "rows", "width"] (sp_reduced_rows T.C_RestField T.C_FractionField) := by
  refine T.F_reduced_rows.ok sc_reduced_rows (fun vs H Q E h => ?_) (fun cdv A outer s H vs Q E hr h => ?_)
  · obtain ⟨f, p, l, wd, x, dx, ds, M, rfl, _⟩ := h
    rfl
  · obtain ⟨f, p, l, wd, x, dx, ds, M, rfl, hf, kx, ex, rw0, g0, wl, w6, m9, l9, q⟩ := h
    refine ⟨_, (pss_cons (ps_set (i := 3) sc_reduced_rows.nd rfl (.inl rfl) (pe_callTy call_list_of (by rfl) T.m_list (by decide +kernel) (pa_cons (pv 1) pa_nil)))
      (pss_cons (ps_set (i := 4) sc_reduced_rows.nd rfl (.inl rfl) (pe_lst pa_nil))
      (pss_cons (ps_for PassesOwn.never rfl (pi_range1 (by rfl) T.m_range (pa_cons (pv 2) pa_nil)) (pg_name (i := 5) sc_reduced_rows.nd rfl (.inr rfl))
        (pss_cons (ps_set (i := 6) sc_reduced_rows.nd rfl (.inr rfl) (pe_callB call_len_seq (by rfl) T.m_len (by decide +kernel) (pa_cons (pv 4) pa_nil)))
        (pss_cons (ps_set (i := 7) sc_reduced_rows.nd rfl (.inl rfl) (pe_call (ok_place_of_lead T) (hr.mono (by decide)) (by rfl) T.g_place_of_lead T.F_place_of_lead.kp T.b_place_of_lead .nil pass0 (pa_cons (pv 0) (pa_cons (pv 3) (pa_cons (pv 6) (pa_cons (pv 5) pa_nil))))))
        (pss_one (ps_if (pt_cmpR op_notN (pv 7) pe_non (nomark _))
          (pss_cons (ps_set (i := 8) sc_reduced_rows.nd rfl (.inr rfl) (pe_ix ix_list (pv 3) (pv 7) (fun _ _ => rfl)))
          (pss_cons (ps_asg (pe_ix ix_list (pv 3) (pv 6) (fun _ _ => rfl)) (pg_sub (pv 3) (pv 7) set_list))
          (Evl.pss_cut (ps_set (i := 9) sc_reduced_rows.nd rfl (.inr rfl) (pe_lc rfl sc_reduced_rows.nd (pi_seq (pv 8)) (blkOk_by (own := [("number", 10)]) (N := ["field", "rows", "width", "reduced", "leads", "place", "many", "index", "row", "lead", "number", "at", "other"]) (sc := defScope s_reduced_rows) (by decide +kernel)) (fun _ _ _ _ _ => (pg_name (i := 10) sc_reduced_rows.nd rfl (.inl rfl))) (fun _ _ _ _ _ => pts_nil) (fun _ _ _ _ _ => (pe_orT (pe_meth (pv 0) T.cl_RestField T.M_RestField_quotient (ok_RestField_quotient T) (hr.mono (by decide)) T.b_RestField_quotient .nil passL (pa_cons (pv 10) (pa_cons (show PE _ _ (tOp (rIx K) (tVar 8) (tVar 5)) from pe_ix ix_seq (pv 8) (pv 5) (fun _ _ => rfl)) pa_nil))) (pe_meth (pv 0) T.cl_FractionField T.M_FractionField_quotient (ok_FractionField_quotient T) (hr.mono (by decide)) T.b_FractionField_quotient .nil passL (pa_cons (pv 10) (pa_cons (show PE _ _ (tOp (rIx K) (tVar 8) (tVar 5)) from pe_ix ix_seq (pv 8) (pv 5) (fun _ _ => rfl)) pa_nil)))))))
          (pss_cons (ps_setLc (i := 3) rfl sc_reduced_rows.nd rfl rfl (sw_true rfl rfl rfl (by decide +kernel)) (pi_enum (by rfl) T.m_enumerate (pa_cons (pv 3) pa_nil)) (blkOk_by (own := [("at", 11), ("other", 12)]) (N := ["field", "rows", "width", "reduced", "leads", "place", "many", "index", "row", "lead", "number", "at", "other"]) (sc := defScope s_reduced_rows) (by decide +kernel)) (fun _ _ _ _ _ => (show PG _ _ (gTup K 2 (gCons (gName 11) (gCons (gName 12) gNil))) from pg_tup rfl (pgs_cons (pg_name (i := 11) sc_reduced_rows.nd rfl (.inl rfl)) (pgs_cons (pg_name (i := 12) sc_reduced_rows.nd rfl (.inl rfl)) pgs_nil)))) (fun _ _ _ _ _ => pts_nil) (fun _ _ _ _ _ => (pe_ifExp (pt_cmpR op_eq (pv 11) (pv 6) (nomark _)) (pv 9) (pe_call (ok_row_less T) (hr.mono (by decide)) (by rfl) T.g_row_less T.F_row_less.kp T.b_row_less .nil pass0 (pa_cons (pv 0) (pa_cons (pv 12) (pa_cons (show PE _ _ (tOp (rIx K) (tVar 12) (tVar 5)) from pe_ix ix_seq (pv 12) (pv 5) (fun _ _ => rfl)) (pa_cons (pv 9) pa_nil))))))))
          (pss_one (ps_expr (pe_bm PySem.F.plainAttrs_list PySem.F.slot_list_append PySem.F.type_list_append mt_append (pv 4) (pa_cons (pv 5) pa_nil))))))))
          pss_nil)))))
      (pss_one (ps_ret (pe_tup (pa_cons (pv 3) (pa_cons (pv 4) pa_nil)))))))), ?_⟩
    have fp := hf.fp
    obtain ⟨ax, xs, rfl, hxs, hsx⟩ := sq_of (K := K) kx ex
    have lx := hxs.len
    have l0 := rw0.len
    obtain ⟨R, iR, φ, F, I⟩ := phi_inv fp
    have RO := red_all F I fp g0
    refine ⟨_, rfl, ax, xs, rfl, hsx, fun D0 nD0 => ?_⟩
    refine ⟨Nat.zero_le _, fun ld nld => ?_⟩
    have s01 := same_new (o := .lst xs) nD0
    have s02 := s01.trans (same_new (o := .lst []) nld)
    have nldH := s01.free nld
    have neD : D0 ≠ ld := ne_of_none (o := .lst xs) upd_same nld
    refine ⟨_, rfl, (wd : Int), rfl, by omega, by omega, ?_⟩
    rw [show ((wd : Nat) : Int).toNat = wd by omega]
    refine for_range (lo := 0) (n := wd) (fun k σ H' => ∃ (rd : Addr) (y5 y6 y7 y8 y9 : Option V) (zs : List V) (es : List PyData), σ = [some (.ref f), some (.ref ax), some (.int (wd : Int)), some (.ref rd), some (.ref ld), y5, y6, y7, y8, y9, none, none, none] ∧ Same H H' ∧ H rd = none ∧ rd ≠ ld ∧ H' rd = some (.lst zs) ∧ DqAll (TkS.Off ld (TkS.Off rd H')) zs es ∧ Rw es (redN p M k).1 ∧ H' ld = some (.lst ((redN p M k).2.map fun i : Nat => V.int (i : Int)))) ⟨D0, none, none, none, none, none, xs, ds, rfl, s02, nD0, neD, by rw [upd_ne neD]; exact upd_same, DqAll.same (same_off2 s02 nD0 nldH) _ hxs, rw0, upd_same⟩ (fun k σ H' hk hP => ?_) (fun σ H' hP => ?_)
    · obtain ⟨rd, y5, y6, y7, y8, y9, zs, es, rfl, sm, nrd, ne, erd, ur, rwA, eld⟩ := hP
      have ro := RO k (by omega) (by omega)
      have rk : redN p M (k + 1) = match leadAt p (redN p M k).1 (redN p M k).2.length k with
        | none => ((redN p M k).1, (redN p M k).2)
        | some i => (stepR p (redN p M k).1 (redN p M k).2.length i k, (redN p M k).2 ++ [k]) := rfl
      rw [rk]
      generalize (redN p M k).1 = A at rwA ro ⊢
      generalize (redN p M k).2 = ls at eld ro ⊢
      have lA := ro.len
      have lk := ro.lk
      have lz := ur.len
      have lE := rwA.len
      have urH : DqAll H' zs es := DqAll.same (fun b o e => off_same b o (off_same b o e)) _ ur
      refine ⟨_, rfl, ld, _, rfl, .inl (SqL.of eld), ?_⟩
      refine ⟨_, rfl, _, rfl, _, rfl, _, rfl, f, rd, p, l, ls.length, ls.length, k, es, A, by rw [List.length_map, Int.zero_add]; rfl, hf.same sm, .lst erd urH, rwA, ro.gm, by omega, by omega, by omega, by omega, fun H2 s2 => ?_⟩
      have sm2 := sm.trans s2
      have erd2 := s2 _ _ erd
      have eld2 := s2 _ _ eld
      have ur2 : DqAll (TkS.Off ld (TkS.Off rd H2)) zs es := DqAll.same (off_of (off_of s2)) _ ur
      cases e : leadAt p A ls.length k with
      | none => exact ⟨_, rfl, rfl, _, rfl, iteF ⟨rd, _, _, _, _, _, zs, es, rfl, sm2, nrd, ne, erd2, ur2, rwA, eld2⟩⟩
      | some i =>
        obtain ⟨h1, h2, h3⟩ := leadAt_some e
        refine ⟨_, rfl, rfl, _, rfl, iteT ?_⟩
        have ra : ls.length < A.length := by omega
        have nu : Nb p 4300 (atR A i k) := at_nb ro.gm (by omega) h2 (by omega)
        have un := (nz_iff fp nu).mp h3
        have lf := lead_facts ro.gm (by omega) h2 (show k < l by omega) un
        have gs := ro.gm.step ra h2 (show k < l by omega) un
        have li := ro.gm.ln _ (getD_memL h2)
        obtain ⟨di, hdi, edi⟩ := rwA.at_ h2
        obtain ⟨dr, hdr, edr⟩ := rwA.at_ ra
        obtain ⟨vi, hvi, kvi⟩ := dqs_at ur2 hdi
        obtain ⟨vr, hvr, kvr⟩ := dqs_at ur2 hdr
        have hxi : ixN zs.length (i : Int) = some i := by
          unfold ixN
          rw [if_pos (by omega), if_pos (by omega)]
          rfl
        refine ⟨_, rfl, _, rfl, rd, zs, (i : Int), vi, rfl, rfl, SqL.of erd2, at_of (j := i) rfl hvi, ?_⟩
        refine ⟨_, rfl, _, rfl, rd, zs, (((ls.map fun i : Nat => V.int (i : Int)).length : Nat) : Int), vr, rfl, rfl, SqL.of erd2, at_of (j := ls.length) (by rw [List.length_map]) hvr, ?_⟩
        refine ⟨_, rfl, _, rfl, rd, zs, (i : Int), i, rfl, rfl, erd2, hxi, ?_⟩
        have sm3 : Same H (upd H2 rd (.lst (zs.set i vr))) := fun b o eb => by
          rw [upd_ne (ne_of_none eb nrd)]
          exact sm2 b o eb
        have erd3 : (upd H2 rd (.lst (zs.set i vr))) rd = some (.lst (zs.set i vr)) := upd_same
        have eld3 : (upd H2 rd (.lst (zs.set i vr))) ld = some (.lst (ls.map fun i : Nat => V.int (i : Int))) := by
          rw [upd_ne ne.symm]
          exact eld2
        have ur3 : DqAll (TkS.Off ld (TkS.Off rd (upd H2 rd (.lst (zs.set i vr))))) (zs.set i vr) (es.set i dr) := by
          rw [off_put]
          exact ur2.set i kvr
        have kvi3 : Dq (upd H2 rd (.lst (zs.set i vr))) vi di := by
          have : Dq (TkS.Off ld (TkS.Off rd (upd H2 rd (.lst (zs.set i vr))))) vi di := by
            rw [off_put]
            exact kvi
          exact (this.same off_same).same off_same
        have rwS : Rw (es.set i dr) (swapM A i ls.length) := rwA.set hdr ra
        generalize upd H2 rd (.lst (zs.set i vr)) = H3 at sm3 erd3 eld3 ur3 kvi3 ⊢
        have hf3 := hf.same sm3
        obtain ⟨b, rs, rfl, hrs, hsr⟩ := sq_of (K := K) kvi3 edi
        obtain ⟨vk, hvk, kvk⟩ := dqs_at hrs (i := k) (d := atR A i k) (getD_some (by omega))
        refine ⟨fun σ H' => ∃ dl : Addr, σ = [some (.ref f), some (.ref ax), some (.int (wd : Int)), some (.ref rd), some (.ref ld), some (.int (0 + (k : Int))), some (.int (((ls.map fun i : Nat => V.int (i : Int)).length : Nat) : Int)), some (.int (i : Int)), some (.ref b), some (.ref dl), none, none, none] ∧ Same H3 H' ∧ H3 dl = none ∧ Dq H' (.ref dl) (.list (leadRow p (A.getD i []) k)), ?_, fun σ H4 hM => ?_⟩
        · refine lc_seqD (f := fun _ => true) (e := fun d => overD p d (atR A i k)) (fun Q h => ⟨_, rfl, h⟩) hsr hrs (by omega) (fun x => rfl) (fun i x d H' Q _ _ _ h => h _ fun _ _ z => z) (fun D j x d H4 Q4 nD hd0 _ s4 kx4 acc q4 => ?_) (fun D H4 nD s4 kd => ?_)
          · obtain ⟨ac, hac⟩ := acc
            have md := List.mem_of_getElem? hd0
            have nd : Nb p 4300 d := ro.gm.nb (by omega) _ (getD_memL h2) d md
            have no := (lf (overD p d (atR A i k)) (List.mem_map.mpr ⟨d, md, rfl⟩)).1
            have nlo := nb_noL no
            have kvk4 := kvk.same s4
            have hf4 := hf3.same s4
            generalize atR A i k = u at *
            by_cases p0 : p = 0
            · subst p0
              obtain ⟨qd, rfl, b1, b2, b3⟩ := nb_fr0 nd
              obtain ⟨qu, rfl, c1, c2, c3⟩ := nb_fr0 nu
              obtain ⟨dxf, z, o, m, ea, _⟩ := (hf4.fr rfl).at_
              have r1 := fr_zero c1 un
              refine .inr ⟨_, rfl, f, dxf, _, rfl, ea, rfl, _, rfl, _, rfl, _, rfl, ?_⟩
              refine rix_sq (hsr.same s4) (at_of (j := k) (by omega) hvk) ?_
              exact ⟨f, x, vk, qd, qu, rfl, hf4.fr rfl, kx4, kvk4, ⟨b1, fin_up b2 (by decide), fin_up b3 (by decide)⟩, ⟨c1, fin_up c2 (by decide), fin_up c3 (by decide)⟩, fun z => absurd (by rw [z]) r1, fun _ l5 H5 s5 k5 => q4 _ H5 s5 (dq_noL (s5 _ _ hac) _ nlo k5)⟩
            · obtain ⟨xn, rfl, b1⟩ := nb_rs nd p0
              obtain ⟨yn, rfl, c1⟩ := nb_rs nu p0
              obtain ⟨⟨dxr, ea⟩, pr, le'⟩ := id (hf4.rs p0)
              cases kx4
              cases kvk4
              have y0 := nz_nat p0 un
              obtain ⟨rr, er, rp, hr1⟩ := rpw_inv pr (y := (yn : Int)) (by omega) (by omega) (by omega)
              refine .inl ⟨_, rfl, f, dxr, _, rfl, ea, rfl, _, rfl, _, rfl, _, rfl, ?_⟩
              refine rix_sq (hsr.same s4) (at_of (j := k) (by omega) hvk) ?_
              refine ⟨f, p, (xn : Int), (yn : Int), rfl, hf4.rs p0, by omega, by omega, by omega, by omega, fun z => absurd z (by omega), fun r' er' => ?_⟩
              rw [er] at er'
              cases er'
              refine q4 _ H4 (fun _ _ z => z) ?_
              rw [← quot_rs fp p0 b1 c1 y0 hr1]
              exact .int _
          · rw [List.filter_eq_self.mpr fun _ _ => rfl] at kd
            exact ⟨D, rfl, s4, nD, kd⟩
        obtain ⟨dl, rfl, s4, ndl, kl⟩ := hM
        cases kl with
        | @lst _ ll _ el ul =>
        have sm4 := sm3.trans s4
        have erd4 := s4 _ _ erd3
        have eld4 := s4 _ _ eld3
        have ur4 : DqAll (TkS.Off ld (TkS.Off rd H4)) (zs.set i vr) (es.set i dr) := DqAll.same (off_of (off_of s4)) _ ur3
        have urS : DqAll H4 (zs.set i vr) (es.set i dr) := DqAll.same (fun b o e => off_same b o (off_same b o e)) _ ur4
        have ndlH := sm3.free ndl
        have nelD : dl ≠ ld := (ne_of_none eld3 ndl).symm
        have llead : (leadRow p (A.getD i []) k).length = l := by rw [lead_len]; exact li
        have nlead : noLists (leadRow p (A.getD i []) k) = true := noLs_all fun d md => nb_noL (lf d md).1
        refine asgE ?_
        refine ⟨_, rfl, rd, zs.set i vr, rfl, SqL.of erd4, fun D5 nD5 => ?_⟩
        have neD5 : ld ≠ D5 := ne_of_none eld4 nD5
        have ndl5 : dl ≠ D5 := ne_of_none el nD5
        have lS : (stepR p A ls.length i k).length = A.length := step_len
        refine lc2_in (W := wlk_enumL (a := rd) (xs := zs.set i vr)) (fun j H' => Same H4 H' ∧ ∃ acc, H' D5 = some (.lst acc) ∧ DqAll (TkS.Off ld (TkS.Off D5 H')) acc (((stepR p A ls.length i k).take j).map .list)) ⟨same_new nD5, [], upd_same, .nil⟩ (fun j H' hP => SqL.of (hP.1 _ _ erd4)) (fun j y v H5 H6 hy hP hY => ?_) (fun H5 hP => ?_)
        · obtain ⟨s5, acc, ea, ua⟩ := hP
          obtain ⟨T', rfl, nT, rfl⟩ := hY
          have s6 := same_new (o := .tup [.int (j : Nat), y]) nT
          have hj : j < A.length := by
            have := (List.getElem?_eq_some_iff.mp hy).1
            rw [List.length_set] at this
            omega
          have lacc := ua.len
          rw [List.length_map, List.length_take] at lacc
          have tk : (stepR p A ls.length i k).take (j + 1) = (stepR p A ls.length i k).take j ++ [(stepR p A ls.length i k).getD j []] := by
            rw [List.take_add_one, List.getD_eq_getElem?_getD, List.getElem?_eq_getElem (show j < (stepR p A ls.length i k).length by omega)]
            rfl
          have nbj : ∀ d ∈ (stepR p A ls.length i k).getD j [], Nb p 4300 d := gs.nb (by omega) _ (getD_memL (by omega))
          have fin : ∀ (v : V) (H8 : Hp), Same (upd H5 T' (.tup [.int (j : Nat), y])) H8 → (∃ u, v = .ref u ∧ u ≠ ld ∧ u ≠ D5) → Dq H8 v (.list ((stepR p A ls.length i k).getD j [])) → ∃ acc, H8 D5 = some (.lst acc) ∧ acc.length < sizeLine ∧ Same H4 (upd H8 D5 (.lst (acc ++ [v]))) ∧ ∃ acc', (upd H8 D5 (.lst (acc ++ [v]))) D5 = some (.lst acc') ∧ DqAll (TkS.Off ld (TkS.Off D5 (upd H8 D5 (.lst (acc ++ [v]))))) acc' (((stepR p A ls.length i k).take (j + 1)).map .list) := fun v H8 s8 hv kv => by
            obtain ⟨u, rfl, u1, u2⟩ := hv
            have s58 := s6.trans s8
            refine ⟨acc, s58 _ _ ea, small1000 (by omega), fun b o e => ?_, acc ++ [.ref u], upd_same, ?_⟩
            · rw [upd_ne (ne_of_none e nD5)]
              exact s58 _ _ (s5 _ _ e)
            · rw [off_put, tk, List.map_append]
              refine (DqAll.same (off_of (off_of s58)) _ ua).snoc ?_
              cases kv with
              | @lst _ us _ eu uu =>
                have hD5 : H8 D5 = some (.lst acc) := s58 _ _ ea
                have hld : H8 ld = some (.lst (ls.map fun i : Nat => V.int (i : Int))) := s58 _ _ (s5 _ _ eld4)
                have nl := nbs_noL nbj
                exact .lst (off_at u1 (off_at u2 eu)) (dqs_noL (off_at neD5 hld) _ nl (dqs_noL hD5 _ nl uu))
          refine ⟨T', _, rfl, SqT.of upd_same, rfl, _, _, rfl, _, _, rfl, rfl, rfl, ?_⟩
          refine ⟨_, rfl, _, rfl, rfl, _, rfl, ite2 (fun c => ?_) (fun c => ?_)⟩
          · have c' : j = ls.length := by
              rw [int_dec, List.length_map] at c
              have := of_decide_eq_true c
              omega
            refine ⟨_, rfl, ?_⟩
            refine fin (.ref dl) _ (fun _ _ z => z) ⟨dl, rfl, nelD, ndl5⟩ ?_
            rw [step_at hj, if_pos c']
            exact .lst (s6 _ _ (s5 _ _ el)) (DqAll.same (s5.trans s6) _ ul)
          · have c' : j ≠ ls.length := fun z => c (by rw [int_dec, List.length_map, z]; exact decide_eq_true rfl)
            have s56 := s5.trans s6
            obtain ⟨ds', hds, eds⟩ := rwS.at_ (i := j) (by unfold swapM; rw [List.length_set]; omega)
            obtain ⟨y', hy', ky'⟩ := dqs_at urS hds
            rw [hy] at hy'
            obtain rfl := Option.some.inj hy'
            have ky6 := ky'.same s56
            obtain ⟨bb, rs2, rfl, hrs2, hsr2⟩ := sq_of (K := K) ky6 eds
            rw [swap_at ra hj] at eds hrs2
            have hs' : Lin.sw ls.length i j < A.length := by unfold Lin.sw; split <;> omega
            have msw := getD_memL hs'
            have lsw := ro.gm.ln _ msw
            obtain ⟨vq, hvq, kvq⟩ := dqs_at hrs2 (i := k) (d := atR A (Lin.sw ls.length i j) k) (getD_some (by omega))
            have hld6 : (upd H5 T' (.tup [.int (j : Nat), .ref bb])) dl = some (.lst ll) := s56 _ _ el
            refine ⟨_, rfl, _, rfl, _, rfl, _, rfl, ?_⟩
            refine rix_sq hsr2 (at_of (j := k) (by omega) hvq) ?_
            refine ⟨_, rfl, f, p, .ref bb, vq, .ref dl, ds', .list (leadRow p (A.getD i []) k), atR A (Lin.sw ls.length i j) k, A.getD (Lin.sw ls.length i j) [], leadRow p (A.getD i []) k, rfl, hf.same (sm4.trans s56), ky6, eds, kvq, .lst hld6 (DqAll.same s56 _ ul), rfl, by omega, by omega, at_nb ro.gm (by omega) hs' (by omega), fun d md => ro.gm.nb (by omega) _ msw d md, fun d md => ⟨(lf d md).1, (lf d md).2 _ hs'⟩, fun d md => ?_, fun u H8 s8 nu8 ku => ?_⟩
            · have : (stepR p A ls.length i k).getD j [] = rowLess p (A.getD (Lin.sw ls.length i j) []) (atR A (Lin.sw ls.length i j) k) (leadRow p (A.getD i []) k) := by
                rw [step_at hj, if_neg c', swap_at ra hj]
                rfl
              rw [← this] at md
              exact nbj d md
            · refine fin (.ref u) H8 s8 ⟨u, rfl, fun z => ?_, fun z => ?_⟩ ?_
              · rw [z, s56 _ _ eld4] at nu8
                cases nu8
              · rw [z, s6 _ _ ea] at nu8
                cases nu8
              · rw [step_at hj, if_neg c', swap_at ra hj]
                exact ku
        · obtain ⟨s5, acc, ea, ua⟩ := hP
          rw [List.length_set, show zs.length = (stepR p A ls.length i k).length by omega, List.take_length] at ua
          have eld5 := s5 _ _ eld4
          refine ⟨_, rfl, .inl ⟨rfl, _, SqL.of eld5⟩, _, rfl, ld, _, _, rfl, rfl, eld5, small1000 (by rw [List.length_map]; omega), ?_⟩
          refine ⟨D5, _, _, _, _, _, acc, (stepR p A ls.length i k).map .list, rfl, fun b o eb => ?_, sm4.free nD5, neD5.symm, by rw [upd_ne neD5.symm]; exact ea, ?_, rw_lists _, ?_⟩
          · rw [upd_ne (ne_of_none eb nldH)]
            exact s5 _ _ (sm4 _ _ eb)
          · have : TkS.Off ld (TkS.Off D5 (upd H5 ld (.lst ((ls.map fun i : Nat => V.int (i : Int)) ++ [V.int (0 + (k : Int))])))) = TkS.Off ld (TkS.Off D5 H5) := by
              funext c
              unfold TkS.Off
              by_cases c1 : c = ld
              · rw [if_pos c1, if_pos c1]
              · rw [if_neg c1, if_neg c1, upd_ne c1]
            rw [this]
            exact ua
          · rw [upd_same]
            show _ = some (HO.lst ((ls ++ [k]).map fun i : Nat => V.int (i : Int)))
            rw [List.map_append, Int.zero_add]
            rfl
    · obtain ⟨rd, y5, y6, y7, y8, y9, zs, es, rfl, sm, nrd, ne, erd, ur, rwA, eld⟩ := hP
      refine ⟨_, rfl, _, rfl, (by show 2 ≤ sizeLine; decide), fun t nt => ?_⟩
      have st := same_new (o := .tup [.ref rd, .ref ld]) nt
      exact q t rd ld zs _ (sm.trans st) nrd nldH upd_same (st _ _ erd) (st _ _ eld) ⟨es, DqAll.same st _ (DqAll.same (fun b o e => off_same b o (off_same b o e)) _ ur), rwA⟩
end
end K26
set_option Elab.async false
set_option linter.all false
set_option maxRecDepth 100000
set_option maxHeartbeats 4000000
set_option exponentiation.threshold 5000
set_option pp.maxSteps 900
namespace K26
open PySem PySem.Spec PyProof.Rows L2 TkS LamX NdefX
def rankD (p : Nat) (M : List (List PyData)) (l : Nat) : Nat := (redN p M l).2.length
def sp_rank_of_rows (CR CF : Addr) : Sp := fun vs H Q _ => ∃ (f : Addr) (p l : Nat) (x : V) (dx : PyData) (ds : List PyData) (M : List (List PyData)), vs = [.ref f, x] ∧ Fld CR CF H f p ∧ Dq H x dx ∧ itemsD dx = some ds ∧ Rw ds M ∧ Gm p l 0 M ∧ l ≤ 6 ∧ M.length ≤ 900 ∧ ∀ H', Same H H' → Q (.int ((rankD p M l : Nat) : Int)) H'
def sp_rows_unbound (CR CF : Addr) : Sp := fun vs H Q _ => ∃ (f : Addr) (p l : Nat) (x : V) (dx : PyData) (ds : List PyData) (M : List (List PyData)), vs = [.ref f, x] ∧ Fld CR CF H f p ∧ Dq H x dx ∧ itemsD dx = some ds ∧ Rw ds M ∧ Gm p l 0 M ∧ l ≤ 6 ∧ M.length ≤ 900 ∧ ∀ H', Same H H' → Q (.bl (decide (rankD p M l = M.length))) H'
theorem rank_le {p l : Nat} {M : List (List PyData)} (fp : Fp p) (g : Gm p l 0 M) (l6 : l ≤ 6) : rankD p M l ≤ M.length := by
  obtain ⟨R, iR, φ, F, I⟩ := phi_inv fp
  exact (red_all F I fp g l (Nat.le_refl _) l6).ech.rm
section
variable {P : Program} {w : World} {K : PySem.W.Frag} {mg : Str → Option Value} {base : Heap}
theorem ok_rank_of_rows (T : Txt K mg) : FnOk P w K mg base CX0 10 T.f_rank_of_rows T.d_rank_of_rows ["field", "rows"] (sp_rank_of_rows T.C_RestField T.C_FractionField) := by
  refine T.F_rank_of_rows.ok sc_rank_of_rows (fun vs H Q E h => ?_) (fun cdv A outer s H vs Q E hr h => ?_)
  · obtain ⟨f, p, l, x, dx, ds, M, rfl, _⟩ := h
    rfl
  · obtain ⟨f, p, l, x, dx, ds, M, rfl, hf, kx, ex, rw0, g0, l6, m9, q⟩ := h
    refine ⟨_, (pss_cons (ps_if (pt_cmpR op_eq (pe_callB call_len_seq (by rfl) T.m_len (by decide +kernel) (pa_cons (pv 1) pa_nil)) pe_int (nomark _))
        (pss_one (ps_ret pe_int))
        pss_nil)
      (pss_cons (ps_asg (pe_call (ok_reduced_rows T) (hr.mono (by decide)) (by rfl) T.g_reduced_rows T.F_reduced_rows.kp T.b_reduced_rows .nil pass0 (pa_cons (pv 0) (pa_cons (pv 1) (pa_cons (pe_callB call_len_seq (by rfl) T.m_len (by decide +kernel) (pa_cons (pe_ix ix_seq (pv 1) pe_int (fun _ _ => rfl)) pa_nil)) pa_nil)))) (pg_tup rfl (pgs_cons (pg_name (i := 2) sc_rank_of_rows.nd rfl (.inl rfl)) (pgs_cons (pg_name (i := 3) sc_rank_of_rows.nd rfl (.inl rfl)) pgs_nil))))
      (pss_one (ps_ret (pe_callB call_len_seq (by rfl) T.m_len (by decide +kernel) (pa_cons (pv 3) pa_nil)))))), ?_⟩
    obtain ⟨ax, xs, rfl, hxs, hsx⟩ := sq_of (K := K) kx ex
    have lx := hxs.len
    have l0 := rw0.len
    have rl := rank_le hf.fp g0 l6
    refine ⟨_, rfl, ax, xs, rfl, hsx, rfl, _, rfl, ite2 (fun c => ?_) (fun c => ?_)⟩
    · have z : M.length = 0 := by
        rw [int_dec] at c
        have := of_decide_eq_true c
        omega
      have q1 := q H (fun _ _ z => z)
      rw [show rankD p M l = 0 by omega] at q1
      exact q1
    · have z : 0 < M.length := by
        refine Nat.pos_of_ne_zero fun z => c ?_
        rw [int_dec]
        exact decide_eq_true (by omega)
      obtain ⟨d0, hd0, ed0⟩ := rw0.at_ z
      obtain ⟨v0, hv0, kv0⟩ := dqs_at hxs hd0
      obtain ⟨b, rs, rfl, hrs, hsr⟩ := sq_of (K := K) kv0 ed0
      have lr := g0.ln _ (getD_memL z)
      have lrs := hrs.len
      refine ⟨_, rfl, _, rfl, _, rfl, ?_⟩
      refine rix_sq hsx (at_of (j := 0) rfl hv0) ?_
      refine ⟨b, rs, rfl, hsr, f, p, l, l, .ref ax, dx, ds, M, by rw [lrs, lr]; rfl, hf, kx, ex, rw0, g0, Nat.le_refl _, l6, m9, by omega, fun t a b' ds' H' s na nb et ea eb _ => ?_⟩
      refine ⟨t, _, rfl, SqT.of et, rfl, _, _, rfl, _, _, rfl, rfl, ?_⟩
      refine ⟨_, rfl, b', _, rfl, .inl (SqL.of eb), ?_⟩
      have q1 := q H' s
      unfold rankD at q1
      rw [List.length_map]
      exact q1
theorem ok_rows_unbound (T : Txt K mg) : FnOk P w K mg base CX0 11 T.f_rows_unbound T.d_rows_unbound ["field", "rows"] (sp_rows_unbound T.C_RestField T.C_FractionField) := by
  refine T.F_rows_unbound.ok sc_rows_unbound (fun vs H Q E h => ?_) (fun cdv A outer s H vs Q E hr h => ?_)
  · obtain ⟨f, p, l, x, dx, ds, M, rfl, _⟩ := h
    rfl
  · obtain ⟨f, p, l, x, dx, ds, M, rfl, hf, kx, ex, rw0, g0, l6, m9, q⟩ := h
    refine ⟨_, (pss_one (ps_ret (pe_cmpR op_eq (pe_call (ok_rank_of_rows T) (hr.mono (by decide)) (by rfl) T.g_rank_of_rows T.F_rank_of_rows.kp T.b_rank_of_rows .nil pass0 (pa_cons (pv 0) (pa_cons (pv 1) pa_nil))) (pe_callB call_len_seq (by rfl) T.m_len (by decide +kernel) (pa_cons (pv 1) pa_nil)) (nomark _)))), ?_⟩
    obtain ⟨ax, xs, rfl, hxs, hsx⟩ := sq_of (K := K) kx ex
    have lx := hxs.len
    have l0 := rw0.len
    refine ⟨_, rfl, _, rfl, f, p, l, .ref ax, dx, ds, M, rfl, hf, kx, ex, rw0, g0, l6, m9, fun H' s => ?_⟩
    refine ⟨_, rfl, ax, xs, rfl, hsx.same s, rfl, ?_⟩
    have q1 := q H' s
    rw [int_dec, show decide (((rankD p M l : Nat) : Int) = ((xs.length : Nat) : Int)) = decide (rankD p M l = M.length) from decide_eq_decide.mpr ⟨fun z => by omega, fun z => by omega⟩]
    exact q1
end
end K26
set_option Elab.async false
set_option linter.all false
set_option maxRecDepth 100000
set_option maxHeartbeats 4000000
set_option exponentiation.threshold 5000
set_option pp.maxSteps 900
namespace K26
open PySem PySem.Spec PyProof.Rows L2 TkS LamX NdefX
/-- the equations for the weights: a row for each column, the row asked for last -/
def augM (M : List (List PyData)) (rr : List PyData) (n : Nat) : List (List PyData) := (List.range n).map fun e => (M ++ [rr]).map fun r => r.getD e .none
def incons (p m : Nat) (A : List (List PyData)) (r : Nat) : Bool := (A.drop r).any fun row => nzB p (row.getD m .none)
theorem dq_bools {H : Hp} : ∀ {xs : List V} {bs : List Bool}, DqAll H xs (bs.map .bool) → xs = bs.map V.bl
  | [], [], _ => rfl
  | _, [], h => by cases h; rfl
  | _, b :: bs, h => by
    cases h with
    | cons u t =>
      cases u
      rw [dq_bools t]
      rfl
theorem col_aug {ds : List PyData} {dy : PyData} {M : List (List PyData)} {rr : List PyData} (rw' : Rw ds M) (ey : itemsD dy = some rr) (j : Nat) : colD (ds ++ [dy]) j = (M ++ [rr]).map fun r => r.getD j .none := by
  have e : (ds ++ [dy]).map itemsD = (M ++ [rr]).map some := by
    rw [List.map_append, List.map_append, rw']
    show _ ++ [itemsD dy] = _
    rw [ey]
    rfl
  have e2 := congrArg (List.map fun o : Option (List PyData) => (o.getD []).getD j .none) e
  rw [List.map_map, List.map_map] at e2
  exact e2
def sp_equations_for (CR CF : Addr) : Sp := fun vs H Q _ => ∃ (f : Addr) (p n : Nat) (x y : V) (dx dy : PyData) (ds rr : List PyData) (M : List (List PyData)), vs = [.ref f, x, y] ∧ Fld CR CF H f p ∧ Dq H x dx ∧ itemsD dx = some ds ∧ Rw ds M ∧ Dq H y dy ∧ itemsD dy = some rr ∧ (∀ r ∈ M, r.length = n ∧ noLists r = true) ∧ rr.length = n ∧ noLists rr = true ∧ M.length ≤ 6 ∧ n ≤ 6 ∧ Gm p (M.length + 1) 0 (augM M rr n) ∧
  (incons p M.length (redN p (augM M rr n) M.length).1 (redN p (augM M rr n) M.length).2.length = true → ∀ H', Same H H' → Q .non H') ∧
  (incons p M.length (redN p (augM M rr n) M.length).1 (redN p (augM M rr n) M.length).2.length = false → ∀ t a b zs H', Same H H' → H' t = some (.tup [.ref a, .ref b]) → H' a = some (.lst zs) → H' b = some (.lst ((redN p (augM M rr n) M.length).2.map fun i : Nat => V.int (i : Int))) → (∃ es, DqAll H' zs es ∧ Rw es ((redN p (augM M rr n) M.length).1.take (redN p (augM M rr n) M.length).2.length)) → Q (.ref t) H')
theorem Rw.drop {ds : List PyData} {M : List (List PyData)} (h : Rw ds M) (r : Nat) : Rw (ds.drop r) (M.drop r) := by
  unfold Rw
  rw [List.map_drop, List.map_drop, h]
theorem Rw.take {ds : List PyData} {M : List (List PyData)} (h : Rw ds M) (r : Nat) : Rw (ds.take r) (M.take r) := by
  unfold Rw
  rw [List.map_take, List.map_take, h]
theorem Rw.mem {ds : List PyData} {M : List (List PyData)} (h : Rw ds M) {d : PyData} (m : d ∈ ds) : ∃ r ∈ M, itemsD d = some r := by
  have : itemsD d ∈ ds.map itemsD := List.mem_map.mpr ⟨d, m, rfl⟩
  rw [h] at this
  obtain ⟨r, mr, e⟩ := List.mem_map.mp this
  exact ⟨r, mr, e.symm⟩
section
variable {P : Program} {w : World} {K : PySem.W.Frag} {mg : Str → Option Value} {base : Heap}
theorem ok_equations_for (T : Txt K mg) : FnOk P w K mg base CX0 10 T.f_equations_for T.d_equations_for ["field", "rows", "row"] (sp_equations_for T.C_RestField T.C_FractionField) := by
  refine T.F_equations_for.ok sc_equations_for (fun vs H Q E h => ?_) (fun cdv A outer s H vs Q E hr h => ?_)
  · obtain ⟨f, p, n, x, y, dx, dy, ds, rr, M, rfl, _⟩ := h
    rfl
  · obtain ⟨f, p, n, x, y, dx, dy, ds, rr, M, rfl, hf, kx, ex, rw0, ky, ey, gM, lr, nlr, m6, n6, g0, qN, qS⟩ := h
    refine ⟨_, (pss_cons (ps_set (i := 3) sc_equations_for.nd rfl (.inr rfl) (pe_callB call_len_seq (by rfl) T.m_len (by decide +kernel) (pa_cons (pv 1) pa_nil)))
      (pss_cons (ps_asg (pe_call (ok_reduced_rows T) (hr.mono (by decide)) (by rfl) T.g_reduced_rows T.F_reduced_rows.kp T.b_reduced_rows .nil pass0 (pa_cons (pv 0) (pa_cons (pe_call (ok_columns_of T) (hr.mono (by decide)) (by rfl) T.g_columns_of T.F_columns_of.kp T.b_columns_of .nil pass0 (pa_cons (pe_callB call_len_seq (by rfl) T.m_len (by decide +kernel) (pa_cons (pv 2) pa_nil)) (pa_cons (pe_op op_catDL (pe_callTy call_list_of (by rfl) T.m_list (by decide +kernel) (pa_cons (pv 1) pa_nil)) (pe_lst (pa_cons (pv 2) pa_nil))) pa_nil))) (pa_cons (pv 3) pa_nil)))) (pg_tup rfl (pgs_cons (pg_name (i := 4) sc_equations_for.nd rfl (.inl rfl)) (pgs_cons (pg_name (i := 5) sc_equations_for.nd rfl (.inl rfl)) pgs_nil))))
      (Evl.pss_cut (ps_if (pt_val (pe_callB (cr_any rfl) (by rfl) T.m_any (by decide +kernel) (pa_cons (pe_lc rfl sc_equations_for.nd (pi_list (pe_slice sl_listD (pv 4) (po_some (pe_callB call_len_seq (by rfl) T.m_len (by decide +kernel) (pa_cons (pv 5) pa_nil))) po_none)) (blkOk_by (own := [("told", 6)]) (N := ["field", "rows", "row", "many", "reduced", "leads", "told"]) (sc := defScope s_equations_for) (by decide +kernel)) (fun _ _ _ _ _ => (pg_name (i := 6) sc_equations_for.nd rfl (.inl rfl))) (fun _ _ _ _ _ => pts_nil) (fun _ _ _ _ _ => (pe_cmpR (show OpR _ (compareOp .NotEq) (rNeD K) from op_neD hr.units) (show PE _ _ (tOp (rIx K) (tVar 6) (tVar 3)) from pe_ix ix_seq (pv 6) (pv 3) (fun _ _ => rfl)) (show PE _ _ (tFld K (tVar 0) "zero") from pe_fld (pv 0) rfl) (nomark _)))) pa_nil)))
        (pss_one (ps_ret pe_non))
        pss_nil)
      (pss_one (ps_ret (pe_tup (pa_cons (pe_slice sl_listD (pv 4) po_none (po_some (pe_callB call_len_seq (by rfl) T.m_len (by decide +kernel) (pa_cons (pv 5) pa_nil)))) (pa_cons (pv 5) pa_nil)))))))), ?_⟩
    have fp := hf.fp
    obtain ⟨ax, xs, rfl, hxs, hsx⟩ := sq_of (K := K) kx ex
    obtain ⟨ay, ys, rfl, hys, hsy⟩ := sq_of (K := K) ky ey
    have lx := hxs.len
    have ly := hys.len
    have l0 := rw0.len
    refine ⟨_, rfl, ax, xs, rfl, hsx, ?_⟩
    refine ⟨_, rfl, _, rfl, ay, ys, rfl, hsy, _, rfl, ax, xs, rfl, hsx, fun l1 nl1 => ?_⟩
    have s1 := same_new (o := .lst xs) nl1
    refine ⟨_, rfl, (by show 1 ≤ sizeLine; decide), fun l2 nl2 => ?_⟩
    have s2 := same_new (o := .lst [.ref ay]) nl2
    have s12 := s1.trans s2
    refine ⟨ds, [dy], .lst (s2 _ _ upd_same) (DqAll.same s12 _ hxs), .lst upd_same (.cons (ky.same s12) .nil), by show ds.length + 1 ≤ 1000; omega, fun l3 H3 s3 nl3 k3 => ?_⟩
    have s123 := s12.trans s3
    refine ⟨n, .ref l3, .list (ds ++ [dy]), ds ++ [dy], by rw [ly, lr]; rfl, by omega, k3, rfl, by rw [List.length_append]; show ds.length + 1 ≤ 900; omega, fun e me => ?_, fun D H4 s4 nD kD => ?_⟩
    · rcases List.mem_append.mp me with me | me
      · obtain ⟨r, mr, er⟩ := rw0.mem me
        exact ⟨r, er, by rw [(gM r mr).1]; exact Nat.le_refl _, (gM r mr).2⟩
      · rw [List.mem_singleton.mp me]
        exact ⟨rr, ey, by rw [lr]; exact Nat.le_refl _, nlr⟩
    have s14 := s123.trans s4
    have eA : ((List.range n).map fun j => PyData.list (colD (ds ++ [dy]) j)) = (augM M rr n).map .list := by
      unfold augM
      rw [List.map_map]
      exact List.map_congr_left fun j _ => congrArg PyData.list (col_aug rw0 ey j)
    rw [eA] at kD
    have lE : (augM M rr n).length = n := by unfold augM; rw [List.length_map, List.length_range]
    refine ⟨_, rfl, f, p, M.length + 1, M.length, .ref D, .list ((augM M rr n).map .list), (augM M rr n).map .list, augM M rr n, by rw [lx, l0]; rfl, hf.same s14, kD, rfl, rw_lists _, g0, by omega, m6, by omega, by omega, fun t a b zs H5 s5 na nb et ea eb hes => ?_⟩
    obtain ⟨es, ues, rwA⟩ := hes
    obtain ⟨R, iR, φ, F, I⟩ := phi_inv fp
    have ro := red_all F I fp g0 M.length (by omega) m6
    have s15 := s14.trans s5
    refine ⟨t, _, rfl, SqT.of et, rfl, _, _, rfl, _, _, rfl, rfl, ?_⟩
    generalize (redN p (augM M rr n) M.length).1 = A' at *
    generalize (redN p (augM M rr n) M.length).2 = ls at *
    have lA := ro.len
    have lk := ro.lk
    have lz := ues.len
    have lE2 := rwA.len
    have rm := ro.ech.rm
    refine ⟨fun σ H' => σ = [some (.ref f), some (.ref ax), some (.ref ay), some (.int ((xs.length : Nat) : Int)), some (.ref a), some (.ref b), none] ∧ Same H5 H' ∧ incons p M.length A' ls.length = false, ?_, fun σ H' hM => ?_⟩
    · refine if_valC ?_
      refine ⟨_, rfl, _, rfl, b, _, rfl, .inl (SqL.of eb), _, rfl, es, .lst ea ues, fun l6 H6 s6 nl6 k6 => ?_⟩
      rw [List.length_map, cutD_lo] at k6
      cases k6 with
      | @lst _ us _ e6 u6 =>
      obtain ⟨C0, d0, fs0, v0, a1, a2, a3, a4, a5⟩ := fld_zero T ((hf.same s15).same s6)
      have rwD := rwA.drop ls.length
      refine ⟨l6, rfl, ⟨_, SqL.of e6⟩, fun D7 nD7 => ?_⟩
      refine lc_listD2 (f := fun _ => true) (e := fun d => .bool (nzB p ((rowOf d).getD M.length .none))) (SqL.of e6) u6 nD7 (by rw [List.length_drop]; omega) (fun _ => rfl) (fun i x d H' Q _ _ _ h => h _ fun _ _ z => z) (fun i x d H' Q' hd _ _ s7 kd acc q7 => ?_) (fun H' s7 kD => ?_)
      · obtain ⟨r, mr, er⟩ := rwD.mem (List.mem_of_getElem? hd)
        have mA := List.mem_of_mem_drop mr
        have lr' := ro.gm.ln r mA
        have er' : rowOf d = r := by unfold rowOf; rw [er]; rfl
        rw [er'] at q7
        obtain ⟨bb, zs', rfl, hzs, hsz⟩ := sq_of (K := K) kd er
        obtain ⟨vz, hvz, kvz⟩ := dqs_at hzs (i := M.length) (d := r.getD M.length .none) (getD_some (by omega))
        have nb := ro.gm.nb (by omega) r mA _ (getD_mem (j := M.length) (by omega))
        refine ⟨_, rfl, _, rfl, ?_⟩
        refine rix_sq hsz (at_of (j := M.length) (by omega) hvz) ?_
        refine ⟨_, rfl, f, C0, d0, fs0, v0, rfl, s7 _ _ a1, a2, a3, a4, r.getD M.length .none, zeroD p, kvz.dp, (a5.same s7).dp, nb_shp nb, zero_shp p, ?_⟩
        exact q7 _ H' (fun _ _ z => z) (.bl _)
      · rw [List.filter_eq_self.mpr fun _ _ => rfl] at kD
        have eb' : ((es.drop ls.length).map fun d => PyData.bool (nzB p ((rowOf d).getD M.length .none))) = ((A'.drop ls.length).map fun row => nzB p (row.getD M.length .none)).map .bool := by
          have e := congrArg (List.map fun o : Option (List PyData) => PyData.bool (nzB p ((o.getD []).getD M.length .none))) rwD
          rw [List.map_map, List.map_map] at e
          rw [List.map_map]
          exact e
        rw [eb'] at kD
        cases kD with
        | @lst _ bs _ eD uD =>
        have := dq_bools uD
        subst this
        have s57 := s6.trans s7
        refine ⟨D7, (A'.drop ls.length).map fun row => nzB p (row.getD M.length .none), rfl, SqL.of eD, _, rfl, ite2 (fun c => ?_) (fun c => ?_)⟩
        · have c' : incons p M.length A' ls.length = true := by
            unfold incons
            rw [List.any_map] at c
            exact c
          exact qN c' H' (s15.trans s57)
        · refine ⟨rfl, s57, ?_⟩
          cases z : incons p M.length A' ls.length with
          | false => rfl
          | true =>
            unfold incons at z
            rw [List.any_map] at c
            exact absurd z c
    · obtain ⟨rfl, s6, ec⟩ := hM
      refine ⟨_, rfl, ?_⟩
      refine ⟨_, rfl, b, _, rfl, .inl (SqL.of (s6 _ _ eb)), _, rfl, es, .lst (s6 _ _ ea) (DqAll.same s6 _ ues), fun l7 H7 s7 nl7 k7 => ?_⟩
      rw [List.length_map, cutD_hi] at k7
      cases k7 with
      | @lst _ us _ e7 u7 =>
      refine ⟨_, rfl, (by show 2 ≤ sizeLine; decide), fun t2 nt2 => ?_⟩
      have s8 := same_new (o := .tup [.ref l7, .ref b]) nt2
      exact qS ec t2 l7 b us _ (((s15.trans s6).trans s7).trans s8) upd_same (s8 _ _ e7) (s8 _ _ (s7 _ _ (s6 _ _ eb))) ⟨es.take ls.length, DqAll.same s8 _ u7, rwA.take ls.length⟩
end
end K26
set_option Elab.async false
set_option linter.all false
set_option maxRecDepth 100000
set_option maxHeartbeats 4000000
set_option exponentiation.threshold 5000
set_option pp.maxSteps 900
namespace K26
open PySem PySem.Spec PyProof.Rows L2 TkS LamX NdefX
/-- the weights that the reduced equations tell -/
def wtN (p m : Nat) (A : List (List PyData)) (ls : List Nat) : Nat → List PyData
  | 0 => List.replicate m (zeroD p)
  | j + 1 => (wtN p m A ls j).set (ls.getD j 0) ((A.getD j []).getD m .none)
theorem wt_len {p m : Nat} {A : List (List PyData)} {ls : List Nat} : ∀ {j}, (wtN p m A ls j).length = m
  | 0 => by show (List.replicate m _).length = m; rw [List.length_replicate]
  | j + 1 => by
    show ((wtN p m A ls j).set _ _).length = m
    rw [List.length_set]
    exact wt_len
theorem wt_mem {p m : Nat} {A : List (List PyData)} {ls : List Nat} {G : PyData → Prop} (z : G (zeroD p)) : ∀ {j}, (∀ i, i < j → G ((A.getD i []).getD m .none)) → ∀ d ∈ wtN p m A ls j, G d
  | 0, _, d, md => by
    have md : d ∈ List.replicate m (zeroD p) := md
    rw [(List.mem_replicate.mp md).2]
    exact z
  | j + 1, h, d, md => by
    rcases List.mem_or_eq_of_mem_set md with m' | e
    · exact wt_mem z (fun i hi => h i (by omega)) d m'
    · rw [e]
      exact h j (by omega)
def weightsD (p m : Nat) (A : List (List PyData)) : List PyData := wtN p m (redN p A m).1 (redN p A m).2 (redN p A m).2.length
def sp_weights_for (CR CF : Addr) : Sp := fun vs H Q _ => ∃ (f : Addr) (p n : Nat) (x y : V) (dx dy : PyData) (ds rr : List PyData) (M : List (List PyData)), vs = [.ref f, x, y] ∧ Fld CR CF H f p ∧ Dq H x dx ∧ itemsD dx = some ds ∧ Rw ds M ∧ Dq H y dy ∧ itemsD dy = some rr ∧ (∀ r ∈ M, r.length = n ∧ noLists r = true) ∧ rr.length = n ∧ noLists rr = true ∧ M.length ≤ 6 ∧ n ≤ 6 ∧ Gm p (M.length + 1) 0 (augM M rr n) ∧
  (incons p M.length (redN p (augM M rr n) M.length).1 (redN p (augM M rr n) M.length).2.length = true → ∀ H', Same H H' → Q .non H') ∧
  (incons p M.length (redN p (augM M rr n) M.length).1 (redN p (augM M rr n) M.length).2.length = false → ∀ t H', Same H H' → H t = none → Dq H' (.ref t) (.tuple (weightsD p M.length (augM M rr n))) → Q (.ref t) H')
theorem dqs_rep {H : Hp} {v : V} {d : PyData} (k : Dq H v d) : ∀ n, DqAll H (List.replicate n v) (List.replicate n d)
  | 0 => .nil
  | n + 1 => .cons k (dqs_rep k n)
theorem rep_one {α : Type} (v : α) : ∀ n, (List.replicate n [v]).flatten = List.replicate n v
  | 0 => rfl
  | n + 1 => by
    rw [List.replicate_succ, List.flatten_cons, rep_one v n]
    rfl
section
variable {P : Program} {w : World} {K : PySem.W.Frag} {mg : Str → Option Value} {base : Heap}
theorem ok_weights_for (T : Txt K mg) : FnOk P w K mg base CX0 11 T.f_weights_for T.d_weights_for ["field", "rows", "row"] (sp_weights_for T.C_RestField T.C_FractionField) := by
  refine T.F_weights_for.ok sc_weights_for (fun vs H Q E h => ?_) (fun cdv A outer s H vs Q E hr h => ?_)
  · obtain ⟨f, p, n, x, y, dx, dy, ds, rr, M, rfl, _⟩ := h
    rfl
  · obtain ⟨f, p, n, x, y, dx, dy, ds, rr, M, rfl, hf, kx, ex, rw0, ky, ey, gM, lr, nlr, m6, n6, g0, qN, qS⟩ := h
    refine ⟨_, (pss_cons (ps_set (i := 3) sc_weights_for.nd rfl (.inl rfl) (pe_call (ok_equations_for T) (hr.mono (by decide)) (by rfl) T.g_equations_for T.F_equations_for.kp T.b_equations_for .nil pass0 (pa_cons (pv 0) (pa_cons (pv 1) (pa_cons (pv 2) pa_nil)))))
      (pss_cons (ps_if (pt_cmpR op_isN (pv 3) pe_non (nomark _))
        (pss_one (ps_ret pe_non))
        pss_nil)
      (pss_cons (ps_set (i := 4) sc_weights_for.nd rfl (.inl rfl) (pe_op op_rep (pe_lst (pa_cons (pe_fld (pv 0) rfl) pa_nil)) (pe_callB call_len_seq (by rfl) T.m_len (by decide +kernel) (pa_cons (pv 1) pa_nil))))
      (pss_cons (ps_for PassesOwn.never rfl (RZM.pi_zipS (by rfl) T.m_zip (pa_cons (show PE _ _ (tOp (rIx K) (tVar 3) (tC (.int 0))) from pe_ix ix_seq (pv 3) pe_int (fun _ _ => rfl)) (pa_cons (show PE _ _ (tOp (rIx K) (tVar 3) (tC (.int 1))) from pe_ix ix_seq (pv 3) pe_int (fun _ _ => rfl)) pa_nil))) (pg_tup rfl (pgs_cons (pg_name (i := 5) sc_weights_for.nd rfl (.inl rfl)) (pgs_cons (pg_name (i := 6) sc_weights_for.nd rfl (.inl rfl)) pgs_nil)))
        (pss_one (ps_asg (pe_ix ix_seq (pv 5) (pe_un un_neg pe_int) (fun _ _ => rfl)) (pg_sub (pv 4) (pv 6) set_list))))
      (pss_one (ps_ret (pe_callTy call_tuple_of (by rfl) T.m_tuple (by decide +kernel) (pa_cons (pv 4) pa_nil)))))))), ?_⟩
    have fp := hf.fp
    obtain ⟨ax, xs, rfl, hxs, hsx⟩ := sq_of (K := K) kx ex
    have lx := hxs.len
    have l0 := rw0.len
    refine ⟨_, rfl, _, rfl, _, rfl, f, p, n, .ref ax, y, dx, dy, ds, rr, M, rfl, hf, kx, ex, rw0, ky, ey, gM, lr, nlr, m6, n6, g0, fun ec H1 s1 => ?_, fun ec t a b zs H1 s1 et ea eb hes => ?_⟩
    · refine ⟨_, rfl, rfl, _, rfl, ite2 (fun _ => qN ec H1 s1) (fun c => absurd rfl c)⟩
    · refine ⟨_, rfl, rfl, _, rfl, ite2 (fun c => absurd c (by simp)) (fun _ => ?_)⟩
      obtain ⟨es, ues, rwE⟩ := hes
      obtain ⟨R, iR, φ, F, I⟩ := phi_inv fp
      have lE : (augM M rr n).length = n := by unfold augM; rw [List.length_map, List.length_range]
      have ro := red_all F I fp g0 M.length (by omega) m6
      have qS := qS ec
      unfold weightsD at qS
      generalize (redN p (augM M rr n) M.length).1 = A' at *
      generalize (redN p (augM M rr n) M.length).2 = ls at *
      have lA := ro.len
      have lk := ro.lk
      have rm := ro.ech.rm
      have lz := ues.len
      have lE2 := rwE.len
      rw [List.length_take] at lE2
      obtain ⟨C0, d0, fs0, v0, a1, a2, a3, a4, a5⟩ := fld_zero T (hf.same s1)
      refine ⟨_, rfl, f, C0, d0, fs0, v0, rfl, a1, a2, a3, a4, (by show 1 ≤ sizeLine; decide), fun l2 nl2 => ?_⟩
      have s2 := same_new (o := .lst [v0]) nl2
      refine ⟨_, rfl, ax, xs, rfl, (hsx.same s1).same s2, l2, _, [v0], rfl, rfl, upd_same, by omega, by omega, ?_, fun W nW => ?_⟩
      · show 1 * _ ≤ sizeLine
        rw [Int.toNat_natCast]
        have : (900 : Nat) ≤ sizeLine := by decide
        omega
      rw [rep_one, Int.toNat_natCast, show xs.length = M.length by omega]
      have s3 := same_new (o := .lst (List.replicate M.length v0)) nW
      have s123 := (s1.trans s2).trans s3
      have eaW := s3 _ _ (s2 _ _ ea)
      have ebW := s3 _ _ (s2 _ _ eb)
      have etW := s3 _ _ (s2 _ _ et)
      have sOff : Same (upd H1 l2 (.lst [v0])) (TkS.Off W (upd (upd H1 l2 (.lst [v0])) W (.lst (List.replicate M.length v0)))) := fun b' o e => off_at (ne_of_none e nW) (s3 b' o e)
      have uesW := DqAll.same (s2.trans sOff) _ ues
      have a5W := (a5.same s2).same sOff
      have eW3 : (upd (upd H1 l2 (.lst [v0])) W (.lst (List.replicate M.length v0))) W = some (.lst (List.replicate M.length v0)) := upd_same
      have nWH : H W = none := (s1.trans s2).free nW
      have nlzs : noLists (es.take 0) = true := rfl
      have nbA : ∀ i, i < ls.length → Nb p 4300 ((A'.getD i []).getD M.length .none) := fun i hi => by
        have mi := getD_memL (M := A') (i := i) (by omega)
        exact ro.gm.nb (by omega) _ mi _ (getD_mem (by rw [ro.gm.ln _ mi]; omega))
      have nlW : ∀ j, j ≤ ls.length → noLists (wtN p M.length A' ls j) = true := fun j hj => noLs_all fun d md => wt_mem (G := fun d => noList d = true) (nb_noL (nb_zero fp (Nat.le_refl 1))) (fun i hi => nb_noL (nbA i (by omega))) d md
      generalize upd (upd H1 l2 (.lst [v0])) W (.lst (List.replicate M.length v0)) = H3 at *
      have neb : W ≠ b := fun z => by rw [z] at nW; rw [s2 _ _ eb] at nW; cases nW
      have nea : W ≠ a := fun z => by rw [z] at nW; rw [s2 _ _ ea] at nW; cases nW
      refine ⟨_, rfl, ?_⟩
      refine rix_sq (.inr (SqT.of etW)) (at_of (j := 0) rfl rfl) ?_
      refine ⟨_, rfl, ?_⟩
      refine rix_sq (.inr (SqT.of etW)) (at_of (j := 1) rfl rfl) ?_
      refine ⟨false, false, a, b, zs, _, rfl, SqL.of eaW, SqL.of ebW, ?_⟩
      refine RZM.for_zipS (xs := zs) (ys := ls.map fun i : Nat => V.int (i : Int)) (by rw [List.length_map]; omega) (fun i σ H' => ∃ vs y5 y6, σ = [some (.ref f), some (.ref ax), some y, some (.ref t), some (.ref W), y5, y6] ∧ Same (TkS.Off W H3) H' ∧ H' W = some (.lst vs) ∧ DqAll (TkS.Off W H') vs (wtN p M.length A' ls i))
        ⟨_, none, none, rfl, ?_, eW3, ?_⟩ (fun i σ H' hP => ?_) (fun i x1 x2 Z σ H' hx1 hx2 hP nZ => ?_) (fun σ H' hP => ?_)
      · exact off_same
      · exact dqs_rep a5W _
      · obtain ⟨vs, y5, y6, rfl, sm, eW, kW⟩ := hP
        exact ⟨SqL.of (sm _ _ (off_at nea.symm eaW)), SqL.of (sm _ _ (off_at neb.symm ebW))⟩
      · obtain ⟨vs, y5, y6, rfl, sm, eW, kW⟩ := hP
        have sZ : Same H' (upd H' Z (.tup [x1, x2])) := same_new nZ
        have hil : i < ls.length := by have := (List.getElem?_eq_some_iff.mp hx1).1; omega
        rw [List.getElem?_map, List.getElem?_eq_getElem hil] at hx2
        obtain rfl := Option.some.inj hx2
        obtain ⟨di, hdi, edi⟩ := rwE.at_ (i := i) (by rw [List.length_take]; omega)
        obtain ⟨x1', hx1', kx1⟩ := dqs_at (DqAll.same (sm.trans sZ) _ uesW) hdi
        rw [hx1] at hx1'
        obtain rfl := Option.some.inj hx1'
        have eT : (A'.take ls.length).getD i [] = A'.getD i [] := by
          rw [List.getD_eq_getElem?_getD, List.getElem?_take_of_lt hil, ← List.getD_eq_getElem?_getD]
        rw [eT] at edi
        have mi := getD_memL (M := A') (i := i) (by omega)
        have li := ro.gm.ln _ mi
        obtain ⟨bb, rs, rfl, hrs, hsr⟩ := sq_of (K := K) kx1 edi
        obtain ⟨vq, hvq, kvq⟩ := dqs_at hrs (i := M.length) (d := (A'.getD i []).getD M.length .none) (getD_some (by omega))
        have lrs := hrs.len
        have lvs := kW.len
        rw [wt_len] at lvs
        have lt := ro.ech.lt i hil
        refine ⟨Z, _, rfl, SqT.of upd_same, rfl, _, _, rfl, _, _, rfl, rfl, ?_⟩
        refine ⟨_, rfl, _, rfl, ?_⟩
        refine rix_sq hsr (v := vq) ?_ ?_
        · unfold atI ixN
          rw [if_neg (by decide), if_pos (by omega), show ((-1 + (rs.length : Int)).toNat) = M.length by omega]
          exact hvq
        refine ⟨_, rfl, _, rfl, W, vs, ((ls[i] : Nat) : Int), ls[i], rfl, rfl, sZ _ _ eW, ?_, ?_⟩
        · have : ls.getD i 0 = ls[i] := by rw [List.getD_eq_getElem?_getD, List.getElem?_eq_getElem hil]; rfl
          unfold ixN
          rw [if_pos (by omega), if_pos (by omega)]
          rfl
        · refine ⟨_, _, _, rfl, fun b' o e => ?_, upd_same, ?_⟩
          · have ne' : b' ≠ W := fun z => by
              rw [z] at e
              unfold TkS.Off at e
              rw [if_pos rfl] at e
              cases e
            rw [upd_ne ne']
            exact sZ _ _ (sm _ _ e)
          · rw [off_put]
            have kq := dq_noL (sZ _ _ eW) _ (nb_noL (nbA i hil)) kvq
            have := (DqAll.same (off_of sZ) _ kW).set ls[i] kq
            have e2 : ls.getD i 0 = ls[i] := by rw [List.getD_eq_getElem?_getD, List.getElem?_eq_getElem hil]; rfl
            rw [← e2] at this
            rw [← e2]
            exact this
      · obtain ⟨vs, y5, y6, rfl, sm, eW, kW⟩ := hP
        refine ⟨_, rfl, W, vs, rfl, .inl ⟨SqL.of eW, fun l nl => ?_⟩⟩
        have s4 := same_new (o := .tup vs) nl
        have sH : Same H (TkS.Off W H3) := fun b' o e => sOff _ _ (s2 _ _ (s1 _ _ e))
        refine qS l _ (fun b' o e => s4 _ _ (sm _ _ (sH _ _ e))) ((sH.trans sm).free nl) (.tup upd_same ?_)
        rw [show zs.length = ls.length by omega] at kW
        exact DqAll.same (off_same.trans s4) _ kW
end
end K26
set_option Elab.async false
set_option linter.all false
set_option maxRecDepth 100000
set_option maxHeartbeats 4000000
set_option exponentiation.threshold 5000
set_option pp.maxSteps 900
namespace K26
open PySem PySem.Spec PyProof.Rows L2 TkS LamX NdefX
def unitD (p n i : Nat) : List PyData := (List.range n).map fun j => if j = i then oneD p else zeroD p
def sp_unit_row (CR CF : Addr) : Sp := fun vs H Q _ => ∃ (f : Addr) (p n i : Nat), vs = [.ref f, .int (n : Int), .int (i : Int)] ∧ Fld CR CF H f p ∧ n ≤ 6 ∧ ∀ v H', Same H H' → Dq H' v (.tuple (unitD p n i)) → Q v H'
def sp_beside : Sp := fun vs H Q _ => ∃ (x y : V) (dx dy : PyData) (ds es : List PyData) (M N : List (List PyData)), vs = [x, y] ∧ Dq H x dx ∧ itemsD dx = some ds ∧ Rw ds M ∧ Dq H y dy ∧ itemsD dy = some es ∧ Rw es N ∧ M.length = N.length ∧ M.length ≤ 900 ∧ (∀ r ∈ M, r.length ≤ 400 ∧ noLists r = true) ∧ (∀ r ∈ N, r.length ≤ 400 ∧ noLists r = true) ∧
  ∀ D H', Same H H' → H D = none → Dq H' (.ref D) (.list ((List.zipWith (· ++ ·) M N).map .list)) → Q (.ref D) H'
section
variable {P : Program} {w : World} {K : PySem.W.Frag} {mg : Str → Option Value} {base : Heap}
theorem ok_unit_row (T : Txt K mg) : FnOk P w K mg base CX0 1 T.f_unit_row T.d_unit_row ["field", "length", "place"] (sp_unit_row T.C_RestField T.C_FractionField) := by
  refine T.F_unit_row.ok sc_unit_row (fun vs H Q E h => ?_) (fun cdv A outer s H vs Q E hr h => ?_)
  · obtain ⟨f, p, n, i, rfl, _⟩ := h
    rfl
  · obtain ⟨f, p, n, i, rfl, hf, n6, q⟩ := h
    refine ⟨_, (pss_one (ps_ret (pe_callTy call_tupD (by rfl) T.m_tuple (by decide +kernel) (pa_cons (pe_lc rfl sc_unit_row.nd (pi_range1 (by rfl) T.m_range (pa_cons (pv 1) pa_nil)) (blkOk_by (own := [("at", 3)]) (N := ["field", "length", "place", "at"]) (sc := defScope s_unit_row) (by decide +kernel)) (fun _ _ _ _ _ => (pg_name (i := 3) sc_unit_row.nd rfl (.inl rfl))) (fun _ _ _ _ _ => pts_nil) (fun _ _ _ _ _ => (pe_ifExp (pt_cmpR op_eq (pv 3) (pv 2) (nomark _)) (show PE _ _ (tFld K (tVar 0) "one") from pe_fld (pv 0) rfl) (show PE _ _ (tFld K (tVar 0) "zero") from pe_fld (pv 0) rfl)))) pa_nil)))), ?_⟩
    refine ⟨_, rfl, (n : Int), rfl, by omega, by omega, fun D nD => ?_⟩
    rw [show ((n : Nat) : Int).toNat = n by omega]
    refine lc_rngD (fun _ => true) (fun j => if j = i then oneD p else zeroD p) nD (by omega) (fun _ => rfl) (fun j H1 Q1 hj s1 q1 => q1 _ fun _ _ z => z) (fun j H1 Q1 hj _ s1 acc q1 => ?_) (fun H1 s1 kD => ?_)
    · obtain ⟨ac, hac⟩ := acc
      refine ⟨_, rfl, _, rfl, rfl, _, rfl, ite2 (fun c => ?_) (fun c => ?_)⟩
      · have c' : j = i := by
          rw [int_dec] at c
          have := of_decide_eq_true c
          omega
        obtain ⟨C0, d0, fs0, v0, a1, a2, a3, a4, a5⟩ := fld_one T (hf.same s1)
        refine ⟨_, rfl, f, C0, d0, fs0, v0, rfl, a1, a2, a3, a4, ?_⟩
        rw [if_pos c'] at q1
        exact q1 _ H1 (fun _ _ z => z) (dq_noL hac _ (nb_noL (nb_one (k := 1) hf.fp (Nat.le_refl 1))) a5)
      · have c' : ¬ j = i := fun z => c (by rw [int_dec]; exact decide_eq_true (by omega))
        obtain ⟨C0, d0, fs0, v0, a1, a2, a3, a4, a5⟩ := fld_zero T (hf.same s1)
        refine ⟨_, rfl, f, C0, d0, fs0, v0, rfl, a1, a2, a3, a4, ?_⟩
        rw [if_neg c'] at q1
        exact q1 _ H1 (fun _ _ z => z) (dq_noL hac _ (nb_noL (nb_zero (k := 1) hf.fp (Nat.le_refl 1))) a5)
    · rw [List.filter_eq_self.mpr fun _ _ => rfl] at kD
      exact ⟨.ref D, _, _, rfl, kD, rfl, fun l H2 s2 k2 => q (.ref l) H2 (s1.trans s2) k2⟩
theorem ok_beside (T : Txt K mg) : FnOk P w K mg base CX0 1 T.f_beside T.d_beside ["rows", "others"] sp_beside := by
  refine T.F_beside.ok sc_beside (fun vs H Q E h => ?_) (fun cdv A outer s H vs Q E hr h => ?_)
  · obtain ⟨x, y, dx, dy, ds, es, M, N, rfl, _⟩ := h
    rfl
  · obtain ⟨x, y, dx, dy, ds, es, M, N, rfl, kx, ex, rM, ky, ey, rN, lMN, l9, hM, hN, q⟩ := h
    refine ⟨_, (pss_one (ps_ret (pe_lc rfl sc_beside.nd (RZM.pi_zipS (by rfl) T.m_zip (pa_cons (pv 0) (pa_cons (pv 1) pa_nil))) (blkOk_by (own := [("row", 2), ("other", 3)]) (N := ["rows", "others", "row", "other"]) (sc := defScope s_beside) (by decide +kernel)) (fun _ _ _ _ _ => (show PG _ _ (gTup K 2 (gCons (gName 2) (gCons (gName 3) gNil))) from pg_tup rfl (pgs_cons (pg_name (i := 2) sc_beside.nd rfl (.inl rfl)) (pgs_cons (pg_name (i := 3) sc_beside.nd rfl (.inl rfl)) pgs_nil)))) (fun _ _ _ _ _ => pts_nil) (fun _ _ _ _ _ => (pe_op op_catDL (pe_callTy call_lstD (by rfl) T.m_list (by decide +kernel) (pa_cons (pv 2) pa_nil)) (pe_callTy call_lstD (by rfl) T.m_list (by decide +kernel) (pa_cons (pv 3) pa_nil))))))), ?_⟩
    obtain ⟨ax, xs, rfl, hxs, hsx⟩ := sq_of (K := K) kx ex
    obtain ⟨ay, ys, rfl, hys, hsy⟩ := sq_of (K := K) ky ey
    obtain ⟨t1, ht1⟩ := sqs_of' hsx
    obtain ⟨t2, ht2⟩ := sqs_of' hsy
    have l1 := rM.len
    have l2 := rN.len
    have ro : ∀ {d : PyData} {L : List (List PyData)} {es : List PyData}, Rw es L → d ∈ es → (∀ r ∈ L, r.length ≤ 400 ∧ noLists r = true) → ∃ r, itemsD d = some r ∧ rowOf d = r ∧ r.length ≤ 400 ∧ noLists r = true := fun {d L es} rw' m h => by
      obtain ⟨r, mr, er⟩ := rw'.mem m
      exact ⟨r, er, by unfold rowOf; rw [er]; rfl, h r mr⟩
    refine ⟨_, rfl, _, rfl, t1, t2, ax, ay, xs, ys, rfl, ht1, ht2, fun D nD => ?_⟩
    refine lc_zipD (K := K) (t1 := t1) (t2 := t2) (ds := ds) (es := es) (fun a b => .list (rowOf a ++ rowOf b)) hxs hys (by omega) (by omega) nD ht1 ht2 (fun i x0 y0 u u' T' H3 R N' hu hu' s3 hT kx0 ky0 hacc yes => ?_) (fun H3 s3 hD => ?_)
    · obtain ⟨acc, ha⟩ := hacc
      obtain ⟨r, er, eo, lr, nr⟩ := ro rM (List.mem_of_getElem? hu) hM
      obtain ⟨r', er', eo', lr', nr'⟩ := ro rN (List.mem_of_getElem? hu') hN
      rw [eo, eo'] at yes
      refine ⟨T', _, rfl, SqT.of hT, rfl, _, _, rfl, _, _, rfl, rfl, rfl, ?_⟩
      refine ⟨_, rfl, x0, u, r, rfl, kx0, er, fun la H4 s4 na ka => ?_⟩
      refine ⟨_, rfl, y0, u', r', rfl, ky0.same s4, er', fun lb H5 s5 nb kb => ?_⟩
      refine ⟨r, r', ka.same s5, kb, by omega, fun l H6 s6 nl k6 => ?_⟩
      have s36 := (s4.trans s5).trans s6
      refine yes _ H6 s36 ?_
      have hD6 := s36 _ _ ha
      cases k6 with
      | lst e u =>
        refine .lst (off_at (fun z => ?_) e) (dqs_noL hD6 _ (noLs_all fun x m => ?_) u)
        · rw [z, (s4.trans s5) _ _ ha] at nl
          cases nl
        · rcases List.mem_append.mp m with m | m
          · exact noLs_mem nr m
          · exact noLs_mem nr' m
    · refine q D H3 s3 nD ?_
      have e1 : List.zipWith (fun a b => PyData.list (rowOf a ++ rowOf b)) ds es = (List.zipWith (· ++ ·) M N).map .list := by
        have eM : M = ds.map rowOf := by
          have := congrArg (List.map fun o : Option (List PyData) => o.getD []) rM
          rw [List.map_map, List.map_map] at this
          have h2 : M.map ((fun o : Option (List PyData) => o.getD []) ∘ some) = M := by
            refine (List.map_congr_left fun _ _ => ?_).trans (List.map_id M)
            rfl
          rw [h2] at this
          exact this.symm
        have eN : N = es.map rowOf := by
          have := congrArg (List.map fun o : Option (List PyData) => o.getD []) rN
          rw [List.map_map, List.map_map] at this
          have h2 : N.map ((fun o : Option (List PyData) => o.getD []) ∘ some) = N := by
            refine (List.map_congr_left fun _ _ => ?_).trans (List.map_id N)
            rfl
          rw [h2] at this
          exact this.symm
        rw [eM, eN, List.zipWith_map, List.map_zipWith]
      rw [← e1]
      exact hD
end
end K26
set_option Elab.async false
set_option linter.all false
set_option maxRecDepth 100000
set_option maxHeartbeats 4000000
/-! errors with an own __init__ whose context is known to be None; a try whose suite raises another error -/
namespace TkS
open PySem PySem.Spec PyProof.Rows L2
theorem CX.ofN {P : Program} {w : World} {outer : List Env} {H : Hp} {s : Shared} {E : XK} {u : Value} {s' : Shared} (c : L2N.CX P w outer H s E u s') : L2.CX P w outer H s E u s' := by
  obtain ⟨a, B, H', cls, d, e, fl, r⟩ := c
  exact ⟨a, B, H', cls, d, e, L2H.flyingZ_imp (fun _ z => z.zc) fl, r⟩
theorem FnOk.ofN {P : Program} {w : World} {K : PySem.W.Frag} {mg : Str → Option Value} {base : Heap} {k : Nat} {f : Addr} {fd : FuncData} {ps : List Str} {sp : Sp} (F : FnOk P w K mg base (L2N.CX P w) k f fd ps sp) : FnOk P w K mg base (L2.CX P w) k f fd ps sp :=
  ⟨F.len, fun A outer s H args us vs Q E hr e0 hb r hsp => codeAny_mono (F.run A outer s H args us vs Q E hr e0 hb r hsp) fun r s' h => by
    cases r with
    | error e => exact CX.ofN h
    | ok fl => cases fl <;> exact h⟩
theorem Fun.okN {P : Program} {w : World} {K : PySem.W.Frag} {mg : Str → Option Value} {base : Heap} {x qual : Str} {st : Stmt} {f : Addr} {fd : FuncData} {N ps : List Str} {k : Nat} {sp : Sp} (F : Fun K x qual st f fd) (S : FnScope N ps (defScope st)) (len : ∀ vs H Q E, sp vs H Q E → vs.length = ps.length)
    (hbody : ∀ (cdv : Value) (A : Around) (outer : List Env) (s : Shared) (H : Hp) (vs : List V) (Q : VK) (E : XK), Room k (A.deeper (envOfC qual (defScope st) s.heap.objs.size f cdv)) → sp vs H Q E →
      ∃ t, PSs (cxOf (L2N.CX P w) P w K mg base N qual (defScope st) f cdv A outer s H E) (defBody st) t ∧ t { nx := fun _ H' => Q .non H', rt := Q } (start N vs) H) : FnOk P w K mg base (L2N.CX P w) (k + 1) f fd ps sp := by
  obtain ⟨oc, od, kV, doc, pm, an, cdv, ct, osl, rfl, lk, hcd⟩ := F.ex
  exact fn_of lk hcd S len fun A outer s H vs Q E hr hsp => hbody cdv A outer s H vs Q E hr hsp
section
variable {X : Cx} {e : Expr} {es : List Expr} {ta : TA} {p pos : Pos}
theorem mk_endN {pins : List (Addr × Obj)} {σ : L2.St} {H1 H2 : Hp} {Q : XK} {hp hp2 h2 : Heap} {g1 g2 : Array GenState} {d1 d2 : Drawn} {t1 t2 : Nat} {os1 os2 : OsState} {a C d p : Addr} {fs : List (Str × V)} (T : Raises X (.ref C)) (I1 : Inv X pins σ H1 ⟨hp, g1, d1, t1, os1⟩)
    (ha : hp.objs.size ≤ a) (k : ∀ b o, hp.get? b = some o → hp2.get? b = some o) (un : Un (frs X.stack) [] (upd H1 a (exo a C none)) H2 hp2 h2) (hok : HOk X.prog X.w H2 h2) (ho : os2 = os1) (hb : AllBare g2)
    (ea : H2 a = some (exo a C (some d))) (ed : H2 d = some (exd d fs)) (hd1 : H1 d = none) (q : Q (.ref C) (some d) (upd (del H2 a) d (.xd fs))) : L2N.MkP X pins σ Q (.ref a) ⟨h2, g2, d2, t2, os2⟩ := by
  obtain ⟨t0, G, J, kG, ge, hoe, na⟩ := mk_end0 (d2 := d2) (t2 := t2) I1 ha k un hok ho hb ea ed hd1
  refine ⟨a, _, _, ⟨G, g2, d2, t2, os2⟩, _, .ref C, some d, rfl, J, kG, ge, hoe, ⟨rfl, rfl, fun vs hv => ?_⟩, rfl, rfl, na, rfl, hb, T, q⟩
  cases hv
  rfl
theorem pmkN_oex {CX : CXT} {x : Str} {C fI : Addr} {k : Nat} {fd : FuncData} {ps : List Str} {sp : Sp} {ds : List Value} {dvs : List V} (T : OexC X.K C) (iC : PySem.W.findIn X.K (.ref C) "__init__" = some (some (.ref fI))) (tI : PySem.W.typeIn X.K (.ref fI) = some (.type "function"))
    (F1 : FnOk X.prog X.w X.K X.mg X.base CX k fI fd ps sp) (hr : Room (k + 1) X.A) (hb : Binds X.K fd ps ds) (hd : Vals dvs ds) (hx : Passes CX X (fun _ _ _ => False)) (hg : Gl X x) (hm : X.mg x = some (.ref C)) (ha : PA X (e :: es) ta)
    (hdb : (x == ("__debug__" : Str)) = false := by decide) (he : starEach (e :: es) X.env = (false, eval e X.env) :: starEach es X.env := by rfl) (hpl : (backTo pos (starEach es X.env)).any (·.1) = false := by rfl) :
    L2N.PMk X (.Call (.Name x p) (e :: es) [] pos) (tMkO C sp dvs ta) := by
  intro pins s σ H Q I h
  obtain ⟨nm, q, N, bs, bm, sn, sub, ab, col, dd, k0, k1, k2, k3, k5, hC, hbm⟩ := T.cls
  refine wpAny_Call_Name_kw (ld_glob I hg hm ?_ hdb)
  refine PySem.W.callWith_K (h₀ := X.base) I.ok.mod.kin T.kC (thn (ha.run pos pins s σ H _ I h) fun us s1 ⟨vs, H1, I1, r1, hz, q1⟩ => ⟨I1.kIn, ?_⟩) he hpl
  show wpAny _ _ (call (.ref C) us) _ _ _
  obtain ⟨hp, g, dr, tk, os⟩ := s1
  have hsz : hp.objs.size ≤ hp.objs.size + 1 := Nat.le_succ _
  have hn : H1 (hp.objs.size + 1) = none := I1.hok.fresh hsz
  have hq := q1 (hp.objs.size + 1) hn
  have kk : ∀ b o, hp.get? b = some o → ((hp.push (PySem.W.kdv_tup us)).push (PySem.HandSPX.excO C hp.objs.size)).get? b = some o := fun b o e => Heap.get?_push_of_some _ (Heap.get?_push_of_some _ e)
  have hget : ((hp.push (PySem.W.kdv_tup us)).push (PySem.HandSPX.excO C hp.objs.size)).get? (hp.objs.size + 1) = some (PySem.HandSPX.excO C hp.objs.size) := by heap_get
  have I2 : Inv X pins σ (upd H1 (hp.objs.size + 1) (exo (hp.objs.size + 1) C none)) ⟨(hp.push (PySem.W.kdv_tup us)).push (PySem.HandSPX.excO C hp.objs.size), g, dr, tk, os⟩ :=
    I1.laid (t' := tk) (a := hp.objs.size + 1) (o := exo (hp.objs.size + 1) C none) (h' := (hp.push (PySem.W.kdv_tup us)).push (PySem.HandSPX.excO C hp.objs.size)) kk hsz (exo_ok hget)
  have r2 : Vals (V.ref (hp.objs.size + 1) :: (vs ++ dvs)) (Value.ref (hp.objs.size + 1) :: (us ++ ds)) := .cons rfl (r1.append hd)
  have hl : (Value.ref (hp.objs.size + 1) :: us ++ ds).length = ps.length := by
    have e := r2.length
    rw [F1.len _ _ _ _ hq] at e
    exact e.symm
  have hus : us.length ≤ sizeLine := by
    rw [← Paired.length r1, sizeLine_eq]
    omega
  refine wpAny_call (PySem.HandSPX.call_own F.excBase_ValueError (fun Y => PySem.HandSPX.refsVE_contains Y bm hbm) (I1.kIn _ _ hC) (PySem.W.looks_findIn I1.kIn iC) (fun self => PySem.W.bind_fn I1.kIn self tI) hus
    (codeAny_mono (F1.run _ X.stack _ _ ⟨Value.ref (hp.objs.size + 1) :: us, []⟩ (Value.ref (hp.objs.size + 1) :: (us ++ ds)) _ _ (fun _ _ _ => False) (hr.make C us []) (I2.env0.make C us []) (hb _ (Value.ref (hp.objs.size + 1) :: us) I2.kIn hl) r2 hq) fun r s' hq' => ?_))
  cases r with
  | error er => exact hx pins σ _ _ er s' I2 hq'
  | ok fl =>
    cases fl with
    | ret u =>
      obtain ⟨v, H2, os2, bare2, un2, hok2, rv, ev, d, fs, ea, ed, hd1, q2⟩ := hq'
      subst ev
      obtain ⟨h2, g2, d2, t2, os'⟩ := s'
      exact ⟨rv, mk_endN (p := hp.objs.size) (raises_own T.exC T.tyC) I1 hsz kk un2 hok2 os2 bare2 ea ed hd1 q2⟩
    | next => exact False.elim hq'
    | brk => exact False.elim hq'
    | cont => exact False.elim hq'
end
theorem Fun.okH {P : Program} {w : World} {K : PySem.W.Frag} {mg : Str → Option Value} {base : Heap} {x qual : Str} {st : Stmt} {f : Addr} {fd : FuncData} {N ps : List Str} {k : Nat} {sp : Sp} (F : Fun K x qual st f fd) (S : FnScope N ps (defScope st)) (len : ∀ vs H Q E, sp vs H Q E → vs.length = ps.length)
    (hbody : ∀ (cdv : Value) (A : Around) (outer : List Env) (s : Shared) (H : Hp) (vs : List V) (Q : VK) (E : XK) (p : Addr × Obj), L2H.Hot1 A p → L2H.RoomH k (A.deeper (envOfC qual (defScope st) s.heap.objs.size f cdv)) → sp vs H Q E →
      ∃ t, PSs (L2H.cxH CX0 P w K mg base N qual (defScope st) f cdv A outer s H E p) (defBody st) t ∧ t { nx := fun _ H' => Q .non H', rt := Q } (start N vs) H) : L2H.FnH P w K mg base CX0 (k + 1) f fd ps sp := by
  obtain ⟨oc, od, kV, doc, pm, an, cdv, ct, osl, rfl, lk, hcd⟩ := F.ex
  exact L2H.fn_ofH lk hcd S len fun A outer s H vs Q E p hot hr hsp => hbody cdv A outer s H vs Q E p hot hr hsp
end TkS
set_option Elab.async false
set_option linter.all false
set_option maxRecDepth 100000
set_option maxHeartbeats 4000000
set_option exponentiation.threshold 5000
set_option pp.maxSteps 900
namespace TkS
open PySem PySem.Spec PyProof.Rows L2
theorem pmkN_own0 {X : Cx} {C : Addr} {bmB : List Value} {B newId initId : String} {x : Str} {p pos : Pos} (F : ExcBaseFacts B newId initId bmB) (q : PySem.W.excIn X.K C bmB newId = true) (gC : X.mg x = some (.ref C)) (kC : PySem.W.keepIn X.K (.ref C) = true)
    (r : Raises X (.ref C)) (hg : Gl X x) (hdb : (x == ("__debug__" : Str)) = false := by decide) : L2N.PMk X (.Call (.Name x p) [] [] pos) (fun _ H Q => Q (.ref C) none H) := by
  intro pins s σ H Q I h
  refine wpAny_Call_Name_kw (ld_glob I hg gC ?_ hdb)
  refine PySem.W.callWith_K0 I.kIn kC ?_
  show wpAny _ _ (call (.ref C) []) _ _ _
  obtain ⟨bm, N, nm, qn, bs, hdct, sn, sub, ab, col, dd, k0, k1, k2, k3, k5, mN, hC, hN, hni, T⟩ := exc_obj I.kIn q
  exact wpAny_call_exc_subT F T hC hN hni (fun h' e hm => L2N.mk_of I hm r h (I.hok.gone hm.new)) (Nat.zero_le _)
end TkS
namespace K26
open PySem PySem.Spec PyProof.Rows L2 TkS LamX NdefX
def unitsD (p n : Nat) : List (List PyData) := (List.range n).map (unitD p n)
def augI (p : Nat) (M : List (List PyData)) : List (List PyData) := List.zipWith (· ++ ·) M (unitsD p M.length)
def undoN (p : Nat) (M : List (List PyData)) : List (List PyData) := (redN p (augI p M) M.length).1.map fun r => r.drop M.length
def dropD (n : Nat) : PyData → PyData
  | .list l => .list (l.drop n)
  | .tuple l => .tuple (l.drop n)
  | d => d
def sp_undoing_rows (CR CF CB : Addr) : Sp := fun vs H Q E => ∃ (f : Addr) (p : Nat) (x : V) (dx : PyData) (ds : List PyData) (M : List (List PyData)), vs = [.ref f, x] ∧ Fld CR CF H f p ∧ Dq H x dx ∧ itemsD dx = some ds ∧ Rw ds M ∧ M.length ≤ 5 ∧ (∀ r ∈ M, r.length = M.length ∧ noLists r = true) ∧ Gm p (M.length + M.length) 0 (augI p M) ∧
  ((redN p (augI p M) M.length).2.length < M.length → ∀ H', Same H H' → E (.ref CB) none H') ∧
  (¬ (redN p (augI p M) M.length).2.length < M.length → ∀ l H', Same H H' → Dq H' (.ref l) (rowsD (undoN p M)) → Q (.ref l) H')
theorem dropD_items {n : Nat} {d : PyData} {r : List PyData} (h : itemsD d = some r) : itemsD (dropD n d) = some (r.drop n) := by
  cases d <;> cases h <;> rfl
section
variable {P : Program} {w : World} {K : PySem.W.Frag} {mg : Str → Option Value} {base : Heap}
theorem ok_undoing_rows (T : Txt K mg) : FnOk P w K mg base (L2N.CX P w) 10 T.f_undoing_rows T.d_undoing_rows ["field", "rows"] (sp_undoing_rows T.C_RestField T.C_FractionField T.C_NotInvertible) := by
  refine Fun.okN T.F_undoing_rows sc_undoing_rows (fun vs H Q E h => ?_) (fun cdv A outer s H vs Q E hr h => ?_)
  · obtain ⟨f, p, x, dx, ds, M, rfl, _⟩ := h
    rfl
  · obtain ⟨f, p, x, dx, ds, M, rfl, hf, kx, ex, rM, m5, hM, g0, hE, hQ⟩ := h
    refine ⟨_, (pss_cons (ps_set (i := 2) sc_undoing_rows.nd rfl (.inr rfl) (pe_callB call_len_seq (by rfl) T.m_len (by decide +kernel) (pa_cons (pv 1) pa_nil)))
      (pss_cons (ps_setLc (i := 3) rfl sc_undoing_rows.nd rfl rfl (sw_true rfl rfl rfl (by decide +kernel)) (pi_range1 (by rfl) T.m_range (pa_cons (pv 2) pa_nil)) (blkOk_by (own := [("at", 6)]) (N := ["field", "rows", "many", "units", "reduced", "leads", "at", "row"]) (sc := defScope s_undoing_rows) (by decide +kernel)) (fun _ _ _ _ _ => (pg_name (i := 6) sc_undoing_rows.nd rfl (.inl rfl))) (fun _ _ _ _ _ => pts_nil) (fun _ _ _ _ _ => (pe_call (ok_unit_row T) (hr.mono (by decide)) (by rfl) T.g_unit_row T.F_unit_row.kp T.b_unit_row .nil pass0 (pa_cons (pv 0) (pa_cons (pv 2) (pa_cons (pv 6) pa_nil))))))
      (pss_cons (ps_asg (pe_call (ok_reduced_rows T) (hr.mono (by decide)) (by rfl) T.g_reduced_rows T.F_reduced_rows.kp T.b_reduced_rows .nil pass0 (pa_cons (pv 0) (pa_cons (pe_call (ok_beside T) (hr.mono (by decide)) (by rfl) T.g_beside T.F_beside.kp T.b_beside .nil pass0 (pa_cons (pv 1) (pa_cons (pv 3) pa_nil))) (pa_cons (pv 2) pa_nil)))) (pg_tup rfl (pgs_cons (pg_name (i := 4) sc_undoing_rows.nd rfl (.inl rfl)) (pgs_cons (pg_name (i := 5) sc_undoing_rows.nd rfl (.inl rfl)) pgs_nil))))
      (Evl.pss_cut (ps_if (pt_cmpR op_lt (pe_callB call_len_seq (by rfl) T.m_len (by decide +kernel) (pa_cons (pv 5) pa_nil)) (pv 2) (nomark _))
        (pss_one (L2N.ps_raise (W := fun cls d _ H => E cls d H) rfl (L2N.takes_of rfl rfl rfl rfl) (pmkN_own0 PySem.F.excBase_ValueError T.q_NotInvertible T.g_NotInvertible T.k_NotInvertible (raises_own T.b_NotInvertible T.ty_NotInvertible) (by rfl))))
        pss_nil)
      (pss_one (ps_ret (pe_call (ok_as_tuples T) (hr.mono (by decide)) (by rfl) T.g_as_tuples T.F_as_tuples.kp T.b_as_tuples .nil pass0 (pa_cons (pe_lc rfl sc_undoing_rows.nd (pi_list (pv 4)) (blkOk_by (own := [("row", 7)]) (N := ["field", "rows", "many", "units", "reduced", "leads", "at", "row"]) (sc := defScope s_undoing_rows) (by decide +kernel)) (fun _ _ _ _ _ => (pg_name (i := 7) sc_undoing_rows.nd rfl (.inl rfl))) (fun _ _ _ _ _ => pts_nil) (fun _ _ _ _ _ => (pe_orT (show PE _ _ (L2.tSl rSlDL (tVar 7) (tPart (tVar 2)) tNoPart) from pe_slice sl_listD (pv 7) (po_some (pv 2)) po_none) (show PE _ _ (L2.tSl rSlD (tVar 7) (tPart (tVar 2)) tNoPart) from pe_slice sl_tupD (pv 7) (po_some (pv 2)) po_none)))) pa_nil)))))))), ?_⟩
    have fp := hf.fp
    obtain ⟨ax, xs, rfl, hxs, hsx⟩ := sq_of (K := K) kx ex
    have lx := hxs.len
    have l0 := rM.len
    refine ⟨_, rfl, ax, xs, rfl, hsx, ?_⟩
    refine nx_go rfl ?_
    dsimp only
    refine asgE ?_
    refine ⟨_, rfl, ((xs.length : Nat) : Int), rfl, by omega, by omega, fun D nD => ?_⟩
    rw [show ((xs.length : Nat) : Int).toNat = M.length by omega]
    refine lc_rngD (fun _ => true) (fun j => .tuple (unitD p M.length j)) nD (by omega) (fun _ => rfl) (fun j H1 Q1 hj s1 q1 => q1 _ fun _ _ z => z) (fun j H1 Q1 hj _ s1 acc q1 => ?_) (fun H1 s1 kD => ?_)
    · obtain ⟨ac, hac⟩ := acc
      refine ⟨_, rfl, _, rfl, _, rfl, f, p, M.length, j, by rw [lx, l0, Int.zero_add]; rfl, hf.same s1, by omega, fun v H2 s2 k2 => q1 v H2 s2 ?_⟩
      exact dq_noL (s2 _ _ hac) _ (by exact noLs_all fun d md => by obtain ⟨j', _, rfl⟩ := List.mem_map.mp md; split <;> exact nb_noL (by first | exact nb_one (k := 1) fp (Nat.le_refl 1) | exact nb_zero (k := 1) fp (Nat.le_refl 1))) k2
    rw [List.filter_eq_self.mpr fun _ _ => rfl] at kD
    refine asgE ?_
    have eU : ((List.range M.length).map fun j => PyData.tuple (unitD p M.length j)) = (unitsD p M.length).map .tuple := by
      unfold unitsD
      rw [List.map_map]
      rfl
    rw [eU] at kD
    have lU : (unitsD p M.length).length = M.length := by unfold unitsD; rw [List.length_map, List.length_range]
    have rU : Rw ((unitsD p M.length).map .tuple) (unitsD p M.length) := by
      unfold Rw
      rw [List.map_map]
      rfl
    have nU : ∀ r ∈ unitsD p M.length, r.length ≤ 400 ∧ noLists r = true := fun r mr => by
      obtain ⟨i, _, rfl⟩ := List.mem_map.mp mr
      refine ⟨by unfold unitD; rw [List.length_map, List.length_range]; omega, noLs_all fun d md => ?_⟩
      obtain ⟨j', _, rfl⟩ := List.mem_map.mp md
      split
      · exact nb_noL (nb_one (k := 1) fp (Nat.le_refl 1))
      · exact nb_noL (nb_zero (k := 1) fp (Nat.le_refl 1))
    refine ⟨_, rfl, _, rfl, _, rfl, .ref ax, .ref D, dx, _, ds, _, M, unitsD p M.length, rfl, kx.same s1, ex, rM, kD, rfl, rU, lU.symm, by omega, fun r mr => ⟨by rw [(hM r mr).1]; omega, (hM r mr).2⟩, nU, fun B H2 s2 nB kB => ?_⟩
    have lI : (augI p M).length = M.length := by unfold augI; rw [List.length_zipWith, lU, Nat.min_self]
    have s12 := s1.trans s2
    refine ⟨_, rfl, f, p, M.length + M.length, M.length, .ref B, _, _, augI p M, by rw [lx, l0]; rfl, hf.same s12, kB, rfl, rw_lists _, g0, by omega, by omega, by omega, by omega, fun t a b zs H5 s5 na nb et ea eb hes => ?_⟩
    obtain ⟨es, ues, rwA⟩ := hes
    obtain ⟨R, iR, φ, F, I⟩ := phi_inv fp
    have ro := red_all F I fp g0 M.length (by omega) (by omega)
    unfold undoN at hQ
    generalize (redN p (augI p M) M.length).1 = A' at *
    generalize (redN p (augI p M) M.length).2 = ls at *
    have lA := ro.len
    have lk := ro.lk
    have s15 := s12.trans s5
    have lE2 := rwA.len
    refine ⟨t, _, rfl, SqT.of et, rfl, _, _, rfl, _, _, rfl, rfl, ?_⟩
    refine ⟨fun σ H' => σ = [some (.ref f), some (.ref ax), some (.int ((xs.length : Nat) : Int)), some (.ref D), some (.ref a), some (.ref b), none, none] ∧ Same H5 H' ∧ ¬ ls.length < M.length, ?_, fun σ H' hP => ?_⟩
    · refine ⟨_, rfl, b, _, rfl, .inl (SqL.of eb), _, rfl, _, _, rfl, rfl, _, rfl, ite2 (fun c => ?_) (fun c => ?_)⟩
      · have c' := of_decide_eq_true c
        rw [List.length_map] at c'
        exact hE (by omega) H5 s15
      · refine ⟨rfl, fun _ _ z => z, fun z => c (decide_eq_true ?_)⟩
        rw [List.length_map]
        omega
    · obtain ⟨rfl, s6, c⟩ := hP
      have ea6 := s6 _ _ ea
      have ues6 := DqAll.same s6 _ ues
      have ro' : ∀ d ∈ es, ∃ r ∈ A', itemsD d = some r := fun d md => rwA.mem md
      refine ⟨_, rfl, a, rfl, ⟨_, SqL.of ea6⟩, fun D7 nD7 => ?_⟩
      refine lc_listD2 (f := fun _ => true) (e := dropD M.length) (SqL.of ea6) ues6 nD7 (by omega) (fun _ => rfl) (fun i x d H' Q _ _ _ h => h _ fun _ _ z => z) (fun i x d H' Q' hd _ _ s7 kd acc q7 => ?_) (fun H' s7 kD => ?_)
      · obtain ⟨r, mr', er⟩ := ro' d (List.mem_of_getElem? hd)
        obtain ⟨ac, hac⟩ := acc
        have nl : noLists (r.drop M.length) = true := noLs_all fun z mz => nb_noL (ro.gm.nb (by omega) r mr' z (List.mem_of_mem_drop mz))
        cases d with
        | list l0' =>
          cases er
          refine .inl ⟨_, rfl, _, rfl, _, rfl, r, kd, fun l H8 s8 nl8 k8 => q7 _ H8 s8 ?_⟩
          rw [show ((xs.length : Nat) : Int) = ((M.length : Nat) : Int) by omega, cutD_lo] at k8
          have hD8 := s8 _ _ hac
          cases k8 with
          | lst e u =>
            refine .lst (off_at (fun z => ?_) e) (dqs_noL hD8 _ nl u)
            rw [z, hac] at nl8
            cases nl8
        | tuple l0' =>
          cases er
          refine .inr ⟨_, rfl, _, rfl, _, rfl, r, kd, fun l H8 s8 k8 => q7 _ H8 s8 ?_⟩
          rw [show ((xs.length : Nat) : Int) = ((M.length : Nat) : Int) by omega, cutD_lo] at k8
          exact dq_noL (s8 _ _ hac) _ nl k8
        | _ => cases er
      · rw [List.filter_eq_self.mpr fun _ _ => rfl] at kD
        refine ⟨_, _, _, rfl, kD, rfl, by rw [List.length_map]; omega, fun r mr => ?_, fun l H8 s8 k8 => hQ c l H8 (((s15.trans s6).trans s7).trans s8) ?_⟩
        · obtain ⟨d, md, rfl⟩ := List.mem_map.mp mr
          obtain ⟨r, mr', er⟩ := ro' d md
          refine ⟨_, dropD_items er, noLs_all fun z mz => nb_noL (ro.gm.nb (by omega) r mr' z (List.mem_of_mem_drop mz))⟩
        · have e1 : tupsD (.list (es.map (dropD M.length))) = rowsD (A'.map fun r => r.drop M.length) := by
            unfold tupsD
            show PyData.tuple ((es.map (dropD M.length)).map _) = PyData.tuple ((A'.map fun r => r.drop M.length).map .tuple)
            have e0 := congrArg (List.map fun o : Option (List PyData) => PyData.tuple ((o.getD []).drop M.length)) rwA
            rw [List.map_map, List.map_map] at e0
            rw [List.map_map, List.map_map]
            refine congrArg PyData.tuple (Eq.trans (List.map_congr_left fun d md => ?_) e0)
            obtain ⟨r, mr', er⟩ := ro' d md
            show PyData.tuple (rowOf (dropD M.length d)) = PyData.tuple (((itemsD d).getD []).drop M.length)
            unfold rowOf
            rw [dropD_items er, er]
            rfl
          rw [← e1]
          exact k8
end
end K26
set_option Elab.async false
set_option linter.all false
set_option maxRecDepth 100000
set_option maxHeartbeats 4000000
set_option exponentiation.threshold 5000
set_option pp.maxSteps 900
namespace K26
open PySem PySem.Spec PyProof.Rows L2 TkS LamX NdefX
open Lin
theorem tb_big {r : Nat} (h : r ≤ 6) : TB r < 2 ^ 4224 := by
  have up : ∀ {k m}, k ≤ m → TB k ≤ TB m := fun {k m} l => by
    induction m with
    | zero => rw [show k = 0 by omega]; exact Int.le_refl _
    | succ m ih =>
      by_cases c : k = m + 1
      · rw [c]; exact Int.le_refl _
      · have h1 := ih (by omega)
        have h2 := t_le m
        have h3 := sq_le m
        omega
  have t6 : TB 6 < 2 ^ 4224 := by decide +kernel
  have := up h
  omega
theorem db_big {r : Nat} (h : r ≤ 6) : DB r < 2 ^ 4224 := by
  have := (DB.le r).2
  have := tb_big h
  omega
theorem mul_big {x y : Int} (x0 : 0 ≤ x) (y0 : 0 ≤ y) (hx : x < 2 ^ 4224) (hy : y < 2 ^ 70) : 6 * (x * y) < 2 ^ 4300 ∧ x * y < 2 ^ 4300 := by
  have h : x * y ≤ 2 ^ 4224 * 2 ^ 70 := Int.mul_le_mul (by omega) (by omega) y0 (by decide +kernel)
  have p : (6 : Int) * (2 ^ 4224 * 2 ^ 70) < 2 ^ 4300 := by decide +kernel
  have q : (0 : Int) ≤ 2 ^ 4224 * 2 ^ 70 := by decide +kernel
  generalize (2 : Int) ^ 4224 * 2 ^ 70 = Z at *
  generalize (2 : Int) ^ 4300 = Y at *
  constructor <;> omega
section
variable {p : Nat} {R : Type} [Lean.Grind.CommRing R] {φ : PyData → R}
theorem phi_dot (F : Phi p R φ) (fp : Fp p) {k m : Nat} {xs ys : List PyData} (hx : ∀ d ∈ xs, Nb p k d) (hy : ∀ d ∈ ys, Nb p m d) (l : xs.length = ys.length) : ∀ i, i ≤ xs.length → φ (dotD p (xs.take i) (ys.take i) (zeroD p)) = sN i (fun q => φ (xs.getD q .none) * φ (ys.getD q .none)) ∧ ∃ j, Nb p j (dotD p (xs.take i) (ys.take i) (zeroD p))
  | 0, _ => ⟨F.zero, 1, nb_zero fp (Nat.le_refl 1)⟩
  | i + 1, hi => by
    obtain ⟨h1, j, h2⟩ := phi_dot F fp hx hy l i (by omega)
    have ex := getD_some (r := xs) (j := i) (by omega)
    have ey := getD_some (r := ys) (j := i) (by omega)
    have nx := hx _ (getD_mem (r := xs) (j := i) (by omega))
    have ny := hy _ (getD_mem (r := ys) (j := i) (by omega))
    rw [dot_take l ex ey]
    have nt := timesD_nb nx ny
    refine ⟨?_, _, plusD_nb h2 nt⟩
    rw [F.plus h2 nt, F.times nx ny, h1]
    rfl
theorem phi_dotW (F : Phi p R φ) (fp : Fp p) {k m : Nat} {xs ys : List PyData} (hx : ∀ d ∈ xs, Nb p k d) (hy : ∀ d ∈ ys, Nb p m d) (l : xs.length = ys.length) : φ (dotD p xs ys (zeroD p)) = sN xs.length (fun q => φ (xs.getD q .none) * φ (ys.getD q .none)) ∧ ∃ j, Nb p j (dotD p xs ys (zeroD p)) := by
  have := phi_dot F fp hx hy l xs.length (Nat.le_refl _)
  rw [List.take_length, List.take_of_length_le (by omega)] at this
  exact this
theorem wt_at {m : Nat} {A : List (List PyData)} {ls : List Nat} : ∀ {j}, (∀ i, i < j → ls.getD i 0 < m) → (∀ i k, i < k → k < j → ls.getD i 0 < ls.getD k 0) → (∀ i, i < j → (wtN p m A ls j).getD (ls.getD i 0) .none = (A.getD i []).getD m .none) ∧ ∀ k, k < m → (∀ i, i < j → ls.getD i 0 ≠ k) → (wtN p m A ls j).getD k .none = zeroD p
  | 0, _, _ => ⟨fun i h => absurd h (Nat.not_lt_zero i), fun k hk _ => by
    show (List.replicate m (zeroD p)).getD k .none = _
    rw [List.getD_eq_getElem?_getD, List.getElem?_replicate, if_pos hk]
    rfl⟩
  | j + 1, hl, hu => by
    obtain ⟨h1, h2⟩ := wt_at (A := A) (j := j) (fun i hi => hl i (by omega)) (fun i k hi hk => hu i k hi (by omega))
    have ln : (wtN p m A ls j).length = m := wt_len
    refine ⟨fun i hi => ?_, fun k hk hn => ?_⟩
    · show ((wtN p m A ls j).set (ls.getD j 0) _).getD _ _ = _
      by_cases c : i = j
      · subst c
        rw [List.getD_eq_getElem?_getD, List.getElem?_set_self (by rw [ln]; exact hl i (by omega))]
        rfl
      · have := hu i j (by omega) (by omega)
        rw [List.getD_eq_getElem?_getD, List.getElem?_set_ne (by omega), ← List.getD_eq_getElem?_getD]
        exact h1 i (by omega)
    · show ((wtN p m A ls j).set (ls.getD j 0) _).getD _ _ = _
      rw [List.getD_eq_getElem?_getD, List.getElem?_set_ne (hn j (by omega)), ← List.getD_eq_getElem?_getD]
      exact h2 k hk fun i hi => hn i (by omega)
section
variable {m : Nat} {A : List (List PyData)}
theorem incons_sol (F : Phi p R φ) (I : Lin.Inv R) (fp : Fp p) (g0 : Gm p (m + 1) 0 A) (m6 : m ≤ 6) (h : incons p m (redN p A m).1 (redN p A m).2.length = false) : Sol A.length (fM φ A) m (fun k => φ ((weightsD p m A).getD k .none)) := by
  have ro := red_all F I fp g0 m (by omega) m6
  unfold weightsD
  generalize (redN p A m).1 = A' at *
  generalize (redN p A m).2 = ls at *
  have lA := ro.len
  have lk := ro.lk
  obtain ⟨w1, w2⟩ := wt_at (p := p) (m := m) (A := A') (ls := ls) (j := ls.length) (fun i hi => ro.ech.lt i hi) (fun i k hi hk => ro.ech.up i k hi hk)
  refine ro.eqs.sol (red_sol ro.ech ro.red (fun i h1 h2 => ?_) (fun i hi => ?_) fun k hk hn => ?_)
  · have hi : i < A'.length := by omega
    refine Classical.byContradiction fun q => ?_
    have z := (nz_phi F fp (at_nb ro.gm (by omega) hi (show m < m + 1 by omega))).mpr q
    have : incons p m A' ls.length = true := by
      unfold incons
      rw [List.any_eq_true]
      refine ⟨A'.getD i [], ?_, z⟩
      rw [List.mem_iff_getElem?]
      refine ⟨i - ls.length, ?_⟩
      rw [List.getElem?_drop, show ls.length + (i - ls.length) = i by omega, List.getD_eq_getElem?_getD, List.getElem?_eq_getElem hi]
      rfl
    rw [this] at h
    cases h
  · exact congrArg φ (w1 i hi)
  · show φ _ = 0
    rw [w2 k hk hn]
    exact F.zero
theorem sol_incons (F : Phi p R φ) (I : Lin.Inv R) (fp : Fp p) (g0 : Gm p (m + 1) 0 A) (m6 : m ≤ 6) {w : Nat → R} (s : Sol A.length (fM φ A) m w) : incons p m (redN p A m).1 (redN p A m).2.length = false := by
  have ro := red_all F I fp g0 m (by omega) m6
  generalize (redN p A m).1 = A' at *
  generalize (redN p A m).2 = ls at *
  have lA := ro.len
  have lk := ro.lk
  cases h : incons p m A' ls.length with
  | false => rfl
  | true =>
    unfold incons at h
    rw [List.any_eq_true] at h
    obtain ⟨row, mr, z⟩ := h
    obtain ⟨i, hi⟩ := List.getElem?_of_mem mr
    rw [List.getElem?_drop] at hi
    have hlt := (List.getElem?_eq_some_iff.mp hi).1
    have er : A'.getD (ls.length + i) [] = row := by rw [List.getD_eq_getElem?_getD, hi]; rfl
    rw [← er] at z
    exact absurd (ro.eqs.symm.sol s) (no_sol ro.ech (i := ls.length + i) (by omega) (by omega) ((nz_phi F fp (at_nb ro.gm (by omega) hlt (show m < m + 1 by omega))).mp z))
theorem weights_fb (fp : Fp p) (g0 : Gm p (m + 1) 0 A) (m6 : m ≤ 6) : ∃ D T, 0 < D ∧ 0 ≤ T ∧ D < 2 ^ 4224 ∧ T < 2 ^ 4224 ∧ ∀ d ∈ weightsD p m A, Fb p D T d := by
  obtain ⟨R, iR, φ, F, I⟩ := phi_inv fp
  have ro := red_all F I fp g0 m (by omega) m6
  unfold weightsD
  generalize (redN p A m).1 = A' at *
  generalize (redN p A m).2 = ls at *
  have lA := ro.len
  have lk := ro.lk
  have rm := ro.ech.rm
  obtain ⟨D, d0, d1, f⟩ := ro.gm.fb
  have t1 := TB.pos ls.length
  have b1 := tb_big (show ls.length ≤ 6 by omega)
  have b2 := db_big (show ls.length ≤ 6 by omega)
  refine ⟨D, TB ls.length, d0, by omega, by omega, b1, fun d md => wt_mem (G := Fb p D (TB ls.length)) (fb_zero fp d0 (by omega)) (fun i hi => ?_) d md⟩
  have mi := getD_memL (M := A') (i := i) (by omega)
  exact f _ mi _ (getD_mem (by rw [ro.gm.ln _ mi]; omega))
end
theorem aug_at {M : List (List PyData)} {rr : List PyData} {n j k : Nat} (hj : j < n) : atR (augM M rr n) j k = (((M ++ [rr]).map fun r => r.getD j .none).getD k .none) := by
  unfold atR augM
  rw [List.getD_eq_getElem?_getD (l := (List.range n).map _), List.getElem?_map, List.getElem?_range hj]
  rfl
theorem aug_row {M : List (List PyData)} {rr : List PyData} {n j k : Nat} (hj : j < n) (hk : k < M.length) : atR (augM M rr n) j k = (M.getD k []).getD j .none := by
  rw [aug_at hj, List.getD_eq_getElem?_getD, List.getElem?_map, List.getElem?_append_left hk, List.getD_eq_getElem?_getD (l := M), List.getElem?_eq_getElem hk]
  rfl
theorem aug_last {M : List (List PyData)} {rr : List PyData} {n j : Nat} (hj : j < n) : atR (augM M rr n) j M.length = rr.getD j .none := by
  rw [aug_at hj, List.getD_eq_getElem?_getD, List.getElem?_map, List.getElem?_append_right (Nat.le_refl _), Nat.sub_self]
  rfl
theorem aug_len {M : List (List PyData)} {rr : List PyData} {n : Nat} : (augM M rr n).length = n := by unfold augM; rw [List.length_map, List.length_range]
theorem col_at {M : List (List PyData)} {j k : Nat} (hk : k < M.length) : (M.map fun r => r.getD j .none).getD k .none = (M.getD k []).getD j .none := by
  rw [List.getD_eq_getElem?_getD, List.getElem?_map, List.getD_eq_getElem?_getD (l := M), List.getElem?_eq_getElem hk]
  rfl
theorem gm_aug {M : List (List PyData)} {rr : List PyData} {n : Nat} {D : Int} (d0 : 0 < D) (d1 : D ≤ DB 0) (hM : ∀ r ∈ M ++ [rr], r.length = n ∧ ∀ d ∈ r, Fb p D (TB 0) d) : Gm p (M.length + 1) 0 (augM M rr n) := by
  refine ⟨fun x mx => ?_, D, d0, d1, fun x mx d md => ?_⟩
  · obtain ⟨j, _, rfl⟩ := List.mem_map.mp mx
    rw [List.length_map, List.length_append]
    rfl
  · obtain ⟨j, mj, rfl⟩ := List.mem_map.mp mx
    obtain ⟨r, mr, rfl⟩ := List.mem_map.mp md
    exact (hM r mr).2 _ (getD_mem (by rw [(hM r mr).1]; exact List.mem_range.mp mj))
/-- the row is a sum of the rows just if there are weights -/
theorem sol_span_row {M : List (List PyData)} {rr : List PyData} {n : Nat} {w : Nat → R} : Sol n (fM φ (augM M rr n)) M.length w ↔ ∀ j, j < n → φ (rr.getD j .none) = sN M.length (fun k => w k * fM φ M k j) := by
  have e : ∀ j, j < n → sN M.length (fun k => w k * fM φ (augM M rr n) j k) = sN M.length (fun k => w k * fM φ M k j) := fun j hj => sN_congr fun k hk => by
    unfold fM
    rw [aug_row hj hk]
    rfl
  constructor
  · intro s j hj
    have := s j hj
    rw [e j hj] at this
    rw [this]
    unfold fM
    rw [aug_last hj]
  · intro h j hj
    rw [e j hj, ← h j hj]
    unfold fM
    rw [aug_last hj]
theorem due_iff (F : Phi p R φ) (I : Lin.Inv R) (fp : Fp p) {M : List (List PyData)} {rr : List PyData} {n : Nat} {D : Int} (d0 : 0 < D) (d1 : D ≤ DB 0) (hM : ∀ r ∈ M ++ [rr], r.length = n ∧ ∀ d ∈ r, Fb p D (TB 0) d) (m6 : M.length ≤ 6) (n6 : n ≤ 6) :
    ((rkN p (M ++ [rr]) n).2 = (rkN p M n).2) ↔ incons p M.length (redN p (augM M rr n) M.length).1 (redN p (augM M rr n) M.length).2.length = false := by
  have gA := gm_aug (p := p) (n := n) d0 d1 hM
  have g1 : Gm p n 0 (M ++ [rr]) := ⟨fun x mx => (hM x mx).1, D, d0, d1, fun x mx => (hM x mx).2⟩
  have g2 : Gm p n 0 M := ⟨fun x mx => (hM x (List.mem_append_left _ mx)).1, D, d0, d1, fun x mx => (hM x (List.mem_append_left _ mx)).2⟩
  have c1 := (rk_all F I fp g1 n (Nat.le_refl _) n6).cnt
  have c2 := (rk_all F I fp g2 n (Nat.le_refl _) n6).cnt
  rw [c1, c2]
  have row : ∀ i, i < M.length → ∀ j, fM φ (M ++ [rr]) i j = fM φ M i j := fun i hi j => by
    unfold fM atR
    rw [List.getD_eq_getElem?_getD (l := M ++ [rr]), List.getElem?_append_left hi, ← List.getD_eq_getElem?_getD]
  have last : ∀ j, fM φ (M ++ [rr]) M.length j = φ (rr.getD j .none) := fun j => by
    unfold fM atR
    rw [List.getD_eq_getElem?_getD (l := M ++ [rr]), List.getElem?_append_right (Nat.le_refl _), Nat.sub_self]
    rfl
  have lM : (M ++ [rr]).length = M.length + 1 := by rw [List.length_append]; rfl
  have inc : ∀ i, i < M.length → Span (M ++ [rr]).length (fM φ (M ++ [rr])) n (fM φ M i) := fun i hi => span_congr (span_row (i := i) (by omega)) fun j _ => (row i hi j).symm
  constructor
  · intro e
    obtain ⟨w, hw⟩ := in_span I (fun v hv => span_trans inc hv) e.symm (span_row (A := fM φ (M ++ [rr])) (l := n) (i := M.length) (by omega))
    have s : Sol (augM M rr n).length (fM φ (augM M rr n)) M.length w := by
      rw [aug_len]
      refine sol_span_row.mpr fun j hj => ?_
      rw [← hw j hj, last]
    exact sol_incons F I fp gA m6 s
  · intro h
    have s := incons_sol F I fp gA m6 h
    rw [aug_len] at s
    have hs := sol_span_row.mp s
    have E : Eqs (M ++ [rr]).length (fM φ (M ++ [rr])) M.length (fM φ M) n := ⟨inc, fun i hi => by
      by_cases c : i < M.length
      · exact span_congr (span_row c) fun j _ => row i c j
      · have : i = M.length := by omega
        subst this
        exact ⟨_, fun j hj => by rw [last]; exact hs j hj⟩⟩
    exact E.cnt n
theorem row_ext {xs ys : List PyData} (hl : xs.length = ys.length) (h : ∀ i, i < xs.length → xs.getD i .none = ys.getD i .none) : xs = ys := by
  refine List.ext_getElem hl fun i h1 h2 => ?_
  have := h i h1
  rw [List.getD_eq_getElem?_getD, List.getD_eq_getElem?_getD, List.getElem?_eq_getElem h1, List.getElem?_eq_getElem h2] at this
  exact this
theorem map_getD {n j : Nat} (f : Nat → PyData) (h : j < n) : ((List.range n).map f).getD j .none = f j := by
  rw [List.getD_eq_getElem?_getD, List.getElem?_map, List.getElem?_range h]
  rfl
/-- the weights make the row -/
theorem weights_row (fp : Fp p) {M : List (List PyData)} {rr : List PyData} {n : Nat} {D : Int} (d0 : 0 < D) (d1 : D ≤ DB 0) (hM : ∀ r ∈ M ++ [rr], r.length = n ∧ ∀ d ∈ r, Fb p D (TB 0) d) (m6 : M.length ≤ 6)
    (h : incons p M.length (redN p (augM M rr n) M.length).1 (redN p (augM M rr n) M.length).2.length = false) : ((List.range n).map fun j => dotD p (weightsD p M.length (augM M rr n)) (M.map fun r => r.getD j .none) (zeroD p)) = rr := by
  obtain ⟨R, iR, φ, F, I⟩ := phi_inv fp
  have gA := gm_aug (p := p) (n := n) d0 d1 hM
  have s := incons_sol F I fp gA m6 h
  rw [aug_len] at s
  have hs := sol_span_row.mp s
  obtain ⟨D1, T1, a1, a2, a3, a4, fw⟩ := weights_fb fp gA m6
  have lw : (weightsD p M.length (augM M rr n)).length = M.length := wt_len
  have lr := (hM rr (by simp)).1
  have nb0 : ∀ r ∈ M ++ [rr], ∀ d ∈ r, Nb p 4300 d := fun r mr d md => ((hM r mr).2 d md).nb (Int.lt_of_le_of_lt d1 (by decide +kernel)) (by decide +kernel)
  refine row_ext (by rw [List.length_map, List.length_range, lr]) fun j hj => ?_
  rw [List.length_map, List.length_range] at hj
  rw [map_getD _ hj]
  have ny : ∀ d ∈ (M.map fun r => r.getD j .none), Nb p 4300 d := fun d md => by
    obtain ⟨r, mr, rfl⟩ := List.mem_map.mp md
    have mr' : r ∈ M ++ [rr] := List.mem_append_left _ mr
    exact nb0 r mr' _ (getD_mem (by rw [(hM r mr').1]; exact hj))
  obtain ⟨e, k, nk⟩ := phi_dotW F fp (fun d md => (fw d md).nb (k := 4300) (Int.lt_trans a3 (by decide +kernel)) (Int.lt_trans a4 (by decide +kernel))) ny (by rw [lw, List.length_map])
  refine F.inj nk (nb0 rr (by simp) _ (getD_mem (by omega))) ?_
  rw [e, lw, hs j hj]
  refine sN_congr fun q hq => ?_
  rw [col_at hq]
  rfl
end
end K26
set_option Elab.async false
set_option linter.all false
set_option maxRecDepth 100000
set_option maxHeartbeats 4000000
set_option exponentiation.threshold 5000
set_option pp.maxSteps 900
namespace K26
open PySem PySem.Spec PyProof.Rows L2 TkS LamX NdefX
theorem inside_ok {p n : Nat} (fp : Fp p) {M : List (List PyData)} {ws : List PyData} {rr : List PyData} {D k : Nat} {D0 : Int} (d0 : 0 < D0) (d1 : D0 ≤ DB 0) (hM : ∀ r ∈ M ++ [rr], r.length = n ∧ ∀ d ∈ r, Fb p D0 (TB 0) d) (m6 : M.length ≤ 6) (hw : ∀ d ∈ ws, Nb p k d) (lw : ws.length = M.length) (e : rr = (List.range n).map fun j => dotD p ws (M.map fun r => r.getD j .none) (zeroD p)) :
    incons p M.length (redN p (augM M rr n) M.length).1 (redN p (augM M rr n) M.length).2.length = false := by
  obtain ⟨R, iR, φ, F, I⟩ := phi_inv fp
  have gA := gm_aug (p := p) (n := n) d0 d1 hM
  refine sol_incons F I fp gA m6 (w := fun q => φ (ws.getD q .none)) ?_
  rw [aug_len]
  refine sol_span_row.mpr fun j hj => ?_
  have ny : ∀ d ∈ (M.map fun r => r.getD j .none), Nb p 4300 d := fun d md => by
    obtain ⟨r, mr, rfl⟩ := List.mem_map.mp md
    have mr' : r ∈ M ++ [rr] := List.mem_append_left _ mr
    exact ((hM r mr').2 _ (getD_mem (by rw [(hM r mr').1]; exact hj))).nb (Int.lt_of_le_of_lt d1 (by decide +kernel)) (by decide +kernel)
  have h := (phi_dotW F fp hw ny (by rw [lw, List.length_map])).1
  have e2 : rr.getD j .none = dotD p ws (M.map fun r => r.getD j .none) (zeroD p) := by
    rw [e]
    exact map_getD (fun j => dotD p ws (M.map fun r => r.getD j .none) (zeroD p)) hj
  rw [e2, h, lw]
  refine Lin.sN_congr fun q hq => ?_
  rw [col_at hq]
  rfl
theorem nb_low {p k : Nat} {d : PyData} (h : Nb p k d) : TkS.low 1 d = true := by
  cases h <;> rfl
theorem fb_low {p : Nat} {D T : Int} {d : PyData} (h : Fb p D T d) : TkS.low 1 d = true := by
  cases h <;> rfl
def sl_right (CR CF : Addr) : Sp := fun vs H Q _ => ∃ (f : Addr) (p n : Nat) (x y : V) (dx dy : PyData) (ds rr : List PyData) (M : List (List PyData)) (b : Bool) (D : Int), vs = [.int (p : Int), .ref f, x, y, .bl b] ∧ Fld CR CF H f p ∧ Dq H x dx ∧ itemsD dx = some ds ∧ Rw ds M ∧ Dq H y dy ∧ itemsD dy = some rr ∧ M.length ≤ 6 ∧ n ≤ 6 ∧ 0 < D ∧ D ≤ DB 0 ∧ (∀ r ∈ M ++ [rr], r.length = n ∧ ∀ d ∈ r, Fb p D (TB 0) d) ∧
  b = !incons p M.length (redN p (augM M rr n) M.length).1 (redN p (augM M rr n) M.length).2.length ∧ ∀ H', Same H H' → Q (.bl true) H'
section
variable {P : Program} {w : World} {K : PySem.W.Frag} {mg : Str → Option Value} {base : Heap}
theorem ok_law_right_weights (T : Txt K mg) : FnOk P w K mg base CX0 12 T.f_law_right_weights T.d_law_right_weights ["_law_p", "_law_field_here", "_law_rows_here", "_law_row", "_law_due"] (sl_right T.C_RestField T.C_FractionField) := by
  refine T.F_law_right_weights.ok sc_law_right_weights (fun vs H Q E h => ?_) (fun cdv A outer s H vs Q E hr h => ?_)
  · obtain ⟨f, p, n, x, y, dx, dy, ds, rr, M, b, D, rfl, _⟩ := h
    rfl
  · obtain ⟨f, p, n, x, y, dx, dy, ds, rr, M, b, D, rfl, hf, kx, ex, rM, ky, ey, m6, n6, d0, d1, hM, hb, q⟩ := h
    refine ⟨_, (pss_cons (ps_set (i := 5) sc_law_right_weights.nd rfl (.inl rfl) (pe_call (ok_weights_for T) (hr.mono (by decide)) (by rfl) T.g_weights_for T.F_weights_for.kp T.b_weights_for .nil pass0 (pa_cons (pv 1) (pa_cons (pv 2) (pa_cons (pv 3) pa_nil)))))
      (pss_cons (ps_if (pt_not (pt_truth (pv 4) (by intro _; rfl)))
        (pss_one (ps_ret (pe_cmpR op_isN (pv 5) pe_non (nomark _))))
        pss_nil)
      (pss_one (ps_ret (pe_and (pe_call (ok_law_good_row T) (hr.mono (by decide)) (by rfl) T.g_law_good_row T.F_law_good_row.kp T.b_law_good_row .nil pass0 (pa_cons (pv 0) (pa_cons (pv 5) (pa_cons (pe_callB call_len_seq (by rfl) T.m_len (by decide +kernel) (pa_cons (pv 2) pa_nil)) pa_nil)))) (pe_one (pe_cmpR (op_eqD hr.units) (pe_call (ok_law_sum T) (hr.mono (by decide)) (by rfl) T.g_law_sum T.F_law_sum.kp T.b_law_sum .nil pass0 (pa_cons (pv 0) (pa_cons (pv 5) (pa_cons (pv 2) (pa_cons (pe_callB call_len_seq (by rfl) T.m_len (by decide +kernel) (pa_cons (pv 3) pa_nil)) pa_nil))))) (pe_callTy call_tupD (by rfl) T.m_tuple (by decide +kernel) (pa_cons (pv 3) pa_nil)) (nomark _)))))))), ?_⟩
    have fp := hf.fp
    have gA := gm_aug (p := p) (n := n) d0 d1 hM
    obtain ⟨ax, xs, rfl, hxs, hsx⟩ := sq_of (K := K) kx ex
    obtain ⟨ay, ys, rfl, hys, hsy⟩ := sq_of (K := K) ky ey
    have lx := hxs.len
    have ly := hys.len
    have l0 := rM.len
    have lr := (hM rr (by simp)).1
    have nl : ∀ r ∈ M, r.length = n ∧ noLists r = true := fun r mr => ⟨(hM r (List.mem_append_left _ mr)).1, fbs_noL (hM r (List.mem_append_left _ mr)).2⟩
    refine ⟨_, rfl, _, rfl, _, rfl, f, p, n, .ref ax, .ref ay, dx, dy, ds, rr, M, rfl, hf, kx, ex, rM, ky, ey, nl, lr, fbs_noL (hM rr (by simp)).2, m6, n6, gA, fun ec H1 s1 => ?_, fun ec t H1 s1 nt kt => ?_⟩
    · rw [ec] at hb
      subst hb
      refine ⟨_, rfl, false, rfl, iteT ?_⟩
      exact ⟨_, rfl, rfl, q H1 s1⟩
    · have er := weights_row fp d0 d1 hM m6 ec
      obtain ⟨D1, T1, a1, a2, a3, a4, fw⟩ := weights_fb fp gA m6
      have lw : (weightsD p M.length (augM M rr n)).length = M.length := wt_len
      rw [ec] at hb
      subst hb
      refine ⟨_, rfl, true, rfl, iteF ?_⟩
      have t65 : TB 0 = 2 ^ 65 := rfl
      have d65 : DB 0 = 2 ^ 65 := rfl
      have d70 : D < 2 ^ 70 := Int.lt_of_le_of_lt d1 (by decide)
      obtain ⟨b1, b2⟩ := mul_big (x := D1) (y := D) (by omega) (by omega) a3 d70
      obtain ⟨b3, b4⟩ := mul_big (x := T1) (y := TB 0) (by omega) (by decide) a4 (by decide)
      have h4224 : (2 : Int) ^ 4224 < 2 ^ 4300 := by decide +kernel
      obtain ⟨q1, q2, q3, q4⟩ := sum_nb (n := n) fp a1 d0 a2 (by decide) fw (fun r mr => hM r (List.mem_append_left _ mr)) lw m6 b2 b3 (Int.lt_trans a3 h4224) (Int.lt_trans a4 h4224) (big_up d70) (big_up (by decide))
      refine ⟨_, rfl, _, rfl, _, rfl, ax, xs, rfl, hsx.same s1, p, .ref t, _, by rw [lw, lx, l0]; rfl, kt, q1, ?_⟩
      refine ⟨_, rfl, iteT ?_⟩
      refine ⟨_, rfl, _, rfl, _, rfl, _, rfl, ay, ys, rfl, hsy.same s1, p, n, .ref t, .ref ax, _, dx, _, ds, M, by rw [ly, lr]; rfl, fp, kt, rfl, kx.same s1, ex, rM, lw, m6, n6, q1, q2, q3, q4, fun v H2 s2 k2 => ?_⟩
      rw [er] at k2
      refine ⟨_, rfl, .ref ay, dy, rr, rfl, ky.same (s1.trans s2), ey, fun l H3 s3 k3 => ?_⟩
      have lo : TkS.low 2 (.tuple rr) = true := low_tup fun d md => fb_low ((hM rr (by simp)).2 d md)
      refine ⟨_, _, (k2.same s3).dp, k3.dp, low_shp lo (by decide), low_shp lo (by decide), ?_⟩
      rw [low_refl lo]
      exact q H3 ((s1.trans s2).trans s3)
end
end K26
set_option Elab.async false
set_option linter.all false
set_option maxRecDepth 100000
set_option maxHeartbeats 4000000
set_option exponentiation.threshold 5000
set_option pp.maxSteps 900
namespace Lin
variable {R : Type} [Lean.Grind.CommRing R]
theorem ls_cut {m n l c : Nat} {A B : Nat → Nat → R} (h : ∀ i, i < m → ∀ j, j < n → A i j = B i j) (nl : n ≤ l) (cn : c < n) : LS m A l c ↔ LS m B n c := by
  constructor
  · rintro ⟨v, ⟨a, ha⟩, z, nz⟩
    exact ⟨v, ⟨a, fun j hj => by rw [ha j (by omega)]; exact sN_congr fun i hi => by rw [h i hi j hj]⟩, z, nz⟩
  · rintro ⟨v, ⟨a, ha⟩, z, nz⟩
    have e : ∀ j, j < n → sN m (fun i => a i * A i j) = v j := fun j hj => by
      rw [ha j hj]
      exact sN_congr fun i hi => by rw [h i hi j hj]
    exact ⟨fun j => sN m fun i => a i * A i j, ⟨a, fun j _ => rfl⟩, fun j hj => (e j (by omega)).trans (z j hj), fun q => nz ((e c cn).symm.trans q)⟩
open Classical in
theorem cnt_cut {m n l : Nat} {A B : Nat → Nat → R} (h : ∀ i, i < m → ∀ j, j < n → A i j = B i j) (nl : n ≤ l) : ∀ k, k ≤ n → cnt m A l k = cnt m B n k
  | 0, _ => rfl
  | k + 1, hk => by
    have e := ls_cut h nl (show k < n by omega)
    by_cases c : LS m A l k
    · rw [cnt_yes c, cnt_yes (e.mp c), cnt_cut h nl k (by omega)]
    · rw [cnt_no c, cnt_no (fun z => c (e.mpr z)), cnt_cut h nl k (by omega)]
end Lin
namespace K26
open PySem PySem.Spec PyProof.Rows L2 TkS LamX NdefX
open Lin
section
variable {p : Nat} {M : List (List PyData)}
theorem units_at {n i : Nat} (h : i < n) : (unitsD p n).getD i [] = unitD p n i := by
  unfold unitsD
  rw [List.getD_eq_getElem?_getD, List.getElem?_map, List.getElem?_range h]
  rfl
theorem units_len {n : Nat} : (unitsD p n).length = n := by unfold unitsD; rw [List.length_map, List.length_range]
theorem unit_len {n i : Nat} : (unitD p n i).length = n := by unfold unitD; rw [List.length_map, List.length_range]
theorem augI_len : (augI p M).length = M.length := by unfold augI; rw [List.length_zipWith, units_len, Nat.min_self]
theorem augI_row {i : Nat} (h : i < M.length) : (augI p M).getD i [] = M.getD i [] ++ unitD p M.length i := by
  rw [← units_at (p := p) h]
  unfold augI
  rw [List.getD_eq_getElem?_getD, List.getElem?_zipWith, List.getD_eq_getElem?_getD, List.getD_eq_getElem?_getD, List.getElem?_eq_getElem h, List.getElem?_eq_getElem (show i < (unitsD p M.length).length by rw [units_len]; exact h)]
  rfl
theorem augI_left {i j : Nat} (sq : ∀ r ∈ M, r.length = M.length) (h : i < M.length) (hj : j < M.length) : atR (augI p M) i j = atR M i j := by
  have lr := sq _ (getD_memL h)
  unfold atR
  rw [augI_row h, List.getD_eq_getElem?_getD, List.getElem?_append_left (by omega), ← List.getD_eq_getElem?_getD]
theorem augI_right {i j : Nat} (sq : ∀ r ∈ M, r.length = M.length) (h : i < M.length) (hj : j < M.length) : atR (augI p M) i (M.length + j) = if j = i then oneD p else zeroD p := by
  have lr := sq _ (getD_memL h)
  unfold atR
  rw [augI_row h, List.getD_eq_getElem?_getD, List.getElem?_append_right (by omega), lr, show M.length + j - M.length = j by omega, ← List.getD_eq_getElem?_getD]
  exact map_getD (fun j => if j = i then oneD p else zeroD p) hj
theorem gm_augI (fp : Fp p) {D : Int} (d0 : 0 < D) (d1 : D ≤ DB 0) (hM : ∀ r ∈ M, r.length = M.length ∧ ∀ d ∈ r, Fb p D (TB 0) d) : Gm p (M.length + M.length) 0 (augI p M) := by
  have rows : ∀ x ∈ augI p M, x.length = M.length + M.length ∧ ∀ d ∈ x, Fb p D (TB 0) d := fun x mx => by
    obtain ⟨i, hi, rfl⟩ := mem_getDL mx
    rw [augI_len] at hi
    rw [augI_row hi]
    have h := hM _ (getD_memL hi)
    refine ⟨by rw [List.length_append, h.1, unit_len], fun d md => ?_⟩
    rcases List.mem_append.mp md with m | m
    · exact h.2 d m
    · obtain ⟨j, _, rfl⟩ := List.mem_map.mp m
      split
      · exact (fb_one fp d0).up d1
      · exact fb_zero fp d0 (by decide)
  exact ⟨fun x mx => (rows x mx).1, D, d0, d1, fun x mx => (rows x mx).2⟩
theorem undo_cnt (fp : Fp p) {D : Int} (d0 : 0 < D) (d1 : D ≤ DB 0) (hM : ∀ r ∈ M, r.length = M.length ∧ ∀ d ∈ r, Fb p D (TB 0) d) (m5 : M.length ≤ 5) : (redN p (augI p M) M.length).2.length = (rkN p M M.length).2 := by
  obtain ⟨R, iR, φ, F, I⟩ := phi_inv fp
  have gI := gm_augI fp d0 d1 hM
  have g2 : Gm p M.length 0 M := ⟨fun x mx => (hM x mx).1, D, d0, d1, fun x mx => (hM x mx).2⟩
  rw [(red_all F I fp gI M.length (by omega) (by omega)).cnt, (rk_all F I fp g2 M.length (Nat.le_refl _) (by omega)).cnt, augI_len]
  exact cnt_cut (fun i hi j hj => congrArg φ (augI_left (fun r mr => (hM r mr).1) hi hj)) (by omega) _ (Nat.le_refl _)
theorem undo_rows (fp : Fp p) {D : Int} (d0 : 0 < D) (d1 : D ≤ DB 0) (hM : ∀ r ∈ M, r.length = M.length ∧ ∀ d ∈ r, Fb p D (TB 0) d) (m5 : M.length ≤ 5) : (undoN p M).length = M.length ∧ ∃ D1 T1, 0 < D1 ∧ 0 ≤ T1 ∧ D1 < 2 ^ 4224 ∧ T1 < 2 ^ 4224 ∧ ∀ r ∈ undoN p M, r.length = M.length ∧ ∀ d ∈ r, Fb p D1 T1 d := by
  obtain ⟨R, iR, φ, F, I⟩ := phi_inv fp
  have gI := gm_augI fp d0 d1 hM
  have ro := red_all F I fp gI M.length (by omega) (by omega)
  unfold undoN
  generalize (redN p (augI p M) M.length).1 = A' at *
  generalize (redN p (augI p M) M.length).2 = ls at *
  have lA := ro.len
  have lk := ro.lk
  obtain ⟨D1, e0, e1, f⟩ := ro.gm.fb
  have t1 := TB.pos ls.length
  have b1 := tb_big (show ls.length ≤ 6 by omega)
  have b2 := db_big (show ls.length ≤ 6 by omega)
  refine ⟨by rw [List.length_map, lA, augI_len], D1, TB ls.length, e0, by omega, by omega, b1, fun r mr => ?_⟩
  obtain ⟨x, mx, rfl⟩ := List.mem_map.mp mr
  refine ⟨by rw [List.length_drop, ro.gm.ln x mx]; omega, fun d md => f x mx d (List.mem_of_mem_drop md)⟩
theorem undo_at {i j : Nat} {A' : List (List PyData)} {n : Nat} (hi : i < A'.length) : ((A'.map fun r => r.drop n).getD i []).getD j .none = atR A' i (n + j) := by
  unfold atR
  rw [List.getD_eq_getElem?_getD (l := A'.map _), List.getElem?_map, List.getD_eq_getElem?_getD (l := A'), List.getElem?_eq_getElem hi]
  show ((A'[i]).drop n).getD j .none = (A'[i]).getD (n + j) .none
  rw [List.getD_eq_getElem?_getD, List.getElem?_drop, ← List.getD_eq_getElem?_getD]
/-- what is undone, both ways -/
theorem undo_mul (fp : Fp p) {D : Int} (d0 : 0 < D) (d1 : D ≤ DB 0) (hM : ∀ r ∈ M, r.length = M.length ∧ ∀ d ∈ r, Fb p D (TB 0) d) (m5 : M.length ≤ 5) (h : ¬ (redN p (augI p M) M.length).2.length < M.length) {i : Nat} (hi : i < M.length) :
    ((List.range M.length).map fun j => dotD p (M.getD i []) ((undoN p M).map fun r => r.getD j .none) (zeroD p)) = unitD p M.length i ∧ ((List.range M.length).map fun j => dotD p ((undoN p M).getD i []) (M.map fun r => r.getD j .none) (zeroD p)) = unitD p M.length i := by
  obtain ⟨R, iR, φ, F, I⟩ := phi_inv fp
  obtain ⟨lU, D1, T1, u1, u2, u3, u4, fU⟩ := undo_rows fp d0 d1 hM m5
  have gI := gm_augI fp d0 d1 hM
  have ro := red_all F I fp gI M.length (by omega) (by omega)
  have sq : ∀ r ∈ M, r.length = M.length := fun r mr => (hM r mr).1
  have eU : ∀ k j, k < M.length → ((undoN p M).getD k []).getD j .none = atR (redN p (augI p M) M.length).1 k (M.length + j) := fun k j hk => undo_at (by rw [ro.len, augI_len]; exact hk)
  generalize undoN p M = U at *
  generalize (redN p (augI p M) M.length).1 = A' at *
  generalize (redN p (augI p M) M.length).2 = ls at *
  have lA := ro.len
  have lI := augI_len (p := p) (M := M)
  obtain ⟨hlen, hgm, hlk, hech, hred, heqs, _⟩ := ro
  rw [lI] at hech hred heqs
  have rm := hech.rm
  have rE : ls.length = M.length := by omega
  have all := hech.all (by omega)
  have dlt : ∀ a b, a < M.length → b < M.length → fM φ A' a b = if a = b then 1 else 0 := fun a b ha hb => by
    have cb := all b hb
    by_cases c : a = b
    · rw [if_pos c, c]
      have := hred.one b (by omega)
      rw [cb] at this
      exact this
    · rw [if_neg c]
      have := hred.zr b (by omega) a ha c
      rw [cb] at this
      exact this
  have rgt : ∀ a b, a < M.length → b < M.length → fM φ (augI p M) a (M.length + b) = if b = a then 1 else 0 := fun a b ha hb => by
    unfold fM
    rw [augI_right sq ha hb]
    split
    · exact F.one
    · exact F.zero
  have lft : ∀ a b, a < M.length → b < M.length → fM φ (augI p M) a b = fM φ M a b := fun a b ha hb => congrArg φ (augI_left sq ha hb)
  have h4 : (2 : Int) ^ 4224 < 2 ^ 4300 := by decide +kernel
  have nM : ∀ r ∈ M, ∀ d ∈ r, Nb p 4300 d := fun r mr d md => ((hM r mr).2 d md).nb (Int.lt_of_le_of_lt d1 (by decide +kernel)) (by decide +kernel)
  have nU : ∀ r ∈ U, ∀ d ∈ r, Nb p 4300 d := fun r mr d md => ((fU r mr).2 d md).nb (Int.lt_trans u3 h4) (Int.lt_trans u4 h4)
  have unE : ∀ j, j < M.length → φ ((unitD p M.length i).getD j .none) = if j = i then 1 else 0 := fun j hj => by
    unfold unitD
    rw [map_getD _ hj]
    split
    · exact F.one
    · exact F.zero
  have unN : ∀ j, j < M.length → Nb p 1 ((unitD p M.length i).getD j .none) := fun j hj => by
    unfold unitD
    rw [map_getD _ hj]
    split
    · exact nb_one fp (Nat.le_refl 1)
    · exact nb_zero fp (Nat.le_refl 1)
  have colN : ∀ {L : List (List PyData)} {j : Nat}, (∀ r ∈ L, r.length = M.length) → (∀ r ∈ L, ∀ d ∈ r, Nb p 4300 d) → j < M.length → ∀ d ∈ (L.map fun r => r.getD j .none), Nb p 4300 d := fun {L j} hl hn hj d md => by
    obtain ⟨r, mr, rfl⟩ := List.mem_map.mp md
    exact hn r mr _ (getD_mem (by rw [hl r mr]; exact hj))
  constructor
  · refine row_ext (by rw [List.length_map, List.length_range, unit_len]) fun j hj => ?_
    rw [List.length_map, List.length_range] at hj
    rw [map_getD _ hj]
    have lr := sq _ (getD_memL hi)
    obtain ⟨e, k, nk⟩ := phi_dotW F fp (nM _ (getD_memL hi)) (colN (fun r mr => (fU r mr).1) nU hj) (by rw [lr, List.length_map, lU])
    refine F.inj nk (unN j hj) ?_
    rw [e, unE j hj, lr]
    obtain ⟨b, hb⟩ := heqs.2 i hi
    have bE : ∀ k, k < M.length → b k = fM φ M i k := fun k hk => by
      have := hb k (by omega)
      rw [lft i k hi hk] at this
      rw [this, sN_one (f := fun q => b q * fM φ A' q k) hk fun q hq ne => by rw [dlt q k hq hk, if_neg ne]; grind]
      rw [dlt k k hk hk, if_pos rfl]
      grind
    have h2 := hb (M.length + j) (by omega)
    rw [rgt i j hi hj] at h2
    rw [h2]
    refine sN_congr fun q hq => ?_
    rw [col_at (by omega), eU q j hq, bE q hq]
    rfl
  · refine row_ext (by rw [List.length_map, List.length_range, unit_len]) fun j hj => ?_
    rw [List.length_map, List.length_range] at hj
    rw [map_getD _ hj]
    have mi := getD_memL (M := U) (i := i) (by omega)
    have lr := (fU _ mi).1
    obtain ⟨e, k, nk⟩ := phi_dotW F fp (nU _ mi) (colN sq nM hj) (by rw [lr, List.length_map])
    refine F.inj nk (unN j hj) ?_
    rw [e, unE j hj, lr]
    obtain ⟨a, ha⟩ := heqs.1 i hi
    have aE : ∀ k, k < M.length → fM φ A' i (M.length + k) = a k := fun k hk => by
      have := ha (M.length + k) (by omega)
      rw [this, sN_one (f := fun q => a q * fM φ (augI p M) q (M.length + k)) hk fun q hq ne => by rw [rgt q k hq hk, if_neg (Ne.symm ne)]; grind]
      rw [rgt k k hk hk, if_pos rfl]
      grind
    have h2 := ha j (by omega)
    rw [dlt i j hi hj] at h2
    have h3 : (if j = i then (1 : R) else 0) = if i = j then 1 else 0 := by
      by_cases c : j = i
      · rw [if_pos c, if_pos c.symm]
      · rw [if_neg c, if_neg (Ne.symm c)]
    rw [h3, h2]
    refine sN_congr fun q hq => ?_
    rw [col_at hq, eU i q hi, lft q j hq hj, ← aE q hq]
    rfl
end
end K26
set_option Elab.async false
set_option linter.all false
set_option maxRecDepth 100000
set_option maxHeartbeats 4000000
set_option exponentiation.threshold 9000
set_option pp.maxSteps 900
namespace K26
open PySem PySem.Spec PyProof.Rows L2 TkS LamX NdefX
theorem passH {X : Cx} {σ : L2.St} {E : XK} : PassesAt CX0 X σ E := fun _ _ _ _ _ _ h => h.elim
theorem okH0 {P : Program} {w : World} {K : PySem.W.Frag} {mg : Str → Option Value} {base : Heap} {x qual : Str} {st : Stmt} {f : Addr} {fd : FuncData} {N ps : List Str} {k : Nat} {sp : Sp} (F : Fun K x qual st f fd) (S : FnScope N ps (defScope st)) (len : ∀ vs H Q E, sp vs H Q E → vs.length = ps.length)
    (hbody : ∀ (cdv : Value) (A : Around) (outer : List Env) (s : Shared) (H : Hp) (vs : List V) (Q : VK) (E : XK) (p : Addr × Obj), L2H.Hot1 A p → L2H.RoomH k (A.deeper (envOfC qual (defScope st) s.heap.objs.size f cdv)) → sp vs H Q E →
      ∃ t, PSs (L2H.cxH CX0 P w K mg base N qual (defScope st) f cdv A outer s H E p).nox (defBody st) t ∧ t { nx := fun _ H' => Q .non H', rt := Q } (start N vs) H) : L2H.FnH P w K mg base CX0 (k + 1) f fd ps sp :=
  Fun.okH F S len fun cdv A outer s H vs Q E p h1 h2 h3 => by
    obtain ⟨t, h, q⟩ := hbody cdv A outer s H vs Q E p h1 h2 h3
    exact ⟨t, h.nox, q⟩
theorem hotC {CX : CXT} {P : Program} {w : World} {K : PySem.W.Frag} {mg : Str → Option Value} {base : Heap} {N : List Str} {qual : Str} {scope : Scope} {f : Addr} {cd : Value} {A : Around} {outer : List Env} {s : Shared} {H : Hp} {E : XK} {p : Addr × Obj} (hot : L2H.Hot1 A p) : L2H.HotC (L2H.cxH CX P w K mg base N qual scope f cd A outer s H E p).nox := ⟨p, hot, List.mem_singleton.mpr rfl⟩
theorem hotU {k : Nat} {A : Around} (r : L2H.RoomH k A) : A.units + 64 < cLine := by have := r.un; omega
section
variable {P : Program} {w : World} {K : PySem.W.Frag} {mg : Str → Option Value} {base : Heap}
theorem ok_law_gcdH (T : Txt K mg) : L2H.FnH P w K mg base CX0 1 T.f_law_gcd T.d_law_gcd ["_law_one", "_law_other"] sl_gcd := by
  refine okH0 T.F_law_gcd sc_law_gcd (fun vs H Q E h => ?_) (fun cdv A outer s H vs Q E pp hot hr h => ?_)
  · obtain ⟨a, b, rfl, _⟩ := h
    rfl
  · obtain ⟨a, b, rfl, q⟩ := h
    refine ⟨_, (pss_cons (ps_set (i := 0) sc_law_gcd.nd rfl (.inl rfl) (pe_callB call_abs (by rfl) T.m_abs (by decide +kernel) (pa_cons (pv 0) pa_nil)))
      (pss_cons (ps_set (i := 1) sc_law_gcd.nd rfl (.inl rfl) (pe_callB call_abs (by rfl) T.m_abs (by decide +kernel) (pa_cons (pv 1) pa_nil)))
      (pss_cons (ps_while PassesOwn.never (pt_cmpR op_gt (pv 1) pe_int (nomark _))
        (pss_cons (ps_set (i := 2) sc_law_gcd.nd rfl (.inl rfl) (pe_op op_mod (pe_callTy call_int1 (by rfl) T.m_int (by decide +kernel) (pa_cons (pv 0) pa_nil)) (pv 1)))
        (pss_cons (ps_set (i := 0) sc_law_gcd.nd rfl (.inl rfl) (pv 1))
        (pss_one (ps_set (i := 1) sc_law_gcd.nd rfl (.inl rfl) (pv 2))))))
      (pss_one (ps_ret (pv 0)))))), ?_⟩
    refine ⟨_, rfl, a, rfl, _, rfl, b, rfl, ?_⟩
    dsimp only
    rw [abs_nat, abs_nat]
    refine ⟨fun m σ H' => ∃ (x y : Nat) (y2 : Option V), σ = [some (.int (x : Int)), some (.int (y : Int)), y2] ∧ H = H' ∧ Nat.gcd x y = Int.gcd a b ∧ m = y, ⟨_, a.natAbs, b.natAbs, none, rfl, rfl, rfl, rfl⟩, fun m σ H' hW => ?_⟩
    obtain ⟨x, y, y2, rfl, rfl, hg, rfl⟩ := hW
    refine ⟨_, rfl, _, _, rfl, rfl, _, rfl, ite2 (fun c => ?_) (fun c => ?_)⟩
    · have c' : (0 : Int) < (m : Int) := of_decide_eq_true c
      refine ⟨fun σ' H' => ∃ m', m' < m ∧ ∃ (x y : Nat) (y2 : Option V), σ' = [some (.int (x : Int)), some (.int (y : Int)), y2] ∧ H = H' ∧ Nat.gcd x y = Int.gcd a b ∧ m' = y, fun _ _ z => z, ?_⟩
      refine ⟨_, rfl, .inl ⟨_, rfl, _, rfl, x, m, rfl, rfl, c', ?_⟩⟩
      refine ⟨_, rfl, _, rfl, x % m, Nat.mod_lt _ (by omega), m, x % m, _, rfl, rfl, ?_, rfl⟩
      rw [← hg, Nat.gcd_comm x m, Nat.gcd_rec m x, Nat.gcd_comm]
    · have c' : ¬ (0 : Int) < (m : Int) := fun z => c (decide_eq_true z)
      have y0 : m = 0 := by omega
      subst y0
      rw [Nat.gcd_zero_right] at hg
      rw [hg]
      exact ⟨_, rfl, q⟩
theorem ok_law_lowH (T : Txt K mg) : L2H.FnH P w K mg base CX0 2 T.f_law_low T.d_law_low ["_law_top", "_law_bottom"] sl_low := by
  refine okH0 T.F_law_low sc_law_low (fun vs H Q E h => ?_) (fun cdv A outer s H vs Q E pp hot hr h => ?_)
  · obtain ⟨t, b, rfl, _⟩ := h
    rfl
  · obtain ⟨t, b, rfl, b0, fb, q⟩ := h
    refine ⟨_, (pss_cons (ps_set (i := 2) sc_law_low.nd rfl (.inl rfl) (L2H.pe_callH (E := fun _ => E0) (ok_law_gcdH T) (hr.mono (by decide)) (hotC hot) (by rfl) T.g_law_gcd T.F_law_gcd.kp T.b_law_gcd (fun σ => passH) (pa_cons (pv 0) (pa_cons (pv 1) pa_nil))))
      (Evl.pss_cut (ps_if (pt_cmpR op_lt (pv 1) pe_int (nomark _))
        (pss_one (ps_set (i := 2) sc_law_low.nd rfl (.inl rfl) (pe_un un_neg (pv 2))))
        pss_nil)
      (pss_one (ps_ret (pe_tup (pa_cons (pe_op op_fdivA (pv 0) (pv 2)) (pa_cons (pe_op op_fdivA (pv 1) (pv 2)) pa_nil))))))), ?_⟩
    refine ⟨_, rfl, _, rfl, t, b, rfl, ?_⟩
    refine ⟨fun σ H' => σ = [some (.int t), some (.int b), some (.int (gS t b))] ∧ H = H', ?_, fun σ H' hM => ?_⟩
    · refine ⟨_, rfl, _, _, rfl, rfl, _, rfl, ite2 (fun c => ?_) (fun c => ?_)⟩
      · have c' : b < 0 := of_decide_eq_true c
        refine ⟨_, rfl, _, rfl, ?_, rfl⟩
        unfold gS
        rw [if_pos c']
        rfl
      · have c' : ¬ b < 0 := fun z => c (decide_eq_true z)
        refine ⟨?_, rfl⟩
        unfold gS
        rw [if_neg c']
        rfl
    · obtain ⟨rfl, rfl⟩ := hM
      have g0 := gS_ne (t := t) b0
      have gl := fin_log (gS_fin (t := t) b0 fb) (by decide) (by decide)
      refine ⟨_, rfl, _, rfl, t, _, rfl, rfl, ⟨g0, gl⟩, _, rfl, _, rfl, b, _, rfl, rfl, ⟨g0, gl⟩, (by show 2 ≤ sizeLine; decide), fun l nl => ?_⟩
      exact q l _ (same_new nl) (fr_dq (q := low t b) upd_same)
theorem ok_law_someH (T : Txt K mg) : L2H.FnH P w K mg base CX0 1 T.f_law_some T.d_law_some ["_law_p", "_law_number_here"] sl_some := by
  refine okH0 T.F_law_some sc_law_some (fun vs H Q E h => ?_) (fun cdv A outer s H vs Q E pp hot hr h => ?_)
  · obtain ⟨p, n, rfl, _⟩ := h
    rfl
  · obtain ⟨p, n, rfl, q⟩ := h
    refine ⟨_, (pss_cons (ps_if (pt_cmpR op_gt (pv 0) pe_int (nomark _))
        (pss_one (ps_ret (pe_op op_mod (pe_callTy call_int1 (by rfl) T.m_int (by decide +kernel) (pa_cons (pv 1) pa_nil)) (pv 0))))
        pss_nil)
      (pss_one (ps_ret (pe_tup (pa_cons (pv 1) (pa_cons pe_int pa_nil)))))), ?_⟩
    unfold someD at q
    refine ⟨_, rfl, _, _, rfl, rfl, _, rfl, ite2 (fun c => ?_) (fun c => ?_)⟩
    · have c' : (0 : Int) < (p : Int) := of_decide_eq_true c
      rw [if_neg (by omega)] at q
      exact ⟨_, rfl, .inl ⟨_, rfl, _, rfl, n, p, rfl, rfl, c', q _ _ (fun _ _ z => z) (.int _)⟩⟩
    · have c' : ¬ (0 : Int) < (p : Int) := fun z => c (decide_eq_true z)
      rw [if_pos (by omega)] at q
      refine ⟨_, rfl, (by show 2 ≤ sizeLine; decide), fun l nl => ?_⟩
      exact q _ _ (same_new nl) (fr_dq (q := (n, 1)) upd_same)
theorem ok_law_timesH (T : Txt K mg) : L2H.FnH P w K mg base CX0 3 T.f_law_times T.d_law_times ["_law_p", "_law_one", "_law_other"] (sp_law_op timesD) := by
  refine okH0 T.F_law_times sc_law_times (fun vs H Q E h => ?_) (fun cdv A outer s H vs Q E pp hot hr h => ?_)
  · obtain ⟨p, x, y, a, b, rfl, _⟩ := h
    rfl
  · obtain ⟨p, x, y, a, b, rfl, ka, kb, na, nb, le, q⟩ := h
    refine ⟨_, (pss_cons (ps_if (pt_cmpR op_gt (pv 0) pe_int (nomark _))
        (pss_one (ps_ret (pe_op op_mod (pe_callTy call_int1 (by rfl) T.m_int (by decide +kernel) (pa_cons (pe_op op_mulW (pv 1) (pv 2)) pa_nil)) (pv 0))))
        pss_nil)
      (pss_one (ps_ret (L2H.pe_callH (E := fun _ => E0) (ok_law_lowH T) (hr.mono (by decide)) (hotC hot) (by rfl) T.g_law_low T.F_law_low.kp T.b_law_low (fun σ => passH) (pa_cons (pe_op op_mulW (pe_ix ix_tup (pv 1) pe_int (fun _ _ => rfl)) (pe_ix ix_tup (pv 2) pe_int (fun _ _ => rfl))) (pa_cons (pe_op op_mulW (pe_ix ix_tup (pv 1) pe_int (fun _ _ => rfl)) (pe_ix ix_tup (pv 2) pe_int (fun _ _ => rfl))) pa_nil)))))), ?_⟩
    unfold timesD at q
    cases na with
    | @fr k r a1 a2 a3 =>
      cases nb with
      | @fr k t b1 b2 b3 =>
        rw [if_pos rfl] at q
        obtain ⟨l1, rfl, h1⟩ := fr_at ka
        obtain ⟨l2, rfl, h2⟩ := fr_at kb
        have w1 := Fin.mulW a2 b2 (by decide) (by decide) (by decide)
        have w2 := Fin.mulW a3 b3 (by decide) (by decide) (by decide)
        refine ⟨_, rfl, _, _, rfl, rfl, _, rfl, iteF ⟨_, rfl, l1, _, 0, _, rfl, rfl, SqT.of h1, at_of (j := 0) rfl rfl, _, rfl, l2, _, 0, _, rfl, rfl, SqT.of h2, at_of (j := 0) rfl rfl, _, _, rfl, rfl, w1, _, rfl, l1, _, 1, _, rfl, rfl, SqT.of h1, at_of (j := 1) rfl rfl, _, rfl, l2, _, 1, _, rfl, rfl, SqT.of h2, at_of (j := 1) rfl rfl, _, _, rfl, rfl, w2, _, _, rfl, mul_ne a1.1 b1.1, Fin.mul a3 b3, fun l H' s k => q _ H' s k⟩⟩
      | rs n _ => exact absurd rfl n
    | @rs p k x n a1 =>
      cases nb with
      | fr _ _ _ => exact absurd rfl n
      | @rs p k y n2 b1 =>
        rw [if_neg n] at q
        cases ka
        cases kb
        have p0 : (0 : Int) < p := by omega
        refine ⟨_, rfl, _, _, rfl, rfl, _, rfl, ite2 (fun _ => ⟨_, rfl, _, rfl, _, _, rfl, rfl, Fin.mulW (med_lt a1 le) (med_lt b1 le) (by decide) (by decide) (by decide), .inl ⟨_, rfl, _, rfl, _, _, rfl, rfl, p0, q _ _ (fun _ _ z => z) (.int _)⟩⟩) (fun c => absurd (decide_eq_true p0) c)⟩
theorem ok_law_plusH (T : Txt K mg) : L2H.FnH P w K mg base CX0 3 T.f_law_plus T.d_law_plus ["_law_p", "_law_one", "_law_other"] (sp_law_op plusD) := by
  refine okH0 T.F_law_plus sc_law_plus (fun vs H Q E h => ?_) (fun cdv A outer s H vs Q E pp hot hr h => ?_)
  · obtain ⟨p, x, y, a, b, rfl, _⟩ := h
    rfl
  · obtain ⟨p, x, y, a, b, rfl, ka, kb, na, nb, le, q⟩ := h
    refine ⟨_, (pss_cons (ps_if (pt_cmpR op_gt (pv 0) pe_int (nomark _))
        (pss_one (ps_ret (pe_op op_mod (pe_callTy call_int1 (by rfl) T.m_int (by decide +kernel) (pa_cons (pe_op op_add (pv 1) (pv 2)) pa_nil)) (pv 0))))
        pss_nil)
      (pss_one (ps_ret (L2H.pe_callH (E := fun _ => E0) (ok_law_lowH T) (hr.mono (by decide)) (hotC hot) (by rfl) T.g_law_low T.F_law_low.kp T.b_law_low (fun σ => passH) (pa_cons (pe_op op_add (pe_op op_mulW (pe_ix ix_tup (pv 1) pe_int (fun _ _ => rfl)) (pe_ix ix_tup (pv 2) pe_int (fun _ _ => rfl))) (pe_op op_mulW (pe_ix ix_tup (pv 2) pe_int (fun _ _ => rfl)) (pe_ix ix_tup (pv 1) pe_int (fun _ _ => rfl)))) (pa_cons (pe_op op_mulW (pe_ix ix_tup (pv 1) pe_int (fun _ _ => rfl)) (pe_ix ix_tup (pv 2) pe_int (fun _ _ => rfl))) pa_nil)))))), ?_⟩
    unfold plusD at q
    cases na with
    | @fr k r a1 a2 a3 =>
      cases nb with
      | @fr k t b1 b2 b3 =>
        rw [if_pos rfl] at q
        obtain ⟨l1, rfl, h1⟩ := fr_at ka
        obtain ⟨l2, rfl, h2⟩ := fr_at kb
        have w1 := Fin.mulW a2 b3 (by decide) (by decide) (by decide)
        have w2 := Fin.mulW b2 a3 (by decide) (by decide) (by decide)
        have w3 := Fin.mulW a3 b3 (by decide) (by decide) (by decide)
        refine ⟨_, rfl, _, _, rfl, rfl, _, rfl, iteF ⟨_, rfl, l1, _, 0, _, rfl, rfl, SqT.of h1, at_of (j := 0) rfl rfl, _, rfl, l2, _, 1, _, rfl, rfl, SqT.of h2, at_of (j := 1) rfl rfl, _, _, rfl, rfl, w1, _, rfl, l2, _, 0, _, rfl, rfl, SqT.of h2, at_of (j := 0) rfl rfl, _, rfl, l1, _, 1, _, rfl, rfl, SqT.of h1, at_of (j := 1) rfl rfl, _, _, rfl, rfl, w2, _, _, rfl, rfl, _, rfl, l1, _, 1, _, rfl, rfl, SqT.of h1, at_of (j := 1) rfl rfl, _, rfl, l2, _, 1, _, rfl, rfl, SqT.of h2, at_of (j := 1) rfl rfl, _, _, rfl, rfl, w3, _, _, rfl, mul_ne a1.1 b1.1, Fin.mul a3 b3, fun l H' s k => q _ H' s k⟩⟩
      | rs n _ => exact absurd rfl n
    | @rs p k x n a1 =>
      cases nb with
      | fr _ _ _ => exact absurd rfl n
      | @rs p k y n2 b1 =>
        rw [if_neg n] at q
        cases ka
        cases kb
        have p0 : (0 : Int) < p := by omega
        refine ⟨_, rfl, _, _, rfl, rfl, _, rfl, ite2 (fun _ => ⟨_, rfl, _, rfl, _, _, rfl, rfl, .inl ⟨_, rfl, _, rfl, _, _, rfl, rfl, p0, q _ _ (fun _ _ z => z) (.int _)⟩⟩) (fun c => absurd (decide_eq_true p0) c)⟩
theorem ok_law_noughtH (T : Txt K mg) : L2H.FnH P w K mg base CX0 2 T.f_law_nought T.d_law_nought ["_law_p", "_law_thing"] sl_nought := by
  refine okH0 T.F_law_nought sc_law_nought (fun vs H Q E h => ?_) (fun cdv A outer s H vs Q E pp hot hr h => ?_)
  · obtain ⟨p, k, x, d, rfl, _⟩ := h
    rfl
  · obtain ⟨p, k, x, d, rfl, fp, kx, nd, q⟩ := h
    refine ⟨_, (pss_one (ps_ret (pe_cmpR (op_eqD (hotU hr)) (pv 1) (L2H.pe_callH (E := fun _ => E0) (ok_law_someH T) (hr.mono (by decide)) (hotC hot) (by rfl) T.g_law_some T.F_law_some.kp T.b_law_some (fun σ => passH) (pa_cons (pv 0) (pa_cons pe_int pa_nil))) (nomark _)))), ?_⟩
    refine ⟨_, rfl, _, rfl, p, 0, rfl, fun v H1 s1 kv => ?_⟩
    rw [some_zero] at kv
    refine ⟨d, zeroD p, (kx.same s1).dp, kv.dp, nb_shp nd, zero_shp p, ?_⟩
    have := q H1 s1
    unfold nzB at this
    rw [Bool.not_not] at this
    exact this
theorem ok_law_minusH (T : Txt K mg) : L2H.FnH P w K mg base CX0 4 T.f_law_minus T.d_law_minus ["_law_p", "_law_one"] sl_minus := by
  refine okH0 T.F_law_minus sc_law_minus (fun vs H Q E h => ?_) (fun cdv A outer s H vs Q E pp hot hr h => ?_)
  · obtain ⟨p, x, d, rfl, _⟩ := h
    rfl
  · obtain ⟨p, x, d, rfl, fp, kx, nd, q⟩ := h
    refine ⟨_, (pss_one (ps_ret (L2H.pe_callH (E := fun _ => E0) (ok_law_timesH T) (hr.mono (by decide)) (hotC hot) (by rfl) T.g_law_times T.F_law_times.kp T.b_law_times (fun σ => passH) (pa_cons (pv 0) (pa_cons (L2H.pe_callH (E := fun _ => E0) (ok_law_someH T) (hr.mono (by decide)) (hotC hot) (by rfl) T.g_law_some T.F_law_some.kp T.b_law_some (fun σ => passH) (pa_cons (pv 0) (pa_cons (pe_un un_neg pe_int) pa_nil))) (pa_cons (pv 1) pa_nil)))))), ?_⟩
    refine ⟨_, rfl, _, rfl, 1, rfl, p, -1, rfl, fun v H1 s1 k1 => ?_⟩
    rw [some_minus fp] at k1
    exact ⟨_, rfl, p, v, x, minusD p, d, rfl, k1, kx.same s1, nb_minus fp (by decide), nd.up (by decide), fp.le, fun v2 H2 s2 k2 => q v2 H2 (s1.trans s2) k2⟩
theorem ok_law_overH (T : Txt K mg) : L2H.FnH P w K mg base CX0 3 T.f_law_over T.d_law_over ["_law_p", "_law_one", "_law_other"] sl_over := by
  refine okH0 T.F_law_over sc_law_over (fun vs H Q E h => ?_) (fun cdv A outer s H vs Q E pp hot hr h => ?_)
  · obtain ⟨p, x, y, a, b, rfl, _⟩ := h
    rfl
  · obtain ⟨p, x, y, a, b, rfl, fp, kx, ky, na, nb, nz, q⟩ := h
    refine ⟨_, (pss_cons (ps_if (pt_cmpR op_eq (pv 0) pe_int (nomark _))
        (pss_one (ps_ret (L2H.pe_callH (E := fun _ => E0) (ok_law_lowH T) (hr.mono (by decide)) (hotC hot) (by rfl) T.g_law_low T.F_law_low.kp T.b_law_low (fun σ => passH) (pa_cons (pe_op op_mulW (pe_ix ix_tup (pv 1) pe_int (fun _ _ => rfl)) (pe_ix ix_tup (pv 2) pe_int (fun _ _ => rfl))) (pa_cons (pe_op op_mulW (pe_ix ix_tup (pv 1) pe_int (fun _ _ => rfl)) (pe_ix ix_tup (pv 2) pe_int (fun _ _ => rfl))) pa_nil)))))
        pss_nil)
      (pss_cons (ps_set (i := 3) sc_law_over.nd rfl (.inl rfl) (pe_op op_mod (pe_callTy call_int1 (by rfl) T.m_int (by decide +kernel) (pa_cons (pv 1) pa_nil)) (pv 0)))
      (pss_cons (ps_set (i := 4) sc_law_over.nd rfl (.inl rfl) (pe_op op_mod (pe_callTy call_int1 (by rfl) T.m_int (by decide +kernel) (pa_cons (pv 2) pa_nil)) (pv 0)))
      (pss_cons (ps_set (i := 5) sc_law_over.nd rfl (.inl rfl) (pe_op op_sub (pv 0) pe_int))
      (pss_cons (ps_while PassesOwn.never (pt_cmpR op_gt (pv 5) pe_int (nomark _))
        (Evl.pss_cut (ps_if (pt_cmpR op_eq (pe_op op_mod (pe_callTy call_int1 (by rfl) T.m_int (by decide +kernel) (pa_cons (pv 5) pa_nil)) pe_int) pe_int (nomark _))
          (pss_one (ps_set (i := 3) sc_law_over.nd rfl (.inl rfl) (pe_op op_mod (pe_callTy call_int1 (by rfl) T.m_int (by decide +kernel) (pa_cons (pe_op op_mulW (pv 3) (pv 4)) pa_nil)) (pv 0))))
          pss_nil)
        (pss_cons (ps_set (i := 4) sc_law_over.nd rfl (.inl rfl) (pe_op op_mod (pe_callTy call_int1 (by rfl) T.m_int (by decide +kernel) (pa_cons (pe_op op_mulW (pv 4) (pv 4)) pa_nil)) (pv 0)))
        (pss_one (ps_set (i := 5) sc_law_over.nd rfl (.inl rfl) (pe_op op_fdiv (pv 5) pe_int))))))
      (pss_one (ps_ret (pv 3)))))))), ?_⟩
    unfold overD at q
    cases na with
    | @fr k r a1 a2 a3 =>
      cases nb with
      | @fr k t b1 b2 b3 =>
        rw [if_pos rfl] at q
        obtain ⟨l1, rfl, h1⟩ := fr_at kx
        obtain ⟨l2, rfl, h2⟩ := fr_at ky
        have t1 := fr_zero b1 nz
        have w1 := Fin.mulW a2 b3 (by decide) (by decide) (by decide)
        have w2 := Fin.mulW a3 b2 (by decide) (by decide) (by decide)
        exact ⟨_, rfl, rfl, _, rfl, iteT ⟨_, rfl, l1, _, 0, _, rfl, rfl, SqT.of h1, at_of (j := 0) rfl rfl, _, rfl, l2, _, 1, _, rfl, rfl, SqT.of h2, at_of (j := 1) rfl rfl, _, _, rfl, rfl, w1, _, rfl, l1, _, 1, _, rfl, rfl, SqT.of h1, at_of (j := 1) rfl rfl, _, rfl, l2, _, 0, _, rfl, rfl, SqT.of h2, at_of (j := 0) rfl rfl, _, _, rfl, rfl, w2, _, _, rfl, (fun z => (Int.mul_eq_zero.mp z).elim (fun h => pos_ne a1.1 h) t1), fin_up (Fin.mul a3 b2) (by decide), fun l H' s k => q _ H' s k⟩⟩
      | rs n _ => exact absurd rfl n
    | @rs p k X n lx =>
      cases nb with
      | fr _ _ _ => exact absurd rfl n
      | @rs _ _ Y _ ly =>
        rw [if_neg n] at q
        cases kx
        cases ky
        have p2 := fp.cases n
        have le := fp.le
        have p0 : (0 : Int) < (p : Int) := by omega
        refine ⟨_, rfl, rfl, _, rfl, ite2 (fun c => ?_) (fun _ => ?_)⟩
        · exact absurd (show (p : Int) = 0 by simpa using c) (by omega)
        refine ⟨_, rfl, .inl ⟨_, rfl, _, rfl, _, _, rfl, rfl, p0, _, rfl, .inl ⟨_, rfl, _, rfl, _, _, rfl, rfl, p0, ?_⟩⟩⟩
        refine ⟨_, rfl, _, _, rfl, rfl, ?_⟩
        dsimp only
        have ex : (X : Int) % (p : Int) = (X : Int) := Int.emod_eq_of_lt (by omega) (by omega)
        have ey : (Y : Int) % (p : Int) = (Y : Int) := Int.emod_eq_of_lt (by omega) (by omega)
        rw [ex, ey]
        refine ⟨fun m σ H' => ∃ (o b : Nat), σ = [some (.int (p : Int)), some (.int (X : Int)), some (.int (Y : Int)), some (.int (o : Int)), some (.int (b : Int)), some (.int (m : Int))] ∧ H = H' ∧ o < p ∧ b < p ∧ m ≤ 20000 ∧ o * b ^ m % p = X * Y ^ (p - 2) % p, ⟨p - 2, X, Y, by rw [show ((p - 2 : Nat) : Int) = (p : Int) - 2 by omega]; rfl, rfl, lx, ly, by omega, rfl⟩, fun m σ H' hW => ?_⟩
        obtain ⟨o, b, rfl, rfl, lo, lb, lm, hp⟩ := hW
        refine ⟨_, rfl, _, _, rfl, rfl, _, rfl, ite2 (fun c => ?_) (fun c => ?_)⟩
        · have c' : (0 : Int) < (m : Int) := of_decide_eq_true c
          refine ⟨fun σ' H' => ∃ m', m' < m ∧ ∃ (o b : Nat), σ' = [some (.int (p : Int)), some (.int (X : Int)), some (.int (Y : Int)), some (.int (o : Int)), some (.int (b : Int)), some (.int (m' : Int))] ∧ H = H' ∧ o < p ∧ b < p ∧ m' ≤ 20000 ∧ o * b ^ m' % p = X * Y ^ (p - 2) % p, fun _ _ z => z, ?_⟩
          have po := pow_odd b m
          have wb := Fin.mulW (med_lt lb le) (med_lt lb le) (by decide) (by decide) (by decide)
          have wo := Fin.mulW (med_lt lo le) (med_lt lb le) (by decide) (by decide) (by decide)
          refine ⟨fun σ H' => ∃ o' : Nat, σ = [some (.int (p : Int)), some (.int (X : Int)), some (.int (Y : Int)), some (.int (o' : Int)), some (.int (b : Int)), some (.int (m : Int))] ∧ H = H' ∧ o' < p ∧ o' * (b * b) ^ (m / 2) % p = X * Y ^ (p - 2) % p, ?_, fun σ H' hM => ?_⟩
          · refine ⟨_, rfl, .inl ⟨_, rfl, _, 2, rfl, rfl, (by show (0 : Int) < 2; decide), rfl, _, rfl, ite2 (fun c2 => ?_) (fun c2 => ?_)⟩⟩
            · have c2' : (m : Int) % 2 = 1 := by simpa using c2
              refine ⟨_, rfl, _, rfl, _, _, rfl, rfl, wo, .inl ⟨_, rfl, _, rfl, _, _, rfl, rfl, p0, ?_⟩⟩
              refine ⟨o * b % p, rfl, rfl, Nat.mod_lt _ (by omega), ?_⟩
              rw [if_pos (show m % 2 = 1 by omega)] at po
              rw [po] at hp
              rw [← hp, Nat.mod_mul_mod]
              congr 1
              rw [Nat.mul_assoc, Nat.mul_comm b]
            · have c2' : ¬ (m : Int) % 2 = 1 := fun z => c2 (by simpa using z)
              refine ⟨o, rfl, rfl, lo, ?_⟩
              rw [if_neg (show ¬ m % 2 = 1 by omega), Nat.mul_one] at po
              rw [← po]
              exact hp
          · obtain ⟨o', rfl, rfl, lo', hp'⟩ := hM
            refine ⟨_, rfl, _, rfl, _, _, rfl, rfl, wb, .inl ⟨_, rfl, _, rfl, _, _, rfl, rfl, p0, ?_⟩⟩
            refine ⟨_, rfl, _, _, rfl, rfl, ⟨by decide, by decide⟩, ?_⟩
            refine ⟨m / 2, by omega, o', b * b % p, rfl, rfl, lo', Nat.mod_lt _ (by omega), by omega, ?_⟩
            rw [← hp', Nat.mul_mod, ← Nat.pow_mod, ← Nat.mul_mod]
        · have c' : ¬ (0 : Int) < (m : Int) := fun z => c (decide_eq_true z)
          have m0 : m = 0 := by omega
          subst m0
          rw [Nat.pow_zero, Nat.mul_one, Nat.mod_eq_of_lt lo] at hp
          refine ⟨_, rfl, q _ _ (fun _ _ z => z) ?_⟩
          rw [hp]
          exact .int _
end
end K26
set_option Elab.async false
set_option linter.all false
set_option maxRecDepth 100000
set_option maxHeartbeats 4000000
/-! a list comprehension while an exception is handled; walks over a list and over range(a, b) there -/
namespace TkLcH
open PySem PySem.Spec PyProof.Rows L2 L2H HotX
/-- the turns of the loop, in any context that bears the handled exception -/
theorem loopH {B : Cx} {elt tg iter : Expr} {ifs : List Expr} {scope : Scope} {pos : Pos} {D it : Addr} {σw : L2.St} {H : Hp} {s : Shared} {R : Result → Shared → Prop} {J : It} {fp : List Addr} {tn : Nat → Heap → Prop} {g : TG} {tt : TT} {te : TE} {vs : List Nat} {σ : L2.St} {Qd : Hp → Prop} {W : Nat → Nat → Hp → Prop} {m0 : Nat}
    (hot : HotC B) (hx : B.xe = fun _ _ => False) (hσ : σw = wipe σ vs) (T : TurnH B.prog B.w B.K tg J fp it tn) (fpB : ∀ H', (∀ b ∈ fp, H' b = none) → ∀ b ∈ fp, FpOk B [] H' b)
    (pg : PG B tg g) (pt : PTs B ifs tt) (pe : PE B elt te) (I : Inv B [] σw H s) (st : tn 0 s.heap) (nfp : ∀ b ∈ fp, H b = none) (w0 : W 0 m0 H)
    (turn : ∀ i m H, W i m H → (J.stop i H ∧ Qd H) ∨ (J.go i H ∧ ∃ Nx : Hp → Prop, (∀ H', Nx H' → ∃ m', m' < m ∧ W (i + 1) m' H') ∧ ∀ x H', J.yld i H x H' → g x (wipe σ vs) H' fun σ2 H2 => wipe σ2 vs = wipe σ vs ∧ tt σ2 H2 fun b H3 =>
      if b = true then te σ2 H3 fun y H4 => ∃ acc, H4 D = some (.lst acc) ∧ acc.length < sizeLine ∧ Nx (upd H4 D (.lst (acc ++ [y]))) else Nx H3))
    (fin : ∀ H' s', Inv B [] σw H' s' → Qd H' → R (.ok .next) s') :
    codeAny (model B.prog B.w) B.A (.compLoop (.ListComp elt [⟨tg, iter, ifs, 0⟩] scope pos) 0 (.ref it) (.ref D) B.env) R s := by
  subst hσ
  refine compLoop_any (fun n s' => ∃ i H', Inv B [] (wipe σ vs) H' s' ∧ tn i s'.heap ∧ (∀ b ∈ fp, H' b = none) ∧ W i n H') (fun n s1 ⟨i, H1, I1, st1, n1, w1⟩ => ?_) m0 ⟨0, H, I, st, nfp, w0⟩
  rcases turn i n H1 w1 with ⟨stop, qq⟩ | ⟨go, Nx, hNx, step⟩
  · refine thnF (T.done B rfl rfl rfl hot i [] s1 _ H1 (fun _ _ => False) I1 (fpB H1 n1) st1 stop) fun r s2 ⟨hr, I2⟩ => ?_
    subst hr
    exact fin H1 s2 I2 qq
  · refine thnF (T.item B rfl rfl rfl hot i [] s1 _ H1 (fun _ _ => False) I1 (fpB H1 n1) st1 go) fun r s2 ⟨u, hr, h2⟩ => ?_
    subst hr
    refine thnF h2 fun _ s3 ⟨x, H3, I3, r3, y3, st3, n3⟩ => ?_
    have I3' := I3.pinned (fpB H3 n3) (T.obj _ _ st3)
    have rg := pg.run _ s3 _ H3 x u _ I3' r3 (step x H3 y3)
    rw [hx] at rg
    refine thnF rg fun _ s4 ⟨σ4, H4, I4, e4, q4⟩ => ?_
    have rt := pt.run _ s4 σ4 H4 _ I4 q4
    rw [hx] at rt
    refine thnF rt fun b s5 ⟨H5, I5, q5⟩ => ?_
    have next : ∀ {H' : Hp} {s' : Shared}, Inv B ([] ++ pinsAt fp s3.heap) σ4 H' s' → Nx H' → ∃ m, m < n ∧ ∃ i H', Inv B [] (wipe σ vs) H' s' ∧ tn i s'.heap ∧ (∀ b ∈ fp, H' b = none) ∧ W i m H' := fun {H' s'} I' nx => by
      obtain ⟨m', hm, w'⟩ := hNx H' nx
      have held : ∀ b ∈ fp, ∀ o, s3.heap.get? b = some o → s'.heap.get? b = some o ∧ H' b = none := fun b hb o e => by
        have z := I'.pin (b, o) (List.mem_append_right _ (List.mem_append_right _ (mem_pinsAt hb e)))
        exact ⟨z.1, z.2.1⟩
      refine ⟨m', hm, i + 1, H', (I'.unpinned (pins := [])).weak (by rw [← e4, wipe_length]) (fun j v e => ?_), T.keep _ _ _ st3 fun b hb o e => (held b hb o e).1, fun b hb => ?_, w'⟩
      · rw [← e4] at e
        exact (wipe_some e).1
      · obtain ⟨o, e, _⟩ := T.obj _ _ st3 b hb
        exact (held b hb o e).2
    cases b with
    | false =>
      rw [if_neg Bool.false_ne_true] at q5 ⊢
      exact next I5 q5
    | true =>
      rw [if_pos rfl] at q5 ⊢
      have re := pe.run _ s5 σ4 H5 _ I5 q5
      rw [hx] at re
      refine thnF re fun z s6 ⟨yv, H6, I6, r6, acc, hD, hz, nx⟩ => ?_
      exact app_ok (X := B) I6 hD hz r6 fun s7 I7 => next I7 nx
/-- a block's context that keeps the handled exception -/
abbrev bH (X : Cx) (s : Shared) (H : Hp) (scope : Scope) (ce : Env) (fp : List Addr) (p : Addr × Obj) : Cx := (X.blk s H scope ce fp).tr [p] (fun _ _ => False)
theorem block_startH {X : Cx} {pins : List (Addr × Obj)} {σ : L2.St} {H : Hp} {s : Shared} {scope : Scope} {own : List (Str × Nat)} {fp : List Addr} {p : Addr × Obj} (I : Inv X pins σ H s) (ok : BlkOk X.N X.env.scope scope own) (hN : X.N.Nodup) (hfp : ∀ b ∈ fp, FpOk X pins H b ∧ b < s.heap.objs.size) (hp : p ∈ X.pn) :
    Inv (bH X s H scope (compEnvC scope (cellsFrom (s.heap.objs.size + 1) scope.names (cloFrom X.env.cells scope.names [])) s.heap.objs.size X.env) fp p) [] (wipe σ (own.map (·.2))) H { s with heap := pushCells (s.heap.push { cls := .type "dict", data := .dict #[] }) scope.names } := by
  have B0 := block_start I ok hN hfp
  have P1 := I.pin p (List.mem_append_left _ hp)
  have B1 := B0.pins_of (pins' := [p]) fun q hq => by
    obtain rfl := List.mem_singleton.mp hq
    exact ⟨pushCells_keeps _ _ _ _ (Heap.get?_push_of_some _ P1.1), P1.2.1, Nat.ne_of_lt (Heap.lt_size P1.1), fun hm => (List.mem_cons.mp (I.stkSub q.1 hm)).elim P1.2.2.1 P1.2.2.2.1, P1.2.2.2.2⟩
  exact B1.toTry _
theorem lcH_core {X : Cx} {elt tg iter : Expr} {ifs : List Expr} {scope : Scope} {own : List (Str × Nat)} {pos pos' : Pos} {wi : TI} {g : TG} {tt : TT} {te : TE} {pins : List (Addr × Obj)} {s : Shared} {σ : L2.St} {H : Hp} {Q : VK} {use : Option (Value → Sem Unit)} {Qf : Value → Shared → Prop} (hc : HotC X) (hN : X.N.Nodup) (I : Inv X pins σ H s) (hi : PIH X tg iter wi) (ok : BlkOk X.N X.env.scope scope own)
    (hg : ∀ (s : Shared) (H : Hp) (C : Addr) (cl : List (Str × Addr)) (fp : List Addr) (p : Addr × Obj), PG (bH X s H scope (compEnvC scope cl C X.env) fp p) tg g) (ht : ∀ (s : Shared) (H : Hp) (C : Addr) (cl : List (Str × Addr)) (fp : List Addr) (p : Addr × Obj), PTs (bH X s H scope (compEnvC scope cl C X.env) fp p) ifs tt)
    (he : ∀ (s : Shared) (H : Hp) (C : Addr) (cl : List (Str × Addr)) (fp : List Addr) (p : Addr × Obj), HotC (bH X s H scope (compEnvC scope cl C X.env) fp p) → PE (bH X s H scope (compEnvC scope cl C X.env) fp p) elt te) (hs : ∀ x, foldedSetIterable iter X.env x = pure x)
    (h : tLc wi g tt te (own.map (·.2)) σ H Q) (hRR : ∀ D C s' m H', Inv X pins σ H' s' → Q (.ref D) H' → s'.heap.Ns C m → FpOk X pins H' C → compPost (model X.prog X.w) X.A X.xe use Qf (.ref D) C (.ok .next) s') :
    wpAny (model X.prog X.w) X.A (comprehension (.ListComp elt [⟨tg, iter, ifs, 0⟩] scope pos) scope X.env pos' (newList []) false (eval iter X.env) use) Qf X.xe s := by
  obtain ⟨p, hot1, hp⟩ := hc
  refine wpAny_comprehension_free (use := use) rfl hs (closure_ok fun y hy e => ?_) ok.kind (fun y hy e => by rw [ok.uniq y hy, e]) (thn (hi.run pins s σ H _ I h) fun xv s1 hx => thn hx fun itv s2 h2 => ?_)
  · rcases ok.free y hy e with k | k
    · exact I.ok.has _ (.inl k)
    · exact I.ok.has _ (.inr k)
  obtain ⟨it, fp, tn, J, H2, rfl, I2, T, st2, f2, q⟩ := h2
  refine wpAny_newObj_type (newEnv_comp ?_) (by show 0 ≤ sizeLine; decide)
  have hDn : H2 s2.heap.objs.size = none := I2.hok.fresh (Nat.le_refl _)
  obtain ⟨W, ⟨m0, w0⟩, turn⟩ := q _ hDn
  have I3 : Inv X pins σ (upd H2 s2.heap.objs.size (.lst [])) { s2 with heap := s2.heap.push { cls := .type "list", data := .seq ([] : List Value).toArray } } :=
    I2.laid (t' := s2.toks) (fun b o e => Heap.get?_push_of_some _ e) (Nat.le_refl _) ⟨Nat.zero_le _, [], 0, .nil, Heap.get?_push_size _ rfl⟩
  have sz : ∀ b ∈ fp, b < s2.heap.objs.size := fun b hb => by
    obtain ⟨o, e, _⟩ := T.obj _ _ st2 b hb
    exact Heap.lt_size e
  generalize hD : s2.heap.objs.size = D at *
  have f3 : ∀ b ∈ fp, FpOk X pins (upd H2 D (.lst [])) b ∧ b < (s2.heap.push { cls := .type "list", data := .seq ([] : List Value).toArray }).objs.size := fun b hb => by
    refine ⟨⟨?_, (f2 b hb).2⟩, by rw [Heap.size_push, hD]; exact Nat.lt_succ_of_lt (sz b hb)⟩
    rw [upd_ne (Nat.ne_of_lt (sz b hb))]
    exact (f2 b hb).1
  have st3 : tn 0 (s2.heap.push { cls := .type "list", data := .seq ([] : List Value).toArray }) := T.keep _ _ _ st2 fun b _ o e => Heap.get?_push_of_some _ e
  generalize hs3 : ({ s2 with heap := s2.heap.push { cls := .type "list", data := .seq ([] : List Value).toArray } } : Shared) = s3 at *
  have f4 : ∀ b ∈ fp, FpOk X pins (upd H2 D (.lst [])) b ∧ b < s3.heap.objs.size := by
    rw [← hs3]
    exact f3
  have st4 : tn 0 s3.heap := by
    rw [← hs3]
    exact st3
  have B := block_startH I3 ok hN f4 hp
  show codeAny _ _ (.compStart (.ListComp elt [⟨tg, iter, ifs, 0⟩] scope pos) 0 (.ref it) (.ref D) (compEnvC scope (cellsFrom (s3.heap.objs.size + 1) scope.names (cloFrom X.env.cells scope.names [])) s3.heap.objs.size X.env)) (compPost (model X.prog X.w) X.A X.xe use Qf (.ref D) s3.heap.objs.size) { s3 with heap := pushCells (s3.heap.push { cls := .type "dict", data := .dict #[] }) scope.names }
  have st5 : tn 0 (pushCells (s3.heap.push { cls := .type "dict", data := .dict #[] }) scope.names) := T.keep _ _ _ st4 fun b _ o e => pushCells_keeps _ _ _ _ (Heap.get?_push_of_some _ e)
  have hb : HotC (bH X s3 (upd H2 D (.lst [])) scope (compEnvC scope (cellsFrom (s3.heap.objs.size + 1) scope.names (cloFrom X.env.cells scope.names [])) s3.heap.objs.size X.env) fp p) := ⟨p, hot1, List.mem_singleton.mpr rfl⟩
  have loop := loopH (elt := elt) (iter := iter) (scope := scope) (pos := pos) (D := D) (R := compPost (model X.prog X.w) X.A X.xe use Qf (.ref D) s3.heap.objs.size) hb rfl rfl T
    (fun H' hn b hb' => ⟨hn b hb', (B.ok.exf b hb').1, B.ok.exfs b hb', .inl hb', fun x c e => (B.ok.exf b hb').2 x c e, fun q hq => by
      have hq' : q ∈ [p] ++ ([] : List (Addr × Obj)) := hq
      obtain rfl : q = p := by simpa using hq'
      exact (f4 b hb').1.2.2.2.2.2 q (List.mem_append_left _ hp)⟩)
    (hg _ _ _ _ _ _) (ht _ _ _ _ _ _) (he _ _ _ _ _ _ hb) B st5 (fun b hb' => (f4 b hb').1.1) w0 turn (fun H' s' I6 qq => ?_)
  · exact codeAny_compStart_list loop (T.self X.A 0 _ _ _ st5 loop)
  · have I7 : Inv X pins σ H' s' := I3.call' (ch := fp) I6.os I6.base I6.hok I6.bare fun b hb' => ⟨(f4 b hb').1.2.2.2.1, (f4 b hb').1.2.1, (f4 b hb').1.2.2.2.2.1, (f4 b hb').1.2.2.2.2.2⟩
    have nC : H' s3.heap.objs.size = none := I6.free
    obtain ⟨m, hn, _⟩ := I6.loc
    exact hRR D s3.heap.objs.size s' m H' I7 qq hn (I3.fpOk (Nat.le_refl _) nC)
theorem pe_lcH {X : Cx} {elt tg iter : Expr} {ifs : List Expr} {scope : Scope} {own : List (Str × Nat)} {pos : Pos} {wi : TI} {g : TG} {tt : TT} {te : TE} (hc : HotC X) (hN : X.N.Nodup) (hi : PIH X tg iter wi) (ok : BlkOk X.N X.env.scope scope own)
    (hg : ∀ (s : Shared) (H : Hp) (C : Addr) (cl : List (Str × Addr)) (fp : List Addr) (p : Addr × Obj), PG (bH X s H scope (compEnvC scope cl C X.env) fp p) tg g) (ht : ∀ (s : Shared) (H : Hp) (C : Addr) (cl : List (Str × Addr)) (fp : List Addr) (p : Addr × Obj), PTs (bH X s H scope (compEnvC scope cl C X.env) fp p) ifs tt)
    (he : ∀ (s : Shared) (H : Hp) (C : Addr) (cl : List (Str × Addr)) (fp : List Addr) (p : Addr × Obj), HotC (bH X s H scope (compEnvC scope cl C X.env) fp p) → PE (bH X s H scope (compEnvC scope cl C X.env) fp p) elt te) (hs : ∀ x, foldedSetIterable iter X.env x = pure x := by intro _; rfl) :
    PE X (.ListComp elt [⟨tg, iter, ifs, 0⟩] scope pos) (tLc wi g tt te (own.map (·.2))) := by
  refine ⟨fun pins s σ H Q I h => ?_⟩
  rw [eval_ListComp]
  refine lcH_core hc hN I hi ok hg ht he hs h fun D C s' m H' I' q hn f => ⟨m, hn, fun h'' sb => ?_⟩
  obtain ⟨f0, f1, f2, f3, f4, f5⟩ := f
  exact ⟨.ref D, H', I'.turned (t' := s'.toks) (fun b o hb e => (sb.2 b hb).trans e) f0 f1 f3 f4 f5, rfl, q⟩
theorem ps_setLcH {X : Cx} {i : Nat} {y : Str} {py spos : Pos} {elt tg iter : Expr} {ifs : List Expr} {scope : Scope} {own : List (Str × Nat)} {pos : Pos} {wi : TI} {g : TG} {tt : TT} {te : TE} (hc : HotC X) (hN : X.N.Nodup) (hy : X.N[i]? = some y) (hyl : X.env.scope.names.lookup y = some .local) (hsw : swapsWith (.ListComp elt [⟨tg, iter, ifs, 0⟩] scope pos) (some (.Name y py)) spos.line X.env = pure true) (hi : PIH X tg iter wi) (ok : BlkOk X.N X.env.scope scope own)
    (hg : ∀ (s : Shared) (H : Hp) (C : Addr) (cl : List (Str × Addr)) (fp : List Addr) (p : Addr × Obj), PG (bH X s H scope (compEnvC scope cl C X.env) fp p) tg g) (ht : ∀ (s : Shared) (H : Hp) (C : Addr) (cl : List (Str × Addr)) (fp : List Addr) (p : Addr × Obj), PTs (bH X s H scope (compEnvC scope cl C X.env) fp p) ifs tt)
    (he : ∀ (s : Shared) (H : Hp) (C : Addr) (cl : List (Str × Addr)) (fp : List Addr) (p : Addr × Obj), HotC (bH X s H scope (compEnvC scope cl C X.env) fp p) → PE (bH X s H scope (compEnvC scope cl C X.env) fp p) elt te) (hs : ∀ x, foldedSetIterable iter X.env x = pure x := by intro _; rfl) :
    PS X (.Assign [.Name y py] (.ListComp elt [⟨tg, iter, ifs, 0⟩] scope pos) spos) (tAsg (tLc wi g tt te (own.map (·.2))) (gName i)) := by
  refine ⟨fun pins s σ H D I h => ?_⟩
  rw [exec_Assign_Name_used _ _ _ _ hsw]
  refine wpAny_bind (wpAny_standAt (wpAny_bind ?_))
  have h : tLc wi g tt te (own.map (·.2)) σ H (fun x H1 => gName i x σ H1 D.nx) := h
  show wpAny _ X.A (do let _ ← comprehension (.ListComp elt [⟨tg, iter, ifs, 0⟩] scope pos) scope X.env (firstIterPos [⟨tg, iter, ifs, 0⟩] pos) (newList []) false (eval iter X.env) (some (assign (.Name y py) X.env))) _ _ s
  refine wpAny_bind (thn (lcH_core (Qf := fun _ s' => SP X pins D .next s') hc hN I hi ok hg ht he hs h fun L C s' m H' I' q hn f => ?_) fun _ s' hq => wpAny_pure (wpAny_pure hq))
  obtain ⟨f0, f1, f2, f3, f4, f5⟩ := f
  show wpAny _ _ (assign (.Name y py) X.env (.ref L)) _ _ _
  refine wpAny_assign_Name (store_ok2 (v := V.ref L) I' hN hy (.inl hyl) rfl (fun s2 I2 ⟨a, sb, ha⟩ => ?_) (.inr hyl))
  have haC : C ≠ a := by
    rcases ha with z | z
    · rw [z]
      exact f1
    · exact fun e => f4 y a z e.symm
  exact ⟨m, hn.sameBut sb haC, fun h3 sb3 => ⟨_, H', I2.turned (t' := s2.toks) (fun b o hb e => (sb3.2 b hb).trans e) f0 f1 f3 f4 f5, q⟩⟩
end TkLcH
set_option Elab.async false
set_option linter.all false
set_option maxRecDepth 100000
set_option maxHeartbeats 4000000
namespace TkLcH
open PySem PySem.Spec PyProof.Rows L2 L2H HotX
theorem list_end_hot {prog : Program} {w : World} {A : Around} {E : Value → Shared → Prop} {s : Shared} {it l x1 : Addr} {i : Nat} {items : Array Value} {Q : Option Value → Shared → Prop} (hot : HotAt A x1 s.heap) (ne : x1 ≠ it)
    (hit : s.heap.IsListIter it l i) (hl : s.heap.IsList l items) (hx : items[i]? = none)
    (hQ : ∀ h', (∀ b o, b ≠ it → s.heap.get? b = some o → h'.get? b = some o) → Q none { s with heap := h' }) : wpAny (model prog w) A (pyNext (.ref it)) Q E s := by
  obtain ⟨o, ho, hc, hd⟩ := id hit
  obtain ⟨ol, hol, _, nl, hdl⟩ := hl
  obtain ⟨hh, o1, vs1, h1, d1, c1⟩ := hot
  unfold pyNext
  refine wpAny_bind (wpAny_attempt (wpAny_callSpecial?_slot (name := Str.ofString "__next__") hit.typeIs slot_listiter_next
    (wpAny_call_entry slot_listiter_next hit.typeIs entry_listiter_next ?_ (args_listiter_next _))))
  show wpAny _ _ (field (.ref it) 0 >>= _) _ _ s
  refine wpAny_bind (wpAny_field ho hd (x := .ref l) rfl ?_)
  show wpAny _ _ (if (Value.ref l == Value.none) = true then _ else _) _ _ s
  rw [if_neg (show ¬ ((Value.ref l == Value.none) = true) from Bool.false_ne_true)]
  show wpAny _ _ (field (.ref it) 1 >>= _) _ _ s
  refine wpAny_bind (wpAny_field ho hd (x := .int i 0) rfl ?_)
  show wpAny _ _ (seqItems? (.ref l) >>= _) _ _ s
  refine wpAny_bind (wpAny_seqItems hol hdl ?_)
  simp only [Int.toNat_natCast, hx]
  refine wpAny_bind (wpAny_rule (wpAny_bind (wpAny_setField ho hd (by simp) ?_)))
  show wpAny _ _ (newExc (.type "StopIteration") [] >>= _) _ _ _
  refine wpAny_bind ?_
  simp only [newExc, newTuple]
  refine wpAny_bind (wpAny_newObj_type ?_ (by size_fits))
  refine wpAny_bind (m := firstArgMember _ _) (wpAny_of_eq (a := Value.none) (by first | rfl | (simp only [firstArgMember]; rfl)) ?_)
  refine wpAny_newObj_type ?_ (by size_fits)
  have h2 := (Heap.get?_update_other s.heap (Obj.mapFields (·.setIfInBounds 0 Value.none)) (Ne.symm ne)).trans h1
  refine raiseNew_hot ⟨hh, o1, vs1, Heap.get?_push_of_some _ (Heap.get?_push_of_some _ h2), d1, c1⟩ (Nat.ne_of_lt (Heap.lt_size (Heap.get?_push_of_some _ h2))) (Heap.get?_push_size _ rfl) rfl (by first | (simp; done) | (simp; omega) | (simp only [Array.size_append]; simp; omega)) ?_
  refine wpAny_bind (wpAny_isInstance (T := "StopIteration") (b := true) ⟨_, Heap.get?_update_self _ (Heap.get?_push_size _ rfl) rfl, rfl⟩ isSubtype_stop ?_)
  refine wpAny_pure (hQ _ fun b o' nb e => ?_)
  have e2 := (Heap.get?_update_other s.heap (Obj.mapFields (·.setIfInBounds 0 Value.none)) (Ne.symm nb)).trans e
  rw [Heap.get?_update_other _ _ (Nat.ne_of_gt (Heap.lt_size (Heap.get?_push_of_some _ e2)))]
  exact Heap.get?_push_of_some _ (Heap.get?_push_of_some _ e2)
theorem turn_listH {P : Program} {w : World} {K : PySem.W.Frag} {tg : Expr} (a it : Addr) : TurnH P w K tg (Itl K a) [it] it (fun i h => h.IsListIter it a i) := by
  have base := turn_list (P := P) (w := w) (K := K) (tg := tg) a it
  refine ⟨base.mem, base.obj, base.keep, ?_, ?_, base.self⟩
  · intro X hP hw hK hc i pins s σ H E I hf st hg
    subst hP hw hK
    obtain ⟨xs, x, hq, hx⟩ := hg
    obtain ⟨its, rv, p, hz⟩ := I.list hq
    obtain ⟨u, hu, ru⟩ := rv.get hx
    obtain ⟨f0, f1, f2, f3, f4, f5⟩ := hf it (by simp)
    refine wpAny_pyNext_list_item st p.isList (x := u) (by simpa using hu) fun h' st' sb => ?_
    have I1 : Inv X pins σ H { s with heap := h' } := I.turned (t' := s.toks) (fun b o hb e => (sb.2 b hb).trans e) f0 f1 f3 f4 f5
    obtain ⟨o, e, c, d⟩ := id st'
    exact ⟨u, rfl, go_of (s := { s with heap := h' }) e c d (by decide) ⟨x, H, I1, ru, ⟨rfl, fun ys hy => by rw [I.list_inj hy hq]; exact hx⟩, st', fun b hb => (hf b hb).1⟩⟩
  · intro X hP hw hK hc i pins s σ H E I hf st hg
    subst hP hw hK
    obtain ⟨xs, hq, hx⟩ := hg
    obtain ⟨its, rv, p, hz⟩ := I.list hq
    obtain ⟨f0, f1, f2, f3, f4, f5⟩ := hf it (by simp)
    have hl := rv.length
    obtain ⟨q, ⟨hh, v1, e1, c1⟩, hp⟩ := hc
    have P1 := (I.pin q (List.mem_append_left _ hp)).1
    exact list_end_hot (x1 := q.1) ⟨hh, q.2, v1, P1, e1, c1⟩ (f5 q (List.mem_append_left _ hp)) st p.isList (by simp; omega) fun h' eb => ⟨rfl, I.turned (t' := s.toks) (fun b o hb e => eb b o hb e) f0 f1 f3 f4 f5⟩
theorem pi_listH {X : Cx} {tg l : Expr} {tl : TE} (hl : PE X l tl) : PIH X tg l (iList X.K tl) := by
  refine ⟨fun pins s σ H R I h => ?_⟩
  refine thn (hl.run pins s σ H _ I h) fun v s1 ⟨x, H1, I1, r1, a, e, ⟨xs, hq⟩, q⟩ => ?_
  subst e
  cases r1
  obtain ⟨its, rv, p, hz⟩ := I1.list hq
  refine wpAny_pyIter_list p.isList ⟨s1.heap.objs.size, [s1.heap.objs.size], _, _, H1, rfl, I1.kept (t' := s1.toks) fun b o e => Heap.get?_push_of_some _ e, turn_listH a _, ⟨_, Heap.get?_push_size _ rfl, rfl, rfl⟩, fun b hb => ?_, q⟩
  obtain rfl : b = s1.heap.objs.size := by simpa using hb
  exact I1.fpOk (Nat.le_refl _) (I1.hok.fresh (Nat.le_refl _))
theorem pi_range2H {X : Cx} {tg a b : Expr} {ta : TA} {p pos : Pos} (hg : Gl X "range") (hm : X.mg "range" = none) (ha : PA X [a, b] ta) (hs : starEach [a, b] X.env = [(false, eval a X.env), (false, eval b X.env)] := by rfl) (hs2 : starEach [b] X.env = [(false, eval b X.env)] := by rfl) : PIH X tg (.Call (.Name "range" p) [a, b] [] pos) (iRng2 ta) := by
  refine ⟨fun pins s σ H R I h => ?_⟩
  refine Call_ (ld_blt I hg hm boot_range (PyProof.Rows.callWith_type1 (thn (ha.run pos pins s σ H _ I h) fun us s1 ⟨vs, H1, I1, r1, i, j, e, ⟨q1, q2, q3, q4⟩, q⟩ => ?_) (by rw [hs, hs2]) (by rw [hs2]; rfl)))
  subst e
  cases r1 with
  | cons r rr =>
    cases rr with
    | cons r' rr' =>
      cases rr'
      obtain ⟨t, rfl⟩ := r
      obtain ⟨t', rfl⟩ := r'
      exact call_range_2 (range_itH I1 q1 q2 q3 q4 q)
end TkLcH
set_option Elab.async false
set_option linter.all false
set_option maxRecDepth 100000
set_option maxHeartbeats 4000000
set_option exponentiation.threshold 5000
set_option pp.maxSteps 700
namespace K26
open PySem PySem.Spec PyProof.Rows L2 TkS LamX NdefX
section
variable {P : Program} {w : World} {K : PySem.W.Frag} {mg : Str → Option Value} {base : Heap}
theorem ok_law_rankH (T : Txt K mg) : L2H.FnH P w K mg base CX0 5 T.f_law_rank T.d_law_rank ["_law_p", "_law_rows_here"] sl_rank := by
  refine okH0 T.F_law_rank sc_law_rank (fun vs H Q E h => ?_) (fun cdv A outer s H vs Q E pp hot hr h => ?_)
  · obtain ⟨p, l, x, M, rfl, _⟩ := h
    rfl
  · obtain ⟨p, l, x, M, rfl, fp, kx, g0, l6, m9, q⟩ := h
    refine ⟨_, (pss_cons (TkLcH.ps_setLcH (i := 3) (hotC hot) sc_law_rank.nd rfl rfl (sw_true rfl rfl rfl (by decide +kernel)) (TkLcH.pi_listH (pv 1)) (blkOk_by (own := [("_law_row", 2)]) (N := ["_law_p", "_law_rows_here", "_law_row", "_law_left", "_law_rank_here", "_law_width", "_law_place", "_law_at", "_law_lead", "_law_k", "_law_factor", "_law_i"]) (sc := defScope s_law_rank) (by decide +kernel)) (fun _ _ _ _ _ _ => (pg_name (i := 2) sc_law_rank.nd rfl (.inl rfl))) (fun _ _ _ _ _ _ => pts_nil) (fun _ _ _ _ _ _ _ => (pe_callTy call_lstD (by rfl) T.m_list (by decide +kernel) (pa_cons (pv 2) pa_nil))))
      (pss_cons (ps_set (i := 4) sc_law_rank.nd rfl (.inl rfl) pe_int)
      (pss_cons (ps_set (i := 5) sc_law_rank.nd rfl (.inl rfl) pe_int)
      (Evl.pss_cut (ps_if (pt_truth (pv 3) (by intro _; rfl))
        (pss_one (ps_set (i := 5) sc_law_rank.nd rfl (.inl rfl) (pe_callB call_len_seq (by rfl) T.m_len (by decide +kernel) (pa_cons (pe_ix ix_list (pv 3) pe_int (fun _ _ => rfl)) pa_nil))))
        pss_nil)
      (Evl.pss_cut (L2H.ps_forH PassesOwn.never (hotC hot) (L2H.pi_range1H (by rfl) T.m_range (pa_cons (pv 5) pa_nil)) (pg_name (i := 6) sc_law_rank.nd rfl (.inl rfl))
        (pss_cons (ps_set (i := 7) sc_law_rank.nd rfl (.inl rfl) (pv 4))
        (pss_cons (ps_while PassesOwn.never (PW.pt (pw_and (pt_cmpR op_lt (pv 7) (pe_callB call_len_seq (by rfl) T.m_len (by decide +kernel) (pa_cons (pv 3) pa_nil)) (nomark _)) (pw_and1 (pt_val (L2H.pe_callH (E := fun _ => E0) (ok_law_noughtH T) (hr.mono (by decide)) (hotC hot) (by rfl) T.g_law_nought T.F_law_nought.kp T.b_law_nought (fun σ => passH) (pa_cons (pv 0) (pa_cons (pe_ix ix_list (pe_ix ix_list (pv 3) (pv 7) (fun _ _ => rfl)) (pv 6) (fun _ _ => rfl)) pa_nil)))))))
          (pss_one (ps_set (i := 7) sc_law_rank.nd rfl (.inl rfl) (pe_op op_add (pv 7) pe_int))))
        (pss_one (ps_if (pt_cmpR op_lt (pv 7) (pe_callB call_len_seq (by rfl) T.m_len (by decide +kernel) (pa_cons (pv 3) pa_nil)) (nomark _))
          (pss_cons (ps_set (i := 8) sc_law_rank.nd rfl (.inr rfl) (pe_ix ix_list (pv 3) (pv 7) (fun _ _ => rfl)))
          (pss_cons (ps_asg (pe_ix ix_list (pv 3) (pv 4) (fun _ _ => rfl)) (pg_sub (pv 3) (pv 7) set_list))
          (pss_cons (ps_asg (pv 8) (pg_sub (pv 3) (pv 4) set_list))
          (pss_cons (L2H.ps_forH PassesOwn.never (hotC hot) (TkLcH.pi_range2H (by rfl) T.m_range (pa_cons (pe_op op_add (pv 4) pe_int) (pa_cons (pe_callB call_len_seq (by rfl) T.m_len (by decide +kernel) (pa_cons (pv 3) pa_nil)) pa_nil))) (pg_name (i := 9) sc_law_rank.nd rfl (.inl rfl))
            (pss_cons (ps_set (i := 10) sc_law_rank.nd rfl (.inr rfl) (L2H.pe_callH (E := fun _ => E0) (ok_law_minusH T) (hr.mono (by decide)) (hotC hot) (by rfl) T.g_law_minus T.F_law_minus.kp T.b_law_minus (fun σ => passH) (pa_cons (pv 0) (pa_cons (L2H.pe_callH (E := fun _ => E0) (ok_law_overH T) (hr.mono (by decide)) (hotC hot) (by rfl) T.g_law_over T.F_law_over.kp T.b_law_over (fun σ => passH) (pa_cons (pv 0) (pa_cons (pe_ix ix_list (pe_ix ix_list (pv 3) (pv 9) (fun _ _ => rfl)) (pv 6) (fun _ _ => rfl)) (pa_cons (pe_ix ix_list (pv 8) (pv 6) (fun _ _ => rfl)) pa_nil)))) pa_nil))))
            (pss_cons (ps_set (i := 2) sc_law_rank.nd rfl (.inr rfl) (pe_ix ix_list (pv 3) (pv 9) (fun _ _ => rfl)))
            (pss_one (ps_asg (TkLcH.pe_lcH (hotC hot) sc_law_rank.nd (L2H.pi_range1H (by rfl) T.m_range (pa_cons (pv 5) pa_nil)) (blkOk_by (own := [("_law_i", 11)]) (N := ["_law_p", "_law_rows_here", "_law_row", "_law_left", "_law_rank_here", "_law_width", "_law_place", "_law_at", "_law_lead", "_law_k", "_law_factor", "_law_i"]) (sc := defScope s_law_rank) (by decide +kernel)) (fun _ _ _ _ _ _ => (pg_name (i := 11) sc_law_rank.nd rfl (.inl rfl))) (fun _ _ _ _ _ _ => pts_nil) (fun _ _ _ _ _ _ hb => (L2H.pe_callH (E := fun _ => E0) (ok_law_plusH T) (hr.mono (by decide)) hb (by rfl) T.g_law_plus T.F_law_plus.kp T.b_law_plus (fun σ => passH) (pa_cons (pv 0) (pa_cons (show PE _ _ (tOp (rIxL K) (tVar 2) (tVar 11)) from pe_ix ix_list (pv 2) (pv 11) (fun _ _ => rfl)) (pa_cons (L2H.pe_callH (E := fun _ => E0) (ok_law_timesH T) (hr.mono (by decide)) hb (by rfl) T.g_law_times T.F_law_times.kp T.b_law_times (fun σ => passH) (pa_cons (pv 0) (pa_cons (pv 10) (pa_cons (show PE _ _ (tOp (rIxL K) (tVar 8) (tVar 11)) from pe_ix ix_list (pv 8) (pv 11) (fun _ _ => rfl)) pa_nil)))) pa_nil)))))) (pg_sub (pv 3) (pv 9) set_list))))))
          (pss_one (ps_set (i := 4) sc_law_rank.nd rfl (.inl rfl) (pe_op op_add (pv 4) pe_int)))))))
          pss_nil)))))
      (pss_one (ps_ret (pv 4)))))))), ?_⟩
    obtain ⟨R, iR, φ, F, I⟩ := phi_inv fp
    cases kx with
    | @lst ax xs _ ex ux =>
    have lx := ux.len
    rw [List.length_map] at lx
    refine asgE ?_
    refine ⟨_, rfl, ax, rfl, ⟨_, SqL.of ex⟩, fun W nW => ?_⟩
    refine lc_listD2 (f := fun _ => true) (e := fun d => .list (rowOf d)) (SqL.of ex) ux nW (by rw [List.length_map]; omega) (fun _ => rfl) (fun i x d H' Q _ _ _ h => h _ fun _ _ z => z) (fun i y d H2 Q2 hd _ _ s2 k2 acc q2 => ?_) (fun H1 s1 kW => ?_)
    · obtain ⟨ac, hac⟩ := acc
      obtain ⟨r, mr, rfl⟩ := List.mem_map.mp (List.mem_of_getElem? hd)
      refine ⟨_, rfl, y, .tuple r, r, rfl, k2, rfl, fun la H4 s4 na ka => q2 _ H4 s4 ?_⟩
      have nl : noLists r = true := noLs_all fun z mz => nb_noL (g0.nb (by omega) r mr z mz)
      have hD := s4 _ _ hac
      cases ka with
      | lst e u =>
        refine .lst (off_at (fun z => ?_) e) (dqs_noL hD _ nl u)
        rw [z, hac] at na
        cases na
    rw [List.filter_eq_self.mpr fun _ _ => rfl, List.map_map] at kW
    have eM : (M.map ((fun d => PyData.list (rowOf d)) ∘ PyData.tuple)) = M.map .list := List.map_congr_left fun _ _ => rfl
    rw [eM] at kW
    cases kW with
    | @lst _ vs _ eW uW =>
    have lv := uW.len
    rw [List.length_map] at lv
    obtain ⟨wd, hwd, hw0⟩ : ∃ wd : Nat, wd = (if M = [] then 0 else l) ∧ wd ≤ l := ⟨_, rfl, by split <;> omega⟩
    refine ⟨fun σ H' => σ = [some (.int (p : Int)), some (.ref ax), none, some (.ref W), some (.int 0), some (.int (wd : Int)), none, none, none, none, none, none] ∧ H1 = H', ?_, fun σ H' hP => ?_⟩
    · refine ⟨_, rfl, !vs.isEmpty, .inl ⟨_, SqL.of eW, rfl⟩, ?_⟩
      cases vs with
      | nil =>
        have : M = [] := List.eq_nil_of_length_eq_zero lv.symm
        refine iteF ⟨?_, rfl⟩
        rw [hwd, if_pos this]
        rfl
      | cons v0 vs' =>
        have ne : M ≠ [] := fun z => by rw [z] at lv; cases lv
        have m0 : 0 < M.length := by cases M with
          | nil => exact absurd rfl ne
          | cons _ _ => exact Nat.succ_pos _
        obtain ⟨u0, hu0, ku0⟩ := dqs_at uW (i := 0) (d := .list (M.getD 0 [])) (by rw [List.getElem?_map, List.getElem?_eq_getElem m0, List.getD_eq_getElem?_getD, List.getElem?_eq_getElem m0]; rfl)
        cases ku0 with
        | @lst b0 us0 _ eb0 ub0 =>
        have lb := ub0.len
        have ll := g0.ln _ (getD_memL m0)
        refine iteT ⟨_, rfl, W, _, 0, .ref b0, rfl, rfl, SqL.of eW, at_of (j := 0) rfl hu0, b0, us0, rfl, .inl (SqL.of eb0), ?_, rfl⟩
        rw [hwd, if_neg ne, show us0.length = l by omega]
        rfl
    obtain ⟨rfl, rfl⟩ := hP
    refine ⟨fun σ H' => ∃ y2 y6 y7 y8 y9 y10 y11, σ = [some (.int (p : Int)), some (.ref ax), y2, some (.ref W), some (.int (((rkN p M wd).2 : Nat) : Int)), some (.int (wd : Int)), y6, y7, y8, y9, y10, y11] ∧ Same H H', ?_, fun σ H' hP => ?_⟩
    · refine ⟨_, rfl, (wd : Int), rfl, by omega, by omega, ?_⟩
      rw [show ((wd : Nat) : Int).toNat = wd by omega]
      refine for_range (lo := 0) (n := wd) (fun i σ H' => ∃ y2 y6 y7 y8 y9 y10 y11 vs, σ = [some (.int (p : Int)), some (.ref ax), y2, some (.ref W), some (.int (((rkN p M i).2 : Nat) : Int)), some (.int (wd : Int)), y6, y7, y8, y9, y10, y11] ∧ Same H H' ∧ H' W = some (.lst vs) ∧ DqAll (TkS.Off W H') vs ((rkN p M i).1.map .list)) ⟨none, none, none, none, none, none, none, vs, rfl, s1, eW, ?_⟩ (fun i σ H' hi hP => ?_) (fun σ H' hP => ?_)
      · exact off_self eW uW fun r mr d md => g0.nb (by omega) r mr d md
      · obtain ⟨y2, y6, y7, y8, y9, y10, y11, vs, rfl, sm, eV, kV⟩ := hP
        have ro := rk_all F I fp g0 i (by omega) (by omega)
        have e0 : rkN p M (i + 1) = (match leadAt p (rkN p M i).1 (rkN p M i).2 i with
          | none => ((rkN p M i).1, (rkN p M i).2)
          | some i' => (stepL p (rkN p M i).1 (rkN p M i).2 i' i, (rkN p M i).2 + 1)) := rfl
        generalize rkN p M (i + 1) = B at *
        generalize (rkN p M i).1 = A at *
        generalize (rkN p M i).2 = r at *
        have lA := ro.len
        have lvs := kV.len
        rw [List.length_map] at lvs
        obtain ⟨cs, ech⟩ := ro.ech
        have rm := ech.rm
        have r6 : r ≤ 6 := by have := ro.lk; omega
        have nWH : H W = none := nW
        have nbA := fun i' j hi' hj => at_nb ro.gm r6 (i := i') (j := j) hi' hj
        have rowAt : ∀ {H'' : Hp} {vs : List V} {L : List (List PyData)} {j : Nat}, DqAll (TkS.Off W H'') vs (L.map .list) → j < L.length → ∃ b us, vs[j]? = some (.ref b) ∧ b ≠ W ∧ H'' b = some (.lst us) ∧ DqAll (TkS.Off W H'') us (L.getD j []) := fun {H'' vs L j} k hj => by
          obtain ⟨u0, hu0, ku0⟩ := dqs_at k (i := j) (d := .list (L.getD j [])) (by rw [List.getElem?_map, List.getElem?_eq_getElem hj, List.getD_eq_getElem?_getD, List.getElem?_eq_getElem hj]; rfl)
          cases ku0 with
          | @lst b0 us0 _ eb0 ub0 =>
            refine ⟨b0, us0, hu0, fun z => ?_, off_same _ _ eb0, ub0⟩
            rw [z] at eb0
            unfold TkS.Off at eb0
            rw [if_pos rfl] at eb0
            cases eb0
        refine ⟨_, rfl, fun m σ H'' => ∃ at' : Nat, σ = [some (.int (p : Int)), some (.ref ax), y2, some (.ref W), some (.int (r : Int)), some (.int (wd : Int)), some (.int (0 + (i : Int))), some (.int (at' : Int)), y8, y9, y10, y11] ∧ Same H' H'' ∧ r ≤ at' ∧ at' ≤ A.length ∧ (∀ j, r ≤ j → j < at' → nzB p (atR A j i) = false) ∧ m = A.length - at', ⟨_, r, rfl, fun _ _ z => z, Nat.le_refl _, by omega, fun j h1 h2 => absurd h1 (by omega), rfl⟩, fun m σ H'' hW => ?_⟩
        obtain ⟨at', rfl, s2, r1, r2, no, rfl⟩ := hW
        have eV2 := s2 _ _ eV
        have kV2 := DqAll.same (off_of s2) _ kV
        refine ⟨_, rfl, _, rfl, W, vs, rfl, .inl (SqL.of eV2), _, _, rfl, rfl, _, rfl, ite2 (fun c => ?_) (fun c => ?_)⟩
        · have c' : at' < A.length := by
            have := of_decide_eq_true c
            omega
          obtain ⟨b, us, hb, nb', eb, ub⟩ := rowAt kV2 c'
          have mA := getD_memL c'
          obtain ⟨vz, hvz, kvz⟩ := dqs_at ub (i := i) (d := atR A at' i) (getD_some (by rw [ro.gm.ln _ mA]; omega))
          refine ⟨_, rfl, _, rfl, _, rfl, W, vs, (at' : Int), .ref b, rfl, rfl, SqL.of eV2, at_of (j := at') rfl hb, ?_⟩
          refine ⟨_, rfl, b, us, 0 + (i : Int), vz, rfl, rfl, SqL.of eb, at_of (j := i) (by omega) hvz, ?_⟩
          refine ⟨p, 4300, vz, atR A at' i, rfl, fp, kvz.same off_same, nbA _ _ c' (by omega), fun H3 s3 => ⟨_, rfl, ?_⟩⟩
          have s23 := s2.trans s3
          cases zz : nzB p (atR A at' i) with
          | false =>
            refine iteT ⟨fun σ' H'_1 => ∃ m', m' < A.length - at' ∧ ∃ at'' : Nat, σ' = [some (.int (p : Int)), some (.ref ax), y2, some (.ref W), some (.int (r : Int)), some (.int (wd : Int)), some (.int (0 + (i : Int))), some (.int (at'' : Int)), y8, y9, y10, y11] ∧ Same H' H'_1 ∧ r ≤ at'' ∧ at'' ≤ A.length ∧ (∀ j, r ≤ j → j < at'' → nzB p (atR A j i) = false) ∧ m' = A.length - at'', fun _ _ z => z, ?_⟩
            refine ⟨_, rfl, _, _, rfl, rfl, A.length - (at' + 1), by omega, at' + 1, rfl, s23, by omega, by omega, fun j h1 h2 => ?_, rfl⟩
            by_cases d : j = at'
            · rw [d]; exact zz
            · exact no j h1 (by omega)
          | true =>
            have hl := leadAt_is r1 c' zz no
            rw [hl] at e0
            dsimp only at e0
            subst e0
            have eV3 := s3 _ _ eV2
            have kV3 := DqAll.same (off_of s3) _ kV2
            have sH3 := sm.trans s23
            refine iteF ?_
            refine ⟨_, rfl, _, rfl, W, vs, rfl, .inl (SqL.of eV3), _, _, rfl, rfl, _, rfl, ?_⟩
            refine ite2 (fun _ => ?_) (fun d => absurd (decide_eq_true (by omega)) d)
            have wl : wd = l := by
              rw [hwd] at hi ⊢
              split at hi
              · omega
              · rename_i z
                rw [if_neg z]
            have hr : r < A.length := by omega
            obtain ⟨br, usr, hbr, nbr, ebr, ubr⟩ := rowAt kV3 hr
            have un := (nz_iff fp (nbA _ _ c' (by omega))).mp zz
            have gs := gm_swap ro.gm hr c'
            have lS : (swapB A at' r).length = A.length := swapB_len
            have eL : ∀ j, atR (swapB A at' r) r j = atR A at' j := fun j => by
              unfold atR
              rw [swapB_at hr hr, if_pos rfl]
            have eSr : (swapB A at' r).getD r [] = A.getD at' [] := by rw [swapB_at hr hr, if_pos rfl]
            obtain ⟨_, _, _, _, _, fo⟩ := elim_ok fp gs (many := r) (place := i) (by rw [lS]; exact hr) (by omega) (by rw [eL]; exact un) (by have := ro.lk; omega)
            have kS : DqAll (TkS.Off W (upd (upd H3 W (.lst (vs.set at' (.ref br)))) W (.lst ((vs.set at' (.ref br)).set r (.ref b))))) ((vs.set at' (.ref br)).set r (.ref b)) ((swapB A at' r).map .list) := by
              rw [off_put, off_put]
              unfold swapB
              rw [List.map_set, List.map_set]
              have eb3 : TkS.Off W H3 b = some (.lst us) := off_at nb' (s3 _ _ eb)
              have ub3 := DqAll.same (off_of s3) _ ub
              exact (kV3.set at' (.lst (off_at nbr ebr) ubr)).set r (.lst eb3 ub3)
            refine ⟨_, rfl, _, rfl, W, vs, (at' : Int), .ref b, rfl, rfl, SqL.of eV3, at_of (j := at') rfl hb, ?_⟩
            refine ⟨_, rfl, _, rfl, W, vs, (r : Int), .ref br, rfl, rfl, SqL.of eV3, at_of (j := r) rfl hbr, ?_⟩
            refine ⟨_, rfl, _, rfl, W, vs, (at' : Int), at', rfl, rfl, eV3, ?_, ?_⟩
            · unfold ixN
              rw [if_pos (by omega), if_pos (by omega)]
              rfl
            refine ⟨_, rfl, _, rfl, _, rfl, W, _, (r : Int), r, rfl, rfl, upd_same, ?_, ?_⟩
            · unfold ixN
              rw [List.length_set, if_pos (by omega), if_pos (by omega)]
              rfl
            have eb5 : TkS.Off W (upd (upd H3 W (.lst (vs.set at' (.ref br)))) W (.lst ((vs.set at' (.ref br)).set r (.ref b)))) b = some (.lst us) := by
              rw [off_put, off_put]
              exact off_at nb' (s3 _ _ eb)
            have ub5 : DqAll (TkS.Off W (upd (upd H3 W (.lst (vs.set at' (.ref br)))) W (.lst ((vs.set at' (.ref br)).set r (.ref b))))) us (A.getD at' []) := by
              rw [off_put, off_put]
              exact DqAll.same (off_of s3) _ ub
            have sH5 : Same H (TkS.Off W (upd (upd H3 W (.lst (vs.set at' (.ref br)))) W (.lst ((vs.set at' (.ref br)).set r (.ref b))))) := fun b' o e => by
              rw [off_put, off_put]
              exact off_at (ne_of_none e nWH) (sH3 _ _ e)
            have eW5 : (upd (upd H3 W (.lst (vs.set at' (.ref br)))) W (.lst ((vs.set at' (.ref br)).set r (.ref b)))) W = some (.lst ((vs.set at' (.ref br)).set r (.ref b))) := upd_same
            generalize upd (upd H3 W (.lst (vs.set at' (.ref br)))) W (.lst ((vs.set at' (.ref br)).set r (.ref b))) = H5 at *
            have offS : ∀ {Y : Hp}, Same (TkS.Off W H5) Y → Same (TkS.Off W H5) (TkS.Off W Y) := fun {Y} s b' o e => off_at (fun z => by
              rw [z] at e
              unfold TkS.Off at e
              rw [if_pos rfl] at e
              cases e) (s b' o e)
            have lw2 : ((vs.set at' (.ref br)).set r (.ref b)).length = A.length := by rw [List.length_set, List.length_set]; exact lvs
            refine ⟨_, rfl, _, _, rfl, rfl, _, rfl, W, _, rfl, .inl (SqL.of eW5), (r : Int) + 1, (A.length : Int), by rw [lw2], ⟨by omega, by omega, by omega, by omega⟩, ?_⟩
            refine for_range (lo := (r : Int) + 1) (n := ((A.length : Int) - ((r : Int) + 1)).toNat) (fun c σ H'' => ∃ y2 y9 y10 y11 vs'', σ = [some (.int (p : Int)), some (.ref ax), y2, some (.ref W), some (.int (r : Int)), some (.int (wd : Int)), some (.int (0 + (i : Int))), some (.int (at' : Int)), some (.ref b), y9, y10, y11] ∧ Same (TkS.Off W H5) H'' ∧ H'' W = some (.lst vs'') ∧ DqAll (TkS.Off W H'') vs'' ((partL p (swapB A at' r) r i (r + 1 + c)).map .list)) ⟨y2, y9, y10, y11, _, rfl, off_same, eW5, ?_⟩ (fun c σ H6 hc hP => ?_) (fun σ H6 hP => ?_)
            · rw [Nat.add_zero, partL_start]
              exact kS
            · obtain ⟨y2, y9, y10, y11, vs2, rfl, s6, eV6, kV6⟩ := hP
              have hk : r + 1 + c < A.length := by omega
              have eT : (r : Int) + 1 + (c : Int) = ((r + 1 + c : Nat) : Int) := by omega
              obtain ⟨k, ek⟩ : ∃ k, r + 1 + c = k := ⟨_, rfl⟩
              rw [ek] at kV6 hk
              rw [eT, ek]
              rw [show r + 1 + (c + 1) = k + 1 by omega]
              have hkS : k < (swapB A at' r).length := by omega
              have lv2 := kV6.len
              rw [List.length_map, partL_len, lS] at lv2
              obtain ⟨bk, usk, hbk, nbk, ebk, ubk⟩ := rowAt kV6 (j := k) (by rw [partL_len]; exact hkS)
              rw [partL_at hkS, if_neg (Nat.lt_irrefl k)] at ubk
              have mk := getD_memL hkS
              have lk := gs.ln _ mk
              have lr := gs.ln _ (getD_memL (show r < (swapB A at' r).length by omega))
              have eb6 := s6 _ _ eb5
              have ub6 := DqAll.same s6 _ ub5
              rw [← eSr] at ub6
              obtain ⟨vz, hvz, kvz⟩ := dqs_at ubk (i := i) (d := atR (swapB A at' r) k i) (getD_some (by omega))
              obtain ⟨vu, hvu, kvu⟩ := dqs_at ub6 (i := i) (d := atR (swapB A at' r) r i) (getD_some (by omega))
              have nS := fun j (hj : j < l) => at_nb gs r6 (i := k) (j := j) hkS hj
              have nR := fun j (hj : j < l) => at_nb gs r6 (i := r) (j := j) (by omega) hj
              refine ⟨_, rfl, _, rfl, _, rfl, _, rfl, W, vs2, (k : Int), .ref bk, rfl, rfl, SqL.of eV6, at_of (j := k) rfl hbk, ?_⟩
              refine ⟨_, rfl, bk, usk, 0 + (i : Int), vz, rfl, rfl, SqL.of ebk, at_of (j := i) (by omega) hvz, ?_⟩
              refine ⟨_, rfl, _, rfl, b, us, 0 + (i : Int), vu, rfl, rfl, SqL.of eb6, at_of (j := i) (by omega) hvu, ?_⟩
              refine ⟨p, vz, vu, _, _, rfl, fp, kvz.same off_same, kvu, nS i (by omega), nR i (by omega), by rw [eL]; exact un, fun v1 H7 s7 k7 => ?_⟩
              refine ⟨p, v1, _, rfl, fp, k7, fo.ov k hkS, fun v2 H8 s8 k8 => ?_⟩
              have k8 : Dq H8 v2 (facL p (swapB A at' r) r i k) := k8
              have s78 := s7.trans s8
              have eV8 := s78 _ _ eV6
              refine ⟨_, rfl, _, rfl, W, vs2, (k : Int), .ref bk, rfl, rfl, SqL.of eV8, at_of (j := k) rfl hbk, ?_⟩
              refine nx_go rfl ?_
              dsimp only
              refine ⟨_, rfl, (wd : Int), rfl, by omega, by omega, fun D2 nD2 => ?_⟩
              rw [show ((wd : Nat) : Int).toNat = wd by omega]
              refine lc_rngD (fun _ => true) (fun j => plusD p (atR (swapB A at' r) k j) (timesD p (facL p (swapB A at' r) r i k) (atR (swapB A at' r) r j))) nD2 (by omega) (fun _ => rfl) (fun j H1 Q1 hj s1 q1 => q1 _ fun _ _ z => z) (fun j H9 Q1 hj _ s9 acc q1 => ?_) (fun H9 s9 kD9 => ?_)
              · obtain ⟨ac, hac⟩ := acc
                obtain ⟨vt, hvt, kvt⟩ := dqs_at ubk (i := j) (d := atR (swapB A at' r) k j) (getD_some (by omega))
                obtain ⟨vl, hvl, kvl⟩ := dqs_at ub6 (i := j) (d := atR (swapB A at' r) r j) (getD_some (by omega))
                have s69 := s78.trans s9
                refine ⟨_, rfl, _, rfl, _, rfl, bk, usk, 0 + (j : Int), vt, rfl, rfl, SqL.of (s69 _ _ ebk), at_of (j := j) (by omega) hvt, ?_⟩
                refine ⟨_, rfl, _, rfl, _, rfl, _, rfl, b, us, 0 + (j : Int), vl, rfl, rfl, SqL.of (s69 _ _ eb6), at_of (j := j) (by omega) hvl, ?_⟩
                refine ⟨p, v2, vl, _, _, rfl, k8.same s9, kvl.same s69, (fo.fac k hkS).up (by decide), (nR j (by omega)).up (by decide), fp.le, fun v4 Ha sa ka => ?_⟩
                refine ⟨p, vt, v4, _, _, rfl, (kvt.same off_same).same (s69.trans sa), ka, (nS j (by omega)).up (by decide), (fo.prod k j hkS (by omega)).up (by decide), fp.le, fun v5 Hb sb kb => ?_⟩
                exact q1 v5 Hb (sa.trans sb) (dq_noL ((sa.trans sb) _ _ hac) _ (nb_noL (fo.row k j hkS (by omega))) kb)
              · rw [List.filter_eq_self.mpr fun _ _ => rfl] at kD9
                have eV9 := s9 _ _ eV8
                have s69 := s78.trans s9
                refine ⟨_, rfl, _, rfl, W, vs2, (k : Int), k, rfl, rfl, eV9, ?_, ?_⟩
                · unfold ixN
                  rw [if_pos (by omega), if_pos (by omega)]
                  rfl
                refine ⟨_, _, _, _, _, rfl, fun b' o e => ?_, upd_same, ?_⟩
                · have ne' : b' ≠ W := fun z => by
                    rw [z] at e
                    unfold TkS.Off at e
                    rw [if_pos rfl] at e
                    cases e
                  rw [upd_ne ne']
                  exact s69 _ _ (s6 _ _ e)
                · rw [off_put, ← partL_next hkS, List.map_set]
                  have eRow : PyData.list (rowL p (swapB A at' r) r i k) = .list ((List.range wd).map fun j => plusD p (atR (swapB A at' r) k j) (timesD p (facL p (swapB A at' r) r i k) (atR (swapB A at' r) r j))) := by
                    unfold rowL addRow
                    rw [if_neg (by omega), lk, wl]
                    rfl
                  rw [eRow]
                  refine (DqAll.same (off_of s69) _ kV6).set k ?_
                  have nD : D2 ≠ W := (ne_of_none eV8 nD2).symm
                  cases kD9 with
                  | lst e u =>
                    refine .lst (off_at nD e) (dqs_noL eV9 _ (noLs_all fun d md => ?_) u)
                    obtain ⟨j, mj, rfl⟩ := List.mem_map.mp md
                    exact nb_noL (fo.row k j hkS (by have := List.mem_range.mp mj; omega))
            · obtain ⟨y2, y9, y10, y11, vs2, rfl, s6, eV6, kV6⟩ := hP
              rw [show r + 1 + ((A.length : Int) - ((r : Int) + 1)).toNat = A.length by omega] at kV6
              refine ⟨_, rfl, _, _, rfl, rfl, ?_⟩
              exact ⟨_, _, _, _, _, _, _, vs2, rfl, fun b' o e => s6 _ _ (sH5 _ _ e), eV6, kV6⟩
        · have hl : leadAt p A r i = none := leadAt_no fun j h1 h2 => no j h1 (by
            have c' : ¬ at' < A.length := fun z => c (decide_eq_true (by omega))
            omega)
          rw [hl] at e0
          dsimp only at e0
          subst e0
          refine iteF ?_
          refine ⟨_, rfl, _, rfl, W, vs, rfl, .inl (SqL.of eV2), _, _, rfl, rfl, _, rfl, ?_⟩
          refine ite2 (fun d => absurd d c) (fun _ => ?_)
          exact ⟨_, _, _, _, _, _, _, vs, rfl, sm.trans s2, eV2, kV2⟩
      · obtain ⟨y2, y6, y7, y8, y9, y10, y11, vs, rfl, sm, eV, kV⟩ := hP
        exact ⟨_, _, _, _, _, _, _, rfl, sm⟩
    · obtain ⟨y2, y6, y7, y8, y9, y10, y11, rfl, sm⟩ := hP
      refine ⟨_, rfl, ?_⟩
      have q1 := q H' sm
      rw [hwd]
      by_cases z : M = []
      · rw [if_pos z]
        rw [z, rk_nil] at q1
        exact q1
      · rw [if_neg z]
        exact q1
end
end K26
set_option Elab.async false
set_option linter.all false
set_option maxRecDepth 100000
set_option maxHeartbeats 4000000
set_option exponentiation.threshold 5000
set_option pp.maxSteps 700
namespace TkS
open PySem PySem.Spec PyProof.Rows L2
def rIntB : List V → Hp → VK → Prop := fun xs H Q => (∃ i, xs = [.int i] ∧ Q (.int i) H) ∨ ∃ k, xs = [.bl k] ∧ Q (.int (if k then 1 else 0)) H
theorem call_intB {X : Cx} : CallR X (.type "int") rIntB := call_int1
theorem call_isE2 {X : Cx} {a D : Addr} {oe : Obj} {cls : Value} {d : Option Addr} {pn : List (Addr × Obj)} (C : ExcC X.K D) (hz : Zc cls d oe) (hf : ∃ vs, oe.data = .fields vs) : CallR (X.suite a ((a, oe) :: pn)) (.builtin "isinstance") (fun xs H Q => cls = .ref D ∧ d = none ∧ rIsE X.K D a xs H Q) := by
  intro pins s σ H xs us Q I r h
  obtain ⟨rfl, rfl, h⟩ := h
  exact call_isE C hz hf pins s σ H xs us Q I r h
end TkS
namespace K26
open PySem PySem.Spec PyProof.Rows L2 TkS LamX NdefX
theorem kit_selfN {K : PySem.W.Frag} {C : Addr} : PySem.W.kitOne K (.ref C) (.ref C) = some true := by
  unfold PySem.W.kitOne
  rw [if_pos (beq_self_eq_true (Value.ref C))]
theorem takesN0 {X : Cx} : L2N.Takes X (fun _ _ _ _ => False) := fun _ _ x => by
  obtain ⟨_, _, _, _, _, _, _, _, _, _, _, _, _, _, _, _, w⟩ := x
  exact w.elim
theorem hotS {X : Cx} {a : Addr} {oe : Obj} {cls : Value} {d : Option Addr} {pn : List (Addr × Obj)} (hz : L2N.Zn cls d oe) (hf : ∃ vs, oe.data = .fields vs) : L2H.HotC (X.suite a ((a, oe) :: pn)) := by
  obtain ⟨vs, e⟩ := hf
  exact ⟨(a, oe), ⟨rfl, vs, e, hz.2.2 vs e⟩, List.mem_cons_self⟩
def sl_undone (CR CF : Addr) : Sp := fun vs H Q _ => ∃ (f : Addr) (p : Nat) (x : V) (M : List (List PyData)) (D : Int), vs = [.int (p : Int), .ref f, x] ∧ Fld CR CF H f p ∧ Dq H x (.list (M.map .tuple)) ∧ M.length ≤ 5 ∧ 0 < D ∧ D ≤ DB 0 ∧ (∀ r ∈ M, r.length = M.length ∧ ∀ d ∈ r, Fb p D (TB 0) d) ∧ ∀ H', Same H H' → Q (.bl true) H'
section
variable {P : Program} {w : World} {K : PySem.W.Frag} {mg : Str → Option Value} {base : Heap}
theorem ok_law_undone (T : Txt K mg) : FnOk P w K mg base CX0 11 T.f_law_undone T.d_law_undone ["_law_p", "_law_field_here", "_law_rows_here"] (sl_undone T.C_RestField T.C_FractionField) := by
  refine T.F_law_undone.ok sc_law_undone (fun vs H Q E h => ?_) (fun cdv A outer s H vs Q E hr h => ?_)
  · obtain ⟨f, p, x, M, D, rfl, _⟩ := h
    rfl
  · obtain ⟨f, p, x, M, D, rfl, hf, kx, m5, d0, d1, hM, q⟩ := h
    refine' ⟨_, (pss_cons (ps_set (i := 3) sc_law_undone.nd rfl (.inr rfl) (pe_callB call_len_seq (by rfl) T.m_len (by decide +kernel) (pa_cons (pv 2) pa_nil))) (Evl.pss_cut ?tr
      (pss_cons (ps_if (PW.pt (pw_or (pt_cmpR op_lt (pe_call (ok_law_rank T) (hr.mono (by decide)) (by rfl) T.g_law_rank T.F_law_rank.kp T.b_law_rank .nil pass0 (pa_cons (pv 0) (pa_cons (pv 2) pa_nil))) (pv 3) (nomark _)) (pw_or1 (pt_not (pt_val (pe_call (ok_law_good_rows T) (hr.mono (by decide)) (by rfl) T.g_law_good_rows T.F_law_good_rows.kp T.b_law_good_rows .nil pass0 (pa_cons (pv 0) (pa_cons (pv 4) (pa_cons (pv 3) (pa_cons (pv 3) pa_nil))))))))))
        (pss_one (ps_ret pe_bl))
        pss_nil)
      (pss_cons (ps_setLc (i := 7) rfl sc_law_undone.nd rfl rfl (sw_true rfl rfl rfl (by decide +kernel)) (pi_range1 (by rfl) T.m_range (pa_cons (pv 3) pa_nil)) (blkOk_by (own := [("_law_i", 6)]) (N := ["_law_p", "_law_field_here", "_law_rows_here", "_law_size", "_law_told", "e", "_law_i", "_law_units", "_law_row", "_law_k"]) (sc := defScope s_law_undone) (by decide +kernel)) (fun _ _ _ _ _ => (pg_name (i := 6) sc_law_undone.nd rfl (.inr rfl))) (fun _ _ _ _ _ => pts_nil) (fun _ _ _ _ _ => (pe_callTy call_tupD (by rfl) T.m_tuple (by decide +kernel) (pa_cons (show PE _ _ (tLc (iRng1 (tCons (tVar 3) tNil)) (gName 9) tYes (tCall sl_some [] E0 (tCons (tVar 0) (tCons (tCB rIntB (tCons (tOp rEq (tVar 6) (tVar 9)) tNil)) tNil))) [9]) from pe_lc (own := [("_law_k", 9)]) rfl sc_law_undone.nd (pi_range1 (by rfl) T.m_range (pa_cons (pv 3) pa_nil)) (by show BlkOk ["_law_p", "_law_field_here", "_law_rows_here", "_law_size", "_law_told", "e", "_law_i", "_law_units", "_law_row", "_law_k"] { kind := .function, names := [(".0", .local), ("_law_i", .cell), ("tuple", .globalImplicit), ("range", .globalImplicit), ("_law_p", .cell), ("_law_size", .cell)], isGenerator := false, isCoroutine := false } _ _; exact blkOk_by (by decide +kernel)) (fun _ _ _ _ _ => (pg_name (i := 9) sc_law_undone.nd rfl (.inl rfl))) (fun _ _ _ _ _ => pts_nil) (fun _ _ _ _ _ => (pe_call (ok_law_some T) (hr.mono (by decide)) (by rfl) T.g_law_some T.F_law_some.kp T.b_law_some .nil pass0 (pa_cons (pv 0) (pa_cons (pe_callTy call_intB (by rfl) T.m_int (by decide +kernel) (pa_cons (pe_cmpR op_eq (pv 6) (pv 9) (nomark _)) pa_nil)) pa_nil))))) pa_nil))))
      (pss_cons (ps_for PassesOwn.never rfl (pi_range1 (by rfl) T.m_range (pa_cons (pv 3) pa_nil)) (pg_name (i := 6) sc_law_undone.nd rfl (.inl rfl))
        (pss_one (ps_if (PW.pt (pw_or (pt_cmpR (op_neD hr.units) (pe_call (ok_law_sum T) (hr.mono (by decide)) (by rfl) T.g_law_sum T.F_law_sum.kp T.b_law_sum .nil pass0 (pa_cons (pv 0) (pa_cons (pe_ix ix_list (pv 2) (pv 6) (fun _ _ => rfl)) (pa_cons (pv 4) (pa_cons (pv 3) pa_nil))))) (pe_ix ix_list (pv 7) (pv 6) (fun _ _ => rfl)) (nomark _)) (pw_or1 (pt_cmpR (op_neD hr.units) (pe_call (ok_law_sum T) (hr.mono (by decide)) (by rfl) T.g_law_sum T.F_law_sum.kp T.b_law_sum .nil pass0 (pa_cons (pv 0) (pa_cons (pe_ix ix_tup (pv 4) (pv 6) (fun _ _ => rfl)) (pa_cons (pv 2) (pa_cons (pv 3) pa_nil))))) (pe_ix ix_list (pv 7) (pv 6) (fun _ _ => rfl)) (nomark _)))))
          (pss_one (ps_ret pe_bl))
          pss_nil)))
      (pss_one (ps_ret pe_bl))))))), ?_⟩
    case tr =>
      refine' L2N.ps_try_as (i := 5) (Wout := fun _ _ _ _ => False) rfl rfl sc_law_undone.nd rfl rfl ⟨rfl, by decide, Or.inl T.g_SheetError⟩ takesN0 ?bd ?hd
      case bd =>
        intro W pn xe tk hpass
        refine' pss_one (ps_set (i := 4) sc_law_undone.nd rfl (.inl rfl) (pe_callSD (ok_undoing_rows T) (hr.mono (by decide)) (by rfl) T.g_undoing_rows T.F_undoing_rows.kp T.b_undoing_rows .nil (fun σ => L2N.passAt tk σ) (pa_cons (pv 1) (pa_cons ?lc pa_nil))))
        case lc =>
          show PE _ _ (tLc (iSeq K (tVar 2)) (gName 8) tYes (tCB rLstD (tCons (tVar 8) tNil)) [8])
          refine' pe_lc (own := [("_law_row", 8)]) ?a ?b ?c ?d ?e ?f ?g
          case a => rfl
          case b => exact sc_law_undone.nd
          case c => exact pi_seq (pv 2)
          case d => exact blkOk_by (N := ["_law_p", "_law_field_here", "_law_rows_here", "_law_size", "_law_told", "e", "_law_i", "_law_units", "_law_row", "_law_k"]) (sc := defScope s_law_undone) (by decide +kernel)
          case e => exact fun _ _ _ _ _ => (pg_name (i := 8) sc_law_undone.nd rfl (.inl rfl))
          case f => exact fun _ _ _ _ _ => pts_nil
          case g => exact fun _ _ _ _ _ => (pe_callTy call_lstD (by rfl) T.m_list (by decide +kernel) (pa_cons (pv 8) pa_nil))
      case hd => exact fun a oe cls d pn hz hf => pss_one (ps_ret (pe_and (pe_callB (call_isE2 T.e_NotInvertible hz.zc hf) (by rfl) T.m_isinstance (by decide +kernel) (pa_cons (pv 5) (pa_cons (pe_glob (v := .ref T.C_NotInvertible) rfl T.g_NotInvertible rfl) pa_nil))) (pe_and (pe_callB (call_isE2 T.e_NotInvertible hz.zc hf) (by rfl) T.m_isinstance (by decide +kernel) (pa_cons (pv 5) (pa_cons (pe_bltn (v := .ty "ValueError") (u := .type "ValueError") (by rfl) T.m_ValueError (by decide +kernel) rfl) pa_nil))) (pe_one (pe_cmpR op_lt (L2H.pe_callH (E := fun _ => E0) (ok_law_rankH T) (L2H.roomH_mark (hr.mono (by decide)) _) (hotS hz hf) (by rfl) T.g_law_rank T.F_law_rank.kp T.b_law_rank (fun σ => passH) (pa_cons (pv 0) (pa_cons (pv 2) pa_nil))) (pv 3) (nomark _))))))
    have fp := hf.fp
    have kv := kit_exc T.q_NotInvertible (T := "ValueError") (by decide +kernel) (by decide +kernel)
    have g2 : Gm p M.length 0 M := ⟨fun x mx => (hM x mx).1, D, d0, d1, fun x mx => (hM x mx).2⟩
    have gI := gm_augI fp d0 d1 hM
    have cE := undo_cnt fp d0 d1 hM m5
    have kx0 := kx
    cases kx with
    | @lst ax xs _ ex ux =>
    have lx := ux.len
    rw [List.length_map] at lx
    refine ⟨_, rfl, ax, xs, rfl, .inl (SqL.of ex), ?_⟩
    refine ⟨fun σ H' => ∃ t, σ = [some (.int (p : Int)), some (.ref f), some (.ref ax), some (.int ((xs.length : Nat) : Int)), some (.ref t), none, none, none, none, none] ∧ Same H H' ∧ Dq H' (.ref t) (rowsD (undoN p M)) ∧ ¬ (redN p (augI p M) M.length).2.length < M.length, ?_, fun σ H' hP => ?_⟩
    · refine ⟨_, rfl, ?_⟩
      refine lc_seqD (f := fun _ => true) (e := fun d => .list (rowOf d)) (fun Q h => ⟨_, rfl, h⟩) (.inl (SqL.of ex)) ux (by rw [List.length_map]; omega) (fun x => rfl) (fun i x d H' Q _ _ _ h => h _ fun _ _ z => z) (fun L i y d H2 Q2 nD hd _ s2 k2 acc q2 => ?_) (fun L H1 nW s1 kL => ?_)
      · obtain ⟨ac, hac⟩ := acc
        obtain ⟨r, mr, rfl⟩ := List.mem_map.mp (List.mem_of_getElem? hd)
        refine ⟨_, rfl, y, .tuple r, r, rfl, k2, rfl, fun la H4 s4 na ka => q2 _ H4 s4 ?_⟩
        have nl : noLists r = true := fbs_noL (hM r mr).2
        have hD := s4 _ _ hac
        cases ka with
        | lst e u =>
          refine .lst (off_at (fun z => ?_) e) (dqs_noL hD _ nl u)
          rw [z, hac] at na
          cases na
      rw [List.filter_eq_self.mpr fun _ _ => rfl, List.map_map] at kL
      have eM : (M.map ((fun d => PyData.list (rowOf d)) ∘ PyData.tuple)) = M.map .list := List.map_congr_left fun _ _ => rfl
      rw [eM] at kL
      refine ⟨f, p, .ref L, _, _, M, rfl, hf.same s1, kL, rfl, rw_lists M, m5, fun r mr => ⟨(hM r mr).1, fbs_noL (hM r mr).2⟩, gI, fun c H2 s2 => ?_, fun c t H2 s2 k2 => ?_⟩
      · refine ⟨true, T.mm_NotInvertible_SheetError, fun _ a0 na => ?_, fun z => Bool.noConfusion z⟩
        refine ⟨_, rfl, rfl, rfl, _, _, true, rfl, fun u h => h, kit_selfN, _, rfl, iteT ⟨_, rfl, rfl, rfl, _, _, true, rfl, fun u h => h, kv, _, rfl, iteT ?_⟩⟩
        refine ⟨_, rfl, _, rfl, p, M.length, .ref ax, M, rfl, fp, (kx0.same s1).same s2, g2, by omega, by omega, fun H4 s4 => ⟨_, rfl, _, _, rfl, rfl, ?_⟩⟩
        have e1 : decide ((((rkN p M M.length).2 : Nat) : Int) < ((xs.length : Nat) : Int)) = true := decide_eq_true (by omega)
        show Q (V.bl (decide ((((rkN p M M.length).2 : Nat) : Int) < ((xs.length : Nat) : Int)))) H4
        rw [e1]
        exact q H4 ((s1.trans s2).trans s4)
      · exact ⟨t, rfl, s1.trans s2, k2, c⟩
    · obtain ⟨t, rfl, sm, kt, nc⟩ := hP
      obtain ⟨lU, D1, T1, u1, u2, u3, u4, fU⟩ := undo_rows fp d0 d1 hM m5
      have h4224 : (2 : Int) ^ 4224 < 2 ^ 4300 := by decide +kernel
      have nbU : ∀ r ∈ undoN p M, ∀ d ∈ r, Nb p 4300 d := fun r mr d md => ((fU r mr).2 d md).nb (Int.lt_trans u3 h4224) (Int.lt_trans u4 h4224)
      refine ⟨_, rfl, _, rfl, p, M.length, .ref ax, M, rfl, fp, kx0.same sm, g2, by omega, by omega, fun H4 s4 => ⟨_, rfl, _, _, rfl, rfl, _, rfl, ite2 (fun c => ?_) (fun c => ?_)⟩⟩
      · have := of_decide_eq_true c
        omega
      refine ⟨_, rfl, _, rfl, _, rfl, _, rfl, p, M.length, .ref t, undoN p M, by rw [lU, lx]; rfl, kt.same s4, fun r mr => (fU r mr).1, nbU, _, rfl, ?_⟩
      refine iteF ?_
      have sm4 := sm.trans s4
      refine nx_go rfl ?_
      dsimp only
      refine asgE ?_
      refine ⟨_, rfl, ((xs.length : Nat) : Int), rfl, by omega, by omega, fun U nU => ?_⟩
      rw [show ((xs.length : Nat) : Int).toNat = M.length by omega]
      refine lc_rngD (fun _ => true) (fun i => .tuple (unitD p M.length i)) nU (by omega) (fun _ => rfl) (fun j H1 Q1 hj s1 q1 => q1 _ fun _ _ z => z) (fun i H5 Q1 hi _ s5 acc q1 => ?_) (fun H5 s5 kU => ?_)
      · obtain ⟨ac, hac⟩ := acc
        refine ⟨_, rfl, ((xs.length : Nat) : Int), rfl, by omega, by omega, fun V1 nV => ?_⟩
        rw [show ((xs.length : Nat) : Int).toNat = M.length by omega]
        refine lc_rngD (fun _ => true) (fun k => if k = i then oneD p else zeroD p) nV (by omega) (fun _ => rfl) (fun j H1 Q1 hj s1 q1 => q1 _ fun _ _ z => z) (fun k H6 Q2 hk _ s6 acc2 q2 => ?_) (fun H6 s6 kV => ?_)
        · obtain ⟨ac2, hac2⟩ := acc2
          refine ⟨_, rfl, _, rfl, _, rfl, rfl, .inr ⟨_, rfl, p, _, rfl, fun v H7 s7 k7 => q2 v H7 s7 ?_⟩⟩
          have hac7 := s7 _ _ hac2
          by_cases c : k = i
          · subst c
            rw [show decide (V.int (0 + (k : Int)) = V.int (0 + (k : Int))) = true from decide_eq_true rfl, if_pos rfl, some_one fp] at k7
            rw [if_pos rfl]
            exact dq_noL hac7 _ (nb_noL (nb_one (k := 1) fp (Nat.le_refl 1))) k7
          · have cd : decide (V.int (0 + (i : Int)) = V.int (0 + (k : Int))) = false := decide_eq_false fun z => c (by have := V.int.inj z; omega)
            rw [cd, if_neg Bool.false_ne_true, some_zero] at k7
            rw [if_neg c]
            exact dq_noL hac7 _ (nb_noL (nb_zero (k := 1) fp (Nat.le_refl 1))) k7
        · rw [List.filter_eq_self.mpr fun _ _ => rfl] at kV
          have nlu : noLists (unitD p M.length i) = true := noLs_all fun d md => by
            obtain ⟨j', _, rfl⟩ := List.mem_map.mp md
            split
            · exact nb_noL (nb_one (k := 1) fp (Nat.le_refl 1))
            · exact nb_noL (nb_zero (k := 1) fp (Nat.le_refl 1))
          exact ⟨.ref V1, _, _, rfl, kV, rfl, fun l H7 s7 k7 => q1 (.ref l) H7 (s6.trans s7) (dq_noL ((s6.trans s7) _ _ hac) (.tuple (unitD p M.length i)) nlu k7)⟩
      · rw [List.filter_eq_self.mpr fun _ _ => rfl] at kU
        have sm5 := sm4.trans s5
        have kt5 := (kt.same s4).same s5
        refine ⟨_, rfl, ((xs.length : Nat) : Int), rfl, by omega, by omega, ?_⟩
        rw [show ((xs.length : Nat) : Int).toNat = M.length by omega]
        refine for_range (lo := 0) (n := M.length) (fun i σ H' => ∃ y6, σ = [some (.int (p : Int)), some (.ref f), some (.ref ax), some (.int ((xs.length : Nat) : Int)), some (.ref t), none, y6, some (.ref U), none, none] ∧ Same H5 H') ⟨none, rfl, fun _ _ z => z⟩ (fun i σ H6 hi hP => ?_) (fun σ H6 hP => ?_)
        · obtain ⟨y6, rfl, s6⟩ := hP
          have sm6 := sm5.trans s6
          obtain ⟨m1, m2⟩ := undo_mul fp d0 d1 hM m5 nc hi
          have mi := getD_memL hi
          have mU := getD_memL (M := undoN p M) (i := i) (by omega)
          have d70 : D < 2 ^ 70 := Int.lt_of_le_of_lt d1 (by decide)
          obtain ⟨b1, b2⟩ := mul_big (x := D1) (y := D) (by omega) (by omega) u3 d70
          obtain ⟨b3, b4⟩ := mul_big (x := T1) (y := TB 0) u2 (by decide) u4 (by decide)
          have luM : TkS.low 2 (.tuple (unitD p M.length i)) = true := low_tup fun d md => by
            obtain ⟨j', _, rfl⟩ := List.mem_map.mp md
            split
            · exact nb_low (nb_one (k := 1) fp (Nat.le_refl 1))
            · exact nb_low (nb_zero (k := 1) fp (Nat.le_refl 1))
          obtain ⟨a1, a2, a3, a4⟩ := sum_nb (n := M.length) fp d0 u1 (by decide) u2 (hM _ mi).2 fU (by rw [(hM _ mi).1, lU]) (by omega) (by rw [Int.mul_comm]; exact b2) (by rw [Int.mul_comm (TB 0)]; exact b3) (big_up d70) (big_up (by decide)) (Int.lt_trans u3 h4224) (Int.lt_trans u4 h4224)
          obtain ⟨c1, c2, c3, c4⟩ := sum_nb (n := M.length) fp u1 d0 u2 (by decide) (fU _ mU).2 hM (fU _ mU).1 (by omega) b2 b3 (Int.lt_trans u3 h4224) (Int.lt_trans u4 h4224) (big_up d70) (big_up (by decide))
          obtain ⟨vi, hvi, kvi⟩ := dqs_at (DqAll.same sm6 _ ux) (i := i) (d := .tuple (M.getD i [])) (by rw [List.getElem?_map, List.getElem?_eq_getElem hi, List.getD_eq_getElem?_getD, List.getElem?_eq_getElem hi]; rfl)
          have kt6 := kt5.same s6
          have kU6 := kU.same s6
          have kt6' := kt6
          cases kU6 with
          | @lst _ us _ eU uU =>
          cases kt6' with
          | @tup _ ts _ eT uT =>
          obtain ⟨ui, hui, kui⟩ := dqs_at uU (i := i) (d := .tuple (unitD p M.length i)) (by rw [List.getElem?_map, List.getElem?_range hi]; rfl)
          obtain ⟨ti, hti, kti⟩ := dqs_at uT (i := i) (d := .tuple ((undoN p M).getD i [])) (by rw [List.getElem?_map, List.getElem?_eq_getElem (show i < (undoN p M).length by omega), List.getD_eq_getElem?_getD, List.getElem?_eq_getElem (show i < (undoN p M).length by omega)]; rfl)
          have rwU : Rw ((undoN p M).map .tuple) (undoN p M) := by
            unfold Rw
            rw [List.map_map]
            rfl
          have rwM : Rw (M.map .tuple) M := by
            unfold Rw
            rw [List.map_map]
            rfl
          refine ⟨_, rfl, _, rfl, _, rfl, ax, xs, 0 + (i : Int), vi, rfl, rfl, SqL.of (sm6 _ _ ex), at_of (j := i) (by omega) hvi, ?_⟩
          refine ⟨_, rfl, _, rfl, p, M.length, vi, .ref t, _, _, M.getD i [], _, undoN p M, by rw [lx]; rfl, fp, kvi, rfl, kt6, rfl, rwU, by rw [(hM _ mi).1, lU], by omega, by omega, a1, a2, a3, a4, fun v7 H7 s7 k7 => ?_⟩
          rw [m1] at k7
          refine ⟨_, rfl, _, rfl, U, us, 0 + (i : Int), ui, rfl, rfl, SqL.of (s7 _ _ eU), at_of (j := i) (by omega) hui, ?_⟩
          refine ⟨_, _, k7.dp, (kui.same s7).dp, low_shp luM (by decide), low_shp luM (by decide), _, rfl, ?_⟩
          rw [low_refl luM]
          refine iteF ?_
          have s67 := sm6.trans s7
          refine ⟨_, rfl, _, rfl, _, rfl, t, ts, 0 + (i : Int), ti, rfl, rfl, SqT.of (s7 _ _ eT), at_of (j := i) (by omega) hti, ?_⟩
          refine ⟨_, rfl, _, rfl, p, M.length, ti, .ref ax, _, _, (undoN p M).getD i [], _, M, by rw [lx]; rfl, fp, kti.same s7, rfl, kx0.same s67, rfl, rwM, (fU _ mU).1, by omega, by omega, c1, c2, c3, c4, fun v8 H8 s8 k8 => ?_⟩
          rw [m2] at k8
          refine ⟨_, rfl, _, rfl, U, us, 0 + (i : Int), ui, rfl, rfl, SqL.of (s8 _ _ (s7 _ _ eU)), at_of (j := i) (by omega) hui, ?_⟩
          refine ⟨_, _, k8.dp, ((kui.same s7).same s8).dp, low_shp luM (by decide), low_shp luM (by decide), _, rfl, ?_⟩
          rw [low_refl luM]
          exact iteF ⟨_, rfl, (s6.trans s7).trans s8⟩
        · obtain ⟨y6, rfl, s6⟩ := hP
          exact q H6 (sm5.trans s6)
end
end K26
set_option Elab.async false
set_option linter.all false
set_option maxRecDepth 100000
set_option maxHeartbeats 4000000
set_option exponentiation.threshold 5000
set_option pp.maxSteps 700
namespace K26
open PySem PySem.Spec PyProof.Rows L2 TkS LamX NdefX
def cB (b : Bool) (r : List PyData) : PyData := if b = true then .list r else .tuple r
theorem cB_items (b : Bool) (r : List PyData) : itemsD (cB b r) = some r := by cases b <;> rfl
theorem rw_cB (b : Bool) (M : List (List PyData)) : Rw (M.map (cB b)) M := by
  unfold Rw
  rw [List.map_map]
  exact List.map_congr_left fun r _ => cB_items b r
theorem rw_tup (M : List (List PyData)) : Rw (M.map .tuple) M := rw_cB false M
theorem ne_refl {d : PyData} {n : Nat} (h : TkS.low n d = true) : (!PyData.eqv d d) = false := by rw [low_refl h]; rfl
theorem fld_vw {CR CF h g : Addr} {H : Hp} {f : Addr} {p : Nat} (x : Hnd h g H) (hf : Fld CR CF H f p) : Fld CR CF (Vw h g H) f p := by
  obtain ⟨cells, t0, c, h1, h2, q⟩ := x.ex
  have v : ∀ {b : Addr} {o : HO}, H b = some o → (∀ l, o ≠ .lst l) → Vw h g H b = some o := fun e n => vw_at (fun z => by rw [z, h1] at e; cases e; exact n _ rfl) (fun z => by rw [z, h2] at e; cases e; exact n _ rfl) e
  refine ⟨hf.fp, fun e => ?_, fun e => ?_⟩
  · obtain ⟨dx, z, o, m, e1, e2, e3, e4⟩ := (hf.fr e).at_
    exact ⟨dx, z, o, m, v e1 (fun _ z => nomatch z), v e2 (fun _ z => nomatch z), v e3 (fun _ z => nomatch z), v e4 (fun _ z => nomatch z)⟩
  · obtain ⟨⟨dx, ha⟩, pr, le⟩ := hf.rs e
    exact ⟨⟨dx, v ha (fun _ z => nomatch z)⟩, pr, le⟩
/-! a list that is made while the state stands aside -/
def AccW (h g : Addr) (H0 : Hp) (D : Addr) (ds : List PyData) (H' : Hp) : Prop := Same H0 H' ∧ ∃ ys, H' D = some (.lst ys) ∧ DqAll (TkS.Off D (Vw h g H')) ys ds
theorem AccW.put {h g : Addr} {H0 H' H'' : Hp} {D : Addr} {ds : List PyData} {y : V} {d : PyData} (a : AccW h g H0 D ds H') (nD : H0 D = none) (hl : ds.length ≤ 900) (s : Same H' H'') (k : Dq (TkS.Off D (Vw h g H'')) y d) :
    ∃ acc, H'' D = some (.lst acc) ∧ acc.length < sizeLine ∧ AccW h g H0 D (ds ++ [d]) (upd H'' D (.lst (acc ++ [y]))) := by
  obtain ⟨s0, ys, h1, h2⟩ := a
  refine ⟨ys, s _ _ h1, ?_, fun b o e => ?_, ys ++ [y], upd_same, ?_⟩
  · rw [h2.len]
    exact Nat.lt_of_le_of_lt hl (by decide)
  · rw [upd_ne (ne_of_none e nD)]
    exact s _ _ (s0 _ _ e)
  · rw [vw_upd]
    exact (DqAll.same (off_of (Kp.of s).vw) _ h2).snoc k
theorem lc_pick {K : PySem.W.Frag} {h g a : Addr} {xs : List V} {M : List (List PyData)} {b : Bool} {tl : TE} {te : TE} {vs : List Nat} {σ : L2.St} {H : Hp} {Q : VK} {j : Nat} (hd : Hnd h g H) (m9 : M.length ≤ 900) (nl : ∀ r ∈ M, noLists r = true) (ht0 : ∀ Q : VK, Q (.ref a) H → tl σ H Q) (hq : Sq K H a xs) (hx : DqAll (Vw h g H) xs (M.map .tuple)) (hw : ∀ x : V, wipe ((wipe σ vs).set j (some x)) vs = wipe σ vs)
    (he : ∀ (x : V) (H' : Hp) (Q' : VK), (if b = true then rLstD [x] H' Q' else Q' x H') → te ((wipe σ vs).set j (some x)) H' Q')
    (hz : ∀ D H', H D = none → Same H H' → Dq (Vw h g H') (.ref D) (.list (M.map (cB b))) → Q (.ref D) H') : tLc (iSeq K tl) (gName j) tYes te vs σ H Q := by
  refine lc_seq (fun D i H' => AccW h g H D ((M.take i).map (cB b)) H') ht0 hq (fun D nD => ⟨same_new nD, [], upd_same, .nil⟩) (fun D i H' _ _ hP => hP.1) (fun D i x H' nD hxi hP => ?_) (fun D H' nD hP => ?_)
  · obtain ⟨d, hdi, kd⟩ := hx.get hxi
    rw [List.getElem?_map] at hdi
    obtain ⟨r, hr', rfl⟩ := Option.map_eq_some_iff.mp hdi
    have nr := nl r (List.mem_of_getElem? hr')
    have hl : ((M.take i).map (cB b)).length ≤ 900 := by
      rw [List.length_map, List.length_take]
      omega
    have e : (M.take (i + 1)).map (cB b) = (M.take i).map (cB b) ++ [cB b r] := by
      rw [List.take_add_one, hr', List.map_append]
      rfl
    have sH := hP.1
    obtain ⟨ys, eD, _⟩ := hP.2
    have hd' := hd.same sH
    obtain ⟨n1, n2⟩ := hd.fresh nD
    have kd' : Dq (Vw h g H') x (.tuple r) := kd.same (Kp.of sH).vw
    refine ⟨hw _, he x H' _ ?_⟩
    rw [e]
    by_cases c : b = true
    · rw [if_pos c]
      refine ⟨x, .tuple r, r, rfl, kd'.same vw_same, rfl, fun l H2 s2 nl2 kl => hP.put nD hl s2 ?_⟩
      have ec : cB b r = .list r := by unfold cB; rw [if_pos c]
      rw [ec]
      obtain ⟨m1, m2⟩ := hd'.fresh nl2
      have eD2 := s2 _ _ eD
      have lD : l ≠ D := fun z => by rw [z, eD] at nl2; cases nl2
      cases kl with
      | lst el ul =>
        refine .lst (off_at lD (vw_at m1 m2 el)) (dqs_noL (vw_at n1 n2 eD2) _ nr (dqs_vw (hd'.same s2) _ nr ul))
    · rw [if_neg c]
      have ec : cB b r = .tuple r := by unfold cB; rw [if_neg c]
      rw [ec]
      exact hP.put nD hl (fun _ _ z => z) (dq_noL (vw_at n1 n2 eD) (.tuple r) nr kd')
  · rw [hx.len, List.length_map, List.take_length] at hP
    obtain ⟨s0, ys, h1, h2⟩ := hP
    obtain ⟨n1, n2⟩ := hd.fresh nD
    exact hz D H' nD s0 (.lst (vw_at n1 n2 h1) (DqAll.same off_same _ h2))
/-! sizes -/
theorem rd_lift {p k : Nat} {T : Int} {d : PyData} : ∀ j, Fb p (RD k) T d → Fb p (RD (k + j)) (6 ^ j * T) d
  | 0, h => by
    rw [Int.pow_zero, Int.one_mul]
    exact h
  | j + 1, h => by
    have := (rd_lift j h).scale (show (0 : Int) < 6 by decide)
    rw [Int.pow_succ, Int.mul_comm (6 ^ j) 6, Int.mul_assoc]
    exact this
theorem rt_b : ∀ m, m < 7 → 6 ^ (7 - m) * RT m ≤ TB 0 ∧ 6 ^ (6 - m) * (6 * (24 * RT m)) ≤ TB 0 ∧ RD m ≤ DB 0 ∧ RT m ≤ TB 0 ∧ 0 < RD m ∧ 0 ≤ RT m ∧ RD m < 2 ^ 70 ∧ RT m < 2 ^ 70 ∧ 6 * RD m < 2 ^ 70 ∧ RT m < 2 ^ 60 := by decide +kernel
theorem rg_seven {p n m : Nat} {M : List (List PyData)} (m6 : m ≤ 6) (g : Rg p n m M) : ∀ r ∈ M, r.length = n ∧ ∀ d ∈ r, Fb p (RD 7) (TB 0) d := fun r mr => ⟨g.ln r mr, fun d md => by
  have h := rd_lift (7 - m) (g.fb r mr d md)
  rw [show m + (7 - m) = 7 by omega] at h
  exact h.up (rt_b m (by omega)).1⟩
theorem row_seven {p : Nat} {d : PyData} (h : Fb p 6 12582912 d) : Fb p (RD 7) (TB 0) d := by
  have h' := rd_lift (k := 1) 6 h
  exact h'.up (by decide)
theorem rd7 : 0 < RD 7 ∧ RD 7 ≤ DB 0 := by decide
theorem gm_of {p n : Nat} {M : List (List PyData)} {D : Int} (d0 : 0 < D) (d1 : D ≤ DB 0) (h : ∀ r ∈ M, r.length = n ∧ ∀ d ∈ r, Fb p D (TB 0) d) : Gm p n 0 M := ⟨fun x mx => (h x mx).1, D, d0, d1, fun x mx => (h x mx).2⟩
/-- a sum of the rows with small weights -/
theorem sum_seven {p n m : Nat} (fp : Fp p) {M : List (List PyData)} {ws : List PyData} (lM : M.length = m) (m6 : m ≤ 6) (g : Rg p n m M) (hw : ∀ d ∈ ws, Fb p 6 24 d) (lw : ws.length = M.length) :
    ∀ d ∈ (List.range n).map fun j => dotD p ws (M.map fun r => r.getD j .none) (zeroD p), Fb p (RD 7) (TB 0) d := fun d md => by
  obtain ⟨j, hj, rfl⟩ := List.mem_map.mp md
  have hj := List.mem_range.mp hj
  obtain ⟨b1, b2, b3, b4, b5, b6, b7, b8⟩ := rt_b m (by omega)
  have h := sum_fb fp (D := 6) (T := 24) (by decide) b5 hw (fun r mr => ⟨g.ln r mr, g.fb r mr⟩) lw M.length (Nat.le_refl _) j hj
  rw [← lw, List.take_length, lw, ← List.length_map (f := fun r : List PyData => r.getD j .none), List.take_length, List.length_map] at h
  have h2 : Fb p (RD (m + 1)) (6 * (24 * RT m)) (dotD p ws (M.map fun r => r.getD j .none) (zeroD p)) := h.up (Int.mul_le_mul_of_nonneg_right (by omega) (by omega))
  have h3 := rd_lift (6 - m) h2
  rw [show m + 1 + (6 - m) = 7 by omega] at h3
  exact h3.up b2
theorem fb_mild {p : Nat} {D T : Int} {d : PyData} (fp : Fp p) (h : Fb p D T d) (hD : D < 2 ^ 70) (hT : T < 2 ^ 70) : mild 1 d = true := by
  have n := h.nb hD hT
  cases n with
  | rs l u =>
    unfold mild
    have := fp.le
    exact decide_eq_true (by
      rw [Int.natAbs_natCast]
      exact Nat.lt_of_lt_of_le u (Nat.le_trans this (by decide)))
  | @fr _ q a b c =>
    have s : ∀ z : Int, Fin 70 z → mild 0 (.int z) = true := fun z hz => by
      unfold mild
      exact decide_eq_true (Nat.lt_trans hz (by decide))
    exact mild_tup (ds := [.int q.1, .int q.2]) (by show 2 ≤ 40; decide) fun x m => by
      rcases List.mem_cons.mp m with rfl | m
      · exact s _ b
      · rw [List.mem_singleton.mp m]
        exact s _ c
theorem rg_mild {p n m : Nat} {M : List (List PyData)} (fp : Fp p) (m6 : m ≤ 6) (n6 : n ≤ 6) (lM : M.length = m) (g : Rg p n m M) (b : Bool) : mild 3 (.list (M.map (cB b))) = true := by
  obtain ⟨b1, b2, b3, b4, b5, b6, b7, b8, _⟩ := rt_b m (by omega)
  refine mild_lst (by rw [List.length_map]; omega) fun x mx => ?_
  obtain ⟨r, mr, rfl⟩ := List.mem_map.mp mx
  have lr := g.ln r mr
  have hr : ∀ d ∈ r, mild 1 d = true := fun d md => fb_mild fp (g.fb r mr d md) b7 b8
  cases b with
  | true => exact mild_lst (by omega) hr
  | false => exact mild_tup (by omega) hr
end K26
set_option Elab.async false
set_option linter.all false
set_option maxRecDepth 100000
set_option maxHeartbeats 4000000
/-! the law's def at its caller alone, where it is known that nothing is being printed (repr asks for that) -/
namespace TkS
open PySem PySem.Spec PyProof.Rows L2
/-- a def's promise at the law's caller -/
def TopOk (P : Program) (w : World) (K : PySem.W.Frag) (mg : Str → Option Value) (base : Heap) (CX : CXT) (f : Addr) (fd : FuncData) (ps : List Str) (sp : Sp) : Prop :=
  ∀ (outer : List Env) (s : Shared) (H : Hp) (args : Args) (us : List Value) (vs : List V) (Q : VK) (E : XK), Env0 P w K mg base callerA outer s H → BindsTo s fd args (ps.zip us) → Vals vs us → sp vs H Q E →
    codeAny (model P w) callerA (.call (.ref f) args) (CR CX outer P w H s Q E) s
theorem room_top : Room 200 callerA := ⟨rfl, by decide, by decide⟩
theorem top_of {CX : CXT} {P : Program} {w : World} {K : PySem.W.Frag} {mg : Str → Option Value} {base : Heap} {f : Addr} {name qual : Str} {params : Arguments} {body : List Stmt} {scope : Scope} {dV kV doc pm cdv ct oc : Value} {an od : Option Addr}
    {osl : Array (Option Value)} {N ps : List Str} {sp : Sp} (lk : K.lookup f = some ⟨oc, od, .func (PySem.W.fnOf name qual params body scope dV kV doc pm an cdv ct), osl⟩) (hcd : PySem.W.codeIn K cdv qual = true) (S : FnScope N ps scope)
    (len : ∀ vs H Q E, sp vs H Q E → vs.length = ps.length)
    (hbody : ∀ (outer : List Env) (s : Shared) (H : Hp) (vs : List V) (Q : VK) (E : XK), Room 199 (callerA.deeper (envOfC qual scope s.heap.objs.size f cdv)) → sp vs H Q E →
      ∃ t, PSs (cxOf CX P w K mg base N qual scope f cdv callerA outer s H E) body t ∧ t { nx := fun _ H' => Q .non H', rt := Q } (start N vs) H) :
    TopOk P w K mg base CX f (PySem.W.fnOf name qual params body scope dV kV doc pm an cdv ct) ps sp := by
  intro outer s H args us vs Q E e0 hb r hsp
  have hr := room_top
  have hl := len _ _ _ _ hsp
  have KX : K.In s.heap := e0.mod.kin.keeps fun b o e => (e0.bs b o e).1
  have lim : s.heap.NoLimit := e0.mod.nolimit.keeps fun b o e => (e0.bs b o e).1
  have hkind : ∀ y ∈ ps.zip us, scope.names.lookup y.1 = some .local ∨ (scope.names.lookup y.1 = some .cell ∧ ((cellsFrom (s.heap.objs.size + 1) scope.names []).lookup y.1).isSome = true) := fun ⟨n, v⟩ hy => by
    rcases S.par n (List.of_mem_zip hy).1 with q | q
    · exact .inl q
    · exact .inr ⟨q, PySem.W.cellsFrom_some _ _ _ (.inl q)⟩
  refine codeAny_call_function hr.depth (KX _ _ lk) rfl S.co S.gen rfl (PySem.W.codeRec_of KX hcd) (hb _ _ _ _ ?_)
  refine wpAny_newFunctionEnv_cells S.kind hkind fun env he s1 x => ?_
  subst he
  refine ⟨lim.keeps x.toInCall.keep, codeAny_func ?_⟩
  obtain ⟨t, ht, hq⟩ := hbody outer s H vs Q E (hr.deeper _) hsp
  have I : Inv (cxOf CX P w K mg base N qual scope f cdv callerA outer s H E) [] (start N vs) H s1 := inv_start S hr.hd e0 hl r x
  refine wpAny_mono (ht.run [] s1 (start N vs) H _ I hq) (fun fl s' hs => ?_) fun e s' hs => hs
  have fin : ∀ {σ' : L2.St} {H' : Hp} {v : V} {u : Value}, Inv (cxOf CX P w K mg base N qual scope f cdv callerA outer s H E) [] σ' H' s' → RelV v u → Q v H' → CE outer P w H s Q u s' :=
    fun {σ' H' v u} J rv q => ⟨v, H', J.os, J.bare, J.base, J.hok, rv, q⟩
  cases fl with
  | ret u =>
    obtain ⟨v, σ', H', J, rv, q⟩ := hs
    exact fin J rv q
  | next =>
    obtain ⟨σ', H', J, q⟩ := hs
    exact fin (v := V.non) (u := Value.none) J rfl q
  | brk =>
    obtain ⟨_, _, _, q⟩ := hs
    exact False.elim q
  | cont =>
    obtain ⟨_, _, _, q⟩ := hs
    exact False.elim q
theorem top_call {P : Program} {w : World} {K : PySem.W.Frag} {mg mb : Str → Option Value} {CX : CXT} {fa a : Addr} {fd : FuncData} {x : Str} {sp : Sp} {s₁ : Shared} {vs : List Value} {ns : List Int}
    (KX : K.In s₁.heap) (hns : s₁.heap.Ns mainGlobals mg) (hb : s₁.heap.Ns builtinsNs mb) (hbb : ∀ x : Str, x ≠ "__name__" → mb x = bootBuiltins x) (hlim : s₁.heap.NoLimit) (hg : s₁.gens = #[])
    (ha : s₁.heap.get? a = some { cls := .type "list", data := .seq vs.toArray }) (hi : IntsAre vs ns) (hl : ns.length ≤ sizeLine)
    (F : ∀ base : Heap, K.In base → base.Ns mainGlobals mg → TopOk P w K mg base CX fa fd [x] sp) (hbind : ∀ (s : Shared) (u : Value), BindsTo s fd ⟨[u], []⟩ [(x, u)])
    (hsp : ∀ H : Hp, Only H → SqL K H a (ns.map V.int) → sp [.ref a] H (fun v _ => v = .bl true) fun _ _ _ => False)
    (hCX : ∀ H e s', CX [] H s₁ (fun _ _ _ => False) e s' → False) :
    codeAny (model P w) callerA (.call (.ref fa) ⟨[.ref a], []⟩) (fun r s' => r = .ok (.ret (.bool true)) ∧ OldK s₁.heap s'.heap ∧ s'.os = s₁.os ∧ AllBare s'.gens) s₁ := by
  have rv := vals_ints hi
  have lenV := hi.length
  -- from an abstract heap in which nothing but the script may be tracked
  have core : ∀ H : Hp, Only H → SqL K H a (ns.map V.int) → HOk P w H s₁.heap → (∀ b, H b ≠ none → b = a) → (H a ≠ none → K.lookup a = none) →
      codeAny (model P w) callerA (.call (.ref fa) ⟨[.ref a], []⟩) (fun r s' => r = .ok (.ret (.bool true)) ∧ OldK s₁.heap s'.heap ∧ s'.os = s₁.os ∧ AllBare s'.gens) s₁ := by
    intro H hO hS hok hA hK
    have base_of : ∀ {b : Addr} {o : Obj}, s₁.heap.get? b = some o → H b = none → (hidT s₁.heap H).get? b = some o := fun e n => hidT_get e n
    have noA : ∀ {b : Addr} {o : Obj} {es : Array DictEntry} {ep : Nat}, s₁.heap.get? b = some o → o.data = .dict es ep → H b = none := fun {b o es ep} e d => by
      cases q : H b with
      | none => rfl
      | some u =>
        have e' : b = a := hA b (by rw [q]; simp)
        subst e'
        rw [ha] at e; cases e
        have d' : Data.seq vs.toArray _ = Data.dict es ep := d
        cases d'
    have nsK : ∀ {b : Addr} {m : Str → Option Value}, s₁.heap.Ns b m → (hidT s₁.heap H).Ns b m := fun {b m} ⟨o, es, ep, e, d, r⟩ => ⟨o, es, ep, base_of e (noA e d), d, r⟩
    have hKb : K.In (hidT s₁.heap H) := fun b o e => base_of (KX b o e) (by
      cases q : H b with
      | none => rfl
      | some u =>
        have e' : b = a := hA b (by rw [q]; simp)
        subst e'
        rw [hK (by rw [q]; simp)] at e; cases e)
    have hM : Mod K mg (hidT s₁.heap H) := ⟨hKb, nsK hns, ⟨mb, nsK hb, hbb⟩, let ⟨mc, h1, h2⟩ := hlim; ⟨mc, nsK h1, h2⟩⟩
    have e0 : Env0 P w K mg (hidT s₁.heap H) callerA [] s₁ H := ⟨rfl, hM, fun b o e => of_hidT e, Nat.le_of_eq (hidT_size _ _), trivial, fun b hb => absurd (show b ∈ ([] : List Addr) from hb) (by simp), hok, .of_eq hg⟩
    refine codeAny_mono (F _ hKb (nsK hns) [] s₁ H ⟨[.ref a], []⟩ [.ref a] [.ref a] _ _ e0 (hbind s₁ (.ref a)) (.cons rfl .nil) (hsp H hO hS)) fun r s' h => ?_
    cases r with
    | error e => exact (hCX H e s' h).elim
    | ok fl =>
      cases fl with
      | next => exact False.elim h
      | brk => exact False.elim h
      | cont => exact False.elim h
      | ret u =>
        obtain ⟨v, H', os, bare, un, hok', r', q⟩ := h
        have q' : v = .bl true := q
        subst q'
        obtain rfl : u = Value.bool true := r'
        refine ⟨rfl, OldK.of_keep fun b o e => ?_, os, bare⟩
        cases q : H b with
        | none => exact un.keep b o e q (by intro z; exact absurd (show b ∈ ([] : List Addr) from z) (by simp)) (by simp)
        | some u =>
          rcases hO b with z | ⟨ob, xs, z⟩
          · rw [q] at z; cases z
          · have z2 := un.frzs b ob _ z
            obtain ⟨e1, _⟩ := hok b _ z
            obtain ⟨e2, _⟩ := hok' b _ z2
            rw [e] at e1; cases e1
            exact e2
  cases hk : K.lookup a with
  | some o =>
    -- the script is one of the module's own objects
    have e := KX a o hk
    rw [ha] at e
    cases e
    refine core (fun _ => none) (fun _ => .inl rfl) (.inr ⟨_, vs.toArray, _, hk, rfl, rfl, rfl, by rw [List.size_toArray, lenV]; exact hl, by simpa using rv⟩) (fun b u z => by have z' : (none : Option HO) = some u := z; cases z') (fun b z => absurd rfl z) fun z => absurd rfl z
  | none =>
    refine core (fun b => if b = a then some (.frz { cls := .type "list", data := .seq vs.toArray } (.lst (ns.map V.int))) else none) (fun b => ?_) (.inl (.inr ⟨{ cls := .type "list", data := .seq vs.toArray }, if_pos rfl⟩)) (fun b u z => ?_) (fun b z => ?_) fun _ => hk
    · by_cases hb : b = a
      · exact .inr ⟨_, _, if_pos hb⟩
      · exact .inl (if_neg hb)
    · by_cases hb : b = a
      · have z' := (if_pos hb).symm.trans z
        cases z'
        subst hb
        exact ⟨ha, by rw [List.length_map]; exact hl, vs, _, rv, ha⟩
      · have z' := (if_neg hb).symm.trans z
        cases z'
    · by_cases hb : b = a
      · exact hb
      · exact absurd (if_neg hb) z
theorem walk_top {l : PySem.W.OpenLaw} {n : Nat} {q : Program} {loose : List Str} {XP : (Str → Option Value) → Heap → Prop} {YP : World → Heap → Prop} {d : DefRec} {K : Params → PySem.W.Frag} {CX : World → CXT} {sp : World → Sp} {x : Str}
    (hn : l.most = some n) (hn2 : n ≤ sizeLine) (hdf : d.params.defaults = [])
    (hY : ∀ (w : World) (h : Heap), YP w h → (K w.params).In h)
    (F : ∀ (w : World) (mg : Str → Option Value) (fa : Addr) (h : Heap), (K w.params).In h → h.Ns mainGlobals mg → mg d.name = some (.ref fa) →
      ∃ fd : FuncData, (∀ (s : Shared) (u : Value), BindsTo s fd ⟨[u], []⟩ [(x, u)]) ∧
        ∀ base : Heap, (K w.params).In base → base.Ns mainGlobals mg → TopOk l.prog w (K w.params) mg base (CX w) fa fd [x] (sp w))
    (hsp : ∀ (w : World) (H : Hp) (a : Addr) (ns : List Int), ns.length ≤ n → Only H → SqL (K w.params) H a (ns.map V.int) → sp w [.ref a] H (fun v _ => v = .bl true) fun _ _ _ => False)
    (hCX : ∀ (w : World) (H : Hp) (s : Shared) (e : Value) (s' : Shared), CX w [] H s (fun _ _ _ => False) e s' → False) :
    PySem.W.WalkO q loose XP YP l.row.toRowW d [] (fun f vs => PySem.call f vs) := by
  refine Att.attach_call hn hdf fun w s₀ s₁ mg mb fa o pm cd doc a vs ns G Y ho hd hcd hmg hobj hints hlen hg => ?_
  have KX := hY w _ Y
  obtain ⟨fd, hb, hF⟩ := F w mg fa _ KX G.T.g hmg
  exact top_call KX G.T.g G.T.b G.T.builtins G.T.nolimit hg hobj hints (Nat.le_trans hlen hn2) hF hb (fun H hO hS => hsp w H a ns hlen hO hS) fun H e s' => hCX w H s₁ e s'
end TkS
set_option Elab.async false
set_option linter.all false
set_option maxRecDepth 100000
set_option maxHeartbeats 8000000
set_option exponentiation.threshold 5000
set_option pp.maxSteps 1500
namespace K26
open PySem PySem.Spec PyProof.Rows L2 TkS LamX NdefX
abbrev lawN : List Str := ["_law_script", "_law_state", "_law_p", "_law_field_here", "_law_width", "_law_rows_here", "_law_listed", "_law_handed", "_law_kept", "_law_rank_here", "_law_told", "_law_told_free", "_law_row", "_law_asked", "_law_inside", "_law_due", "_law_left", "_law_product", "_law_told_product", "_law_size", "_law_item", "_law_i", "_law_k"]
/-- what the law knows behind its rows -/
structure LK (CR CF : Addr) (h g f D5 D7 : Addr) (p n m : Nat) (b : Bool) (M : List (List PyData)) (H : Hp) : Prop where
  hd : Hnd h g H
  fp : Fp p
  lM : M.length = m
  gM : Rg p n m M
  fld : Fld CR CF (Vw h g H) f p
  kx : Dq (Vw h g H) (.ref D5) (.list (M.map .tuple))
  kh : Dq (Vw h g H) (.ref D7) (.list (M.map (cB b)))
theorem LK.kp {CR CF h g f D5 D7 : Addr} {p n m : Nat} {b : Bool} {M : List (List PyData)} {H H' : Hp} (k : LK CR CF h g f D5 D7 p n m b M H) (s : Kp h g H H') (hd : Hnd h g H') : LK CR CF h g f D5 D7 p n m b M H' :=
  ⟨hd, k.fp, k.lM, k.gM, k.fld.same s.vw, k.kx.same s.vw, k.kh.same s.vw⟩
theorem LK.same {CR CF h g f D5 D7 : Addr} {p n m : Nat} {b : Bool} {M : List (List PyData)} {H H' : Hp} (k : LK CR CF h g f D5 D7 p n m b M H) (s : Same H H') : LK CR CF h g f D5 D7 p n m b M H' := k.kp (Kp.of s) (k.hd.same s)
def sp_law (K : PySem.W.Frag) : Sp := fun vs H Q _ => ∃ (a : Addr) (ns : List Int), vs = [.ref a] ∧ SqL K H a (ns.map V.int) ∧ ns.length ≤ 63 ∧ ∀ H', Q (.bl true) H'
section
variable {P : Program} {w : World} {K : PySem.W.Frag} {mg : Str → Option Value} {base : Heap}
theorem ok_law (T : Txt K mg) : TopOk P w K mg base CX0 T.f_law T.d_law ["_law_script"] (sp_law K) := by
  obtain ⟨oc, od, kV, doc, pm, an, cdv, ct, osl, ed, lk, hcd⟩ := T.F_law.ex
  rw [ed] at lk ⊢
  refine top_of lk hcd sc_law (fun vs H Q E h => ?_) (fun outer s H vs Q E hr h => ?_)
  · obtain ⟨a, ns, rfl, _⟩ := h
    rfl
  · obtain ⟨a, ns, rfl, hS, hlen, q⟩ := h
    suffices hh : ∃ t, PSs (cxOf CX0 P w K mg base lawN "law" (defScope s_law) T.f_law cdv callerA outer s H E).nox (defBody s_law) t ∧ t { nx := fun _ H' => Q .non H', rt := Q } (start lawN [.ref a]) H by
      obtain ⟨t, h1, h2⟩ := hh
      exact ⟨t, h1.nox, h2⟩
    replace hr : Room 40 (callerA.deeper (envOfC "law" (defScope s_law) s.heap.objs.size T.f_law cdv)) := hr.mono (by decide)
    refine ⟨_, (pss_cons (ps_set (i := 1) sc_law.nd rfl (.inr rfl) (pe_call (ok_law_start T) (hr.mono (by decide)) (by rfl) T.g_law_start T.F_law_start.kp T.b_law_start .nil pass0 (pa_cons (pv 0) pa_nil)))
      (pss_cons (ps_set (i := 2) sc_law.nd rfl (.inr rfl) (pe_call (ok_law_prime T) (hr.mono (by decide)) (by rfl) T.g_law_prime T.F_law_prime.kp T.b_law_prime .nil pass0 (pa_cons (pv 1) pa_nil)))
      (pss_cons (ps_set (i := 3) sc_law.nd rfl (.inl rfl) (pe_call (ok_law_field T) (hr.mono (by decide)) (by rfl) T.g_law_field T.F_law_field.kp T.b_law_field .nil pass0 (pa_cons (pv 2) pa_nil)))
      (pss_cons (ps_set (i := 4) sc_law.nd rfl (.inr rfl) (pe_op op_add pe_int (pe_call (ok_law_draw T) (hr.mono (by decide)) (by rfl) T.g_law_draw T.F_law_draw.kp T.b_law_draw .nil pass0 (pa_cons (pv 1) (pa_cons pe_int pa_nil)))))
      (pss_cons (ps_set (i := 5) sc_law.nd rfl (.inr rfl) (pe_call (ok_law_rows T) (hr.mono (by decide)) (by rfl) T.g_law_rows T.F_law_rows.kp T.b_law_rows .nil pass0 (pa_cons (pv 1) (pa_cons (pv 2) (pa_cons (pe_call (ok_law_draw T) (hr.mono (by decide)) (by rfl) T.g_law_draw T.F_law_draw.kp T.b_law_draw .nil pass0 (pa_cons (pv 1) (pa_cons pe_int pa_nil))) (pa_cons (pv 4) pa_nil))))))
      (pss_cons (ps_set (i := 6) sc_law.nd rfl (.inr rfl) (pe_cmpR op_eq (pe_call (ok_law_draw T) (hr.mono (by decide)) (by rfl) T.g_law_draw T.F_law_draw.kp T.b_law_draw .nil pass0 (pa_cons (pv 1) (pa_cons pe_int pa_nil))) pe_int (nomark _)))
      (pss_cons (ps_setLc (i := 7) rfl sc_law.nd rfl rfl (sw_true rfl rfl rfl (by decide +kernel)) (pi_seq (pv 5)) (blkOk_by (own := [("_law_item", 20)]) (N := lawN) (sc := defScope s_law) (by decide +kernel)) (fun _ _ _ _ _ => (pg_name (i := 20) sc_law.nd rfl (.inl rfl))) (fun _ _ _ _ _ => pts_nil) (fun _ _ _ _ _ => (show PE _ _ (tIf (fun σ H Q => tVar 6 σ H fun x H' => ∃ k, TruV K x H' k ∧ Q k H') (tCB rLstD (tCons (tVar 20) tNil)) (tVar 20)) from pe_ifExp (pt_truth (pv 6) (by intro _; rfl)) (pe_callTy call_lstD (by rfl) T.m_list (by decide +kernel) (pa_cons (pv 20) pa_nil)) (pv 20))))
      (pss_cons (ps_set (i := 8) sc_law.nd rfl (.inl rfl) (pe_callB (call_reprM rfl (hu65 hr)) (by rfl) T.m_repr (by decide +kernel) (pa_cons (pv 7) pa_nil)))
      (pss_cons (ps_set (i := 9) sc_law.nd rfl (.inl rfl) (pe_call (ok_law_rank T) (hr.mono (by decide)) (by rfl) T.g_law_rank T.F_law_rank.kp T.b_law_rank .nil pass0 (pa_cons (pv 2) (pa_cons (pv 5) pa_nil))))
      (pss_cons (ps_set (i := 10) sc_law.nd rfl (.inl rfl) (pe_call (ok_rank_of_rows T) (hr.mono (by decide)) (by rfl) T.g_rank_of_rows T.F_rank_of_rows.kp T.b_rank_of_rows .nil pass0 (pa_cons (pv 3) (pa_cons (pv 7) pa_nil))))
      (pss_cons (ps_set (i := 11) sc_law.nd rfl (.inl rfl) (pe_call (ok_rows_unbound T) (hr.mono (by decide)) (by rfl) T.g_rows_unbound T.F_rows_unbound.kp T.b_rows_unbound .nil pass0 (pa_cons (pv 3) (pa_cons (pv 7) pa_nil))))
      (pss_cons (ps_if (PW.pt (pw_or (pt_not (pt_val (pe_call (ok_law_whole T) (hr.mono (by decide)) (by rfl) T.g_law_whole T.F_law_whole.kp T.b_law_whole .nil pass0 (pa_cons (pv 10) pa_nil)))) (pw_or (pt_cmpR op_ne (pv 10) (pv 9) (nomark _)) (pw_or (pt_not (pt_val (pe_callB call_isi (by rfl) T.m_isinstance (by decide +kernel) (pa_cons (pv 11) (pa_cons (pe_bltn (v := .ty "bool") (u := .type "bool") (by rfl) T.m_bool (by decide +kernel) rfl) pa_nil))))) (pw_or1 (pt_cmpR (op_neD hr.units) (pv 11) (pe_cmpR op_eq (pv 9) (pe_callB call_len_seq (by rfl) T.m_len (by decide +kernel) (pa_cons (pv 5) pa_nil)) (nomark _)) (nomark _)))))))
        (pss_one (ps_ret pe_bl))
        pss_nil)
      (Evl.pss_cut (ps_set (i := 12) sc_law.nd rfl (.inl rfl) (pe_callTy call_tupD (by rfl) T.m_tuple (by decide +kernel) (pa_cons (pe_lc rfl sc_law.nd (pi_range1 (by rfl) T.m_range (pa_cons (pv 4) pa_nil)) (blkOk_by (own := [("_law_i", 21)]) (N := lawN) (sc := defScope s_law) (by decide +kernel)) (fun _ _ _ _ _ => (pg_name (i := 21) sc_law.nd rfl (.inl rfl))) (fun _ _ _ _ _ => pts_nil) (fun _ _ _ _ _ => (pe_call (ok_law_number T) (hr.mono (by decide)) (by rfl) T.g_law_number T.F_law_number.kp T.b_law_number .nil pass0 (pa_cons (pv 1) (pa_cons (pv 2) pa_nil))))) pa_nil)))
      (Evl.pss_cut (ps_set (i := 13) sc_law.nd rfl (.inl rfl) (pe_ifExp (pt_truth (pv 6) (by intro _; rfl)) (pe_callTy call_lstD (by rfl) T.m_list (by decide +kernel) (pa_cons (pv 12) pa_nil)) (pv 12)))
      (Evl.pss_cut (ps_set (i := 14) sc_law.nd rfl (.inl rfl) (pe_call (ok_law_sum T) (hr.mono (by decide)) (by rfl) T.g_law_sum T.F_law_sum.kp T.b_law_sum .nil pass0 (pa_cons (pv 2) (pa_cons (pe_lc rfl sc_law.nd (pi_range1 (by rfl) T.m_range (pa_cons (pe_callB call_len_seq (by rfl) T.m_len (by decide +kernel) (pa_cons (pv 5) pa_nil)) pa_nil)) (blkOk_by (own := [("_law_k", 22)]) (N := lawN) (sc := defScope s_law) (by decide +kernel)) (fun _ _ _ _ _ => (pg_name (i := 22) sc_law.nd rfl (.inl rfl))) (fun _ _ _ _ _ => pts_nil) (fun _ _ _ _ _ => (pe_call (ok_law_tiny T) (hr.mono (by decide)) (by rfl) T.g_law_tiny T.F_law_tiny.kp T.b_law_tiny .nil pass0 (pa_cons (pv 1) (pa_cons (pv 2) pa_nil))))) (pa_cons (pv 5) (pa_cons (pv 4) pa_nil))))))
      (Evl.pss_cut (ps_set (i := 15) sc_law.nd rfl (.inl rfl) (pe_cmpR op_eq (pe_call (ok_law_rank T) (hr.mono (by decide)) (by rfl) T.g_law_rank T.F_law_rank.kp T.b_law_rank .nil pass0 (pa_cons (pv 2) (pa_cons (pe_op op_catDL (pv 5) (pe_lst (pa_cons (pv 12) pa_nil))) pa_nil))) (pv 9) (nomark _)))
      (pss_cons (ps_if (pt_not (pt_val (pe_call (ok_law_right_weights T) (hr.mono (by decide)) (by rfl) T.g_law_right_weights T.F_law_right_weights.kp T.b_law_right_weights .nil pass0 (pa_cons (pv 2) (pa_cons (pv 3) (pa_cons (pv 7) (pa_cons (pv 13) (pa_cons (pv 15) pa_nil))))))))
        (pss_one (ps_ret pe_bl))
        pss_nil)
      (pss_cons (ps_if (PW.pt (pw_or (pt_not (pt_val (pe_call (ok_law_right_weights T) (hr.mono (by decide)) (by rfl) T.g_law_right_weights T.F_law_right_weights.kp T.b_law_right_weights .nil pass0 (pa_cons (pv 2) (pa_cons (pv 3) (pa_cons (pv 7) (pa_cons (pv 14) (pa_cons pe_bl pa_nil)))))))) (pw_or1 (pt_cmpR op_ne (pe_callB (call_reprM rfl (hu65 hr)) (by rfl) T.m_repr (by decide +kernel) (pa_cons (pv 7) pa_nil)) (pv 8) (nomark _)))))
        (pss_one (ps_ret pe_bl))
        pss_nil)
      (Evl.pss_cut (ps_if (pt_truth (pv 5) (by intro _; rfl))
        (pss_cons (ps_set (i := 16) sc_law.nd rfl (.inl rfl) (pe_call (ok_law_rows T) (hr.mono (by decide)) (by rfl) T.g_law_rows T.F_law_rows.kp T.b_law_rows .nil pass0 (pa_cons (pv 1) (pa_cons (pv 2) (pa_cons (pe_op op_add pe_int (pe_call (ok_law_draw T) (hr.mono (by decide)) (by rfl) T.g_law_draw T.F_law_draw.kp T.b_law_draw .nil pass0 (pa_cons (pv 1) (pa_cons pe_int pa_nil)))) (pa_cons (pe_callB call_len_seq (by rfl) T.m_len (by decide +kernel) (pa_cons (pv 5) pa_nil)) pa_nil))))))
        (pss_cons (ps_set (i := 17) sc_law.nd rfl (.inl rfl) (pe_callTy call_tupD (by rfl) T.m_tuple (by decide +kernel) (pa_cons (pe_lc rfl sc_law.nd (pi_seq (pv 16)) (blkOk_by (own := [("_law_item", 20)]) (N := lawN) (sc := defScope s_law) (by decide +kernel)) (fun _ _ _ _ _ => (pg_name (i := 20) sc_law.nd rfl (.inl rfl))) (fun _ _ _ _ _ => pts_nil) (fun _ _ _ _ _ => (pe_call (ok_law_sum T) (hr.mono (by decide)) (by rfl) T.g_law_sum T.F_law_sum.kp T.b_law_sum .nil pass0 (pa_cons (pv 2) (pa_cons (pv 20) (pa_cons (pv 5) (pa_cons (pv 4) pa_nil))))))) pa_nil)))
        (pss_cons (ps_set (i := 18) sc_law.nd rfl (.inl rfl) (pe_call (ok_rows_product T) (hr.mono (by decide)) (by rfl) T.g_rows_product T.F_rows_product.kp T.b_rows_product .nil pass0 (pa_cons (pv 3) (pa_cons (pv 16) (pa_cons (pe_lc rfl sc_law.nd (pi_seq (pv 5)) (blkOk_by (own := [("_law_item", 20)]) (N := lawN) (sc := defScope s_law) (by decide +kernel)) (fun _ _ _ _ _ => (pg_name (i := 20) sc_law.nd rfl (.inl rfl))) (fun _ _ _ _ _ => pts_nil) (fun _ _ _ _ _ => (pe_callTy call_lstD (by rfl) T.m_list (by decide +kernel) (pa_cons (pv 20) pa_nil)))) pa_nil)))))
        (pss_one (ps_if (PW.pt (pw_or (pt_not (pt_val (pe_call (ok_law_good_rows T) (hr.mono (by decide)) (by rfl) T.g_law_good_rows T.F_law_good_rows.kp T.b_law_good_rows .nil pass0 (pa_cons (pv 2) (pa_cons (pv 18) (pa_cons (pe_callB call_len_seq (by rfl) T.m_len (by decide +kernel) (pa_cons (pv 16) pa_nil)) (pa_cons (pv 4) pa_nil))))))) (pw_or1 (pt_cmpR (op_neD hr.units) (pv 18) (pv 17) (nomark _)))))
          (pss_one (ps_ret pe_bl))
          pss_nil)))))
        pss_nil)
      (pss_cons (ps_set (i := 19) sc_law.nd rfl (.inl rfl) (pe_op op_add pe_int (pe_call (ok_law_draw T) (hr.mono (by decide)) (by rfl) T.g_law_draw T.F_law_draw.kp T.b_law_draw .nil pass0 (pa_cons (pv 1) (pa_cons pe_int pa_nil)))))
      (pss_one (ps_ret (pe_call (ok_law_undone T) (hr.mono (by decide)) (by rfl) T.g_law_undone T.F_law_undone.kp T.b_law_undone .nil pass0 (pa_cons (pv 2) (pa_cons (pv 3) (pa_cons (pe_call (ok_law_rows T) (hr.mono (by decide)) (by rfl) T.g_law_rows T.F_law_rows.kp T.b_law_rows .nil pass0 (pa_cons (pv 1) (pa_cons (pv 2) (pa_cons (pv 19) (pa_cons (pv 19) pa_nil))))) pa_nil)))))))))))))))))))))))))), ?_⟩
    refine ⟨_, rfl, a, ns, rfl, hS, hlen, fun H1 h g s1 nh ng hd1 => ?_⟩
    refine ⟨_, rfl, h, g, rfl, hd1, fun p H2 k2 hd2 fp p99 => ?_⟩
    refine ⟨_, rfl, p, rfl, fp, fun f H3 s3 nf hf3 => ?_⟩
    have hd3 := hd2.same s3
    have hfv3 := fld_vw hd3 hf3
    refine ⟨_, rfl, h, g, 6, rfl, hd3, by decide, by decide, fun H4 w4 k4 hd4 w40 w41 => ⟨_, _, rfl, rfl, ?_⟩⟩
    dsimp only
    obtain ⟨n, en⟩ : ∃ n : Nat, 1 + w4 = (n : Int) := ⟨(1 + w4).toNat, by omega⟩
    rw [en]
    have n1 : 1 ≤ n := by omega
    have n6 : n ≤ 6 := by omega
    refine ⟨_, rfl, _, rfl, _, rfl, h, g, 7, rfl, hd4, by decide, by decide, fun H5 w5 k5 hd5 w50 w51 => ?_⟩
    obtain ⟨m, em⟩ : ∃ m : Nat, w5 = (m : Int) := ⟨w5.toNat, by omega⟩
    subst em
    have m6 : m ≤ 6 := by omega
    refine ⟨_, rfl, h, g, p, m, n, rfl, hd5, fp, m6, n6, fun D5 H6 M k6 hd6 nD5 kx6 lM gM => ?_⟩
    refine ⟨_, rfl, h, g, 2, rfl, hd6, by decide, by decide, fun H7 w7 k7 hd7 w70 w71 => ⟨rfl, ?_⟩⟩
    generalize decide (V.int w7 = V.int 1) = b
    have kx7 := kx6.same k7.vw
    have hfv7 : Fld T.C_RestField T.C_FractionField (Vw h g H7) f p := hfv3.same (((k4.trans k5).trans k6).trans k7).vw
    obtain ⟨xs, exs, hxv⟩ : ∃ xs, H7 D5 = some (.lst xs) ∧ DqAll (Vw h g H7) xs (M.map .tuple) := by
      cases kx7 with
      | lst e u => exact ⟨_, (vw_some e).2.2, u⟩
    have hsx : Sq K H7 D5 xs := .inl (SqL.of exs)
    dsimp only
    refine asgE ?_
    refine lc_pick (b := b) hd7 (by omega) (fun r mr => fbs_noL (gM.fb r mr)) (fun Q h => ⟨_, rfl, h⟩) hsx hxv (fun _ => rfl) (fun x H' Q' hh => ?_) (fun D7 H8 nD7 s8 kh8 => ?_)
    · refine ⟨_, rfl, b, rfl, ?_⟩
      cases b with
      | true => exact ⟨_, rfl, hh⟩
      | false => exact ⟨_, rfl, hh⟩
    have gm8 : Gm p n 0 M := gm_of rd7.1 rd7.2 (rg_seven m6 gM)
    have ml := rg_mild fp m6 n6 lM gM b
    have L8 : LK T.C_RestField T.C_FractionField h g f D5 D7 p n m b M H8 := ⟨hd7.same s8, fp, lM, gM, hfv7.same (Kp.of s8).vw, kx7.same (Kp.of s8).vw, kh8⟩
    refine ⟨_, rfl, .ref D7, _, rfl, kh8.same vw_same, ml, ?_⟩
    refine ⟨_, rfl, _, rfl, p, n, .ref D5, M, rfl, fp, L8.kx.same vw_same, gm8, n6, by omega, fun H9 s9 => ?_⟩
    have L9 := L8.same s9
    refine ⟨_, rfl, _, rfl, f, p, n, .ref D7, _, _, M, rfl, L9.fld.same vw_same, L9.kh.same vw_same, rfl, rw_cB b M, gm8, n6, by omega, fun H10 s10 => ?_⟩
    have L10 := L9.same s10
    refine ⟨_, rfl, _, rfl, f, p, n, .ref D7, _, _, M, rfl, L10.fld.same vw_same, L10.kh.same vw_same, rfl, rw_cB b M, gm8, n6, by omega, fun H11 s11 => ?_⟩
    have L11 := L10.same s11
    clear L8 L9 L10 kh8 hfv7 kx7 hxv exs hsx
    have rank_eq : rankD p M n = (rkN p M n).2 := by
      obtain ⟨R, iR, φ, F, I⟩ := phi_inv fp
      exact (red_all F I fp gm8 n (Nat.le_refl _) n6).cnt.trans (rk_all F I fp gm8 n (Nat.le_refl _) n6).cnt.symm
    rw [rank_eq]
    obtain ⟨ys5, e5, u5⟩ : ∃ ys, H11 D5 = some (.lst ys) ∧ ys.length = M.length := by
      cases L11.kx with
      | lst e u => exact ⟨_, (vw_some e).2.2, by rw [u.len, List.length_map]⟩
    refine ⟨_, rfl, _, .int _, rfl, .int _, true, rfl, iteF ?_⟩
    refine ⟨_, rfl, _, rfl, rfl, _, rfl, ?_⟩
    rw [decide_eq_true (rfl : V.int (((rkN p M n).2 : Nat) : Int) = V.int (((rkN p M n).2 : Nat) : Int))]
    refine iteF ?_
    refine ⟨_, rfl, _, .ty "bool", .type "bool", _, true, rfl, .ty _, .base (.bl _), kit_ty (show kitB "bool" "bool" = some true by decide +kernel), true, rfl, iteF ?_⟩
    refine ⟨_, rfl, _, rfl, _, rfl, D5, ys5, rfl, .inl (SqL.of e5), rfl, .bool _, .bool _, (Dq.bl _).dp, (Dq.bl _).dp, rfl, rfl, ?_⟩
    rw [show decide (V.int (((rkN p M n).2 : Nat) : Int) = V.int ((ys5.length : Nat) : Int)) = decide ((rkN p M n).2 = M.length) by rw [u5, Bool.eq_iff_iff, decide_eq_true_iff, decide_eq_true_iff]; exact ⟨fun z => by injection z with z; exact Int.ofNat_inj.mp z, fun z => by rw [z]⟩]
    rw [ne_refl (d := .bool _) (n := 1) rfl]
    refine ⟨_, rfl, iteF ?_⟩
    -- PART2
    refine ⟨fun σ' H' => ∃ (l12 : Addr) (rr : List PyData), σ' = [some (.ref a), some (.ref h), some (.int (p : Int)), some (.ref f), some (.int (n : Int)), some (.ref D5), some (.bl b), some (.ref D7), some (.str (PyData.list (M.map (cB b))).shown), some (.int (((rkN p M n).2 : Nat) : Int)), some (.int (((rkN p M n).2 : Nat) : Int)), some (.bl (decide ((rkN p M n).2 = M.length))), some (.ref l12), none, none, none, none, none, none, none, none, none, none] ∧ LK T.C_RestField T.C_FractionField h g f D5 D7 p n m b M H' ∧ Dq (Vw h g H') (.ref l12) (.tuple rr) ∧ rr.length = n ∧ ∀ d ∈ rr, Fb p 6 12582912 d, ?_, fun σ' H12 hM => ?_⟩
    · -- row
      refine ⟨_, rfl, (n : Int), rfl, by omega, by omega, fun D nD => ?_⟩
      obtain ⟨d1, d2⟩ := Hnd.fresh L11.hd nD
      rw [show ((n : Nat) : Int).toNat = n by omega]
      refine lc_range (fun i H' => ∃ zs ds, H' D = some (.lst zs) ∧ DqAll (Vw h g H') zs ds ∧ Kp h g H11 H' ∧ Hnd h g H' ∧ ds.length = i ∧ ∀ d ∈ ds, Fb p 6 12582912 d) ⟨[], [], upd_same, .nil, Kp.refl.put nD, Hnd.upd L11.hd d1 d2, rfl, fun d m => nomatch m⟩ (fun i H4 hi hP => ?_) (fun H4 hP => ?_)
      · obtain ⟨zs, ds, eD, kd, kk, h4, ld, nb⟩ := hP
        have lz := kd.len
        refine ⟨rfl, _, rfl, _, rfl, h, g, p, rfl, h4, fp, fun v H5 d k5 h5 kv nv => ?_⟩
        have eD5 := k5 D _ d1 d2 eD
        refine ⟨zs, eD5, small1000 (by omega), zs ++ [v], ds ++ [d], upd_same, dqs_upd d1 d2 eD5 (fbs_noL (p := p) (D := 6) (T := 12582912) fun e m => ?_) ((DqAll.same k5.vw _ kd).snoc kv), (kk.trans k5).put nD, h5.upd d1 d2, by rw [List.length_append, ld]; rfl, fun e m => ?_⟩
        all_goals
          rcases List.mem_append.mp m with m | m
          · exact nb e m
          · rw [List.mem_singleton.mp m]
            exact nv
      · obtain ⟨zs, ds, eD, kd, kk, h4, ld, nb⟩ := hP
        refine ⟨.ref D, _, ds, rfl, .lst eD (DqAll.same vw_same _ kd), rfl, fun l H5 s5 k5 => ?_⟩
        exact ⟨l, ds, rfl, (L11.kp kk h4).same s5, dq_vw (h4.same s5) (.tuple ds) (fbs_noL nb) k5, ld, nb⟩
    obtain ⟨l12, rr, rfl, L12, kr12, lrr, frr⟩ := hM
    clear L11 e5 u5
    refine ⟨fun σ' H' => ∃ (la : Addr), σ' = [some (.ref a), some (.ref h), some (.int (p : Int)), some (.ref f), some (.int (n : Int)), some (.ref D5), some (.bl b), some (.ref D7), some (.str (PyData.list (M.map (cB b))).shown), some (.int (((rkN p M n).2 : Nat) : Int)), some (.int (((rkN p M n).2 : Nat) : Int)), some (.bl (decide ((rkN p M n).2 = M.length))), some (.ref l12), some (.ref la), none, none, none, none, none, none, none, none, none] ∧ LK T.C_RestField T.C_FractionField h g f D5 D7 p n m b M H' ∧ Dq (Vw h g H') (.ref l12) (.tuple rr) ∧ Dq (Vw h g H') (.ref la) (cB b rr), ?_, fun σ' H13 hM => ?_⟩
    · refine ⟨_, rfl, b, rfl, ?_⟩
      cases b with
      | true =>
        refine iteT ⟨_, rfl, .ref l12, .tuple rr, rr, rfl, kr12.same vw_same, rfl, fun l H5 s5 nl5 k5 => ?_⟩
        have h5 := L12.hd.same s5
        obtain ⟨m1, m2⟩ := L12.hd.fresh nl5
        refine ⟨l, rfl, L12.same s5, kr12.same (Kp.of s5).vw, ?_⟩
        cases k5 with
        | lst e u => exact .lst (vw_at m1 m2 e) (dqs_vw h5 _ (fbs_noL frr) u)
      | false => exact iteF ⟨_, rfl, l12, rfl, L12, kr12, kr12⟩
    obtain ⟨la, rfl, L13, kr13, ka13⟩ := hM
    clear L12 kr12
    -- PART3
    obtain ⟨bb1, bb2, bb3, bb4, bb5, bb6, bb7, bb8, bb9, bb10⟩ := rt_b m (by omega)
    refine ⟨fun σ' H' => ∃ (li : Addr) (ws : List PyData), σ' = [some (.ref a), some (.ref h), some (.int (p : Int)), some (.ref f), some (.int (n : Int)), some (.ref D5), some (.bl b), some (.ref D7), some (.str (PyData.list (M.map (cB b))).shown), some (.int (((rkN p M n).2 : Nat) : Int)), some (.int (((rkN p M n).2 : Nat) : Int)), some (.bl (decide ((rkN p M n).2 = M.length))), some (.ref l12), some (.ref la), some (.ref li), none, none, none, none, none, none, none, none] ∧ LK T.C_RestField T.C_FractionField h g f D5 D7 p n m b M H' ∧ Dq (Vw h g H') (.ref l12) (.tuple rr) ∧ Dq (Vw h g H') (.ref la) (cB b rr) ∧ Dq (Vw h g H') (.ref li) (.tuple ((List.range n).map fun j => dotD p ws (M.map fun r => r.getD j .none) (zeroD p))) ∧ ws.length = M.length ∧ ∀ d ∈ ws, Fb p 6 24 d, ?_, fun σ' H14 hM => ?_⟩
    · obtain ⟨ys5, e5, u5⟩ : ∃ ys, H13 D5 = some (.lst ys) ∧ ys.length = M.length := by
        cases L13.kx with
        | lst e u => exact ⟨_, (vw_some e).2.2, by rw [u.len, List.length_map]⟩
      refine ⟨_, rfl, _, rfl, D5, ys5, rfl, .inl (SqL.of e5), _, rfl, by omega, by omega, fun D nD => ?_⟩
      obtain ⟨d1, d2⟩ := Hnd.fresh L13.hd nD
      rw [show ((ys5.length : Nat) : Int).toNat = M.length by omega]
      refine lc_range (fun i H' => ∃ zs ds, H' D = some (.lst zs) ∧ DqAll (Vw h g H') zs ds ∧ Kp h g H13 H' ∧ Hnd h g H' ∧ ds.length = i ∧ ∀ d ∈ ds, Fb p 6 24 d) ⟨[], [], upd_same, .nil, Kp.refl.put nD, Hnd.upd L13.hd d1 d2, rfl, fun d m => nomatch m⟩ (fun i H4 hi hP => ?_) (fun H4 hP => ?_)
      · obtain ⟨zs, ds, eD, kd, kk, h4, ld, nb⟩ := hP
        have lz := kd.len
        refine ⟨rfl, _, rfl, _, rfl, h, g, p, rfl, h4, fp, fun v H5 d k5 h5 kv nv => ?_⟩
        have eD5 := k5 D _ d1 d2 eD
        refine ⟨zs, eD5, small1000 (by omega), zs ++ [v], ds ++ [d], upd_same, dqs_upd d1 d2 eD5 (fbs_noL (p := p) (D := 6) (T := 24) fun e m => ?_) ((DqAll.same k5.vw _ kd).snoc kv), (kk.trans k5).put nD, h5.upd d1 d2, by rw [List.length_append, ld]; rfl, fun e m => ?_⟩
        all_goals
          rcases List.mem_append.mp m with m | m
          · exact nb e m
          · rw [List.mem_singleton.mp m]
            exact nv
      · obtain ⟨zs, ds, eD, kd, kk, h4, ld, nb⟩ := hP
        have L4 := L13.kp kk h4
        have sz := sum_nb fp (D := 6) (T := 24) (by decide) bb5 (by decide) bb6 nb (fun r mr => ⟨gM.ln r mr, gM.fb r mr⟩) ld (by omega) (big_up bb9) (big_up (by omega)) (by decide +kernel) (by decide +kernel) (big_up bb7) (big_up bb8)
        refine ⟨_, rfl, _, rfl, p, n, .ref D, .ref D5, .list ds, _, ds, _, M, rfl, fp, .lst eD (DqAll.same vw_same _ kd), rfl, L4.kx.same vw_same, rfl, rw_tup M, ld, by omega, n6, sz.1, sz.2.1, sz.2.2.1, sz.2.2.2, fun v H5 s5 kv => ?_⟩
        have h5 := h4.same s5
        cases kv with
        | @tup li us _ e u =>
          refine ⟨li, ds, rfl, L4.same s5, (kr13.same kk.vw).same (Kp.of s5).vw, (ka13.same kk.vw).same (Kp.of s5).vw, dq_vw h5 (.tuple _) (fbs_noL (sum_seven fp lM m6 gM nb ld)) (.tup e u), ld, nb⟩
    obtain ⟨li, ws, rfl, L14, kr14, ka14, ki14, lws, fws⟩ := hM
    clear L13 kr13 ka13
    -- PART4
    have h7 : ∀ x ∈ M ++ [rr], x.length = n ∧ ∀ d ∈ x, Fb p (RD 7) (TB 0) d := fun x mx => by
      rcases List.mem_append.mp mx with mx | mx
      · exact rg_seven m6 gM x mx
      · rw [List.mem_singleton.mp mx]
        exact ⟨lrr, fun d md => row_seven (frr d md)⟩
    have gm9 : Gm p n 0 (M ++ [rr]) := gm_of rd7.1 rd7.2 h7
    have M6 : M.length ≤ 6 := by omega
    refine ⟨fun σ' H' => ∃ (b2 : Bool), σ' = [some (.ref a), some (.ref h), some (.int (p : Int)), some (.ref f), some (.int (n : Int)), some (.ref D5), some (.bl b), some (.ref D7), some (.str (PyData.list (M.map (cB b))).shown), some (.int (((rkN p M n).2 : Nat) : Int)), some (.int (((rkN p M n).2 : Nat) : Int)), some (.bl (decide ((rkN p M n).2 = M.length))), some (.ref l12), some (.ref la), some (.ref li), some (.bl b2), none, none, none, none, none, none, none] ∧ LK T.C_RestField T.C_FractionField h g f D5 D7 p n m b M H' ∧ Dq (Vw h g H') (.ref la) (cB b rr) ∧ Dq (Vw h g H') (.ref li) (.tuple ((List.range n).map fun j => dotD p ws (M.map fun r => r.getD j .none) (zeroD p))) ∧ b2 = !incons p M.length (redN p (augM M rr n) M.length).1 (redN p (augM M rr n) M.length).2.length, ?_, fun σ' H15 hM => ?_⟩
    · refine ⟨_, rfl, _, rfl, _, rfl, (by show 1 ≤ sizeLine; decide), fun l1 nl1 => ?_⟩
      have s1' := same_new (o := .lst [.ref l12]) nl1
      have kr1 : Dq (upd H14 l1 (.lst [.ref l12])) (.ref l1) (.list [.tuple rr]) := .lst upd_same (.cons ((kr14.same vw_same).same s1') .nil)
      refine ⟨_, _, (L14.kx.same vw_same).same s1', kr1, by rw [List.length_map]; simp only [List.length_singleton]; omega, fun l2 H5 s5 nl5 k5 => ?_⟩
      rw [show M.map PyData.tuple ++ [.tuple rr] = (M ++ [rr]).map .tuple by rw [List.map_append]; rfl] at k5
      have s15 := s1'.trans s5
      refine ⟨p, n, .ref l2, M ++ [rr], rfl, fp, k5, gm9, n6, by rw [List.length_append, List.length_singleton]; omega, fun H6' s6' => ⟨_, rfl, rfl, ?_⟩⟩
      have s16 := s15.trans s6'
      refine ⟨_, rfl, L14.same s16, ka14.same (Kp.of s16).vw, ki14.same (Kp.of s16).vw, ?_⟩
      obtain ⟨R, iR, φ, F, I⟩ := phi_inv fp
      have di := due_iff F I fp rd7.1 rd7.2 h7 M6 n6
      cases hc : incons p M.length (redN p (augM M rr n) M.length).1 (redN p (augM M rr n) M.length).2.length with
      | false => rw [di.mpr hc]; exact decide_eq_true rfl
      | true =>
        refine decide_eq_false fun z => ?_
        have := di.mp (Int.ofNat_inj.mp (V.int.inj z))
        rw [hc] at this
        cases this
    obtain ⟨b2, rfl, L15, ka15, ki15, eb2⟩ := hM
    clear L14 kr14 ka14 ki14
    refine ⟨_, rfl, _, rfl, _, rfl, _, rfl, _, rfl, f, p, n, .ref D7, .ref la, _, _, _, rr, M, b2, RD 7, rfl, L15.fld.same vw_same, L15.kh.same vw_same, rfl, rw_cB b M, ka15.same vw_same, cB_items b rr, M6, n6, rd7.1, rd7.2, h7, eb2, fun H16 s16 => ⟨true, rfl, iteF ?_⟩⟩
    have L16 := L15.same s16
    have ki16 := ki15.same (Kp.of s16).vw
    clear L15 ka15 ki15
    have fii := sum_seven fp lM m6 gM fws lws
    have h8 : ∀ x ∈ M ++ [(List.range n).map fun j => dotD p ws (M.map fun r => r.getD j .none) (zeroD p)], x.length = n ∧ ∀ d ∈ x, Fb p (RD 7) (TB 0) d := fun x mx => by
      rcases List.mem_append.mp mx with mx | mx
      · exact rg_seven m6 gM x mx
      · rw [List.mem_singleton.mp mx]
        exact ⟨by rw [List.length_map, List.length_range], fii⟩
    have nws : ∀ d ∈ ws, Nb p 10 d := fun d md => (fws d md).nb (by decide) (by decide)
    have ins := inside_ok (D := 0) fp rd7.1 rd7.2 h8 M6 nws lws rfl
    refine ⟨_, rfl, _, rfl, _, rfl, _, rfl, f, p, n, .ref D7, .ref li, _, _, _, _, M, true, RD 7, rfl, L16.fld.same vw_same, L16.kh.same vw_same, rfl, rw_cB b M, ki16.same vw_same, rfl, M6, n6, rd7.1, rd7.2, h8, by rw [ins]; rfl, fun H17 s17 => ⟨true, rfl, iteF ?_⟩⟩
    have L17 := L16.same s17
    clear L16 ki16
    refine ⟨_, rfl, .ref D7, _, rfl, L17.kh.same vw_same, ml, _, rfl, rfl, ?_⟩
    rw [decide_eq_true (rfl : V.str (PyData.list (M.map (cB b))).shown = V.str (PyData.list (M.map (cB b))).shown)]
    refine ⟨_, rfl, iteF ?_⟩
    -- PART5
    refine ⟨fun σ' H' => ∃ y16 y17 y18 : Option V, σ' = [some (.ref a), some (.ref h), some (.int (p : Int)), some (.ref f), some (.int (n : Int)), some (.ref D5), some (.bl b), some (.ref D7), some (.str (PyData.list (M.map (cB b))).shown), some (.int (((rkN p M n).2 : Nat) : Int)), some (.int (((rkN p M n).2 : Nat) : Int)), some (.bl (decide ((rkN p M n).2 = M.length))), some (.ref l12), some (.ref la), some (.ref li), some (.bl b2), y16, y17, y18, none, none, none, none] ∧ LK T.C_RestField T.C_FractionField h g f D5 D7 p n m b M H', ?_, fun σ' H20 hM => ?_⟩
    · obtain ⟨ys5, e5, u5⟩ : ∃ ys, H17 D5 = some (.lst ys) ∧ ys.length = M.length := by
        cases L17.kx with
        | lst e u => exact ⟨_, (vw_some e).2.2, by rw [u.len, List.length_map]⟩
      refine ⟨_, rfl, !ys5.isEmpty, .inl ⟨_, SqL.of e5, rfl⟩, ?_⟩
      by_cases c0 : M.length = 0
      · have : ys5 = [] := List.eq_nil_of_length_eq_zero (by omega)
        rw [this]
        exact iteF ⟨_, _, _, rfl, L17⟩
      · have ne : (!ys5.isEmpty) = true := by
          cases ys5 with
          | nil => exact absurd u5.symm (by simpa using c0)
          | cons _ _ => rfl
        rw [ne]
        refine iteT ?_
        refine ⟨_, rfl, _, rfl, _, rfl, h, g, 4, rfl, L17.hd, by decide, by decide, fun H18 w kp18 h18 w0 w1 => ⟨_, _, rfl, rfl, ?_⟩⟩
        obtain ⟨k, ek⟩ : ∃ k : Nat, 1 + w = (k : Int) := ⟨(1 + w).toNat, by omega⟩
        dsimp only
        rw [ek]
        have k4 : k ≤ 4 := by omega
        have L18 := L17.kp kp18 h18
        have e18 : H18 D5 = some (.lst ys5) := by
          cases L17.kx with
          | lst e u =>
            obtain ⟨n1, n2, e'⟩ := vw_some e
            rw [e5] at e'
            cases e'
            exact kp18 _ _ n1 n2 e5
        refine ⟨_, rfl, D5, ys5, rfl, .inl (SqL.of e18), h, g, p, k, m, ?_, h18, fp, by omega, m6, fun D16 H19 N kp19 h19 nD16 kN lN gN => ?_⟩
        · rw [u5, lM]
          rfl
        have L19 := L18.kp kp19 h19
        clear L17 L18 e5 e18
        obtain ⟨cb1, cb2, cb3, cb4, cb5, cb6, cb7, cb8, cb9, cb10⟩ := rt_b k (by omega)
        have M1 : 1 ≤ M.length := by omega
        have dd : RD k * RD m < 2 ^ 4300 := (mul_big (by omega) (by omega) (Int.lt_trans cb7 (by decide +kernel)) bb7).2
        have tt : 6 * (RT k * RT m) < 2 ^ 4300 := (mul_big (by omega) (by omega) (Int.lt_trans cb8 (by decide +kernel)) bb8).1
        have sz : ∀ r ∈ N, _ := fun r mr => sum_nb fp (D := RD k) (T := RT k) (D' := RD m) (T' := RT m) (n := n) (ws := r) (R := M) cb5 bb5 cb6 bb6 (gN.fb r mr) (fun x mx => ⟨gM.ln x mx, gM.fb x mx⟩) (by rw [gN.ln r mr, lM]) (by omega) dd tt (big_up cb7) (big_up cb8) (big_up bb7) (big_up bb8)
        have prodN : ∀ r ∈ N, ∀ j, j < n → Nb p 4300 (dotD p r (M.map fun r => r.getD j .none) (zeroD p)) := fun r mr j hj => by
          have := (sz r mr).2.2.2 M.length (Nat.le_refl _) j hj
          rw [List.take_of_length_le (by rw [gN.ln r mr, lM]; omega), List.take_of_length_le (by rw [List.length_map]; omega)] at this
          exact this
        obtain ⟨us, eus, kus⟩ : ∃ us, H19 D16 = some (.lst us) ∧ DqAll H19 us (N.map .tuple) := by
          cases kN with
          | lst e u => exact ⟨_, (vw_some e).2.2, u.same vw_same⟩
        have luN : us.length = N.length := by rw [kus.len, List.length_map]
        dsimp only
        refine asg_cb_lc ?_
        refine lc_seqD (f := fun _ => true) (e := fun d => .tuple ((List.range n).map fun j => dotD p (rowOf d) (M.map fun r => r.getD j .none) (zeroD p))) (fun Q h => ⟨_, rfl, h⟩) (.inl (SqL.of eus)) kus (by rw [List.length_map]; omega) (fun _ => rfl) (fun i x d H' Q _ _ _ h => h _ fun _ _ z => z) (fun D i x d Ha Qa nD hdi _ sa ka acc qa => ?_) (fun D Ha nD sa kd => ?_)
        · obtain ⟨ac, hac⟩ := acc
          rw [List.getElem?_map] at hdi
          obtain ⟨r, hr', rfl⟩ := Option.map_eq_some_iff.mp hdi
          have mr := List.mem_of_getElem? hr'
          have La := L19.same sa
          have sr := sz r mr
          refine ⟨_, rfl, _, rfl, _, rfl, _, rfl, p, n, x, .ref D5, .tuple r, _, r, _, M, rfl, fp, ka, rfl, La.kx.same vw_same, rfl, rw_tup M, by rw [gN.ln r mr, lM], by omega, n6, sr.1, sr.2.1, sr.2.2.1, sr.2.2.2, fun v Hb sb kv => qa v Hb sb ?_⟩
          have nlr : noLists ((List.range n).map fun j => dotD p r (M.map fun r => r.getD j .none) (zeroD p)) = true := noLs_all fun d md => by
            obtain ⟨j, hj, rfl⟩ := List.mem_map.mp md
            exact nb_noL (prodN r mr j (List.mem_range.mp hj))
          exact dq_noL (sb _ _ hac) (.tuple ((List.range n).map fun j => dotD p r (M.map fun r : List PyData => r.getD j .none) (zeroD p))) (by show noLists _ = true; exact nlr) kv
        · rw [List.filter_eq_self.mpr fun _ _ => rfl, List.map_map] at kd
          refine ⟨.ref D, _, _, rfl, kd, rfl, fun l17 Hb sb kb => ?_⟩
          have L20 := (L19.same sa).same sb
          have kN20 := kN.same ((Kp.of sa).vw.trans (Kp.of sb).vw)
          have eus20 := sb _ _ (sa _ _ eus)
          rw [show N.map ((fun d => PyData.tuple ((List.range n).map fun j => dotD p (rowOf d) (M.map fun r => r.getD j .none) (zeroD p))) ∘ PyData.tuple) = (N.map fun r => (List.range n).map fun j => dotD p r (M.map fun r => r.getD j .none) (zeroD p)).map .tuple by rw [List.map_map]; rfl] at kb
          generalize eP : (N.map fun r => (List.range n).map fun j => dotD p r (M.map fun r => r.getD j .none) (zeroD p)) = Pr at kb
          have lPr : Pr.length = N.length := by rw [← eP, List.length_map]
          have gPr : ∀ r ∈ Pr, r.length = n ∧ ∀ d ∈ r, Nb p 4300 d := fun r mr => by
            rw [← eP] at mr
            obtain ⟨x, mx, rfl⟩ := List.mem_map.mp mr
            refine ⟨by rw [List.length_map, List.length_range], fun d md => ?_⟩
            obtain ⟨j, hj, rfl⟩ := List.mem_map.mp md
            exact prodN x mx j (List.mem_range.mp hj)
          have loP : TkS.low 4 (rowsD Pr) = true := low_up 3 _ (low_tup fun x mx => by
            obtain ⟨r, mr, rfl⟩ := List.mem_map.mp mx
            exact low_tup fun d md => nb_low ((gPr r mr).2 d md))
          clear L19 kN eus kus
          obtain ⟨xs, exs, hxv⟩ : ∃ xs, Hb D5 = some (.lst xs) ∧ DqAll (Vw h g Hb) xs (M.map .tuple) := by
            cases L20.kx with
            | lst e u => exact ⟨_, (vw_some e).2.2, u⟩
          refine ⟨_, rfl, _, rfl, ?_⟩
          refine lc_pick (b := true) L20.hd (by omega) (fun r mr => fbs_noL (gM.fb r mr)) (fun Q h => ⟨_, rfl, h⟩) (.inl (SqL.of exs)) hxv (fun _ => rfl) (fun x H' Q' hh => ⟨_, rfl, hh⟩) (fun D Hc nDc sc kDc => ?_)
          have L21 := L20.same sc
          refine ⟨f, p, n, .ref D16, .ref D, _, _, N, M, .tuple, cB true, rfl, L21.fld.same vw_same, fun _ => rfl, cB_items true, (kN20.same (Kp.of sc).vw).same vw_same, rfl, kDc.same vw_same, rfl, by omega, M1, M6, by omega, fun r mr => ⟨by rw [gN.ln r mr, lM], fun d md => (gN.fb r mr d md).nb (Int.lt_trans cb7 (by decide +kernel)) (Int.lt_trans cb8 (by decide +kernel))⟩, fun r mr => ⟨gM.ln r mr, fun d md => (gM.fb r mr d md).nb (Int.lt_trans bb7 (by decide +kernel)) (Int.lt_trans bb8 (by decide +kernel))⟩, fun l18 Hd sd kd18 => ?_⟩
          rw [eP] at kd18
          have L22 := L21.same sd
          have kb22 := (kb.same sc).same sd
          refine ⟨_, rfl, _, rfl, _, rfl, D16, us, rfl, .inl (SqL.of (sd _ _ (sc _ _ eus20))), _, rfl, p, n, .ref l18, Pr, ?_, kd18, fun r mr => (gPr r mr).1, fun r mr => (gPr r mr).2, true, rfl, iteF ?_⟩
          · rw [luN, lPr]
            rfl
          refine ⟨_, rfl, _, rfl, _, _, kd18.dp, kb22.dp, low_shp loP (by decide), low_shp loP (by decide), ?_⟩
          rw [ne_refl loP]
          exact ⟨_, rfl, iteF ⟨_, _, _, rfl, L22⟩⟩
    obtain ⟨y16, y17, y18, rfl, L20⟩ := hM
    refine ⟨_, rfl, h, g, 5, rfl, L20.hd, by decide, by decide, fun H21 w kp21 h21 w0 w1 => ⟨_, _, rfl, rfl, ?_⟩⟩
    dsimp only
    obtain ⟨k, ek⟩ : ∃ k : Nat, 1 + w = (k : Int) := ⟨(1 + w).toNat, by omega⟩
    rw [ek]
    have L21 := L20.kp kp21 h21
    refine ⟨_, rfl, _, rfl, _, rfl, _, rfl, _, rfl, _, rfl, h, g, p, k, k, rfl, h21, fp, by omega, by omega, fun D H22 N kp22 h22 nD kN lN gN => ?_⟩
    have L22 := L21.kp kp22 h22
    have hN := rg_seven (by omega) gN
    refine ⟨f, p, .ref D, N, RD 7, rfl, L22.fld.same vw_same, kN.same vw_same, by omega, rd7.1, rd7.2, fun r mr => ⟨by rw [lN]; exact (hN r mr).1, (hN r mr).2⟩, fun H23 s23 => q H23⟩
end
end K26
set_option Elab.async false
set_option linter.all false
set_option maxRecDepth 100000
set_option maxHeartbeats 8000000
set_option exponentiation.threshold 5000
namespace K26
open PySem PySem.Spec PyProof.Rows L2 TkS LamX NdefX
theorem own_cls {K : PySem.W.Frag} {t : Value} {C : Addr} {b : Bool} (h2 : PySem.W.isClsIn K C = true) (h3 : PySem.W.typeIn K (.ref C) = some (.type "type")) (h4 : PySem.W.subIn K t (.ref C) = some b) : PySem.W.kitCls K t (.ref C) = some b := by
  have e2 : ((PySem.W.clsIn K C).isSome && PySem.W.typeIn K (.ref C) == some (.type "type")) = true := by
    have h2' : (PySem.W.clsIn K C).isSome = true := h2
    rw [h2', h3] <;> rfl
  show (if ((PySem.W.clsIn K C).isSome && PySem.W.typeIn K (.ref C) == some (.type "type")) = true then PySem.W.subIn K t (.ref C) else none) = some b
  rw [if_pos e2]
  exact h4
theorem own_exm {K : PySem.W.Frag} {t : Value} {C : Addr} {b : Bool} (h1 : PySem.W.subIn K (.ref C) (.type "BaseException") = some true) (h2 : PySem.W.isClsIn K C = true) (h3 : PySem.W.typeIn K (.ref C) = some (.type "type")) (h4 : PySem.W.subIn K t (.ref C) = some b) : PySem.W.exmOne K t (.ref C) = some b := by
  have e1 : (PySem.W.subIn K (.ref C) (.type "BaseException") == some true) = true := by rw [h1] <;> rfl
  show (if (PySem.W.subIn K (.ref C) (.type "BaseException") == some true) = true then PySem.W.kitCls K t (.ref C) else none) = some b
  rw [if_pos e1]
  exact own_cls h2 h3 h4
theorem own_kit {K : PySem.W.Frag} {D C : Addr} {b : Bool} (h2 : PySem.W.isClsIn K C = true) (h3 : PySem.W.typeIn K (.ref C) = some (.type "type")) (h4 : PySem.W.subIn K (.ref D) (.ref C) = some b) (hb : (D == C) = true → b = true) : PySem.W.kitOne K (.ref D) (.ref C) = some b := by
  unfold PySem.W.kitOne
  by_cases z : ((Value.ref D) == (Value.ref C)) = true
  · rw [if_pos z]
    have z2 : (D == C) = true := by
      have := eq_of_beq z
      cases this
      exact beq_self_eq_true _
    rw [hb z2]
  · rw [if_neg z]
    exact own_cls h2 h3 h4
theorem all_mk {l : PySem.W.OpenLaw} {w : World} {K : PySem.W.Frag} {h : Heap} {mg : Str → Option Value} {fa CE_SheetError CE_BadPrime CE_ByZero CE_NotInvertible CC_RestField CC_FractionField f0 f1 f2 f3 f4 f5 f6 f7 f8 f9 f10 f11 f12 f13 f14 f15 f16 f17 f18 f19 f20 f21 f22 f23 f24 f25 f26 f27 f28 f29 f30 f31 f32 f33 f34 f35 f36 f37 f38 f39 f40 f41 f42 f43 f44 f45 f46 f47 f48 f49 f50 f51 f52 f53 f54 f55 f56 f57 f58 : Addr} {tkc_MOST_PRIME : Tok} (X : K.In h) (G : h.Ns mainGlobals mg) (hfa : mg "law" = some (.ref fa))
    {od0 an0 : Option Addr} {sl0 : Array (Option Value)} {oc0 kV0 dc0 pm0 cd0 ct0 : Value}
    {od1 an1 : Option Addr} {sl1 : Array (Option Value)} {oc1 kV1 dc1 pm1 cd1 ct1 : Value}
    {od2 an2 : Option Addr} {sl2 : Array (Option Value)} {oc2 kV2 dc2 pm2 cd2 ct2 : Value}
    {od3 an3 : Option Addr} {sl3 : Array (Option Value)} {oc3 kV3 dc3 pm3 cd3 ct3 : Value}
    {od4 an4 : Option Addr} {sl4 : Array (Option Value)} {oc4 kV4 dc4 pm4 cd4 ct4 : Value}
    {od5 an5 : Option Addr} {sl5 : Array (Option Value)} {oc5 kV5 dc5 pm5 cd5 ct5 : Value}
    {od6 an6 : Option Addr} {sl6 : Array (Option Value)} {oc6 kV6 dc6 pm6 cd6 ct6 : Value}
    {od7 an7 : Option Addr} {sl7 : Array (Option Value)} {oc7 kV7 dc7 pm7 cd7 ct7 : Value}
    {od8 an8 : Option Addr} {sl8 : Array (Option Value)} {oc8 kV8 dc8 pm8 cd8 ct8 : Value}
    {od9 an9 : Option Addr} {sl9 : Array (Option Value)} {oc9 kV9 dc9 pm9 cd9 ct9 : Value}
    {od10 an10 : Option Addr} {sl10 : Array (Option Value)} {oc10 kV10 dc10 pm10 cd10 ct10 : Value}
    {od11 an11 : Option Addr} {sl11 : Array (Option Value)} {oc11 kV11 dc11 pm11 cd11 ct11 : Value}
    {od12 an12 : Option Addr} {sl12 : Array (Option Value)} {oc12 kV12 dc12 pm12 cd12 ct12 : Value}
    {od13 an13 : Option Addr} {sl13 : Array (Option Value)} {oc13 kV13 dc13 pm13 cd13 ct13 : Value}
    {od14 an14 : Option Addr} {sl14 : Array (Option Value)} {oc14 kV14 dc14 pm14 cd14 ct14 : Value}
    {od15 an15 : Option Addr} {sl15 : Array (Option Value)} {oc15 kV15 dc15 pm15 cd15 ct15 : Value}
    {D15 : Addr} {ocD15 : Value} {odD15 : Option Addr} {nD15 : Nat} {slD15 : Array (Option Value)}
    {od16 an16 : Option Addr} {sl16 : Array (Option Value)} {oc16 kV16 dc16 pm16 cd16 ct16 : Value}
    {od17 an17 : Option Addr} {sl17 : Array (Option Value)} {oc17 kV17 dc17 pm17 cd17 ct17 : Value}
    {od18 an18 : Option Addr} {sl18 : Array (Option Value)} {oc18 kV18 dc18 pm18 cd18 ct18 : Value}
    {od19 an19 : Option Addr} {sl19 : Array (Option Value)} {oc19 kV19 dc19 pm19 cd19 ct19 : Value}
    {od20 an20 : Option Addr} {sl20 : Array (Option Value)} {oc20 kV20 dc20 pm20 cd20 ct20 : Value}
    {od21 an21 : Option Addr} {sl21 : Array (Option Value)} {oc21 kV21 dc21 pm21 cd21 ct21 : Value}
    {od22 an22 : Option Addr} {sl22 : Array (Option Value)} {oc22 kV22 dc22 pm22 cd22 ct22 : Value}
    {od23 an23 : Option Addr} {sl23 : Array (Option Value)} {oc23 kV23 dc23 pm23 cd23 ct23 : Value}
    {od24 an24 : Option Addr} {sl24 : Array (Option Value)} {oc24 kV24 dc24 pm24 cd24 ct24 : Value}
    {od25 an25 : Option Addr} {sl25 : Array (Option Value)} {oc25 kV25 dc25 pm25 cd25 ct25 : Value}
    {od26 an26 : Option Addr} {sl26 : Array (Option Value)} {oc26 kV26 dc26 pm26 cd26 ct26 : Value}
    {od27 an27 : Option Addr} {sl27 : Array (Option Value)} {oc27 kV27 dc27 pm27 cd27 ct27 : Value}
    {od28 an28 : Option Addr} {sl28 : Array (Option Value)} {oc28 kV28 dc28 pm28 cd28 ct28 : Value}
    {od29 an29 : Option Addr} {sl29 : Array (Option Value)} {oc29 kV29 dc29 pm29 cd29 ct29 : Value}
    {od30 an30 : Option Addr} {sl30 : Array (Option Value)} {oc30 kV30 dc30 pm30 cd30 ct30 : Value}
    {od31 an31 : Option Addr} {sl31 : Array (Option Value)} {oc31 kV31 dc31 pm31 cd31 ct31 : Value}
    {od32 an32 : Option Addr} {sl32 : Array (Option Value)} {oc32 kV32 dc32 pm32 cd32 ct32 : Value}
    {od33 an33 : Option Addr} {sl33 : Array (Option Value)} {oc33 kV33 dc33 pm33 cd33 ct33 : Value}
    {od34 an34 : Option Addr} {sl34 : Array (Option Value)} {oc34 kV34 dc34 pm34 cd34 ct34 : Value}
    {od35 an35 : Option Addr} {sl35 : Array (Option Value)} {oc35 kV35 dc35 pm35 cd35 ct35 : Value}
    {od36 an36 : Option Addr} {sl36 : Array (Option Value)} {oc36 kV36 dc36 pm36 cd36 ct36 : Value}
    {od37 an37 : Option Addr} {sl37 : Array (Option Value)} {oc37 kV37 dc37 pm37 cd37 ct37 : Value}
    {od38 an38 : Option Addr} {sl38 : Array (Option Value)} {oc38 kV38 dc38 pm38 cd38 ct38 : Value}
    {od39 an39 : Option Addr} {sl39 : Array (Option Value)} {oc39 kV39 dc39 pm39 cd39 ct39 : Value}
    {od40 an40 : Option Addr} {sl40 : Array (Option Value)} {oc40 kV40 dc40 pm40 cd40 ct40 : Value}
    {od41 an41 : Option Addr} {sl41 : Array (Option Value)} {oc41 kV41 dc41 pm41 cd41 ct41 : Value}
    {od42 an42 : Option Addr} {sl42 : Array (Option Value)} {oc42 kV42 dc42 pm42 cd42 ct42 : Value}
    {od43 an43 : Option Addr} {sl43 : Array (Option Value)} {oc43 kV43 dc43 pm43 cd43 ct43 : Value}
    {od44 an44 : Option Addr} {sl44 : Array (Option Value)} {oc44 kV44 dc44 pm44 cd44 ct44 : Value}
    {od45 an45 : Option Addr} {sl45 : Array (Option Value)} {oc45 kV45 dc45 pm45 cd45 ct45 : Value}
    {od46 an46 : Option Addr} {sl46 : Array (Option Value)} {oc46 kV46 dc46 pm46 cd46 ct46 : Value}
    {od47 an47 : Option Addr} {sl47 : Array (Option Value)} {oc47 kV47 dc47 pm47 cd47 ct47 : Value}
    {od48 an48 : Option Addr} {sl48 : Array (Option Value)} {oc48 kV48 dc48 pm48 cd48 ct48 : Value}
    {od49 an49 : Option Addr} {sl49 : Array (Option Value)} {oc49 kV49 dc49 pm49 cd49 ct49 : Value}
    {od50 an50 : Option Addr} {sl50 : Array (Option Value)} {oc50 kV50 dc50 pm50 cd50 ct50 : Value}
    {od51 an51 : Option Addr} {sl51 : Array (Option Value)} {oc51 kV51 dc51 pm51 cd51 ct51 : Value}
    {od52 an52 : Option Addr} {sl52 : Array (Option Value)} {oc52 kV52 dc52 pm52 cd52 ct52 : Value}
    {od53 an53 : Option Addr} {sl53 : Array (Option Value)} {oc53 kV53 dc53 pm53 cd53 ct53 : Value}
    {od54 an54 : Option Addr} {sl54 : Array (Option Value)} {oc54 kV54 dc54 pm54 cd54 ct54 : Value}
    {od55 an55 : Option Addr} {sl55 : Array (Option Value)} {oc55 kV55 dc55 pm55 cd55 ct55 : Value}
    {od56 an56 : Option Addr} {sl56 : Array (Option Value)} {oc56 kV56 dc56 pm56 cd56 ct56 : Value}
    {od57 an57 : Option Addr} {sl57 : Array (Option Value)} {oc57 kV57 dc57 pm57 cd57 ct57 : Value}
    {od58 an58 : Option Addr} {sl58 : Array (Option Value)} {oc58 kV58 dc58 pm58 cd58 ct58 : Value}
    (h_SheetError : PySem.W.nsIn K mainGlobals "SheetError" = some (some (.ref CE_SheetError)))
    (h_BadPrime : PySem.W.nsIn K mainGlobals "BadPrime" = some (some (.ref CE_BadPrime)))
    (h_ByZero : PySem.W.nsIn K mainGlobals "ByZero" = some (some (.ref CE_ByZero)))
    (h_NotInvertible : PySem.W.nsIn K mainGlobals "NotInvertible" = some (some (.ref CE_NotInvertible)))
    (h_RestField : PySem.W.nsIn K mainGlobals "RestField" = some (some (.ref CC_RestField)))
    (h_FractionField : PySem.W.nsIn K mainGlobals "FractionField" = some (some (.ref CC_FractionField)))
    (a0 : PySem.W.nsIn K mainGlobals "beside" = some (some (.ref f0)))
    (l0 : K.lookup f0 = some ⟨oc0, od0, .func (PySem.W.fnOf "beside" "beside" (defArgs s_beside) (defBody s_beside) (defScope s_beside) .none kV0 dc0 pm0 an0 cd0 ct0), sl0⟩)
    (c0 : PySem.W.codeIn K cd0 "beside" = true)
    (k0 : PySem.W.keepIn K (.ref f0) = true)
    (a1 : PySem.W.nsIn K mainGlobals "columns_of" = some (some (.ref f1)))
    (l1 : K.lookup f1 = some ⟨oc1, od1, .func (PySem.W.fnOf "columns_of" "columns_of" (defArgs s_columns_of) (defBody s_columns_of) (defScope s_columns_of) .none kV1 dc1 pm1 an1 cd1 ct1), sl1⟩)
    (c1 : PySem.W.codeIn K cd1 "columns_of" = true)
    (k1 : PySem.W.keepIn K (.ref f1) = true)
    (a2 : PySem.W.nsIn K mainGlobals "as_tuples" = some (some (.ref f2)))
    (l2 : K.lookup f2 = some ⟨oc2, od2, .func (PySem.W.fnOf "as_tuples" "as_tuples" (defArgs s_as_tuples) (defBody s_as_tuples) (defScope s_as_tuples) .none kV2 dc2 pm2 an2 cd2 ct2), sl2⟩)
    (c2 : PySem.W.codeIn K cd2 "as_tuples" = true)
    (k2 : PySem.W.keepIn K (.ref f2) = true)
    (a3 : PySem.W.nsIn K mainGlobals "product_sum" = some (some (.ref f3)))
    (l3 : K.lookup f3 = some ⟨oc3, od3, .func (PySem.W.fnOf "product_sum" "product_sum" (defArgs s_product_sum) (defBody s_product_sum) (defScope s_product_sum) .none kV3 dc3 pm3 an3 cd3 ct3), sl3⟩)
    (c3 : PySem.W.codeIn K cd3 "product_sum" = true)
    (k3 : PySem.W.keepIn K (.ref f3) = true)
    (a4 : PySem.W.nsIn K mainGlobals "unit_row" = some (some (.ref f4)))
    (l4 : K.lookup f4 = some ⟨oc4, od4, .func (PySem.W.fnOf "unit_row" "unit_row" (defArgs s_unit_row) (defBody s_unit_row) (defScope s_unit_row) .none kV4 dc4 pm4 an4 cd4 ct4), sl4⟩)
    (c4 : PySem.W.codeIn K cd4 "unit_row" = true)
    (k4 : PySem.W.keepIn K (.ref f4) = true)
    (a5 : PySem.W.nsIn K mainGlobals "columns_as_rows" = some (some (.ref f5)))
    (l5 : K.lookup f5 = some ⟨oc5, od5, .func (PySem.W.fnOf "columns_as_rows" "columns_as_rows" (defArgs s_columns_as_rows) (defBody s_columns_as_rows) (defScope s_columns_as_rows) .none kV5 dc5 pm5 an5 cd5 ct5), sl5⟩)
    (c5 : PySem.W.codeIn K cd5 "columns_as_rows" = true)
    (k5 : PySem.W.keepIn K (.ref f5) = true)
    (a6 : PySem.W.nsIn K mainGlobals "rows_product" = some (some (.ref f6)))
    (l6 : K.lookup f6 = some ⟨oc6, od6, .func (PySem.W.fnOf "rows_product" "rows_product" (defArgs s_rows_product) (defBody s_rows_product) (defScope s_rows_product) .none kV6 dc6 pm6 an6 cd6 ct6), sl6⟩)
    (c6 : PySem.W.codeIn K cd6 "rows_product" = true)
    (k6 : PySem.W.keepIn K (.ref f6) = true)
    (a7 : PySem.W.nsIn K mainGlobals "_row_less" = some (some (.ref f7)))
    (l7 : K.lookup f7 = some ⟨oc7, od7, .func (PySem.W.fnOf "_row_less" "_row_less" (defArgs s_row_less) (defBody s_row_less) (defScope s_row_less) .none kV7 dc7 pm7 an7 cd7 ct7), sl7⟩)
    (c7 : PySem.W.codeIn K cd7 "_row_less" = true)
    (k7 : PySem.W.keepIn K (.ref f7) = true)
    (a8 : PySem.W.nsIn K mainGlobals "_place_of_lead" = some (some (.ref f8)))
    (l8 : K.lookup f8 = some ⟨oc8, od8, .func (PySem.W.fnOf "_place_of_lead" "_place_of_lead" (defArgs s_place_of_lead) (defBody s_place_of_lead) (defScope s_place_of_lead) .none kV8 dc8 pm8 an8 cd8 ct8), sl8⟩)
    (c8 : PySem.W.codeIn K cd8 "_place_of_lead" = true)
    (k8 : PySem.W.keepIn K (.ref f8) = true)
    (a9 : PySem.W.nsIn K mainGlobals "reduced_rows" = some (some (.ref f9)))
    (l9 : K.lookup f9 = some ⟨oc9, od9, .func (PySem.W.fnOf "reduced_rows" "reduced_rows" (defArgs s_reduced_rows) (defBody s_reduced_rows) (defScope s_reduced_rows) .none kV9 dc9 pm9 an9 cd9 ct9), sl9⟩)
    (c9 : PySem.W.codeIn K cd9 "reduced_rows" = true)
    (k9 : PySem.W.keepIn K (.ref f9) = true)
    (a10 : PySem.W.nsIn K mainGlobals "rank_of_rows" = some (some (.ref f10)))
    (l10 : K.lookup f10 = some ⟨oc10, od10, .func (PySem.W.fnOf "rank_of_rows" "rank_of_rows" (defArgs s_rank_of_rows) (defBody s_rank_of_rows) (defScope s_rank_of_rows) .none kV10 dc10 pm10 an10 cd10 ct10), sl10⟩)
    (c10 : PySem.W.codeIn K cd10 "rank_of_rows" = true)
    (k10 : PySem.W.keepIn K (.ref f10) = true)
    (a11 : PySem.W.nsIn K mainGlobals "rows_unbound" = some (some (.ref f11)))
    (l11 : K.lookup f11 = some ⟨oc11, od11, .func (PySem.W.fnOf "rows_unbound" "rows_unbound" (defArgs s_rows_unbound) (defBody s_rows_unbound) (defScope s_rows_unbound) .none kV11 dc11 pm11 an11 cd11 ct11), sl11⟩)
    (c11 : PySem.W.codeIn K cd11 "rows_unbound" = true)
    (k11 : PySem.W.keepIn K (.ref f11) = true)
    (a12 : PySem.W.nsIn K mainGlobals "equations_for" = some (some (.ref f12)))
    (l12 : K.lookup f12 = some ⟨oc12, od12, .func (PySem.W.fnOf "equations_for" "equations_for" (defArgs s_equations_for) (defBody s_equations_for) (defScope s_equations_for) .none kV12 dc12 pm12 an12 cd12 ct12), sl12⟩)
    (c12 : PySem.W.codeIn K cd12 "equations_for" = true)
    (k12 : PySem.W.keepIn K (.ref f12) = true)
    (a13 : PySem.W.nsIn K mainGlobals "weights_for" = some (some (.ref f13)))
    (l13 : K.lookup f13 = some ⟨oc13, od13, .func (PySem.W.fnOf "weights_for" "weights_for" (defArgs s_weights_for) (defBody s_weights_for) (defScope s_weights_for) .none kV13 dc13 pm13 an13 cd13 ct13), sl13⟩)
    (c13 : PySem.W.codeIn K cd13 "weights_for" = true)
    (k13 : PySem.W.keepIn K (.ref f13) = true)
    (a14 : PySem.W.nsIn K mainGlobals "undoing_rows" = some (some (.ref f14)))
    (l14 : K.lookup f14 = some ⟨oc14, od14, .func (PySem.W.fnOf "undoing_rows" "undoing_rows" (defArgs s_undoing_rows) (defBody s_undoing_rows) (defScope s_undoing_rows) .none kV14 dc14 pm14 an14 cd14 ct14), sl14⟩)
    (c14 : PySem.W.codeIn K cd14 "undoing_rows" = true)
    (k14 : PySem.W.keepIn K (.ref f14) = true)
    (a15 : PySem.W.nsIn K mainGlobals "is_whole" = some (some (.ref f15)))
    (l15 : K.lookup f15 = some ⟨oc15, od15, .func (PySem.W.fnOf "is_whole" "is_whole" (defArgs s_is_whole) (defBody s_is_whole) (defScope s_is_whole) (.ref D15) kV15 dc15 pm15 an15 cd15 ct15), sl15⟩)
    (c15 : PySem.W.codeIn K cd15 "is_whole" = true)
    (k15 : PySem.W.keepIn K (.ref f15) = true)
    (e15 : K.lookup D15 = some ⟨ocD15, odD15, .seq #[.none, .none] nD15, slD15⟩)
    (a16 : PySem.W.nsIn K mainGlobals "common_divisor" = some (some (.ref f16)))
    (l16 : K.lookup f16 = some ⟨oc16, od16, .func (PySem.W.fnOf "common_divisor" "common_divisor" (defArgs s_common_divisor) (defBody s_common_divisor) (defScope s_common_divisor) .none kV16 dc16 pm16 an16 cd16 ct16), sl16⟩)
    (c16 : PySem.W.codeIn K cd16 "common_divisor" = true)
    (k16 : PySem.W.keepIn K (.ref f16) = true)
    (a17 : PySem.W.nsIn K mainGlobals "power_of" = some (some (.ref f17)))
    (l17 : K.lookup f17 = some ⟨oc17, od17, .func (PySem.W.fnOf "power_of" "power_of" (defArgs s_power_of) (defBody s_power_of) (defScope s_power_of) .none kV17 dc17 pm17 an17 cd17 ct17), sl17⟩)
    (c17 : PySem.W.codeIn K cd17 "power_of" = true)
    (k17 : PySem.W.keepIn K (.ref f17) = true)
    (a18 : PySem.W.nsIn K mainGlobals "least_factor" = some (some (.ref f18)))
    (l18 : K.lookup f18 = some ⟨oc18, od18, .func (PySem.W.fnOf "least_factor" "least_factor" (defArgs s_least_factor) (defBody s_least_factor) (defScope s_least_factor) .none kV18 dc18 pm18 an18 cd18 ct18), sl18⟩)
    (c18 : PySem.W.codeIn K cd18 "least_factor" = true)
    (k18 : PySem.W.keepIn K (.ref f18) = true)
    (a19 : PySem.W.nsIn K mainGlobals "is_prime" = some (some (.ref f19)))
    (l19 : K.lookup f19 = some ⟨oc19, od19, .func (PySem.W.fnOf "is_prime" "is_prime" (defArgs s_is_prime) (defBody s_is_prime) (defScope s_is_prime) .none kV19 dc19 pm19 an19 cd19 ct19), sl19⟩)
    (c19 : PySem.W.codeIn K cd19 "is_prime" = true)
    (k19 : PySem.W.keepIn K (.ref f19) = true)
    (a20 : PySem.W.findIn K (.ref CC_RestField) "__init__" = some (some (.ref f20)))
    (i20 : PySem.W.isFn K (.ref f20) = true)
    (l20 : K.lookup f20 = some ⟨oc20, od20, .func (PySem.W.fnOf "__init__" "RestField.__init__" (defArgs s_RestField_init) (defBody s_RestField_init) (defScope s_RestField_init) .none kV20 dc20 pm20 an20 cd20 ct20), sl20⟩)
    (c20 : PySem.W.codeIn K cd20 "RestField.__init__" = true)
    (k20 : PySem.W.keepIn K (.ref f20) = true)
    (a21 : PySem.W.findIn K (.ref CC_RestField) "__eq__" = some (some (.ref f21)))
    (i21 : PySem.W.isFn K (.ref f21) = true)
    (l21 : K.lookup f21 = some ⟨oc21, od21, .func (PySem.W.fnOf "__eq__" "RestField.__eq__" (defArgs s_RestField_eq) (defBody s_RestField_eq) (defScope s_RestField_eq) .none kV21 dc21 pm21 an21 cd21 ct21), sl21⟩)
    (c21 : PySem.W.codeIn K cd21 "RestField.__eq__" = true)
    (k21 : PySem.W.keepIn K (.ref f21) = true)
    (a22 : PySem.W.findIn K (.ref CC_RestField) "plus" = some (some (.ref f22)))
    (i22 : PySem.W.isFn K (.ref f22) = true)
    (l22 : K.lookup f22 = some ⟨oc22, od22, .func (PySem.W.fnOf "plus" "RestField.plus" (defArgs s_RestField_plus) (defBody s_RestField_plus) (defScope s_RestField_plus) .none kV22 dc22 pm22 an22 cd22 ct22), sl22⟩)
    (c22 : PySem.W.codeIn K cd22 "RestField.plus" = true)
    (k22 : PySem.W.keepIn K (.ref f22) = true)
    (a23 : PySem.W.findIn K (.ref CC_RestField) "less" = some (some (.ref f23)))
    (i23 : PySem.W.isFn K (.ref f23) = true)
    (l23 : K.lookup f23 = some ⟨oc23, od23, .func (PySem.W.fnOf "less" "RestField.less" (defArgs s_RestField_less) (defBody s_RestField_less) (defScope s_RestField_less) .none kV23 dc23 pm23 an23 cd23 ct23), sl23⟩)
    (c23 : PySem.W.codeIn K cd23 "RestField.less" = true)
    (k23 : PySem.W.keepIn K (.ref f23) = true)
    (a24 : PySem.W.findIn K (.ref CC_RestField) "times" = some (some (.ref f24)))
    (i24 : PySem.W.isFn K (.ref f24) = true)
    (l24 : K.lookup f24 = some ⟨oc24, od24, .func (PySem.W.fnOf "times" "RestField.times" (defArgs s_RestField_times) (defBody s_RestField_times) (defScope s_RestField_times) .none kV24 dc24 pm24 an24 cd24 ct24), sl24⟩)
    (c24 : PySem.W.codeIn K cd24 "RestField.times" = true)
    (k24 : PySem.W.keepIn K (.ref f24) = true)
    (a25 : PySem.W.findIn K (.ref CC_RestField) "quotient" = some (some (.ref f25)))
    (i25 : PySem.W.isFn K (.ref f25) = true)
    (l25 : K.lookup f25 = some ⟨oc25, od25, .func (PySem.W.fnOf "quotient" "RestField.quotient" (defArgs s_RestField_quotient) (defBody s_RestField_quotient) (defScope s_RestField_quotient) .none kV25 dc25 pm25 an25 cd25 ct25), sl25⟩)
    (c25 : PySem.W.codeIn K cd25 "RestField.quotient" = true)
    (k25 : PySem.W.keepIn K (.ref f25) = true)
    (a26 : PySem.W.findIn K (.ref CC_RestField) "power" = some (some (.ref f26)))
    (i26 : PySem.W.isFn K (.ref f26) = true)
    (l26 : K.lookup f26 = some ⟨oc26, od26, .func (PySem.W.fnOf "power" "RestField.power" (defArgs s_RestField_power) (defBody s_RestField_power) (defScope s_RestField_power) .none kV26 dc26 pm26 an26 cd26 ct26), sl26⟩)
    (c26 : PySem.W.codeIn K cd26 "RestField.power" = true)
    (k26 : PySem.W.keepIn K (.ref f26) = true)
    (a27 : PySem.W.nsIn K mainGlobals "_fraction" = some (some (.ref f27)))
    (l27 : K.lookup f27 = some ⟨oc27, od27, .func (PySem.W.fnOf "_fraction" "_fraction" (defArgs s_fraction) (defBody s_fraction) (defScope s_fraction) .none kV27 dc27 pm27 an27 cd27 ct27), sl27⟩)
    (c27 : PySem.W.codeIn K cd27 "_fraction" = true)
    (k27 : PySem.W.keepIn K (.ref f27) = true)
    (a28 : PySem.W.findIn K (.ref CC_FractionField) "__init__" = some (some (.ref f28)))
    (i28 : PySem.W.isFn K (.ref f28) = true)
    (l28 : K.lookup f28 = some ⟨oc28, od28, .func (PySem.W.fnOf "__init__" "FractionField.__init__" (defArgs s_FractionField_init) (defBody s_FractionField_init) (defScope s_FractionField_init) .none kV28 dc28 pm28 an28 cd28 ct28), sl28⟩)
    (c28 : PySem.W.codeIn K cd28 "FractionField.__init__" = true)
    (k28 : PySem.W.keepIn K (.ref f28) = true)
    (a29 : PySem.W.findIn K (.ref CC_FractionField) "__eq__" = some (some (.ref f29)))
    (i29 : PySem.W.isFn K (.ref f29) = true)
    (l29 : K.lookup f29 = some ⟨oc29, od29, .func (PySem.W.fnOf "__eq__" "FractionField.__eq__" (defArgs s_FractionField_eq) (defBody s_FractionField_eq) (defScope s_FractionField_eq) .none kV29 dc29 pm29 an29 cd29 ct29), sl29⟩)
    (c29 : PySem.W.codeIn K cd29 "FractionField.__eq__" = true)
    (k29 : PySem.W.keepIn K (.ref f29) = true)
    (a30 : PySem.W.findIn K (.ref CC_FractionField) "plus" = some (some (.ref f30)))
    (i30 : PySem.W.isFn K (.ref f30) = true)
    (l30 : K.lookup f30 = some ⟨oc30, od30, .func (PySem.W.fnOf "plus" "FractionField.plus" (defArgs s_FractionField_plus) (defBody s_FractionField_plus) (defScope s_FractionField_plus) .none kV30 dc30 pm30 an30 cd30 ct30), sl30⟩)
    (c30 : PySem.W.codeIn K cd30 "FractionField.plus" = true)
    (k30 : PySem.W.keepIn K (.ref f30) = true)
    (a31 : PySem.W.findIn K (.ref CC_FractionField) "less" = some (some (.ref f31)))
    (i31 : PySem.W.isFn K (.ref f31) = true)
    (l31 : K.lookup f31 = some ⟨oc31, od31, .func (PySem.W.fnOf "less" "FractionField.less" (defArgs s_FractionField_less) (defBody s_FractionField_less) (defScope s_FractionField_less) .none kV31 dc31 pm31 an31 cd31 ct31), sl31⟩)
    (c31 : PySem.W.codeIn K cd31 "FractionField.less" = true)
    (k31 : PySem.W.keepIn K (.ref f31) = true)
    (a32 : PySem.W.findIn K (.ref CC_FractionField) "times" = some (some (.ref f32)))
    (i32 : PySem.W.isFn K (.ref f32) = true)
    (l32 : K.lookup f32 = some ⟨oc32, od32, .func (PySem.W.fnOf "times" "FractionField.times" (defArgs s_FractionField_times) (defBody s_FractionField_times) (defScope s_FractionField_times) .none kV32 dc32 pm32 an32 cd32 ct32), sl32⟩)
    (c32 : PySem.W.codeIn K cd32 "FractionField.times" = true)
    (k32 : PySem.W.keepIn K (.ref f32) = true)
    (a33 : PySem.W.findIn K (.ref CC_FractionField) "quotient" = some (some (.ref f33)))
    (i33 : PySem.W.isFn K (.ref f33) = true)
    (l33 : K.lookup f33 = some ⟨oc33, od33, .func (PySem.W.fnOf "quotient" "FractionField.quotient" (defArgs s_FractionField_quotient) (defBody s_FractionField_quotient) (defScope s_FractionField_quotient) .none kV33 dc33 pm33 an33 cd33 ct33), sl33⟩)
    (c33 : PySem.W.codeIn K cd33 "FractionField.quotient" = true)
    (k33 : PySem.W.keepIn K (.ref f33) = true)
    (a34 : PySem.W.findIn K (.ref CC_FractionField) "power" = some (some (.ref f34)))
    (i34 : PySem.W.isFn K (.ref f34) = true)
    (l34 : K.lookup f34 = some ⟨oc34, od34, .func (PySem.W.fnOf "power" "FractionField.power" (defArgs s_FractionField_power) (defBody s_FractionField_power) (defScope s_FractionField_power) .none kV34 dc34 pm34 an34 cd34 ct34), sl34⟩)
    (c34 : PySem.W.codeIn K cd34 "FractionField.power" = true)
    (k34 : PySem.W.keepIn K (.ref f34) = true)
    (a35 : PySem.W.nsIn K mainGlobals "_law_start" = some (some (.ref f35)))
    (l35 : K.lookup f35 = some ⟨oc35, od35, .func (PySem.W.fnOf "_law_start" "_law_start" (defArgs s_law_start) (defBody s_law_start) (defScope s_law_start) .none kV35 dc35 pm35 an35 cd35 ct35), sl35⟩)
    (c35 : PySem.W.codeIn K cd35 "_law_start" = true)
    (k35 : PySem.W.keepIn K (.ref f35) = true)
    (a36 : PySem.W.nsIn K mainGlobals "_law_draw" = some (some (.ref f36)))
    (l36 : K.lookup f36 = some ⟨oc36, od36, .func (PySem.W.fnOf "_law_draw" "_law_draw" (defArgs s_law_draw) (defBody s_law_draw) (defScope s_law_draw) .none kV36 dc36 pm36 an36 cd36 ct36), sl36⟩)
    (c36 : PySem.W.codeIn K cd36 "_law_draw" = true)
    (k36 : PySem.W.keepIn K (.ref f36) = true)
    (a37 : PySem.W.nsIn K mainGlobals "_law_whole" = some (some (.ref f37)))
    (l37 : K.lookup f37 = some ⟨oc37, od37, .func (PySem.W.fnOf "_law_whole" "_law_whole" (defArgs s_law_whole) (defBody s_law_whole) (defScope s_law_whole) .none kV37 dc37 pm37 an37 cd37 ct37), sl37⟩)
    (c37 : PySem.W.codeIn K cd37 "_law_whole" = true)
    (k37 : PySem.W.keepIn K (.ref f37) = true)
    (a38 : PySem.W.nsIn K mainGlobals "_law_gcd" = some (some (.ref f38)))
    (l38 : K.lookup f38 = some ⟨oc38, od38, .func (PySem.W.fnOf "_law_gcd" "_law_gcd" (defArgs s_law_gcd) (defBody s_law_gcd) (defScope s_law_gcd) .none kV38 dc38 pm38 an38 cd38 ct38), sl38⟩)
    (c38 : PySem.W.codeIn K cd38 "_law_gcd" = true)
    (k38 : PySem.W.keepIn K (.ref f38) = true)
    (a39 : PySem.W.nsIn K mainGlobals "_law_low" = some (some (.ref f39)))
    (l39 : K.lookup f39 = some ⟨oc39, od39, .func (PySem.W.fnOf "_law_low" "_law_low" (defArgs s_law_low) (defBody s_law_low) (defScope s_law_low) .none kV39 dc39 pm39 an39 cd39 ct39), sl39⟩)
    (c39 : PySem.W.codeIn K cd39 "_law_low" = true)
    (k39 : PySem.W.keepIn K (.ref f39) = true)
    (a40 : PySem.W.nsIn K mainGlobals "_law_some" = some (some (.ref f40)))
    (l40 : K.lookup f40 = some ⟨oc40, od40, .func (PySem.W.fnOf "_law_some" "_law_some" (defArgs s_law_some) (defBody s_law_some) (defScope s_law_some) .none kV40 dc40 pm40 an40 cd40 ct40), sl40⟩)
    (c40 : PySem.W.codeIn K cd40 "_law_some" = true)
    (k40 : PySem.W.keepIn K (.ref f40) = true)
    (a41 : PySem.W.nsIn K mainGlobals "_law_plus" = some (some (.ref f41)))
    (l41 : K.lookup f41 = some ⟨oc41, od41, .func (PySem.W.fnOf "_law_plus" "_law_plus" (defArgs s_law_plus) (defBody s_law_plus) (defScope s_law_plus) .none kV41 dc41 pm41 an41 cd41 ct41), sl41⟩)
    (c41 : PySem.W.codeIn K cd41 "_law_plus" = true)
    (k41 : PySem.W.keepIn K (.ref f41) = true)
    (a42 : PySem.W.nsIn K mainGlobals "_law_times" = some (some (.ref f42)))
    (l42 : K.lookup f42 = some ⟨oc42, od42, .func (PySem.W.fnOf "_law_times" "_law_times" (defArgs s_law_times) (defBody s_law_times) (defScope s_law_times) .none kV42 dc42 pm42 an42 cd42 ct42), sl42⟩)
    (c42 : PySem.W.codeIn K cd42 "_law_times" = true)
    (k42 : PySem.W.keepIn K (.ref f42) = true)
    (a43 : PySem.W.nsIn K mainGlobals "_law_minus" = some (some (.ref f43)))
    (l43 : K.lookup f43 = some ⟨oc43, od43, .func (PySem.W.fnOf "_law_minus" "_law_minus" (defArgs s_law_minus) (defBody s_law_minus) (defScope s_law_minus) .none kV43 dc43 pm43 an43 cd43 ct43), sl43⟩)
    (c43 : PySem.W.codeIn K cd43 "_law_minus" = true)
    (k43 : PySem.W.keepIn K (.ref f43) = true)
    (a44 : PySem.W.nsIn K mainGlobals "_law_over" = some (some (.ref f44)))
    (l44 : K.lookup f44 = some ⟨oc44, od44, .func (PySem.W.fnOf "_law_over" "_law_over" (defArgs s_law_over) (defBody s_law_over) (defScope s_law_over) .none kV44 dc44 pm44 an44 cd44 ct44), sl44⟩)
    (c44 : PySem.W.codeIn K cd44 "_law_over" = true)
    (k44 : PySem.W.keepIn K (.ref f44) = true)
    (a45 : PySem.W.nsIn K mainGlobals "_law_nought" = some (some (.ref f45)))
    (l45 : K.lookup f45 = some ⟨oc45, od45, .func (PySem.W.fnOf "_law_nought" "_law_nought" (defArgs s_law_nought) (defBody s_law_nought) (defScope s_law_nought) .none kV45 dc45 pm45 an45 cd45 ct45), sl45⟩)
    (c45 : PySem.W.codeIn K cd45 "_law_nought" = true)
    (k45 : PySem.W.keepIn K (.ref f45) = true)
    (a46 : PySem.W.nsIn K mainGlobals "_law_good" = some (some (.ref f46)))
    (l46 : K.lookup f46 = some ⟨oc46, od46, .func (PySem.W.fnOf "_law_good" "_law_good" (defArgs s_law_good) (defBody s_law_good) (defScope s_law_good) .none kV46 dc46 pm46 an46 cd46 ct46), sl46⟩)
    (c46 : PySem.W.codeIn K cd46 "_law_good" = true)
    (k46 : PySem.W.keepIn K (.ref f46) = true)
    (a47 : PySem.W.nsIn K mainGlobals "_law_good_row" = some (some (.ref f47)))
    (l47 : K.lookup f47 = some ⟨oc47, od47, .func (PySem.W.fnOf "_law_good_row" "_law_good_row" (defArgs s_law_good_row) (defBody s_law_good_row) (defScope s_law_good_row) .none kV47 dc47 pm47 an47 cd47 ct47), sl47⟩)
    (c47 : PySem.W.codeIn K cd47 "_law_good_row" = true)
    (k47 : PySem.W.keepIn K (.ref f47) = true)
    (a48 : PySem.W.nsIn K mainGlobals "_law_good_rows" = some (some (.ref f48)))
    (l48 : K.lookup f48 = some ⟨oc48, od48, .func (PySem.W.fnOf "_law_good_rows" "_law_good_rows" (defArgs s_law_good_rows) (defBody s_law_good_rows) (defScope s_law_good_rows) .none kV48 dc48 pm48 an48 cd48 ct48), sl48⟩)
    (c48 : PySem.W.codeIn K cd48 "_law_good_rows" = true)
    (k48 : PySem.W.keepIn K (.ref f48) = true)
    (a49 : PySem.W.nsIn K mainGlobals "_law_sum" = some (some (.ref f49)))
    (l49 : K.lookup f49 = some ⟨oc49, od49, .func (PySem.W.fnOf "_law_sum" "_law_sum" (defArgs s_law_sum) (defBody s_law_sum) (defScope s_law_sum) .none kV49 dc49 pm49 an49 cd49 ct49), sl49⟩)
    (c49 : PySem.W.codeIn K cd49 "_law_sum" = true)
    (k49 : PySem.W.keepIn K (.ref f49) = true)
    (a50 : PySem.W.nsIn K mainGlobals "_law_rank" = some (some (.ref f50)))
    (l50 : K.lookup f50 = some ⟨oc50, od50, .func (PySem.W.fnOf "_law_rank" "_law_rank" (defArgs s_law_rank) (defBody s_law_rank) (defScope s_law_rank) .none kV50 dc50 pm50 an50 cd50 ct50), sl50⟩)
    (c50 : PySem.W.codeIn K cd50 "_law_rank" = true)
    (k50 : PySem.W.keepIn K (.ref f50) = true)
    (a51 : PySem.W.nsIn K mainGlobals "_law_prime" = some (some (.ref f51)))
    (l51 : K.lookup f51 = some ⟨oc51, od51, .func (PySem.W.fnOf "_law_prime" "_law_prime" (defArgs s_law_prime) (defBody s_law_prime) (defScope s_law_prime) .none kV51 dc51 pm51 an51 cd51 ct51), sl51⟩)
    (c51 : PySem.W.codeIn K cd51 "_law_prime" = true)
    (k51 : PySem.W.keepIn K (.ref f51) = true)
    (a52 : PySem.W.nsIn K mainGlobals "_law_field" = some (some (.ref f52)))
    (l52 : K.lookup f52 = some ⟨oc52, od52, .func (PySem.W.fnOf "_law_field" "_law_field" (defArgs s_law_field) (defBody s_law_field) (defScope s_law_field) .none kV52 dc52 pm52 an52 cd52 ct52), sl52⟩)
    (c52 : PySem.W.codeIn K cd52 "_law_field" = true)
    (k52 : PySem.W.keepIn K (.ref f52) = true)
    (a53 : PySem.W.nsIn K mainGlobals "_law_tiny" = some (some (.ref f53)))
    (l53 : K.lookup f53 = some ⟨oc53, od53, .func (PySem.W.fnOf "_law_tiny" "_law_tiny" (defArgs s_law_tiny) (defBody s_law_tiny) (defScope s_law_tiny) .none kV53 dc53 pm53 an53 cd53 ct53), sl53⟩)
    (c53 : PySem.W.codeIn K cd53 "_law_tiny" = true)
    (k53 : PySem.W.keepIn K (.ref f53) = true)
    (a54 : PySem.W.nsIn K mainGlobals "_law_number" = some (some (.ref f54)))
    (l54 : K.lookup f54 = some ⟨oc54, od54, .func (PySem.W.fnOf "_law_number" "_law_number" (defArgs s_law_number) (defBody s_law_number) (defScope s_law_number) .none kV54 dc54 pm54 an54 cd54 ct54), sl54⟩)
    (c54 : PySem.W.codeIn K cd54 "_law_number" = true)
    (k54 : PySem.W.keepIn K (.ref f54) = true)
    (a55 : PySem.W.nsIn K mainGlobals "_law_rows" = some (some (.ref f55)))
    (l55 : K.lookup f55 = some ⟨oc55, od55, .func (PySem.W.fnOf "_law_rows" "_law_rows" (defArgs s_law_rows) (defBody s_law_rows) (defScope s_law_rows) .none kV55 dc55 pm55 an55 cd55 ct55), sl55⟩)
    (c55 : PySem.W.codeIn K cd55 "_law_rows" = true)
    (k55 : PySem.W.keepIn K (.ref f55) = true)
    (a56 : PySem.W.nsIn K mainGlobals "_law_right_weights" = some (some (.ref f56)))
    (l56 : K.lookup f56 = some ⟨oc56, od56, .func (PySem.W.fnOf "_law_right_weights" "_law_right_weights" (defArgs s_law_right_weights) (defBody s_law_right_weights) (defScope s_law_right_weights) .none kV56 dc56 pm56 an56 cd56 ct56), sl56⟩)
    (c56 : PySem.W.codeIn K cd56 "_law_right_weights" = true)
    (k56 : PySem.W.keepIn K (.ref f56) = true)
    (a57 : PySem.W.nsIn K mainGlobals "_law_undone" = some (some (.ref f57)))
    (l57 : K.lookup f57 = some ⟨oc57, od57, .func (PySem.W.fnOf "_law_undone" "_law_undone" (defArgs s_law_undone) (defBody s_law_undone) (defScope s_law_undone) .none kV57 dc57 pm57 an57 cd57 ct57), sl57⟩)
    (c57 : PySem.W.codeIn K cd57 "_law_undone" = true)
    (k57 : PySem.W.keepIn K (.ref f57) = true)
    (a58 : PySem.W.nsIn K mainGlobals "law" = some (some (.ref f58)))
    (l58 : K.lookup f58 = some ⟨oc58, od58, .func (PySem.W.fnOf "law" "law" (defArgs s_law) (defBody s_law) (defScope s_law) .none kV58 dc58 pm58 an58 cd58 ct58), sl58⟩)
    (c58 : PySem.W.codeIn K cd58 "law" = true)
    (k58 : PySem.W.keepIn K (.ref f58) = true)
    (z_ValueError : PySem.W.nsIn K mainGlobals "ValueError" = some none)
    (z_abs : PySem.W.nsIn K mainGlobals "abs" = some none)
    (z_any : PySem.W.nsIn K mainGlobals "any" = some none)
    (z_bool : PySem.W.nsIn K mainGlobals "bool" = some none)
    (z_enumerate : PySem.W.nsIn K mainGlobals "enumerate" = some none)
    (z_int : PySem.W.nsIn K mainGlobals "int" = some none)
    (z_isinstance : PySem.W.nsIn K mainGlobals "isinstance" = some none)
    (z_len : PySem.W.nsIn K mainGlobals "len" = some none)
    (z_list : PySem.W.nsIn K mainGlobals "list" = some none)
    (z_range : PySem.W.nsIn K mainGlobals "range" = some none)
    (z_repr : PySem.W.nsIn K mainGlobals "repr" = some none)
    (z_tuple : PySem.W.nsIn K mainGlobals "tuple" = some none)
    (z_zip : PySem.W.nsIn K mainGlobals "zip" = some none)
    (zo_gcd : PySem.W.nsIn K mainGlobals "gcd" = some (some (.builtin "math.gcd")))
    (zc_MOST_PRIME : PySem.W.nsIn K mainGlobals "MOST_PRIME" = some (some (.int 20000 tkc_MOST_PRIME)))
    (w1 : PySem.W.specialIn K (.builtin "object.__class__") "__get__" = some (some (.builtin "getset_descriptor.__get__")))
    (w2 : PySem.W.takesIn K (.builtin "object.__class__") = some true)
    (xt_SheetError : PySem.W.typeIn K (.ref CE_SheetError) = some (.type "type"))
    (xi_SheetError : PySem.W.isClsIn K CE_SheetError = true)
    (xb_SheetError : PySem.W.subIn K (.ref CE_SheetError) (.type "BaseException") = some true)
    (xt_BadPrime : PySem.W.typeIn K (.ref CE_BadPrime) = some (.type "type"))
    (xi_BadPrime : PySem.W.isClsIn K CE_BadPrime = true)
    (xb_BadPrime : PySem.W.subIn K (.ref CE_BadPrime) (.type "BaseException") = some true)
    (xk_BadPrime : PySem.W.keepIn K (.ref CE_BadPrime) = true)
    (x1_BadPrime : PySem.W.findIn K (.ref CE_BadPrime) "__getattribute__" = some (some (.builtin "BaseException.__getattribute__")))
    (x2_BadPrime : PySem.W.findIn K (.ref CE_BadPrime) "__getattr__" = some none)
    (x3_BadPrime : PySem.W.hasDictIn K CE_BadPrime = true)
    (x4_BadPrime : PySem.W.findIn K (.ref CE_BadPrime) "__class__" = some (some (.builtin "object.__class__")))
    (x5_BadPrime : PySem.W.mroIn K CE_BadPrime (.type "object") = some true)
    (xq_BadPrime : PySem.W.excIn K CE_BadPrime [Value.type "ValueError", Value.type "Exception", Value.type "BaseException", Value.type "object"] "ValueError.__new__" = true)
    (xt_ByZero : PySem.W.typeIn K (.ref CE_ByZero) = some (.type "type"))
    (xi_ByZero : PySem.W.isClsIn K CE_ByZero = true)
    (xb_ByZero : PySem.W.subIn K (.ref CE_ByZero) (.type "BaseException") = some true)
    (xk_ByZero : PySem.W.keepIn K (.ref CE_ByZero) = true)
    (x1_ByZero : PySem.W.findIn K (.ref CE_ByZero) "__getattribute__" = some (some (.builtin "BaseException.__getattribute__")))
    (x2_ByZero : PySem.W.findIn K (.ref CE_ByZero) "__getattr__" = some none)
    (x3_ByZero : PySem.W.hasDictIn K CE_ByZero = true)
    (x4_ByZero : PySem.W.findIn K (.ref CE_ByZero) "__class__" = some (some (.builtin "object.__class__")))
    (x5_ByZero : PySem.W.mroIn K CE_ByZero (.type "object") = some true)
    (xq_ByZero : PySem.W.excIn K CE_ByZero [Value.type "ValueError", Value.type "Exception", Value.type "BaseException", Value.type "object"] "ValueError.__new__" = true)
    (xt_NotInvertible : PySem.W.typeIn K (.ref CE_NotInvertible) = some (.type "type"))
    (xi_NotInvertible : PySem.W.isClsIn K CE_NotInvertible = true)
    (xb_NotInvertible : PySem.W.subIn K (.ref CE_NotInvertible) (.type "BaseException") = some true)
    (xk_NotInvertible : PySem.W.keepIn K (.ref CE_NotInvertible) = true)
    (x1_NotInvertible : PySem.W.findIn K (.ref CE_NotInvertible) "__getattribute__" = some (some (.builtin "BaseException.__getattribute__")))
    (x2_NotInvertible : PySem.W.findIn K (.ref CE_NotInvertible) "__getattr__" = some none)
    (x3_NotInvertible : PySem.W.hasDictIn K CE_NotInvertible = true)
    (x4_NotInvertible : PySem.W.findIn K (.ref CE_NotInvertible) "__class__" = some (some (.builtin "object.__class__")))
    (x5_NotInvertible : PySem.W.mroIn K CE_NotInvertible (.type "object") = some true)
    (xq_NotInvertible : PySem.W.excIn K CE_NotInvertible [Value.type "ValueError", Value.type "Exception", Value.type "BaseException", Value.type "object"] "ValueError.__new__" = true)
    (s_BadPrime_SheetError : PySem.W.subIn K (.ref CE_BadPrime) (.ref CE_SheetError) = some true)
    (s_ByZero_SheetError : PySem.W.subIn K (.ref CE_ByZero) (.ref CE_SheetError) = some true)
    (s_NotInvertible_SheetError : PySem.W.subIn K (.ref CE_NotInvertible) (.ref CE_SheetError) = some true)
    (ne_SheetError_NotInvertible : (CE_SheetError == CE_NotInvertible) = false)
    (s_SheetError_NotInvertible : PySem.W.subIn K (.ref CE_SheetError) (.ref CE_NotInvertible) = some false)
    (p1_RestField : PySem.W.plainGet K CC_RestField Str.empty = true)
    (p2_RestField : PySem.W.hasDictIn K CC_RestField = true)
    (p3_RestField : PySem.W.plainOver K CC_RestField = true)
    (p4_RestField : PySem.W.findIn K (.ref CC_RestField) "__setattr__" = some (some (.builtin "object.__setattr__")))
    (p5_RestField : PySem.W.makesIn K CC_RestField = true)
    (p6_RestField : PySem.W.keepIn K (.ref CC_RestField) = true)
    (na_RestField_prime : PySem.W.findIn K (.ref CC_RestField) "prime" = some none)
    (na_RestField_zero : PySem.W.findIn K (.ref CC_RestField) "zero" = some none)
    (na_RestField_one : PySem.W.findIn K (.ref CC_RestField) "one" = some none)
    (na_RestField_minus_one : PySem.W.findIn K (.ref CC_RestField) "minus_one" = some none)
    (p7_RestField : PySem.W.findIn K (.ref CC_RestField) "__class__" = some (some (.builtin "object.__class__")))
    (p8_RestField : PySem.W.mroIn K CC_RestField (.type "object") = some true)
    (p9_RestField : PySem.W.subIn K (.ref CC_RestField) (.ref CC_RestField) = some true)
    (pi_RestField : PySem.W.isClsIn K CC_RestField = true)
    (pt_RestField : PySem.W.typeIn K (.ref CC_RestField) = some (.type "type"))
    (p1_FractionField : PySem.W.plainGet K CC_FractionField Str.empty = true)
    (p2_FractionField : PySem.W.hasDictIn K CC_FractionField = true)
    (p3_FractionField : PySem.W.plainOver K CC_FractionField = true)
    (p4_FractionField : PySem.W.findIn K (.ref CC_FractionField) "__setattr__" = some (some (.builtin "object.__setattr__")))
    (p5_FractionField : PySem.W.makesIn K CC_FractionField = true)
    (p6_FractionField : PySem.W.keepIn K (.ref CC_FractionField) = true)
    (na_FractionField_zero : PySem.W.findIn K (.ref CC_FractionField) "zero" = some none)
    (na_FractionField_one : PySem.W.findIn K (.ref CC_FractionField) "one" = some none)
    (na_FractionField_minus_one : PySem.W.findIn K (.ref CC_FractionField) "minus_one" = some none)
    (p7_FractionField : PySem.W.findIn K (.ref CC_FractionField) "__class__" = some (some (.builtin "object.__class__")))
    (p8_FractionField : PySem.W.mroIn K CC_FractionField (.type "object") = some true)
    (p9_FractionField : PySem.W.subIn K (.ref CC_FractionField) (.ref CC_FractionField) = some true)
    (pi_FractionField : PySem.W.isClsIn K CC_FractionField = true)
    (pt_FractionField : PySem.W.typeIn K (.ref CC_FractionField) = some (.type "type"))
    (so_RestField_FractionField : PySem.W.subIn K (.ref CC_RestField) (.ref CC_FractionField) = some false)
    (no_RestField_FractionField : (CC_RestField == CC_FractionField) = false)
    (so_FractionField_RestField : PySem.W.subIn K (.ref CC_FractionField) (.ref CC_RestField) = some false)
    (no_FractionField_RestField : (CC_FractionField == CC_RestField) = false) :
    ∃ fd : FuncData, (∀ (s : Shared) (v : Value), BindsTo s fd ⟨[v], []⟩ [("_law_script", v)]) ∧ ∀ base : Heap, K.In base → base.Ns mainGlobals mg → TopOk l.prog w K mg base CX0 fa fd ["_law_script"] (sp_law K) := by
  have e := hfa.symm.trans (PySem.W.mg_of X G a58)
  cases e
  have F0 := fun_mk (st := s_beside) l0 c0 k0
  have b0 := F0.binds (ps := ["rows", "others"]) fun _ _ _ _ _ _ us hl => match us, hl with | [_, _], _ => rfl
  have F1 := fun_mk (st := s_columns_of) l1 c1 k1
  have b1 := F1.binds (ps := ["width", "rows"]) fun _ _ _ _ _ _ us hl => match us, hl with | [_, _], _ => rfl
  have F2 := fun_mk (st := s_as_tuples) l2 c2 k2
  have b2 := F2.binds (ps := ["rows"]) fun _ _ _ _ _ _ us hl => match us, hl with | [_], _ => rfl
  have F3 := fun_mk (st := s_product_sum) l3 c3 k3
  have b3 := F3.binds (ps := ["field", "one", "other"]) fun _ _ _ _ _ _ us hl => match us, hl with | [_, _, _], _ => rfl
  have F4 := fun_mk (st := s_unit_row) l4 c4 k4
  have b4 := F4.binds (ps := ["field", "length", "place"]) fun _ _ _ _ _ _ us hl => match us, hl with | [_, _, _], _ => rfl
  have F5 := fun_mk (st := s_columns_as_rows) l5 c5 k5
  have b5 := F5.binds (ps := ["rows"]) fun _ _ _ _ _ _ us hl => match us, hl with | [_], _ => rfl
  have F6 := fun_mk (st := s_rows_product) l6 c6 k6
  have b6 := F6.binds (ps := ["field", "rows", "others"]) fun _ _ _ _ _ _ us hl => match us, hl with | [_, _, _], _ => rfl
  have F7 := fun_mk (st := s_row_less) l7 c7 k7
  have b7 := F7.binds (ps := ["field", "row", "factor", "lead"]) fun _ _ _ _ _ _ us hl => match us, hl with | [_, _, _, _], _ => rfl
  have F8 := fun_mk (st := s_place_of_lead) l8 c8 k8
  have b8 := F8.binds (ps := ["field", "rows", "first", "place"]) fun _ _ _ _ _ _ us hl => match us, hl with | [_, _, _, _], _ => rfl
  have F9 := fun_mk (st := s_reduced_rows) l9 c9 k9
  have b9 := F9.binds (ps := ["field", "rows", "width"]) fun _ _ _ _ _ _ us hl => match us, hl with | [_, _, _], _ => rfl
  have F10 := fun_mk (st := s_rank_of_rows) l10 c10 k10
  have b10 := F10.binds (ps := ["field", "rows"]) fun _ _ _ _ _ _ us hl => match us, hl with | [_, _], _ => rfl
  have F11 := fun_mk (st := s_rows_unbound) l11 c11 k11
  have b11 := F11.binds (ps := ["field", "rows"]) fun _ _ _ _ _ _ us hl => match us, hl with | [_, _], _ => rfl
  have F12 := fun_mk (st := s_equations_for) l12 c12 k12
  have b12 := F12.binds (ps := ["field", "rows", "row"]) fun _ _ _ _ _ _ us hl => match us, hl with | [_, _, _], _ => rfl
  have F13 := fun_mk (st := s_weights_for) l13 c13 k13
  have b13 := F13.binds (ps := ["field", "rows", "row"]) fun _ _ _ _ _ _ us hl => match us, hl with | [_, _, _], _ => rfl
  have F14 := fun_mk (st := s_undoing_rows) l14 c14 k14
  have b14 := F14.binds (ps := ["field", "rows"]) fun _ _ _ _ _ _ us hl => match us, hl with | [_, _], _ => rfl
  have F15 : FunD K "is_whole" "is_whole" (defArgs s_is_whole) (defBody s_is_whole) (defScope s_is_whole) [.non, .non] [] f15 (PySem.W.fnOf "is_whole" "is_whole" (defArgs s_is_whole) (defBody s_is_whole) (defScope s_is_whole) (.ref D15) kV15 dc15 pm15 an15 cd15 ct15) := 
    ⟨⟨oc15, od15, .ref D15, kV15, dc15, pm15, an15, cd15, ct15, sl15, rfl, l15, c15, .inr ⟨by simp, D15, _, [.none, .none], _, rfl, e15, rfl, .cons rfl (.cons rfl .nil)⟩, .inl rfl⟩, k15⟩
  have bq15_0 : Binds K (PySem.W.fnOf "is_whole" "is_whole" (defArgs s_is_whole) (defBody s_is_whole) (defScope s_is_whole) (.ref D15) kV15 dc15 pm15 an15 cd15 ct15) ["thing", "low", "high"] [] := fun s us X hl => by
    match us, hl with
    | [u0, u1, u2], _ => exact BindsTo.of_looks fun M => looks_items (its := #[.none, .none]) X e15 rfl (.of_pure rfl)
  have F16 := fun_mk (st := s_common_divisor) l16 c16 k16
  have b16 := F16.binds (ps := ["one", "other"]) fun _ _ _ _ _ _ us hl => match us, hl with | [_, _], _ => rfl
  have F17 := fun_mk (st := s_power_of) l17 c17 k17
  have b17 := F17.binds (ps := ["base", "exponent"]) fun _ _ _ _ _ _ us hl => match us, hl with | [_, _], _ => rfl
  have F18 := fun_mk (st := s_least_factor) l18 c18 k18
  have b18 := F18.binds (ps := ["number"]) fun _ _ _ _ _ _ us hl => match us, hl with | [_], _ => rfl
  have F19 := fun_mk (st := s_is_prime) l19 c19 k19
  have b19 := F19.binds (ps := ["number"]) fun _ _ _ _ _ _ us hl => match us, hl with | [_], _ => rfl
  have F20 := fun_mk (st := s_RestField_init) l20 c20 k20
  have b20 := F20.binds (ps := ["self", "prime"]) fun _ _ _ _ _ _ us hl => match us, hl with | [_, _], _ => rfl
  have F21 := fun_mk (st := s_RestField_eq) l21 c21 k21
  have b21 := F21.binds (ps := ["self", "other"]) fun _ _ _ _ _ _ us hl => match us, hl with | [_, _], _ => rfl
  have F22 := fun_mk (st := s_RestField_plus) l22 c22 k22
  have b22 := F22.binds (ps := ["self", "one", "other"]) fun _ _ _ _ _ _ us hl => match us, hl with | [_, _, _], _ => rfl
  have F23 := fun_mk (st := s_RestField_less) l23 c23 k23
  have b23 := F23.binds (ps := ["self", "one", "other"]) fun _ _ _ _ _ _ us hl => match us, hl with | [_, _, _], _ => rfl
  have F24 := fun_mk (st := s_RestField_times) l24 c24 k24
  have b24 := F24.binds (ps := ["self", "one", "other"]) fun _ _ _ _ _ _ us hl => match us, hl with | [_, _, _], _ => rfl
  have F25 := fun_mk (st := s_RestField_quotient) l25 c25 k25
  have b25 := F25.binds (ps := ["self", "one", "other"]) fun _ _ _ _ _ _ us hl => match us, hl with | [_, _, _], _ => rfl
  have F26 := fun_mk (st := s_RestField_power) l26 c26 k26
  have b26 := F26.binds (ps := ["self", "number", "exponent"]) fun _ _ _ _ _ _ us hl => match us, hl with | [_, _, _], _ => rfl
  have F27 := fun_mk (st := s_fraction) l27 c27 k27
  have b27 := F27.binds (ps := ["top", "bottom"]) fun _ _ _ _ _ _ us hl => match us, hl with | [_, _], _ => rfl
  have F28 := fun_mk (st := s_FractionField_init) l28 c28 k28
  have b28 := F28.binds (ps := ["self"]) fun _ _ _ _ _ _ us hl => match us, hl with | [_], _ => rfl
  have F29 := fun_mk (st := s_FractionField_eq) l29 c29 k29
  have b29 := F29.binds (ps := ["self", "other"]) fun _ _ _ _ _ _ us hl => match us, hl with | [_, _], _ => rfl
  have F30 := fun_mk (st := s_FractionField_plus) l30 c30 k30
  have b30 := F30.binds (ps := ["self", "one", "other"]) fun _ _ _ _ _ _ us hl => match us, hl with | [_, _, _], _ => rfl
  have F31 := fun_mk (st := s_FractionField_less) l31 c31 k31
  have b31 := F31.binds (ps := ["self", "one", "other"]) fun _ _ _ _ _ _ us hl => match us, hl with | [_, _, _], _ => rfl
  have F32 := fun_mk (st := s_FractionField_times) l32 c32 k32
  have b32 := F32.binds (ps := ["self", "one", "other"]) fun _ _ _ _ _ _ us hl => match us, hl with | [_, _, _], _ => rfl
  have F33 := fun_mk (st := s_FractionField_quotient) l33 c33 k33
  have b33 := F33.binds (ps := ["self", "one", "other"]) fun _ _ _ _ _ _ us hl => match us, hl with | [_, _, _], _ => rfl
  have F34 := fun_mk (st := s_FractionField_power) l34 c34 k34
  have b34 := F34.binds (ps := ["self", "number", "exponent"]) fun _ _ _ _ _ _ us hl => match us, hl with | [_, _, _], _ => rfl
  have F35 := fun_mk (st := s_law_start) l35 c35 k35
  have b35 := F35.binds (ps := ["_law_script"]) fun _ _ _ _ _ _ us hl => match us, hl with | [_], _ => rfl
  have F36 := fun_mk (st := s_law_draw) l36 c36 k36
  have b36 := F36.binds (ps := ["_law_state", "_law_many"]) fun _ _ _ _ _ _ us hl => match us, hl with | [_, _], _ => rfl
  have F37 := fun_mk (st := s_law_whole) l37 c37 k37
  have b37 := F37.binds (ps := ["_law_thing"]) fun _ _ _ _ _ _ us hl => match us, hl with | [_], _ => rfl
  have F38 := fun_mk (st := s_law_gcd) l38 c38 k38
  have b38 := F38.binds (ps := ["_law_one", "_law_other"]) fun _ _ _ _ _ _ us hl => match us, hl with | [_, _], _ => rfl
  have F39 := fun_mk (st := s_law_low) l39 c39 k39
  have b39 := F39.binds (ps := ["_law_top", "_law_bottom"]) fun _ _ _ _ _ _ us hl => match us, hl with | [_, _], _ => rfl
  have F40 := fun_mk (st := s_law_some) l40 c40 k40
  have b40 := F40.binds (ps := ["_law_p", "_law_number_here"]) fun _ _ _ _ _ _ us hl => match us, hl with | [_, _], _ => rfl
  have F41 := fun_mk (st := s_law_plus) l41 c41 k41
  have b41 := F41.binds (ps := ["_law_p", "_law_one", "_law_other"]) fun _ _ _ _ _ _ us hl => match us, hl with | [_, _, _], _ => rfl
  have F42 := fun_mk (st := s_law_times) l42 c42 k42
  have b42 := F42.binds (ps := ["_law_p", "_law_one", "_law_other"]) fun _ _ _ _ _ _ us hl => match us, hl with | [_, _, _], _ => rfl
  have F43 := fun_mk (st := s_law_minus) l43 c43 k43
  have b43 := F43.binds (ps := ["_law_p", "_law_one"]) fun _ _ _ _ _ _ us hl => match us, hl with | [_, _], _ => rfl
  have F44 := fun_mk (st := s_law_over) l44 c44 k44
  have b44 := F44.binds (ps := ["_law_p", "_law_one", "_law_other"]) fun _ _ _ _ _ _ us hl => match us, hl with | [_, _, _], _ => rfl
  have F45 := fun_mk (st := s_law_nought) l45 c45 k45
  have b45 := F45.binds (ps := ["_law_p", "_law_thing"]) fun _ _ _ _ _ _ us hl => match us, hl with | [_, _], _ => rfl
  have F46 := fun_mk (st := s_law_good) l46 c46 k46
  have b46 := F46.binds (ps := ["_law_p", "_law_thing"]) fun _ _ _ _ _ _ us hl => match us, hl with | [_, _], _ => rfl
  have F47 := fun_mk (st := s_law_good_row) l47 c47 k47
  have b47 := F47.binds (ps := ["_law_p", "_law_row", "_law_width"]) fun _ _ _ _ _ _ us hl => match us, hl with | [_, _, _], _ => rfl
  have F48 := fun_mk (st := s_law_good_rows) l48 c48 k48
  have b48 := F48.binds (ps := ["_law_p", "_law_rows_here", "_law_many", "_law_width"]) fun _ _ _ _ _ _ us hl => match us, hl with | [_, _, _, _], _ => rfl
  have F49 := fun_mk (st := s_law_sum) l49 c49 k49
  have b49 := F49.binds (ps := ["_law_p", "_law_weights", "_law_rows_here", "_law_width"]) fun _ _ _ _ _ _ us hl => match us, hl with | [_, _, _, _], _ => rfl
  have F50 := fun_mk (st := s_law_rank) l50 c50 k50
  have b50 := F50.binds (ps := ["_law_p", "_law_rows_here"]) fun _ _ _ _ _ _ us hl => match us, hl with | [_, _], _ => rfl
  have F51 := fun_mk (st := s_law_prime) l51 c51 k51
  have b51 := F51.binds (ps := ["_law_state"]) fun _ _ _ _ _ _ us hl => match us, hl with | [_], _ => rfl
  have F52 := fun_mk (st := s_law_field) l52 c52 k52
  have b52 := F52.binds (ps := ["_law_p"]) fun _ _ _ _ _ _ us hl => match us, hl with | [_], _ => rfl
  have F53 := fun_mk (st := s_law_tiny) l53 c53 k53
  have b53 := F53.binds (ps := ["_law_state", "_law_p"]) fun _ _ _ _ _ _ us hl => match us, hl with | [_, _], _ => rfl
  have F54 := fun_mk (st := s_law_number) l54 c54 k54
  have b54 := F54.binds (ps := ["_law_state", "_law_p"]) fun _ _ _ _ _ _ us hl => match us, hl with | [_, _], _ => rfl
  have F55 := fun_mk (st := s_law_rows) l55 c55 k55
  have b55 := F55.binds (ps := ["_law_state", "_law_p", "_law_many", "_law_width"]) fun _ _ _ _ _ _ us hl => match us, hl with | [_, _, _, _], _ => rfl
  have F56 := fun_mk (st := s_law_right_weights) l56 c56 k56
  have b56 := F56.binds (ps := ["_law_p", "_law_field_here", "_law_rows_here", "_law_row", "_law_due"]) fun _ _ _ _ _ _ us hl => match us, hl with | [_, _, _, _, _], _ => rfl
  have F57 := fun_mk (st := s_law_undone) l57 c57 k57
  have b57 := F57.binds (ps := ["_law_p", "_law_field_here", "_law_rows_here"]) fun _ _ _ _ _ _ us hl => match us, hl with | [_, _, _], _ => rfl
  have F58 := fun_mk (st := s_law) l58 c58 k58
  let T : Txt K mg := { f_beside := f0, d_beside := _, F_beside := F0, b_beside := b0, g_beside := PySem.W.mg_of X G a0, f_columns_of := f1, d_columns_of := _, F_columns_of := F1, b_columns_of := b1, g_columns_of := PySem.W.mg_of X G a1, f_as_tuples := f2, d_as_tuples := _, F_as_tuples := F2, b_as_tuples := b2, g_as_tuples := PySem.W.mg_of X G a2, f_product_sum := f3, d_product_sum := _, F_product_sum := F3, b_product_sum := b3, g_product_sum := PySem.W.mg_of X G a3, f_unit_row := f4, d_unit_row := _, F_unit_row := F4, b_unit_row := b4, g_unit_row := PySem.W.mg_of X G a4, f_columns_as_rows := f5, d_columns_as_rows := _, F_columns_as_rows := F5, b_columns_as_rows := b5, g_columns_as_rows := PySem.W.mg_of X G a5, f_rows_product := f6, d_rows_product := _, F_rows_product := F6, b_rows_product := b6, g_rows_product := PySem.W.mg_of X G a6, f_row_less := f7, d_row_less := _, F_row_less := F7, b_row_less := b7, g_row_less := PySem.W.mg_of X G a7, f_place_of_lead := f8, d_place_of_lead := _, F_place_of_lead := F8, b_place_of_lead := b8, g_place_of_lead := PySem.W.mg_of X G a8, f_reduced_rows := f9, d_reduced_rows := _, F_reduced_rows := F9, b_reduced_rows := b9, g_reduced_rows := PySem.W.mg_of X G a9, f_rank_of_rows := f10, d_rank_of_rows := _, F_rank_of_rows := F10, b_rank_of_rows := b10, g_rank_of_rows := PySem.W.mg_of X G a10, f_rows_unbound := f11, d_rows_unbound := _, F_rows_unbound := F11, b_rows_unbound := b11, g_rows_unbound := PySem.W.mg_of X G a11, f_equations_for := f12, d_equations_for := _, F_equations_for := F12, b_equations_for := b12, g_equations_for := PySem.W.mg_of X G a12, f_weights_for := f13, d_weights_for := _, F_weights_for := F13, b_weights_for := b13, g_weights_for := PySem.W.mg_of X G a13, f_undoing_rows := f14, d_undoing_rows := _, F_undoing_rows := F14, b_undoing_rows := b14, g_undoing_rows := PySem.W.mg_of X G a14, f_is_whole := f15, d_is_whole := _, F_is_whole := F15, b_is_whole := bq15_0, g_is_whole := PySem.W.mg_of X G a15, f_common_divisor := f16, d_common_divisor := _, F_common_divisor := F16, b_common_divisor := b16, g_common_divisor := PySem.W.mg_of X G a16, f_power_of := f17, d_power_of := _, F_power_of := F17, b_power_of := b17, g_power_of := PySem.W.mg_of X G a17, f_least_factor := f18, d_least_factor := _, F_least_factor := F18, b_least_factor := b18, g_least_factor := PySem.W.mg_of X G a18, f_is_prime := f19, d_is_prime := _, F_is_prime := F19, b_is_prime := b19, g_is_prime := PySem.W.mg_of X G a19, f_RestField_init := f20, d_RestField_init := _, F_RestField_init := F20, b_RestField_init := b20, f_RestField_eq := f21, d_RestField_eq := _, F_RestField_eq := F21, b_RestField_eq := b21, f_RestField_plus := f22, d_RestField_plus := _, F_RestField_plus := F22, b_RestField_plus := b22, f_RestField_less := f23, d_RestField_less := _, F_RestField_less := F23, b_RestField_less := b23, f_RestField_times := f24, d_RestField_times := _, F_RestField_times := F24, b_RestField_times := b24, f_RestField_quotient := f25, d_RestField_quotient := _, F_RestField_quotient := F25, b_RestField_quotient := b25, f_RestField_power := f26, d_RestField_power := _, F_RestField_power := F26, b_RestField_power := b26, f_fraction := f27, d_fraction := _, F_fraction := F27, b_fraction := b27, g_fraction := PySem.W.mg_of X G a27, f_FractionField_init := f28, d_FractionField_init := _, F_FractionField_init := F28, b_FractionField_init := b28, f_FractionField_eq := f29, d_FractionField_eq := _, F_FractionField_eq := F29, b_FractionField_eq := b29, f_FractionField_plus := f30, d_FractionField_plus := _, F_FractionField_plus := F30, b_FractionField_plus := b30, f_FractionField_less := f31, d_FractionField_less := _, F_FractionField_less := F31, b_FractionField_less := b31, f_FractionField_times := f32, d_FractionField_times := _, F_FractionField_times := F32, b_FractionField_times := b32, f_FractionField_quotient := f33, d_FractionField_quotient := _, F_FractionField_quotient := F33, b_FractionField_quotient := b33, f_FractionField_power := f34, d_FractionField_power := _, F_FractionField_power := F34, b_FractionField_power := b34, f_law_start := f35, d_law_start := _, F_law_start := F35, b_law_start := b35, g_law_start := PySem.W.mg_of X G a35, f_law_draw := f36, d_law_draw := _, F_law_draw := F36, b_law_draw := b36, g_law_draw := PySem.W.mg_of X G a36, f_law_whole := f37, d_law_whole := _, F_law_whole := F37, b_law_whole := b37, g_law_whole := PySem.W.mg_of X G a37, f_law_gcd := f38, d_law_gcd := _, F_law_gcd := F38, b_law_gcd := b38, g_law_gcd := PySem.W.mg_of X G a38, f_law_low := f39, d_law_low := _, F_law_low := F39, b_law_low := b39, g_law_low := PySem.W.mg_of X G a39, f_law_some := f40, d_law_some := _, F_law_some := F40, b_law_some := b40, g_law_some := PySem.W.mg_of X G a40, f_law_plus := f41, d_law_plus := _, F_law_plus := F41, b_law_plus := b41, g_law_plus := PySem.W.mg_of X G a41, f_law_times := f42, d_law_times := _, F_law_times := F42, b_law_times := b42, g_law_times := PySem.W.mg_of X G a42, f_law_minus := f43, d_law_minus := _, F_law_minus := F43, b_law_minus := b43, g_law_minus := PySem.W.mg_of X G a43, f_law_over := f44, d_law_over := _, F_law_over := F44, b_law_over := b44, g_law_over := PySem.W.mg_of X G a44, f_law_nought := f45, d_law_nought := _, F_law_nought := F45, b_law_nought := b45, g_law_nought := PySem.W.mg_of X G a45, f_law_good := f46, d_law_good := _, F_law_good := F46, b_law_good := b46, g_law_good := PySem.W.mg_of X G a46, f_law_good_row := f47, d_law_good_row := _, F_law_good_row := F47, b_law_good_row := b47, g_law_good_row := PySem.W.mg_of X G a47, f_law_good_rows := f48, d_law_good_rows := _, F_law_good_rows := F48, b_law_good_rows := b48, g_law_good_rows := PySem.W.mg_of X G a48, f_law_sum := f49, d_law_sum := _, F_law_sum := F49, b_law_sum := b49, g_law_sum := PySem.W.mg_of X G a49, f_law_rank := f50, d_law_rank := _, F_law_rank := F50, b_law_rank := b50, g_law_rank := PySem.W.mg_of X G a50, f_law_prime := f51, d_law_prime := _, F_law_prime := F51, b_law_prime := b51, g_law_prime := PySem.W.mg_of X G a51, f_law_field := f52, d_law_field := _, F_law_field := F52, b_law_field := b52, g_law_field := PySem.W.mg_of X G a52, f_law_tiny := f53, d_law_tiny := _, F_law_tiny := F53, b_law_tiny := b53, g_law_tiny := PySem.W.mg_of X G a53, f_law_number := f54, d_law_number := _, F_law_number := F54, b_law_number := b54, g_law_number := PySem.W.mg_of X G a54, f_law_rows := f55, d_law_rows := _, F_law_rows := F55, b_law_rows := b55, g_law_rows := PySem.W.mg_of X G a55, f_law_right_weights := f56, d_law_right_weights := _, F_law_right_weights := F56, b_law_right_weights := b56, g_law_right_weights := PySem.W.mg_of X G a56, f_law_undone := f57, d_law_undone := _, F_law_undone := F57, b_law_undone := b57, g_law_undone := PySem.W.mg_of X G a57, f_law := fa, d_law := _, F_law := F58, m_ValueError := PySem.W.mg_none_of X G z_ValueError, m_abs := PySem.W.mg_none_of X G z_abs, m_any := PySem.W.mg_none_of X G z_any, m_bool := PySem.W.mg_none_of X G z_bool, m_enumerate := PySem.W.mg_none_of X G z_enumerate, m_int := PySem.W.mg_none_of X G z_int, m_isinstance := PySem.W.mg_none_of X G z_isinstance, m_len := PySem.W.mg_none_of X G z_len, m_list := PySem.W.mg_none_of X G z_list, m_range := PySem.W.mg_none_of X G z_range, m_repr := PySem.W.mg_none_of X G z_repr, m_tuple := PySem.W.mg_none_of X G z_tuple, m_zip := PySem.W.mg_none_of X G z_zip, x_gcd := PySem.W.mg_of X G zo_gcd, tk_MOST_PRIME := tkc_MOST_PRIME, c_MOST_PRIME := PySem.W.mg_of X G zc_MOST_PRIME, C_SheetError := CE_SheetError, g_SheetError := PySem.W.mg_of X G h_SheetError, C_BadPrime := CE_BadPrime, g_BadPrime := PySem.W.mg_of X G h_BadPrime, x_BadPrime := ⟨x1_BadPrime, x2_BadPrime, xb_BadPrime, x3_BadPrime⟩, e_BadPrime := ⟨x1_BadPrime, x2_BadPrime, xb_BadPrime, x3_BadPrime, x4_BadPrime, w1, w2, x5_BadPrime⟩, q_BadPrime := xq_BadPrime, k_BadPrime := xk_BadPrime, b_BadPrime := xb_BadPrime, ty_BadPrime := xt_BadPrime, C_ByZero := CE_ByZero, g_ByZero := PySem.W.mg_of X G h_ByZero, x_ByZero := ⟨x1_ByZero, x2_ByZero, xb_ByZero, x3_ByZero⟩, e_ByZero := ⟨x1_ByZero, x2_ByZero, xb_ByZero, x3_ByZero, x4_ByZero, w1, w2, x5_ByZero⟩, q_ByZero := xq_ByZero, k_ByZero := xk_ByZero, b_ByZero := xb_ByZero, ty_ByZero := xt_ByZero, C_NotInvertible := CE_NotInvertible, g_NotInvertible := PySem.W.mg_of X G h_NotInvertible, x_NotInvertible := ⟨x1_NotInvertible, x2_NotInvertible, xb_NotInvertible, x3_NotInvertible⟩, e_NotInvertible := ⟨x1_NotInvertible, x2_NotInvertible, xb_NotInvertible, x3_NotInvertible, x4_NotInvertible, w1, w2, x5_NotInvertible⟩, q_NotInvertible := xq_NotInvertible, k_NotInvertible := xk_NotInvertible, b_NotInvertible := xb_NotInvertible, ty_NotInvertible := xt_NotInvertible, mm_BadPrime_SheetError := own_exm xb_SheetError xi_SheetError xt_SheetError s_BadPrime_SheetError, mm_ByZero_SheetError := own_exm xb_SheetError xi_SheetError xt_SheetError s_ByZero_SheetError, mm_NotInvertible_SheetError := own_exm xb_SheetError xi_SheetError xt_SheetError s_NotInvertible_SheetError, kit_SheetError_NotInvertible := own_kit xi_NotInvertible xt_NotInvertible s_SheetError_NotInvertible (fun z => by rw [ne_SheetError_NotInvertible] at z; cases z), C_RestField := CC_RestField, g_RestField := PySem.W.mg_of X G h_RestField, cl_RestField := ⟨p1_RestField, p2_RestField, p3_RestField, p4_RestField⟩, M_RestField := ⟨p5_RestField, a20, i20, p6_RestField⟩, na_RestField_prime := na_RestField_prime, na_RestField_zero := na_RestField_zero, na_RestField_one := na_RestField_one, na_RestField_minus_one := na_RestField_minus_one, RestField_eq_at := a21, RestField_eq_fn := i21, M_RestField_plus := ⟨a22, i22, k22⟩, M_RestField_less := ⟨a23, i23, k23⟩, M_RestField_times := ⟨a24, i24, k24⟩, M_RestField_quotient := ⟨a25, i25, k25⟩, M_RestField_power := ⟨a26, i26, k26⟩, RestField_k_class := p7_RestField, RestField_k_get := w1, RestField_k_takes := w2, RestField_k_mro := p8_RestField, RestField_k_isp := own_kit pi_RestField pt_RestField p9_RestField (fun _ => rfl), C_FractionField := CC_FractionField, g_FractionField := PySem.W.mg_of X G h_FractionField, cl_FractionField := ⟨p1_FractionField, p2_FractionField, p3_FractionField, p4_FractionField⟩, M_FractionField := ⟨p5_FractionField, a28, i28, p6_FractionField⟩, na_FractionField_zero := na_FractionField_zero, na_FractionField_one := na_FractionField_one, na_FractionField_minus_one := na_FractionField_minus_one, FractionField_eq_at := a29, FractionField_eq_fn := i29, M_FractionField_plus := ⟨a30, i30, k30⟩, M_FractionField_less := ⟨a31, i31, k31⟩, M_FractionField_times := ⟨a32, i32, k32⟩, M_FractionField_quotient := ⟨a33, i33, k33⟩, M_FractionField_power := ⟨a34, i34, k34⟩, FractionField_k_class := p7_FractionField, FractionField_k_get := w1, FractionField_k_takes := w2, FractionField_k_mro := p8_FractionField, FractionField_k_isp := own_kit pi_FractionField pt_FractionField p9_FractionField (fun _ => rfl), kit_RestField_FractionField := own_kit pi_FractionField pt_FractionField so_RestField_FractionField (fun z => by rw [no_RestField_FractionField] at z; cases z), kit_FractionField_RestField := own_kit pi_RestField pt_RestField so_FractionField_RestField (fun z => by rw [no_FractionField_RestField] at z; cases z) }
  exact ⟨_, fun s v => .of_eq rfl, fun base _ _ => ok_law T⟩
end K26
open PySem PySem.W PyProof.Rows
set_option maxHeartbeats 0 in
theorem PySem.Challenge.cw_sheetproofs_k26_whole_ranks_weights_and_holds : PySem.Challenge.rw_sheetproofs_k26_whole_ranks_weights_and.Holds := by
  w_on; o_law; k_head; (case hw => w_witness2)
  k_fill
  refine TkS.walk_top (l := PySem.Challenge.rw_sheetproofs_k26_whole_ranks_weights_and) (n := 63) (x := "_law_script") (CX := fun _ => L2.CX0) (sp := fun w => K26.sp_law _) rfl (by decide) rfl (fun w h Y => PySem.W.kIn_of Y) ?F (fun _ _ a ns hl _ hS => ⟨a, ns, rfl, hS, hl, fun _ => rfl⟩) (fun _ _ _ _ _ h => h)
  case F =>
    intro w mg fa h KX G hmg
    refine' K26.all_mk KX G hmg ?h_SheetError ?h_BadPrime ?h_ByZero ?h_NotInvertible ?h_RestField ?h_FractionField ?a0 ?l0 ?c0 ?k0 ?a1 ?l1 ?c1 ?k1 ?a2 ?l2 ?c2 ?k2 ?a3 ?l3 ?c3 ?k3 ?a4 ?l4 ?c4 ?k4 ?a5 ?l5 ?c5 ?k5 ?a6 ?l6 ?c6 ?k6 ?a7 ?l7 ?c7 ?k7 ?a8 ?l8 ?c8 ?k8 ?a9 ?l9 ?c9 ?k9 ?a10 ?l10 ?c10 ?k10 ?a11 ?l11 ?c11 ?k11 ?a12 ?l12 ?c12 ?k12 ?a13 ?l13 ?c13 ?k13 ?a14 ?l14 ?c14 ?k14 ?a15 ?l15 ?c15 ?k15 ?e15 ?a16 ?l16 ?c16 ?k16 ?a17 ?l17 ?c17 ?k17 ?a18 ?l18 ?c18 ?k18 ?a19 ?l19 ?c19 ?k19 ?a20 ?i20 ?l20 ?c20 ?k20 ?a21 ?i21 ?l21 ?c21 ?k21 ?a22 ?i22 ?l22 ?c22 ?k22 ?a23 ?i23 ?l23 ?c23 ?k23 ?a24 ?i24 ?l24 ?c24 ?k24 ?a25 ?i25 ?l25 ?c25 ?k25 ?a26 ?i26 ?l26 ?c26 ?k26 ?a27 ?l27 ?c27 ?k27 ?a28 ?i28 ?l28 ?c28 ?k28 ?a29 ?i29 ?l29 ?c29 ?k29 ?a30 ?i30 ?l30 ?c30 ?k30 ?a31 ?i31 ?l31 ?c31 ?k31 ?a32 ?i32 ?l32 ?c32 ?k32 ?a33 ?i33 ?l33 ?c33 ?k33 ?a34 ?i34 ?l34 ?c34 ?k34 ?a35 ?l35 ?c35 ?k35 ?a36 ?l36 ?c36 ?k36 ?a37 ?l37 ?c37 ?k37 ?a38 ?l38 ?c38 ?k38 ?a39 ?l39 ?c39 ?k39 ?a40 ?l40 ?c40 ?k40 ?a41 ?l41 ?c41 ?k41 ?a42 ?l42 ?c42 ?k42 ?a43 ?l43 ?c43 ?k43 ?a44 ?l44 ?c44 ?k44 ?a45 ?l45 ?c45 ?k45 ?a46 ?l46 ?c46 ?k46 ?a47 ?l47 ?c47 ?k47 ?a48 ?l48 ?c48 ?k48 ?a49 ?l49 ?c49 ?k49 ?a50 ?l50 ?c50 ?k50 ?a51 ?l51 ?c51 ?k51 ?a52 ?l52 ?c52 ?k52 ?a53 ?l53 ?c53 ?k53 ?a54 ?l54 ?c54 ?k54 ?a55 ?l55 ?c55 ?k55 ?a56 ?l56 ?c56 ?k56 ?a57 ?l57 ?c57 ?k57 ?a58 ?l58 ?c58 ?k58 ?z_ValueError ?z_abs ?z_any ?z_bool ?z_enumerate ?z_int ?z_isinstance ?z_len ?z_list ?z_range ?z_repr ?z_tuple ?z_zip ?zo_gcd ?zc_MOST_PRIME ?w1 ?w2 ?xt_SheetError ?xi_SheetError ?xb_SheetError ?xt_BadPrime ?xi_BadPrime ?xb_BadPrime ?xk_BadPrime ?x1_BadPrime ?x2_BadPrime ?x3_BadPrime ?x4_BadPrime ?x5_BadPrime ?xq_BadPrime ?xt_ByZero ?xi_ByZero ?xb_ByZero ?xk_ByZero ?x1_ByZero ?x2_ByZero ?x3_ByZero ?x4_ByZero ?x5_ByZero ?xq_ByZero ?xt_NotInvertible ?xi_NotInvertible ?xb_NotInvertible ?xk_NotInvertible ?x1_NotInvertible ?x2_NotInvertible ?x3_NotInvertible ?x4_NotInvertible ?x5_NotInvertible ?xq_NotInvertible ?s_BadPrime_SheetError ?s_ByZero_SheetError ?s_NotInvertible_SheetError ?ne_SheetError_NotInvertible ?s_SheetError_NotInvertible ?p1_RestField ?p2_RestField ?p3_RestField ?p4_RestField ?p5_RestField ?p6_RestField ?na_RestField_prime ?na_RestField_zero ?na_RestField_one ?na_RestField_minus_one ?p7_RestField ?p8_RestField ?p9_RestField ?pi_RestField ?pt_RestField ?p1_FractionField ?p2_FractionField ?p3_FractionField ?p4_FractionField ?p5_FractionField ?p6_FractionField ?na_FractionField_zero ?na_FractionField_one ?na_FractionField_minus_one ?p7_FractionField ?p8_FractionField ?p9_FractionField ?pi_FractionField ?pt_FractionField ?so_RestField_FractionField ?no_RestField_FractionField ?so_FractionField_RestField ?no_FractionField_RestField
    (case h_SheetError => k_is); (case h_BadPrime => k_is); (case h_ByZero => k_is); (case h_NotInvertible => k_is); (case h_RestField => k_is); (case h_FractionField => k_is); (case a0 => k_is); (case l0 => k_is); (case c0 => k_is); (case k0 => k_is); (case a1 => k_is); (case l1 => k_is); (case c1 => k_is); (case k1 => k_is); (case a2 => k_is); (case l2 => k_is); (case c2 => k_is); (case k2 => k_is); (case a3 => k_is); (case l3 => k_is); (case c3 => k_is); (case k3 => k_is); (case a4 => k_is); (case l4 => k_is); (case c4 => k_is); (case k4 => k_is); (case a5 => k_is); (case l5 => k_is); (case c5 => k_is); (case k5 => k_is); (case a6 => k_is); (case l6 => k_is); (case c6 => k_is); (case k6 => k_is); (case a7 => k_is); (case l7 => k_is); (case c7 => k_is); (case k7 => k_is); (case a8 => k_is); (case l8 => k_is); (case c8 => k_is); (case k8 => k_is); (case a9 => k_is); (case l9 => k_is); (case c9 => k_is); (case k9 => k_is); (case a10 => k_is); (case l10 => k_is); (case c10 => k_is); (case k10 => k_is); (case a11 => k_is); (case l11 => k_is); (case c11 => k_is); (case k11 => k_is); (case a12 => k_is); (case l12 => k_is); (case c12 => k_is); (case k12 => k_is); (case a13 => k_is); (case l13 => k_is); (case c13 => k_is); (case k13 => k_is); (case a14 => k_is); (case l14 => k_is); (case c14 => k_is); (case k14 => k_is); (case a15 => k_is); (case l15 => k_is); (case c15 => k_is); (case k15 => k_is); (case e15 => k_is); (case a16 => k_is); (case l16 => k_is); (case c16 => k_is); (case k16 => k_is); (case a17 => k_is); (case l17 => k_is); (case c17 => k_is); (case k17 => k_is); (case a18 => k_is); (case l18 => k_is); (case c18 => k_is); (case k18 => k_is); (case a19 => k_is); (case l19 => k_is); (case c19 => k_is); (case k19 => k_is); (case a20 => k_is); (case i20 => k_is); (case l20 => k_is); (case c20 => k_is); (case k20 => k_is); (case a21 => k_is); (case i21 => k_is); (case l21 => k_is); (case c21 => k_is); (case k21 => k_is); (case a22 => k_is); (case i22 => k_is); (case l22 => k_is); (case c22 => k_is); (case k22 => k_is); (case a23 => k_is); (case i23 => k_is); (case l23 => k_is); (case c23 => k_is); (case k23 => k_is); (case a24 => k_is); (case i24 => k_is); (case l24 => k_is); (case c24 => k_is); (case k24 => k_is); (case a25 => k_is); (case i25 => k_is); (case l25 => k_is); (case c25 => k_is); (case k25 => k_is); (case a26 => k_is); (case i26 => k_is); (case l26 => k_is); (case c26 => k_is); (case k26 => k_is); (case a27 => k_is); (case l27 => k_is); (case c27 => k_is); (case k27 => k_is); (case a28 => k_is); (case i28 => k_is); (case l28 => k_is); (case c28 => k_is); (case k28 => k_is); (case a29 => k_is); (case i29 => k_is); (case l29 => k_is); (case c29 => k_is); (case k29 => k_is); (case a30 => k_is); (case i30 => k_is); (case l30 => k_is); (case c30 => k_is); (case k30 => k_is); (case a31 => k_is); (case i31 => k_is); (case l31 => k_is); (case c31 => k_is); (case k31 => k_is); (case a32 => k_is); (case i32 => k_is); (case l32 => k_is); (case c32 => k_is); (case k32 => k_is); (case a33 => k_is); (case i33 => k_is); (case l33 => k_is); (case c33 => k_is); (case k33 => k_is); (case a34 => k_is); (case i34 => k_is); (case l34 => k_is); (case c34 => k_is); (case k34 => k_is); (case a35 => k_is); (case l35 => k_is); (case c35 => k_is); (case k35 => k_is); (case a36 => k_is); (case l36 => k_is); (case c36 => k_is); (case k36 => k_is); (case a37 => k_is); (case l37 => k_is); (case c37 => k_is); (case k37 => k_is); (case a38 => k_is); (case l38 => k_is); (case c38 => k_is); (case k38 => k_is); (case a39 => k_is); (case l39 => k_is); (case c39 => k_is); (case k39 => k_is); (case a40 => k_is); (case l40 => k_is); (case c40 => k_is); (case k40 => k_is); (case a41 => k_is); (case l41 => k_is); (case c41 => k_is); (case k41 => k_is); (case a42 => k_is); (case l42 => k_is); (case c42 => k_is); (case k42 => k_is); (case a43 => k_is); (case l43 => k_is); (case c43 => k_is); (case k43 => k_is); (case a44 => k_is); (case l44 => k_is); (case c44 => k_is); (case k44 => k_is); (case a45 => k_is); (case l45 => k_is); (case c45 => k_is); (case k45 => k_is); (case a46 => k_is); (case l46 => k_is); (case c46 => k_is); (case k46 => k_is); (case a47 => k_is); (case l47 => k_is); (case c47 => k_is); (case k47 => k_is); (case a48 => k_is); (case l48 => k_is); (case c48 => k_is); (case k48 => k_is); (case a49 => k_is); (case l49 => k_is); (case c49 => k_is); (case k49 => k_is); (case a50 => k_is); (case l50 => k_is); (case c50 => k_is); (case k50 => k_is); (case a51 => k_is); (case l51 => k_is); (case c51 => k_is); (case k51 => k_is); (case a52 => k_is); (case l52 => k_is); (case c52 => k_is); (case k52 => k_is); (case a53 => k_is); (case l53 => k_is); (case c53 => k_is); (case k53 => k_is); (case a54 => k_is); (case l54 => k_is); (case c54 => k_is); (case k54 => k_is); (case a55 => k_is); (case l55 => k_is); (case c55 => k_is); (case k55 => k_is); (case a56 => k_is); (case l56 => k_is); (case c56 => k_is); (case k56 => k_is); (case a57 => k_is); (case l57 => k_is); (case c57 => k_is); (case k57 => k_is); (case a58 => k_is); (case l58 => k_is); (case c58 => k_is); (case k58 => k_is); (case z_ValueError => k_is); (case z_abs => k_is); (case z_any => k_is); (case z_bool => k_is); (case z_enumerate => k_is); (case z_int => k_is); (case z_isinstance => k_is); (case z_len => k_is); (case z_list => k_is); (case z_range => k_is); (case z_repr => k_is); (case z_tuple => k_is); (case z_zip => k_is); (case zo_gcd => k_is); (case zc_MOST_PRIME => k_is); (case w1 => k_is); (case w2 => k_is); (case xt_SheetError => k_is); (case xi_SheetError => k_is); (case xb_SheetError => k_is); (case xt_BadPrime => k_is); (case xi_BadPrime => k_is); (case xb_BadPrime => k_is); (case xk_BadPrime => k_is); (case x1_BadPrime => k_is); (case x2_BadPrime => k_is); (case x3_BadPrime => k_is); (case x4_BadPrime => k_is); (case x5_BadPrime => k_is); (case xq_BadPrime => k_exc); (case xt_ByZero => k_is); (case xi_ByZero => k_is); (case xb_ByZero => k_is); (case xk_ByZero => k_is); (case x1_ByZero => k_is); (case x2_ByZero => k_is); (case x3_ByZero => k_is); (case x4_ByZero => k_is); (case x5_ByZero => k_is); (case xq_ByZero => k_exc); (case xt_NotInvertible => k_is); (case xi_NotInvertible => k_is); (case xb_NotInvertible => k_is); (case xk_NotInvertible => k_is); (case x1_NotInvertible => k_is); (case x2_NotInvertible => k_is); (case x3_NotInvertible => k_is); (case x4_NotInvertible => k_is); (case x5_NotInvertible => k_is); (case xq_NotInvertible => k_exc); (case s_BadPrime_SheetError => k_is); (case s_ByZero_SheetError => k_is); (case s_NotInvertible_SheetError => k_is); (case ne_SheetError_NotInvertible => decide); (case s_SheetError_NotInvertible => k_is); (case p1_RestField => k_is); (case p2_RestField => k_is); (case p3_RestField => k_is); (case p4_RestField => k_is); (case p5_RestField => k_is); (case p6_RestField => k_is); (case na_RestField_prime => k_is); (case na_RestField_zero => k_is); (case na_RestField_one => k_is); (case na_RestField_minus_one => k_is); (case p7_RestField => k_is); (case p8_RestField => k_is); (case p9_RestField => first | rfl | k_is); (case pi_RestField => k_is); (case pt_RestField => k_is); (case p1_FractionField => k_is); (case p2_FractionField => k_is); (case p3_FractionField => k_is); (case p4_FractionField => k_is); (case p5_FractionField => k_is); (case p6_FractionField => k_is); (case na_FractionField_zero => k_is); (case na_FractionField_one => k_is); (case na_FractionField_minus_one => k_is); (case p7_FractionField => k_is); (case p8_FractionField => k_is); (case p9_FractionField => first | rfl | k_is); (case pi_FractionField => k_is); (case pt_FractionField => k_is); (case so_RestField_FractionField => k_is); (case no_RestField_FractionField => decide); (case so_FractionField_RestField => k_is); (case no_FractionField_RestField => decide)

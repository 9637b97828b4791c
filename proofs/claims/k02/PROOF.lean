import PyProof.Rows.All
import HandS.ForMost
import HandS.Zip
import HandS.Walk
import HandS.Deep
import HandS.Strs
import HandS.ExcIs
import HandS.ExcField
import PyProof.Rows.ReprR
import HandS.Exc
import HandS.ExcOwn
import HandS.CallSlots
import HandS.OwnEq
import HandS.IsInst
import HandS.Conv
import HandS.TupAny
import HandS.TupSets
import HandS.TryMany
import HandS.Ends
import HandS.Rev
import PyProof.ListNew
import HandS.List
import HandS.WordsExc
import HandS.ExcInit
import HandS.ExcInitHot
import HandS.SuiteRaise
import HandS.Iter
import KE.GoesEnum
import HandS.SortInts
import HandS.TupMul
import PyProof.P3Eq
import HandS.Defaults
import HandS.Style
import HandS.SortRule
import HandS.Property
import HandS.Evl
import HandS.Wide
import KE.Datum
import HandS.TryOnly
import HandS.HeadEnd
import PySem.Challenge.RW_sheetproofs_k02_whole_rings_tours_and_tu
set_option Elab.async false
set_option linter.all false
set_option maxRecDepth 100000
set_option maxHeartbeats 4000000
/-! zip of two sequences, each a list or a tuple -/
namespace RZM
open PySem
open PySem.Sem (wp)
def SIter (t : Bool) (h : Heap) (it l : Addr) (i : Nat) : Prop := match t with
  | true => h.IsTupleIter it l i
  | false => h.IsListIter it l i
def SSeq (t : Bool) (h : Heap) (l : Addr) (xs : Array Value) : Prop := match t with
  | true => h.IsTuple l xs
  | false => h.IsList l xs
def itName (t : Bool) : String := match t with
  | true => "tuple_iterator"
  | false => "list_iterator"
section
variable {t : Bool} {h h' : Heap} {a b l : Addr} {i : Nat} {xs : Array Value}
theorem SIter.extBut (x : SIter t h a l i) (hs : Heap.ExtBut b h h') (hab : a ≠ b) : SIter t h' a l i := by
  cases t with
  | true => exact Heap.IsTupleIter.extBut x hs hab
  | false => exact Heap.IsListIter.extBut x hs hab
theorem SSeq.extBut (x : SSeq t h a xs) (hs : Heap.ExtBut b h h') (hab : a ≠ b) : SSeq t h' a xs := by
  cases t with
  | true => exact Heap.IsTuple.extBut x hs hab
  | false => exact Heap.IsList.extBut x hs hab
theorem SIter.at (x : SIter t h a l i) (e : ∀ o, h.get? a = some o → h'.get? a = some o) : SIter t h' a l i := by
  cases t with
  | true => exact Heap.IsTupleIter.at x e
  | false => exact Heap.IsListIter.at x e
theorem SIter.obj (x : SIter t h a l i) : ∃ o, h.get? a = some o ∧ ∀ v, o.data ≠ .cell v := by
  cases t with
  | true =>
    obtain ⟨o, e, _, d⟩ := (show h.IsTupleIter a l i from x)
    exact ⟨o, e, fun v z => by rw [d] at z; cases z⟩
  | false =>
    obtain ⟨o, e, _, d⟩ := (show h.IsListIter a l i from x)
    exact ⟨o, e, fun v z => by rw [d] at z; cases z⟩
theorem SIter.lt (x : SIter t h a l i) : a < h.objs.size := by
  obtain ⟨o, e, _⟩ := x.obj
  exact Heap.lt_size e
theorem SSeq.lt (x : SSeq t h a xs) : a < h.objs.size := by
  cases t with
  | true =>
    obtain ⟨o, e, _⟩ := (show h.IsTuple a xs from x)
    exact Heap.lt_size e
  | false =>
    obtain ⟨o, e, _⟩ := (show h.IsList a xs from x)
    exact Heap.lt_size e
end
section
variable {prog : Program} {w : World} {A : Around} {E : Value → Shared → Prop} {s : Shared}
theorem nextOf_S_item {t : Bool} {it l : Addr} {i : Nat} {items : Array Value} {x : Value} {Q : Value → Shared → Prop} (hit : SIter t s.heap it l i) (hl : SSeq t s.heap l items) (hx : items[i]? = some x)
    (hQ : ∀ h', SIter t h' it l (i + 1) → Heap.SameBut it s.heap h' → Q x { s with heap := h' }) : wpAny (model prog w) A (Builtin.SmallTypes.nextOf (.ref it)) Q E s := by
  cases t with
  | true => exact RZ.nextOf_tuple_item hit hl hx hQ
  | false => exact wpAny_nextOf_list_item hit hl hx hQ
theorem nextOf_S_end {t : Bool} {it l : Addr} {i : Nat} {items : Array Value} {Q : Value → Shared → Prop} (hh : A.handled = none) (hit : SIter t s.heap it l i) (hl : SSeq t s.heap l items) (hx : items[i]? = none)
    (hE : ∀ h' e, Heap.ExtBut it s.heap h' → (∃ o, h'.get? e = some o ∧ o.cls = .type "StopIteration") → E (.ref e) { s with heap := h' }) : wpAny (model prog w) A (Builtin.SmallTypes.nextOf (.ref it)) Q E s := by
  cases t with
  | true => exact RZ.nextOf_tuple_end hh hit hl hx hE
  | false => exact wpAny_nextOf_list_end hh hit hl hx hE
theorem zipS_next_item {t1 t2 : Bool} {z TI TO i1 i2 l1 l2 : Addr} {k1 k2 : Nat} {xs ys : Array Value} {x y a b : Value} {Q : Value → Shared → Prop} (D : ZipApart z TI TO i1 i2 l1 l2)
    (hz : IsZip s.heap z TI TO .none) (hTI : IsPair s.heap TI (.ref i1) (.ref i2)) (hTO : IsPair s.heap TO a b)
    (h1 : SIter t1 s.heap i1 l1 k1) (h2 : SIter t2 s.heap i2 l2 k2) (hl1 : SSeq t1 s.heap l1 xs) (hl2 : SSeq t2 s.heap l2 ys) (hx : xs[k1]? = some x) (hy : ys[k2]? = some y)
    (hQ : ∀ h', IsZip h' z TI TO (rawInt s.heap.objs.size) → IsPair h' TO x y → SIter t1 h' i1 l1 (k1 + 1) → SIter t2 h' i2 l2 (k2 + 1) → IsPair h' s.heap.objs.size x y → h'.objs.size = s.heap.objs.size + 1 →
      (∀ c o, c ≠ z → c ≠ TO → c ≠ i1 → c ≠ i2 → s.heap.get? c = some o → h'.get? c = some o) → Q (.ref s.heap.objs.size) { s with heap := h' }) :
    wpAny (model prog w) A (Builtin.«zip.__next__» ⟨[.ref z], []⟩) (fun fin s' => ∃ v, fin = .done (.ret v) ∧ Q v s') E s := by
  show wpAny _ _ (field (.ref z) 2 >>= _) _ _ _
  refine wpAny_bind (wpAny_field hz rfl (x := .bool false) rfl ?_)
  show wpAny _ _ (field (.ref z) 3 >>= _) _ _ _
  refine wpAny_bind (wpAny_field hz rfl (x := .ref TI) rfl ?_)
  refine wpAny_bind (wpAny_seqItems hTI rfl ?_)
  show wpAny _ _ (Builtin.SmallTypes.ownedTupleIsFree (.ref z) >>= _) _ _ _
  refine wpAny_bind ?_
  unfold Builtin.SmallTypes.ownedTupleIsFree
  refine wpAny_bind (wpAny_field hz rfl (x := .none) rfl (wpAny_pure ?_))
  simp only [if_true]
  refine wpAny_bind (wpAny_rule ?_)
  refine wpAny_bind (wpAny_field hz rfl (x := .ref TO) rfl ?_)
  refine wpAny_bind (wpAny_setField_rec hz (by simp) fun h₁ hz₁ hs₁ => ?_)
  replace hz₁ : IsZip h₁ z TI TO .ellipsis := hz₁
  refine wpAny_bind ?_
  simp only [List.zipIdx_cons, List.zipIdx_nil, List.forIn_cons, List.forIn_nil]

  refine wpAny_bind (wpAny_bind (wpAny_onRaise ?_))
  show wpAny _ _ (Builtin.SmallTypes.nextOf (.ref i1) >>= _) _ _ _
  refine wpAny_bind (nextOf_S_item (h1.extBut hs₁.extBut D.i1z) (hl1.extBut hs₁.extBut D.l1z) hx fun h₂ h1₂ hs₂ => wpAny_pure ?_)
  have hTO₂ : IsPair h₂ TO a b := hs₂.extBut _ _ D.TOi1 (hs₁.extBut _ _ D.TOz hTO)
  refine wpAny_bind (wpAny_seqItems hTO₂ rfl ?_)
  refine wpAny_bind (wpAny_updateSeq_pair hTO₂ fun h₃ hTO₃ hs₃ => ?_)
  replace hTO₃ : IsPair h₃ TO x b := hTO₃
  refine wpAny_bind (wpAny_letGo (wpAny_pure ?_))

  refine wpAny_bind (wpAny_bind (wpAny_onRaise ?_))
  show wpAny _ _ (Builtin.SmallTypes.nextOf (.ref i2) >>= _) _ _ _
  refine wpAny_bind (nextOf_S_item (((h2.extBut hs₁.extBut D.i2z).extBut hs₂.extBut D.i12.symm).extBut hs₃.extBut D.TOi2.symm)
    (((hl2.extBut hs₁.extBut D.l2z).extBut hs₂.extBut D.l2i1).extBut hs₃.extBut D.l2TO) hy fun h₄ h2₄ hs₄ => wpAny_pure ?_)
  have hTO₄ : IsPair h₄ TO x b := hs₄.extBut _ _ D.TOi2 hTO₃
  refine wpAny_bind (wpAny_seqItems hTO₄ rfl ?_)
  refine wpAny_bind (wpAny_updateSeq_pair hTO₄ fun h₅ hTO₅ hs₅ => ?_)
  replace hTO₅ : IsPair h₅ TO x y := hTO₅
  refine wpAny_bind (wpAny_letGo (wpAny_pure (wpAny_pure ?_)))

  refine wpAny_bind (wpAny_seqItems hTO₅ rfl ?_)
  refine wpAny_bind (wpAny_newTuple ?_)
  have hsz : h₅.objs.size = s.heap.objs.size := by rw [hs₅.1, hs₄.1, hs₃.1, hs₂.1, hs₁.1]
  have hz₅ : IsZip h₅ z TI TO .ellipsis := hs₅.extBut _ _ D.TOz.symm (hs₄.extBut _ _ D.i2z.symm (hs₃.extBut _ _ D.TOz.symm (hs₂.extBut _ _ D.i1z.symm hz₁)))
  have hk₅ : ∀ c o, c ≠ z → c ≠ TO → c ≠ i1 → c ≠ i2 → s.heap.get? c = some o → h₅.get? c = some o := fun c o c1 c2 c3 c4 e =>
    hs₅.extBut _ _ c2 (hs₄.extBut _ _ c4 (hs₃.extBut _ _ c2 (hs₂.extBut _ _ c3 (hs₁.extBut _ _ c1 e))))
  have h1₅ : SIter t1 h₅ i1 l1 (k1 + 1) := ((h1₂.extBut hs₃.extBut D.TOi1.symm).extBut hs₄.extBut D.i12).extBut hs₅.extBut D.TOi1.symm
  have h2₅ : SIter t2 h₅ i2 l2 (k2 + 1) := h2₄.extBut hs₅.extBut D.TOi2.symm
  have hzlt : z < h₅.objs.size := Heap.lt_size hz₅
  have hTOlt : TO < h₅.objs.size := Heap.lt_size hTO₅
  have hi1lt : i1 < h₅.objs.size := by exact h1₅.lt
  have hi2lt : i2 < h₅.objs.size := by exact h2₅.lt
  show wpAny _ _ (Builtin.SmallTypes.ownedTupleHandOut (.ref z) (.ref h₅.objs.size) >>= _) _ _ _
  refine wpAny_bind ?_
  unfold Builtin.SmallTypes.ownedTupleHandOut
  have hz₆ : IsZip (h₅.push { cls := .type "tuple", data := .seq #[x, y] }) z TI TO .ellipsis := Heap.get?_push_of_some _ hz₅
  refine wpAny_bind (wpAny_setField_rec hz₆ (by simp) fun h₇ hz₇ hs₇ => ?_)
  replace hz₇ : IsZip h₇ z TI TO (rawInt h₅.objs.size) := hz₇
  refine wpAny_setField_rec hz₇ (by simp) fun h₈ hz₈ hs₈ => ?_
  replace hz₈ : IsZip h₈ z TI TO (rawInt h₅.objs.size) := hz₈
  have up : ∀ c o, c ≠ z → h₅.get? c = some o → h₈.get? c = some o := fun c o c1 e => hs₈.extBut _ _ c1 (hs₇.extBut _ _ c1 (Heap.get?_push_of_some _ e))
  have hT₈ : IsPair h₈ h₅.objs.size x y := hs₈.extBut _ _ (Nat.ne_of_gt hzlt) (hs₇.extBut _ _ (Nat.ne_of_gt hzlt) (Heap.get?_push_size _ rfl))
  have hz8 : h₈.objs.size = h₅.objs.size + 1 := by rw [hs₈.1, hs₇.1, Heap.size_push]
  rw [hsz] at hz₈ hT₈ hz8
  refine wpAny_pure ⟨_, rfl, ?_⟩
  show Q (.ref h₅.objs.size) _
  rw [hsz]
  exact hQ h₈ hz₈ (up _ _ D.TOz hTO₅) (h1₅.at fun o e => up _ o D.i1z e) (h2₅.at fun o e => up _ o D.i2z e) hT₈ hz8 fun c o c1 c2 c3 c4 e => up c o c1 (hk₅ c o c1 c2 c3 c4 e)

theorem zipS_next_end {t1 t2 : Bool} {z TI TO i1 i2 l1 l2 : Addr} {k1 k2 : Nat} {xs ys : Array Value} {a b : Value} {Q : Fin → Shared → Prop} (hh : A.handled = none) (D : ZipApart z TI TO i1 i2 l1 l2)
    (hz : IsZip s.heap z TI TO .none) (hTI : IsPair s.heap TI (.ref i1) (.ref i2)) (hTO : IsPair s.heap TO a b)
    (h1 : SIter t1 s.heap i1 l1 k1) (h2 : SIter t2 s.heap i2 l2 k2) (hl1 : SSeq t1 s.heap l1 xs) (hl2 : SSeq t2 s.heap l2 ys) (hend : xs[k1]? = none ∨ ys[k2]? = none)
    (hE : ∀ h' e, (∀ c o, c ≠ z → c ≠ TO → c ≠ i1 → c ≠ i2 → s.heap.get? c = some o → h'.get? c = some o) → (∃ o, h'.get? e = some o ∧ o.cls = .type "StopIteration") → E (.ref e) { s with heap := h' }) :
    wpAny (model prog w) A (Builtin.«zip.__next__» ⟨[.ref z], []⟩) Q E s := by
  show wpAny _ _ (field (.ref z) 2 >>= _) _ _ _
  refine wpAny_bind (wpAny_field hz rfl (x := .bool false) rfl ?_)
  show wpAny _ _ (field (.ref z) 3 >>= _) _ _ _
  refine wpAny_bind (wpAny_field hz rfl (x := .ref TI) rfl ?_)
  refine wpAny_bind (wpAny_seqItems hTI rfl ?_)
  show wpAny _ _ (Builtin.SmallTypes.ownedTupleIsFree (.ref z) >>= _) _ _ _
  refine wpAny_bind ?_
  unfold Builtin.SmallTypes.ownedTupleIsFree
  refine wpAny_bind (wpAny_field hz rfl (x := .none) rfl (wpAny_pure ?_))
  simp only [if_true]
  refine wpAny_bind (wpAny_rule ?_)
  refine wpAny_bind (wpAny_field hz rfl (x := .ref TO) rfl ?_)
  refine wpAny_bind (wpAny_setField_rec hz (by simp) fun h₁ hz₁ hs₁ => ?_)
  replace hz₁ : IsZip h₁ z TI TO .ellipsis := hz₁
  refine wpAny_bind ?_
  simp only [List.zipIdx_cons, List.zipIdx_nil, List.forIn_cons, List.forIn_nil]
  refine wpAny_bind (wpAny_bind (wpAny_onRaise ?_))
  show wpAny _ _ (Builtin.SmallTypes.nextOf (.ref i1) >>= _) _ _ _
  cases hx : xs[k1]? with
  | none =>
    refine wpAny_bind (nextOf_S_end hh (h1.extBut hs₁.extBut D.i1z) (hl1.extBut hs₁.extBut D.l1z) hx fun h₂ e hs₂ he => ?_)
    obtain ⟨oe, hoe, hce⟩ := he
    have hz₂ : IsZip h₂ z TI TO .ellipsis := hs₂ _ _ D.i1z.symm hz₁
    have hez : e ≠ z := fun x => by subst x; rw [hz₂] at hoe; cases hoe; simp at hce
    refine wpAny_setField_rec hz₂ (by simp) fun h₃ _ hs₃ => hE h₃ e (fun c o c1 _ c3 _ x => hs₃.extBut _ _ c1 (hs₂ _ _ c3 (hs₁.extBut _ _ c1 x))) ⟨oe, hs₃.extBut _ _ hez hoe, hce⟩
  | some x =>
    have hy : ys[k2]? = none := by rcases hend with h | h; rw [hx] at h; cases h; exact h
    refine wpAny_bind (nextOf_S_item (h1.extBut hs₁.extBut D.i1z) (hl1.extBut hs₁.extBut D.l1z) hx fun h₂ h1₂ hs₂ => wpAny_pure ?_)
    have hTO₂ : IsPair h₂ TO a b := hs₂.extBut _ _ D.TOi1 (hs₁.extBut _ _ D.TOz hTO)
    refine wpAny_bind (wpAny_seqItems hTO₂ rfl ?_)
    refine wpAny_bind (wpAny_updateSeq_pair hTO₂ fun h₃ hTO₃ hs₃ => ?_)
    refine wpAny_bind (wpAny_letGo (wpAny_pure ?_))
    refine wpAny_bind (wpAny_bind (wpAny_onRaise ?_))
    show wpAny _ _ (Builtin.SmallTypes.nextOf (.ref i2) >>= _) _ _ _
    refine wpAny_bind (nextOf_S_end hh (((h2.extBut hs₁.extBut D.i2z).extBut hs₂.extBut D.i12.symm).extBut hs₃.extBut D.TOi2.symm)
      (((hl2.extBut hs₁.extBut D.l2z).extBut hs₂.extBut D.l2i1).extBut hs₃.extBut D.l2TO) hy fun h₄ e hs₄ he => ?_)
    obtain ⟨oe, hoe, hce⟩ := he
    have hz₄ : IsZip h₄ z TI TO .ellipsis := hs₄ _ _ D.i2z.symm (hs₃.extBut _ _ D.TOz.symm (hs₂.extBut _ _ D.i1z.symm hz₁))
    have hez : e ≠ z := fun x => by subst x; rw [hz₄] at hoe; cases hoe; simp at hce
    refine wpAny_setField_rec hz₄ (by simp) fun h₅ _ hs₅ => hE h₅ e (fun c o c1 c2 c3 c4 x => hs₅.extBut _ _ c1 (hs₄ _ _ c4 (hs₃.extBut _ _ c2 (hs₂.extBut _ _ c3 (hs₁.extBut _ _ c1 x))))) ⟨oe, hs₅.extBut _ _ hez hoe, hce⟩

theorem pyNext_zipS_item {t1 t2 : Bool} {z TI TO i1 i2 l1 l2 : Addr} {k1 k2 : Nat} {xs ys : Array Value} {x y a b : Value} {Q : Option Value → Shared → Prop} (D : ZipApart z TI TO i1 i2 l1 l2)
    (hz : IsZip s.heap z TI TO .none) (hTI : IsPair s.heap TI (.ref i1) (.ref i2)) (hTO : IsPair s.heap TO a b)
    (h1 : SIter t1 s.heap i1 l1 k1) (h2 : SIter t2 s.heap i2 l2 k2) (hl1 : SSeq t1 s.heap l1 xs) (hl2 : SSeq t2 s.heap l2 ys) (hx : xs[k1]? = some x) (hy : ys[k2]? = some y)
    (hQ : ∀ h', IsZip h' z TI TO (rawInt s.heap.objs.size) → IsPair h' TO x y → SIter t1 h' i1 l1 (k1 + 1) → SIter t2 h' i2 l2 (k2 + 1) → IsPair h' s.heap.objs.size x y → h'.objs.size = s.heap.objs.size + 1 →
      (∀ c o, c ≠ z → c ≠ TO → c ≠ i1 → c ≠ i2 → s.heap.get? c = some o → h'.get? c = some o) → Q (some (.ref s.heap.objs.size)) { s with heap := h' }) :
    wpAny (model prog w) A (pyNext (.ref z)) Q E s := by
  have hT : s.TypeIs (.ref z) "zip" := ⟨_, hz, rfl⟩
  unfold pyNext
  exact wpAny_bind (wpAny_attempt (wpAny_callSpecial?_slot (name := Str.ofString "__next__") hT F.slot_zip_next
    (wpAny_call_entry F.slot_zip_next hT F.entry_zip_next
      (zipS_next_item D hz hTI hTO h1 h2 hl1 hl2 hx hy fun h' a1 a2 a3 a4 a5 a6 a7 => wpAny_pure (hQ h' a1 a2 a3 a4 a5 a6 a7)) (F.args_zip_next_1 _))))

theorem pyNext_zipS_end {t1 t2 : Bool} {z TI TO i1 i2 l1 l2 : Addr} {k1 k2 : Nat} {xs ys : Array Value} {a b : Value} {Q : Option Value → Shared → Prop} (hh : A.handled = none) (D : ZipApart z TI TO i1 i2 l1 l2)
    (hz : IsZip s.heap z TI TO .none) (hTI : IsPair s.heap TI (.ref i1) (.ref i2)) (hTO : IsPair s.heap TO a b)
    (h1 : SIter t1 s.heap i1 l1 k1) (h2 : SIter t2 s.heap i2 l2 k2) (hl1 : SSeq t1 s.heap l1 xs) (hl2 : SSeq t2 s.heap l2 ys) (hend : xs[k1]? = none ∨ ys[k2]? = none)
    (hQ : ∀ h', (∀ c o, c ≠ z → c ≠ TO → c ≠ i1 → c ≠ i2 → s.heap.get? c = some o → h'.get? c = some o) → Q none { s with heap := h' }) : wpAny (model prog w) A (pyNext (.ref z)) Q E s := by
  have hT : s.TypeIs (.ref z) "zip" := ⟨_, hz, rfl⟩
  unfold pyNext
  refine wpAny_bind (wpAny_attempt (wpAny_callSpecial?_slot (name := Str.ofString "__next__") hT F.slot_zip_next
    (wpAny_call_entry F.slot_zip_next hT F.entry_zip_next (zipS_next_end hh D hz hTI hTO h1 h2 hl1 hl2 hend fun h' e hk he => ?_) (F.args_zip_next_1 _))))
  obtain ⟨o, ho, hc⟩ := he
  refine wpAny_bind (wpAny_isInstance (T := "StopIteration") (b := true) ⟨o, ho, hc⟩ isSubtype_stop ?_)
  exact wpAny_pure (hQ _ hk)
end


abbrev zH1 (t1 : Bool) (h : Heap) (l1 : Addr) : Heap := h.push { cls := .type (itName t1), data := .fields #[.ref l1, .int 0 0] }
abbrev zH2 (t1 t2 : Bool) (h : Heap) (l1 l2 : Addr) : Heap := (zH1 t1 h l1).push { cls := .type (itName t2), data := .fields #[.ref l2, .int 0 0] }
abbrev zH3 (t1 t2 : Bool) (h : Heap) (l1 l2 : Addr) : Heap := (zH2 t1 t2 h l1 l2).push { cls := .type "tuple", data := .seq #[.ref h.objs.size, .ref (zH1 t1 h l1).objs.size] }
abbrev zH4 (t1 t2 : Bool) (h : Heap) (l1 l2 : Addr) : Heap := (zH3 t1 t2 h l1 l2).push { cls := .type "tuple", data := .seq #[.none, .none] }
abbrev zH5 (t1 t2 : Bool) (h : Heap) (l1 l2 : Addr) : Heap := (zH4 t1 t2 h l1 l2).push { cls := .type "zip", data := .fields #[.none, .bool false, .bool false, .ref (zH2 t1 t2 h l1 l2).objs.size, .ref (zH3 t1 t2 h l1 l2).objs.size] }
theorem meets_zipS (t1 t2 : Bool) (l1 l2 : Addr) (xs ys : Array Value) :
    Meets (Builtin.«zip.__new__» ⟨[.type "zip", .ref l1, .ref l2], []⟩) (fun _ R s => SSeq t1 s.heap l1 xs ∧ SSeq t2 s.heap l2 ys ∧
      R (.ok (.ret (.ref (zH4 t1 t2 s.heap l1 l2).objs.size))) { s with heap := zH5 t1 t2 s.heap l1 l2 }) := by
  cases t1 with
  | true => cases t2 with
    | true => exact RZ.meets_zipT_new l1 l2 xs ys
    | false =>
        refine .of_wp fun prog w A R s h => ?_
        obtain ⟨hp, g, d, tk, os⟩ := s; obtain ⟨hl1, hl2, h⟩ := h
        have hsub := sub_zip
        have hL1 : Heap.IsTuple (Shared.heap ⟨hp, g, d, tk, os⟩) l1 xs := hl1
        have hL2 : Heap.IsList (Shared.heap ⟨hp.push { cls := .type "tuple_iterator", data := .fields #[.ref l1, .int 0 0] }, g, d, tk, os⟩) l2 ys := Heap.IsList.push hl2 _
        wp_walk using wpAny_pyIter_tuple hL1, wpAny_pyIter_list hL2
        exact ⟨_, rfl, h⟩
  | false => cases t2 with
    | false => exact meets_zip_new l1 l2 xs ys
    | true =>
        refine .of_wp fun prog w A R s h => ?_
        obtain ⟨hp, g, d, tk, os⟩ := s; obtain ⟨hl1, hl2, h⟩ := h
        have hsub := sub_zip
        have hL1 : Heap.IsList (Shared.heap ⟨hp, g, d, tk, os⟩) l1 xs := hl1
        have hL2 : Heap.IsTuple (Shared.heap ⟨hp.push { cls := .type "list_iterator", data := .fields #[.ref l1, .int 0 0] }, g, d, tk, os⟩) l2 ys := Heap.IsTuple.push hl2 _
        wp_walk using wpAny_pyIter_list hL1, wpAny_pyIter_tuple hL2
        exact ⟨_, rfl, h⟩
section
variable {prog : Program} {w : World} {A : Around} {E : Value → Shared → Prop} {s : Shared}
theorem call_zipS {t1 t2 : Bool} {l1 l2 : Addr} {xs ys : Array Value} {Q : Value → Shared → Prop} (hl1 : SSeq t1 s.heap l1 xs) (hl2 : SSeq t2 s.heap l2 ys)
    (h : ∀ h', IsZip h' (s.heap.objs.size + 4) (s.heap.objs.size + 2) (s.heap.objs.size + 3) .none → IsPair h' (s.heap.objs.size + 2) (.ref s.heap.objs.size) (.ref (s.heap.objs.size + 1)) →
      IsPair h' (s.heap.objs.size + 3) .none .none → SIter t1 h' s.heap.objs.size l1 0 → SIter t2 h' (s.heap.objs.size + 1) l2 0 → h'.objs.size = s.heap.objs.size + 5 →
      (∀ c o, s.heap.get? c = some o → h'.get? c = some o) → Q (.ref (s.heap.objs.size + 4)) { s with heap := h' }) :
    wpAny (model prog w) A (call (.type "zip") [.ref l1, .ref l2]) Q E s := by
  refine callType_new F.called_zip (by decide) (F.typeCall_zip_2 _ _) (F.newCall_zip_2 _ _) (fun obj => F.args_object_init_3 obj _ _) F.entry_zip_new
    (meets_zipS t1 t2 l1 l2 xs ys) ⟨hl1, hl2, ?_⟩
  have z1 : (zH1 t1 s.heap l1).objs.size = s.heap.objs.size + 1 := Heap.size_push ..
  have z2 : (zH2 t1 t2 s.heap l1 l2).objs.size = s.heap.objs.size + 2 := by rw [Heap.size_push, z1]
  have z3 : (zH3 t1 t2 s.heap l1 l2).objs.size = s.heap.objs.size + 3 := by rw [Heap.size_push, z2]
  have z4 : (zH4 t1 t2 s.heap l1 l2).objs.size = s.heap.objs.size + 4 := by rw [Heap.size_push, z3]
  have z5 : (zH5 t1 t2 s.heap l1 l2).objs.size = s.heap.objs.size + 5 := by rw [Heap.size_push, z4]
  have g5 : (zH5 t1 t2 s.heap l1 l2).get? (zH4 t1 t2 s.heap l1 l2).objs.size = some _ := Heap.get?_push_size _ rfl
  have g4 : (zH5 t1 t2 s.heap l1 l2).get? (zH3 t1 t2 s.heap l1 l2).objs.size = some _ := Heap.get?_push_of_some _ (Heap.get?_push_size _ rfl)
  have g3 : (zH5 t1 t2 s.heap l1 l2).get? (zH2 t1 t2 s.heap l1 l2).objs.size = some _ := Heap.get?_push_of_some _ (Heap.get?_push_of_some _ (Heap.get?_push_size _ rfl))
  have g2 : (zH5 t1 t2 s.heap l1 l2).get? (zH1 t1 s.heap l1).objs.size = some _ := Heap.get?_push_of_some _ (Heap.get?_push_of_some _ (Heap.get?_push_of_some _ (Heap.get?_push_size _ rfl)))
  have g1 : (zH5 t1 t2 s.heap l1 l2).get? s.heap.objs.size = some _ := Heap.get?_push_of_some _ (Heap.get?_push_of_some _ (Heap.get?_push_of_some _ (Heap.get?_push_of_some _ (Heap.get?_push_size _ rfl))))
  show _ ∧ _
  rw [z2, z3, z4] at g5
  rw [z1, z2] at g3
  rw [z3] at g4
  rw [z1] at g2
  rw [z4]
  exact ⟨⟨_, g5, rfl⟩, h _ g5 g3 g4 (by cases t1 <;> exact ⟨_, g1, rfl, rfl⟩) (by cases t2 <;> exact ⟨_, g2, rfl, rfl⟩) z5 fun c o x =>
    Heap.get?_push_of_some _ (Heap.get?_push_of_some _ (Heap.get?_push_of_some _ (Heap.get?_push_of_some _ (Heap.get?_push_of_some _ x))))⟩
end
end RZM
namespace RZM
open PySem PySem.Spec PyProof.Rows L2
def SqS (t : Bool) (K : PySem.W.Frag) (H : Hp) (a : Addr) (xs : List V) : Prop := match t with
  | true => SqT K H a xs
  | false => SqL K H a xs
theorem sq_ok {X : Cx} {pins : List (Addr × Obj)} {σ : L2.St} {H : Hp} {s : Shared} {t : Bool} {a : Addr} {xs : List V} (I : Inv X pins σ H s) (h : SqS t X.K H a xs) : ∃ its : List Value, Vals xs its ∧ SSeq t s.heap a its.toArray ∧ xs.length ≤ sizeLine := by
  cases t with
  | true =>
    obtain ⟨its, r, p, z⟩ := I.tuple h
    exact ⟨its, r, (show s.heap.IsTuple a its.toArray from p), z⟩
  | false =>
    obtain ⟨its, r, p, z⟩ := I.list h
    exact ⟨its, r, p.isList, z⟩
theorem sq_inj {X : Cx} {pins : List (Addr × Obj)} {σ : L2.St} {H : Hp} {s : Shared} {t : Bool} {a : Addr} {xs ys : List V} (I : Inv X pins σ H s) (h : SqS t X.K H a xs) (h' : SqS t X.K H a ys) : xs = ys := by
  cases t with
  | true => exact I.tuple_inj h h'
  | false => exact I.list_inj h h'
def ItzS (t1 t2 : Bool) (K : PySem.W.Frag) (a b : Addr) : It :=
  ⟨fun i H => ∃ (xs ys : List V) (x y : V), SqS t1 K H a xs ∧ SqS t2 K H b ys ∧ xs[i]? = some x ∧ ys[i]? = some y,
    fun i H v H' => ∃ T x y, v = .ref T ∧ H T = none ∧ H' = upd H T (.tup [x, y]) ∧ (∀ xs, SqS t1 K H a xs → xs[i]? = some x) ∧ ∀ ys, SqS t2 K H b ys → ys[i]? = some y,
    fun i H => ∃ xs ys : List V, SqS t1 K H a xs ∧ SqS t2 K H b ys ∧ (xs.length ≤ i ∨ ys.length ≤ i)⟩
theorem turn_zipS {t1 t2 : Bool} {P : Program} {w : World} {K : PySem.W.Frag} {elts : List Expr} {kk : Nat} {tpos : Pos} {a b z TI TO i1 i2 : Addr} (D : ZipApart z TI TO i1 i2 a b) :
    Turn P w K (.Tuple elts kk tpos) (ItzS t1 t2 K a b) [z, TI, TO, i1, i2] z (fun i h => IsZip h z TI TO .none ∧ IsPair h TI (.ref i1) (.ref i2) ∧ (∃ x y, IsPair h TO x y) ∧ SIter t1 h i1 a i ∧ SIter t2 h i2 b i) where
  mem := by simp
  obj := fun i h st c hc => by
    obtain ⟨hz, hTI, ⟨x, y, hTO⟩, h1, h2⟩ := st
    obtain ⟨o1, e1, d1⟩ := h1.obj
    obtain ⟨o2, e2, d2⟩ := h2.obj
    have e' : c = z ∨ c = TI ∨ c = TO ∨ c = i1 ∨ c = i2 := by simpa using hc
    rcases e' with q | q | q | q | q
    · rw [q]; exact ⟨_, hz, fun v q => nomatch q⟩
    · rw [q]; exact ⟨_, hTI, fun v q => nomatch q⟩
    · rw [q]; exact ⟨_, hTO, fun v q => nomatch q⟩
    · rw [q]; exact ⟨o1, e1, d1⟩
    · rw [q]; exact ⟨o2, e2, d2⟩
  keep := fun i h h' st k => by
    obtain ⟨hz, hTI, ⟨x, y, hTO⟩, h1, h2⟩ := st
    exact ⟨k z (by simp) _ hz, k TI (by simp) _ hTI, ⟨x, y, k TO (by simp) _ hTO⟩, h1.at fun o q => k i1 (by simp) o q, h2.at fun o q => k i2 (by simp) o q⟩
  item := by
    intro X hP hw hK hc i pins s σ H E I hf st hg
    subst hP hw hK
    obtain ⟨hz, hTI, ⟨x0, y0, hTO⟩, h1, h2⟩ := st
    obtain ⟨xs, ys, x, y, hqx, hqy, hx, hy⟩ := hg
    obtain ⟨its, rv, p, _⟩ := sq_ok I hqx
    obtain ⟨its2, rv2, p2, _⟩ := sq_ok I hqy
    obtain ⟨u, hu, ru⟩ := rv.get hx
    obtain ⟨u2, hu2, ru2⟩ := rv2.get hy
    have hzl : z < s.heap.objs.size := Heap.lt_size hz
    refine pyNext_zipS_item D hz hTI hTO h1 h2 p p2 (x := u) (y := u2) (by simpa using hu) (by simpa using hu2) fun h' z' TO' h1' h2' hT hsz hk => ?_
    refine ⟨_, rfl, wpAny_letOwnedTupleGo_zip (s := { s with heap := h' }) z' fun h'' z'' sb => ?_⟩
    have hT2 : h''.get? s.heap.objs.size = some { cls := .type "tuple", data := .seq #[u, u2] } := (sb.2 _ (Nat.ne_of_gt hzl)).trans hT
    have new : ObjOk X.prog X.w (upd H s.heap.objs.size (.tup [x, y])) h'' s.heap.objs.size (.tup [x, y]) :=
      ⟨by show 2 ≤ sizeLine; decide, [u, u2], .cons ru (.cons ru2 .nil), ⟨_, hT2, rfl, _, rfl⟩⟩
    have I1 : Inv X pins σ (upd H s.heap.objs.size (.tup [x, y])) { s with heap := h'' } :=
      I.turnedNew (t' := s.toks) (ch := [z, TI, TO, i1, i2]) (fun c o hb q => (sb.2 c (fun q' => hb (by simp [q']))).trans (hk c o (fun q' => hb (by simp [q'])) (fun q' => hb (by simp [q'])) (fun q' => hb (by simp [q'])) (fun q' => hb (by simp [q'])) q)) hf (Nat.le_refl _) new
    refine ⟨.ref s.heap.objs.size, _, I1, rfl, ⟨_, x, y, rfl, I.hok.fresh (Nat.le_refl _), rfl, fun l hl => by rw [sq_inj I hl hqx]; exact hx, fun l hl => by rw [sq_inj I hl hqy]; exact hy⟩, ⟨z'', ?_, ⟨u, u2, ?_⟩, ?_, ?_⟩, fun c hcm => ?_⟩
    · exact (sb.2 _ D.TIz).trans (hk _ _ D.TIz D.TITO D.TIi1 D.TIi2 hTI)
    · exact (sb.2 _ D.TOz).trans TO'
    · exact h1'.at fun o q => (sb.2 _ D.i1z).trans q
    · exact h2'.at fun o q => (sb.2 _ D.i2z).trans q
    · have hlt : c < s.heap.objs.size := by
        have e' : c = z ∨ c = TI ∨ c = TO ∨ c = i1 ∨ c = i2 := by simpa using hcm
        rcases e' with q | q | q | q | q
        · rw [q]; exact hzl
        · rw [q]; exact Heap.lt_size hTI
        · rw [q]; exact Heap.lt_size hTO
        · rw [q]; exact h1.lt
        · rw [q]; exact h2.lt
      rw [upd_ne (Nat.ne_of_lt hlt)]
      exact (hf c hcm).1
  done := by
    intro X hP hw hK hc i pins s σ H E I hf st hg
    subst hP hw hK
    obtain ⟨hz, hTI, ⟨x0, y0, hTO⟩, h1, h2⟩ := st
    obtain ⟨xs, ys, hqx, hqy, hend⟩ := hg
    obtain ⟨its, rv, p, _⟩ := sq_ok I hqx
    obtain ⟨its2, rv2, p2, _⟩ := sq_ok I hqy
    have l1 := rv.length
    have l2 := rv2.length
    have he : its.toArray[i]? = none ∨ its2.toArray[i]? = none := by
      rcases hend with q | q
      · exact .inl (by simp; omega)
      · exact .inr (by simp; omega)
    exact pyNext_zipS_end (I.ok.hd hc) D hz hTI hTO h1 h2 p p2 he fun h' hk => ⟨rfl, I.turnedL (t' := s.toks) (ch := [z, TI, TO, i1, i2]) (fun c o hb q =>
      hk c o (fun q' => hb (by simp [q'])) (fun q' => hb (by simp [q'])) (fun q' => hb (by simp [q'])) (fun q' => hb (by simp [q'])) q) hf⟩
  self := fun A i s Q E st h => wpAny_pyIter_zip st.1 h

/-- zip(e, e2), each a list or a tuple -/
def iZipS (K : PySem.W.Frag) (ta : TA) : TI := fun σ H R => ta σ H fun vs H1 => ∃ t1 t2 a b xs ys, vs = [.ref a, .ref b] ∧ SqS t1 K H1 a xs ∧ SqS t2 K H1 b ys ∧ R (ItzS t1 t2 K a b) H1
theorem sseq_lt {t : Bool} {h : Heap} {a : Addr} {its : Array Value} (x : SSeq t h a its) : a < h.objs.size := by
  cases t with
  | true =>
    obtain ⟨o, e, _⟩ := (show h.IsTuple a its from x)
    exact Heap.lt_size e
  | false =>
    obtain ⟨o, e, _⟩ := (show h.IsList a its from x)
    exact Heap.lt_size e
theorem pi_zipS {X : Cx} {e e2 : Expr} {ta : TA} {p pos tpos : Pos} {elts : List Expr} {kk : Nat} (hg : Gl X "zip") (hm : X.mg "zip" = none) (ha : PA X [e, e2] ta)
    (hs : starEach [e, e2] X.env = (false, eval e X.env) :: starEach [e2] X.env := by rfl) (hpl : (backTo pos (starEach [e2] X.env)).any (·.1) = false := by rfl) :
    PI X (.Tuple elts kk tpos) (.Call (.Name "zip" p) [e, e2] [] pos) (iZipS X.K ta) := by
  refine ⟨fun pins s σ H R I h => Call_ (ld_blt I hg hm PyProof.Rows.boot_zip (PyProof.Rows.callWith_type1 (thn (ha.run pos pins s σ H _ I h) fun us s1 ⟨vs, H1, I1, r1, t1, t2, a, b, xs, ys, ex, hqx, hqy, q⟩ => ?_) hs hpl))⟩
  subst ex
  obtain ⟨u1, u2, rfl, r, r'⟩ := vals2 r1
  cases r
  cases r'
  obtain ⟨its, rv, p1, _⟩ := sq_ok I1 hqx
  obtain ⟨its2, rv2, p2, _⟩ := sq_ok I1 hqy
  have fresh5 : ∀ c, c ∈ [s1.heap.objs.size + 4, s1.heap.objs.size + 2, s1.heap.objs.size + 3, s1.heap.objs.size, s1.heap.objs.size + 1] → FpOk X pins H1 c := fun c hcm => by
    have hle : s1.heap.objs.size ≤ c := by
      simp only [List.mem_cons, List.not_mem_nil, or_false] at hcm
      omega
    exact I1.fpOk hle (I1.hok.fresh hle)
  refine call_zipS p1 p2 fun h' hz hTI hTO h1 h2 hsz hk => wpAny_pyIter_zip hz ?_
  have I2 : Inv X pins σ H1 { s1 with heap := h' } := I1.kept (t' := s1.toks) hk
  exact ⟨s1.heap.objs.size + 4, [s1.heap.objs.size + 4, s1.heap.objs.size + 2, s1.heap.objs.size + 3, s1.heap.objs.size, s1.heap.objs.size + 1], _, _, H1, rfl, I2, turn_zipS (PySem.W.ktu_apart s1.heap.objs.size a b (sseq_lt p1) (sseq_lt p2)), ⟨hz, hTI, ⟨_, _, hTO⟩, h1, h2⟩, fresh5, q⟩
theorem for_zipS {t1 t2 : Bool} {K : PySem.W.Frag} {a b : Addr} {xs ys : List V} {g : TG} {tb : TS} {D : Ends} {σ : L2.St} {H : Hp} (hl : xs.length = ys.length) (Pv : Nat → L2.St → Hp → Prop) (h0 : Pv 0 σ H) (hq : ∀ i σ H, Pv i σ H → SqS t1 K H a xs ∧ SqS t2 K H b ys)
    (hs : ∀ (i : Nat) (x y : V) (T : Addr) (σ : L2.St) (H : Hp), xs[i]? = some x → ys[i]? = some y → Pv i σ H → H T = none → g (.ref T) σ (upd H T (.tup [x, y])) fun σ2 H2 => tb { D with nx := Pv (i + 1), ct := Pv (i + 1), bk := D.nx } σ2 H2) (hd : ∀ σ H, Pv xs.length σ H → D.nx σ H) :
    ∃ W : Nat → Nat → L2.St → Hp → Prop, (∃ m, W 0 m σ H) ∧ ∀ i m σ H, W i m σ H →
      ((ItzS t1 t2 K a b).stop i H ∧ D.nx σ H) ∨ ((ItzS t1 t2 K a b).go i H ∧ ∃ N : L2.St → Hp → Prop, (∀ σ' H', N σ' H' → ∃ m', m' < m ∧ W (i + 1) m' σ' H') ∧ ∀ v H', (ItzS t1 t2 K a b).yld i H v H' → g v σ H' fun σ2 H2 => tb { D with nx := N, ct := N, bk := D.nx } σ2 H2) := by
  refine ⟨fun i m σ H => m = xs.length - i ∧ i ≤ xs.length ∧ Pv i σ H, ⟨xs.length, rfl, Nat.zero_le _, h0⟩, ?_⟩
  rintro i m σ H ⟨rfl, hi, p⟩
  obtain ⟨qx, qy⟩ := hq i σ H p
  rcases Nat.lt_or_ge i xs.length with hlt | hge
  · refine .inr ⟨⟨xs, ys, _, _, qx, qy, List.getElem?_eq_getElem hlt, List.getElem?_eq_getElem (by omega)⟩, Pv (i + 1), fun σ' H' p' => ⟨xs.length - (i + 1), by omega, rfl, hlt, p'⟩, fun v H' y => ?_⟩
    obtain ⟨T, x', y', rfl, hT, rfl, f1, f2⟩ := y
    exact hs i x' y' T σ H (f1 xs qx) (f2 ys qy) p hT
  · have e : i = xs.length := by omega
    subst e
    exact .inl ⟨⟨xs, ys, qx, qy, Or.inl (Nat.le_refl _)⟩, hd σ H p⟩
end RZM
set_option Elab.async false
set_option linter.all false
set_option maxRecDepth 100000
set_option maxHeartbeats 4000000
/-! in, not in, index of tuples whose items are data of any depth; repr of data; isinstance of a caught error that has a dict -/
namespace TkS
open PySem PySem.Spec PyProof.Rows L2
section
variable {X : Cx}
def rInT (K : PySem.W.Frag) (neg : Bool) : R2 := fun x y H Q => ∃ d ds, Dp K H x d ∧ Dp K H y (.tuple ds) ∧ SeqAt.shaped d = true ∧ SeqAt.shaped (.tuple ds) = true ∧ Q (.bl (if neg then !ds.any fun z => PyData.eqv z d else ds.any fun z => PyData.eqv z d)) H
theorem room_tup {d : PyData} {ds : List PyData} (sd : SeqAt.shaped d = true) (hu : X.A.units + 65 < cLine) : X.A.units + 1 + min (PyData.depthAll ds) d.depth < cLine := by
  have h : d.depth ≤ 64 := by
    have z : (d.canLay0 && decide (d.depth ≤ 64)) = true := sd
    rw [Bool.and_eq_true] at z
    exact of_decide_eq_true z.2
  have := Nat.min_le_right (PyData.depthAll ds) d.depth
  omega
theorem lay_tup {ds : List PyData} (se : SeqAt.shaped (.tuple ds) = true) : PyData.canLayAll0 ds = true := SeqAt.canLay_of_shaped se
theorem op_inT (hu : X.A.units + 65 < cLine) : OpR X (compareOp .In) (rInT X.K false) := by
  intro pins s σ H x y v u Q I rx ry h
  obtain ⟨d, ds, hd, he, sd, se, q⟩ := h
  obtain ⟨as, r1⟩ := Dp.reads I d x v hd rx
  obtain ⟨bs, r2⟩ := Dp.reads I (.tuple ds) y u he ry
  exact SeqAt.in_tuple_reads r2 r1 (lay_tup se) (SeqAt.canLay_of_shaped sd) (room_tup sd hu) ⟨.bl _, H, I, rfl, q⟩
theorem op_notInT (hu : X.A.units + 65 < cLine) : OpR X (compareOp .NotIn) (rInT X.K true) := by
  intro pins s σ H x y v u Q I rx ry h
  obtain ⟨d, ds, hd, he, sd, se, q⟩ := h
  obtain ⟨as, r1⟩ := Dp.reads I d x v hd rx
  obtain ⟨bs, r2⟩ := Dp.reads I (.tuple ds) y u he ry
  exact SeqAt.notIn_tuple_reads r2 r1 (lay_tup se) (SeqAt.canLay_of_shaped sd) (room_tup sd hu) ⟨.bl _, H, I, rfl, q⟩
/-- t.index(x): the first place of an equal one -/
def rIxT (K : PySem.W.Frag) : V → List V → Hp → VK → Prop := fun x xs H Q => ∃ (a : Addr) (y : V) (d : PyData) (ds : List PyData) (j : Nat) (z : PyData), x = V.ref a ∧ xs = [y] ∧ Dp K H (V.ref a) (.tuple ds) ∧ Dp K H y d ∧
  SeqAt.shaped (.tuple ds) = true ∧ SeqAt.shaped d = true ∧ ds[j]? = some z ∧ PyData.eqv z d = true ∧ (∀ (m : Nat) (z' : PyData), m < j → ds[m]? = some z' → PyData.eqv z' d = false) ∧ Q (.int (j : Nat)) H
theorem mt_tupIx (hu : X.A.units + 65 < cLine) : MtR X "tuple.index" (rIxT X.K) := by
  intro pins s σ H x xs v us Q I rx rxs h
  obtain ⟨a, y, d, ds, j, z, rfl, rfl, hl, hy, sl, sd, hz, hzj, hno, q⟩ := h
  cases rx
  cases rxs with
  | cons ry rt =>
    rename_i uy ut
    cases rt
    obtain ⟨bs, r1⟩ := Dp.reads I d y uy hy ry
    have hxs : PyData.canLayAll0 ds = true := lay_tup sl
    cases hl with
    | tup hs ha =>
      obtain ⟨its, rv, ⟨⟨cls, dd, data, sls⟩, ho, hc, n, hdt⟩, hlen⟩ := I.tuple hs
      simp only at hc hdt
      subst hc hdt
      obtain ⟨as, h4⟩ := Dp.readsAll I ds _ its ha rv
      have hmap : its.map (SeqAt.readOf s.heap) = ds := SeqAt.readsAll_map ds its as hxs h4
      have hn : its.length = ds.length := SeqAt.ReadsAll.length ds its as h4
      obtain ⟨hjd, _⟩ := List.getElem?_eq_some_iff.mp hz
      have hj : j < its.toArray.size := by
        rw [List.size_toArray]
        omega
      have at_ : ∀ (m : Nat) (hm : m < its.toArray.size) (z' : PyData), ds[m]? = some z' → SeqAt.readOf s.heap its.toArray[m] = z' := by
        intro m hm z' hz'
        have hml : m < its.length := by simpa using hm
        rw [← hmap, List.getElem?_map, List.getElem?_eq_getElem hml] at hz'
        have e1 : SeqAt.readOf s.heap its[m] = z' := Option.some.inj hz'
        simpa using e1
      refine call_meets PySem.F.slot_tuple_index ⟨_, ho, rfl⟩ PySem.F.entry_tuple_index (PySem.F.args_tuple_index_2 _ _)
        (TI.tuple_indexAt a its.toArray n dd sls uy (fun u => PyData.eqv (SeqAt.readOf s.heap u) d) j hj ?_ ?_) ⟨ho, SeqAt.items_eqAt (vs := its.toArray) (show ReadsAll s.heap its.toArray.toList ds as from h4) r1 hxs (SeqAt.canLay_of_shaped sd) (room_tup sd hu), ?_⟩
      · show PyData.eqv (SeqAt.readOf s.heap its.toArray[j]) d = true
        rw [at_ j hj z hz]
        exact hzj
      · intro m hm hmj
        have hmd : m < ds.length := by omega
        have hz' : ds[m]? = some ds[m] := List.getElem?_eq_getElem hmd
        show PyData.eqv (SeqAt.readOf s.heap its.toArray[m]) d = false
        rw [at_ m hm _ hz']
        exact hno m _ hmj hz'
      · exact ⟨.int (j : Nat), H, I.tok _, ⟨_, rfl⟩, q⟩
/-- repr of a list or tuple of data: its text hangs on the data alone -/
def rReprD (K : PySem.W.Frag) : List V → Hp → VK → Prop := fun xs H Q => ∃ a d, xs = [.ref a] ∧ Dp K H (.ref a) d ∧ d.showable = true ∧ d.hasDict = false ∧ d.depth ≤ 60 ∧ d.shown.length ≤ sizeLine ∧ Q (.str d.shown) H
theorem call_reprD (hg : X.A.guards = some []) (hu : X.A.units + 65 < cLine) : CallR X (.builtin "repr") (rReprD X.K) := by
  intro pins s σ H xs us Q I r h
  obtain ⟨a, d, rfl, hd, h1, h2, h3, h4, q⟩ := h
  obtain ⟨u, rfl, ru⟩ := vals1 r
  obtain ⟨as, rd⟩ := Dp.reads I d (.ref a) u hd ru
  cases ru
  exact repr_of_reads' rd h1 (PyData.noDict_hsm h2) hg (by omega) (fun _ _ e => e) (fun h' u tk k => ⟨.str d.shown, H, I.kept (t' := tk) k, ⟨_, rfl⟩, q⟩) h4
end
end TkS
set_option Elab.async false
set_option linter.all false
set_option maxRecDepth 100000
set_option maxHeartbeats 4000000
namespace PySem.W
open PySem PySem.Spec PySem.Calls PyProof.Rows
section
variable {prog : Program} {w : World} {A : Around} {E : Value → Shared → Prop} {s : Shared} {K : Frag} {x D : Addr} {ox : Obj}
theorem kin_classD {od : Obj} {Q : Option Value → Shared → Prop} (hga : findIn K (.ref D) "__getattribute__" = some (some (.builtin "BaseException.__getattribute__"))) (hgt : findIn K (.ref D) "__getattr__" = some none) (hsub : subIn K (.ref D) (.type "BaseException") = some true)
    (hdct : hasDictIn K D = true) (ha : findIn K (.ref D) "__class__" = some (some (.builtin "object.__class__")))
    (hn : specialIn K (.builtin "object.__class__") "__get__" = some (some (.builtin "getset_descriptor.__get__"))) (htk : takesIn K (.builtin "object.__class__") = some true) (hm : mroIn K D (.type "object") = some true)
    (X : K.In s.heap) (I : InstAt s.heap x ox D (some od)) (h : Q (some (.ref D)) { s with toks := s.toks + 1 }) : wpAny (model prog w) A (getAttr? (.ref x) "__class__") Q E s := by
  have hf : findObj K D (some od) "__class__" = some (.bind (.builtin "getset_descriptor.__get__") (.builtin "object.__class__")) := findObj_data (by obtain ⟨cd, hc, _⟩ := any_some hdct; rw [hc]; rfl) ha hn htk
  obtain ⟨hp, g, d, t, os⟩ := s
  have L0 := I.type (M := model prog w)
  have L1 := looks_findIn (M := model prog w) X hga
  have L2 := looks_findIn (M := model prog w) X hgt
  have L3 := looks_find (M := model prog w) X I hf
  have sub : Looks (model prog w) hp (isInstance (.ref x) (.type "BaseException")) true := L0.andThen (looks_subIn X hsub)
  have hx0 : (false && onTheHeap (Value.builtin "BaseException.__getattribute__")) = false := rfl
  have hx2 : (Value.builtin "BaseException.__getattribute__" == Value.builtin "object.__getattribute__") = false := by decide +kernel
  have hx1 : (onTheHeap (Value.ref D) && Value.builtin "BaseException.__getattribute__" == Value.builtin "object.__getattribute__") = false := by rw [hx2]; rfl
  unfold getAttr? getAttrBy? getAttrBy
  refine wpAny_bind (wpAny_mkText (wpAny_bind (wpAny_attempt (wpAny_holding (wpAny_bind (L0.at (wpAny_bind (L1.at ?_))))))))
  show wpAny _ _ (if (onTheHeap (Value.ref D) && Value.builtin "BaseException.__getattribute__" == Value.builtin "object.__getattribute__") = true then _ else _) _ _ _
  rw [hx1, if_neg Bool.false_ne_true]
  unfold getAttrByItsOwn hookBefore
  refine wpAny_bind ?_
  rw [if_pos (show onTheHeap (Value.ref D) = true from rfl)]
  refine L2.at ?_
  refine wpAny_bind (wpAny_attempt (wpAny_holding ?_))
  unfold callGetattribute
  rw [hx0, if_neg Bool.false_ne_true]
  unfold boundAndCalled
  rw [PySem.F.excAttr_ValueError.ga.bind (.ref x)]
  refine wpAny_bind (wpAny_pure ?_)
  show wpAny _ _ (call (.builtin "BaseException.__getattribute__") [.ref x, .str "__class__" t]) _ _ _
  refine wpAny_call (codeAny_call_builtin PySem.F.excAttr_ValueError.ga.plain PySem.F.entry_bexc_ga ?_)
  refine @check_slot (model prog w) _ _ ⟨hp, g, d, t + 1, os⟩ "BaseException.__getattribute__" "BaseException" "__getattribute__" (.ref x) [.str "__class__" t] [] _ (by decide +kernel) (by decide +kernel) sub (PySem.F.args_bexc_ga (.ref x) (.str "__class__" t)) ?_
  unfold Builtin.«object.__getattribute__»
  refine wpAny_bind (wpAny_of_eq (a := ((Value.ref x : Value), [Value.str "__class__" t])) (by first | rfl | (simp only [slotArgs]; rfl)) ?_)
  refine wpAny_bind (wpAny_pure (wpAny_bind (L0.at (wpAny_bind (L3.at ?_)))))
  show wpAny _ _ (holding [Value.builtin "object.__class__"] (call (.builtin "getset_descriptor.__get__") [.builtin "object.__class__", .ref x, .ref D]) >>= ret) _ _ _
  refine wpAny_bind (wpAny_holding (wpAny_call (class_get (s := ⟨hp, g, d, t + 1, os⟩) (ox := ox) (od := some od) X I hm ?_)))
  refine wpAny_pure ?_
  show wpAny _ _ (handedOut (.ref D)) _ _ _
  rw [handedOut_of (v := .ref D) rfl]
  first
    | exact wpAny_pure (wpAny_pure h)
    | exact wpAny_pure h
    | exact wpAny_pure (wpAny_bind (wpAny_pure (wpAny_pure h)))
theorem kitx_excD (hga : findIn K (.ref D) "__getattribute__" = some (some (.builtin "BaseException.__getattribute__"))) (hgt : findIn K (.ref D) "__getattr__" = some none) (hsub : subIn K (.ref D) (.type "BaseException") = some true) (hdct : hasDictIn K D = true) (ha : findIn K (.ref D) "__class__" = some (some (.builtin "object.__class__")))
    (hn : specialIn K (.builtin "object.__class__") "__get__" = some (some (.builtin "getset_descriptor.__get__"))) (htk : takesIn K (.builtin "object.__class__") = some true) (hm : mroIn K D (.type "object") = some true) :
    KitX K (.ref x) (.ref D) (fun h => ∃ od, InstAt h x ox D (some od)) where
  ty := fun _ _ _ I => I.elim fun _ J => J.type
  it := fun _ _ X _ => by
    obtain ⟨cdD, hcD, _⟩ := any_some hdct
    unfold clsIn at hcD
    split at hcD
    · rename_i c' d' cd' sl' ho
      intro A' Q' E' s' k q
      unfold isType loadHead
      exact wpAny_bind (wpAny_loadPart (k _ _ (X _ _ ho)) (wpAny_pure q))
    · cases hcD
  ne := fun h tp dd its n sl X htp => by
    obtain ⟨cdD, hcD, _⟩ := any_some hdct
    refine Bool.eq_false_iff.mpr fun q => ?_
    have e : D = tp := Value.ref.inj (beq_iff_eq.mp q)
    subst e
    unfold clsIn at hcD
    split at hcD
    · rename_i c' d' cd' sl' ho
      have z := (X _ _ ho).symm.trans htp
      cases z
    · cases hcD
  ca := fun X I k => I.elim fun _ J => kin_classD hga hgt hsub hdct ha hn htk hm X J k
end
end PySem.W
namespace TkS
open PySem PySem.Spec PyProof.Rows L2
/-- isinstance(e, c), e the error that the suite holds, which has a dict -/
def rIsD (K : PySem.W.Frag) (D a : Addr) (cls : Value) (d : Option Addr) : List V → Hp → VK → Prop := fun xs H Q => cls = .ref D ∧ ∃ (dd : Addr) (fs : List (Str × V)) (c : V) (cv : Value) (b : Bool), d = some dd ∧ H dd = some (.xd fs) ∧ xs = [.ref a, c] ∧ (∀ u, RelV c u → u = cv) ∧ PySem.W.kitOne K (.ref D) cv = some b ∧ Q (.bl b) H
theorem call_isD {X : Cx} {a D : Addr} {oe : Obj} {cls : Value} {d : Option Addr} {pn : List (Addr × Obj)} (C : ExcC X.K D) (hz : Zc cls d oe) (hf : ∃ vs, oe.data = .fields vs) : CallR (X.suite a ((a, oe) :: pn)) (.builtin "isinstance") (rIsD X.K D a cls d) := by
  intro pins s σ H xs us Q I r h
  obtain ⟨rfl, dd, fs, c, cv, b, rfl, ea, rfl, hcv, e, q⟩ := h
  obtain ⟨u1, u2, rfl, r1, r2⟩ := vals2 r
  cases r1
  have ec := hcv _ r2
  subst ec
  obtain ⟨hget, _⟩ := I.pin (a, oe) (List.mem_append_left _ List.mem_cons_self)
  obtain ⟨vs, hv⟩ := hf
  have hx : ObjOk X.prog X.w H s.heap dd (.xd fs) := I.hok dd _ ea
  obtain ⟨mA, hns, hr⟩ := hx
  obtain ⟨od, ho, hl⟩ := lookIn_ns hns
  have J : PySem.W.InstAt s.heap a oe D (some od) := ⟨hget, hz.1, by unfold PySem.W.notCls; rw [hv] <;> rfl, by rw [hz.2]; exact ho⟩
  exact PySem.W.kia_one (PySem.W.kitx_excD C.hg C.hk C.hs C.hd C.ha C.hn C.ht C.hm) I.kIn ⟨od, J⟩ e (fun z => nomatch z) fun tk => ⟨.bl b, H, I.kept (t' := tk) fun _ _ z => z, rfl, q⟩
end TkS
set_option Elab.async false
set_option linter.all false
set_option maxRecDepth 100000
set_option maxHeartbeats 4000000
/-! C(..) and o.m(..) where what is raised is wished for at the caller's slots (within a try) -/
namespace TkS
open PySem PySem.Spec PyProof.Rows L2
def tMethSD (C : Addr) (m : Str) (sp : Sp) (dvs : List V) (E : L2.St → XK) (ta : TE) (t : TA) : TE := fun σ H Q => ta σ H fun x H1 => ∃ a dx fs, x = .ref a ∧ H1 a = some (.ins C dx fs) ∧ fs.lookup m = none ∧
  t σ H1 fun vs H2 => sp (x :: (vs ++ dvs)) H2 Q (E σ)
def tMakeSD (C : Addr) (sp : Sp) (dvs : List V) (E : L2.St → XK) (t : TA) : TE := fun σ H Q => t σ H fun vs H1 => ∀ x dx, H1 x = none → H1 dx = none → dx ≠ x →
  sp (.ref x :: (vs ++ dvs)) (upd (upd H1 dx (.own x)) x (.ins C dx [])) (fun v H2 => v = .non ∧ Q (.ref x) H2) (E σ)
section
variable {X : Cx} {CX : CXT} {k : Nat} {f C : Addr} {fd : FuncData} {ps : List Str} {sp : Sp} {dvs : List V} {ds : List Value} {E : L2.St → XK} {x m : Str} {p pos apos : Pos} {e o : Expr} {es : List Expr} {ta : TE} {t : TA}
theorem run_makeSD {pins : List (Addr × Obj)} {σ : L2.St} {H : Hp} {s : Shared} {Q : VK} {us : List Value} {vs : List V} (M : Mk X.K C f) (F : FnOk X.prog X.w X.K X.mg X.base CX k f fd ps sp) (hr : Room (k + 1) X.A) (hb : Binds X.K fd ps ds) (hd : Vals dvs ds)
    (hx : PassesAt CX X σ (E σ)) (I : Inv X pins σ H s) (r : Vals vs us)
    (h : ∀ x dx, H x = none → H dx = none → dx ≠ x → sp (.ref x :: (vs ++ dvs)) (upd (upd H dx (.own x)) x (.ins C dx [])) (fun v H2 => v = .non ∧ Q (.ref x) H2) (E σ)) :
    wpAny (model X.prog X.w) X.A (call (.ref C) us) (EP X pins σ Q) X.xe s := by
  have hq := h (s.heap.objs.size + 1) s.heap.objs.size (I.hok.fresh (Nat.le_succ _)) (I.hok.fresh (Nat.le_refl _)) (Nat.ne_of_lt (Nat.lt_succ_self _))
  have I2 := Inv.made (C := C) I
  have r2 : Vals (V.ref (s.heap.objs.size + 1) :: (vs ++ dvs)) (Value.ref (s.heap.objs.size + 1) :: (us ++ ds)) := .cons rfl (r.append hd)
  have hl : (Value.ref (s.heap.objs.size + 1) :: us ++ ds).length = ps.length := by
    have e := r2.length
    rw [F.len _ _ _ _ hq] at e
    exact e.symm
  refine wpAny_call (make_map (f := f) I.kIn M.makes M.init (beq_iff_eq.mp M.fn) (codeAny_mono (F.run _ X.stack _ _ ⟨Value.ref (s.heap.objs.size + 1) :: us, []⟩ (Value.ref (s.heap.objs.size + 1) :: (us ++ ds)) _ _ (E σ) (hr.make C us [])
    (I2.env0.make C us []) (hb _ (Value.ref (s.heap.objs.size + 1) :: us) I2.kIn hl) r2 hq) fun r s' hq' => ?_))
  cases r with
  | error e => exact hx pins _ _ e s' I2 hq'
  | ok fl =>
    cases fl with
    | ret u =>
      obtain ⟨v, H', I3, rv, ev, q3⟩ := I2.after hq'
      subst ev
      exact ⟨rv, ⟨V.ref (s.heap.objs.size + 1), H', I3, rfl, q3⟩⟩
    | next => exact False.elim hq'
    | brk => exact False.elim hq'
    | cont => exact False.elim hq'
theorem pe_makeSD (M : Mk X.K C f) (F : FnOk X.prog X.w X.K X.mg X.base CX k f fd ps sp) (hr : Room (k + 1) X.A) (hg : Gl X x) (hm : X.mg x = some (.ref C)) (hb : Binds X.K fd ps ds) (hd : Vals dvs ds) (hx : ∀ σ, PassesAt CX X σ (E σ))
    (ha : PA X (e :: es) t) (hdb : (x == ("__debug__" : Str)) = false := by decide) (he : starEach (e :: es) X.env = (false, eval e X.env) :: starEach es X.env := by rfl) (hpl : (backTo pos (starEach es X.env)).any (·.1) = false := by rfl) :
    PE X (.Call (.Name x p) (e :: es) [] pos) (tMakeSD C sp dvs E t) := by
  refine ⟨fun pins s σ H Q I h => ?_⟩
  refine wpAny_Call_Name_kw (ld_glob I hg hm ?_ hdb)
  refine PySem.W.callWith_K (h₀ := X.base) I.ok.mod.kin M.kp (thn (ha.run pos pins s σ H _ I h) fun us s1 ⟨vs, H1, I1, r, q⟩ => ⟨I1.kIn, ?_⟩) he hpl
  exact run_makeSD M F hr hb hd (hx σ) I1 r q
theorem pe_methSD {pl : Sem Bool} (he : PE X o ta) (c : Cls X.K C) (hm : Meth X.K C m f) (F : FnOk X.prog X.w X.K X.mg X.base CX k f fd ps sp) (hr : Room k X.A) (hb : Binds X.K fd ps ds) (hd : Vals dvs ds) (hx : ∀ σ, PassesAt CX X σ (E σ)) (ha : PA X (e :: es) t)
    (hst : starEach (e :: es) X.env = (false, eval e X.env) :: starEach es X.env := by rfl) (hpl : (backTo pos (starEach es X.env)).any (·.1) = false := by rfl)
    (ht : eval (.Call (.Attribute o m apos) (e :: es) [] pos) X.env = (do
      let ov ← eval o X.env
      standAt apos.atName
      let (f, first) ← holding [ov] (getMethod ov m pl)
      callWith pos f first (backTo pos (starEach (e :: es) X.env)) (backToKw pos (keywordEach [] X.env))) := by rfl) :
    PE X (.Call (.Attribute o m apos) (e :: es) [] pos) (tMethSD C m sp dvs E ta t) := by
  refine ⟨fun pins s σ H Q I h => ?_⟩
  refine PySem.W.methodCall_KW (pl := pl) (thn (he.run pins s σ H _ I h) fun u s1 ⟨x, H1, I1, rx, a, dx, fs, ex, ea, l, q⟩ => ?_) ht
  subst ex
  obtain rfl : u = Value.ref a := rx
  refine getmeth_ok I1 ea c hm l ?_
  refine PySem.W.callWith_K (first := [.ref a]) (h₀ := X.base) I.ok.mod.kin hm.kp (thn (ha.run pos pins s1 σ H1 _ I1 q) fun us s2 ⟨vs, H2, I2, r, q2⟩ => ⟨I2.kIn, ?_⟩) hst hpl
  exact run_fnSD (us := .ref a :: us) (vs := .ref a :: vs) F hr hb hd (hx σ) I2 (.cons rfl r) q2
end
end TkS
set_option Elab.async false
set_option linter.all false
set_option maxRecDepth 100000
set_option maxHeartbeats 4000000
/-! == of two instances by an own __eq__ with any answer; len of an instance by an own __len__ -/
namespace TkS
open PySem PySem.Spec PyProof.Rows L2
section
variable {X : Cx} {CX : CXT} {n : Nat} {f C : Addr} {fd : FuncData} {ps : List Str} {sp : Sp} {E : XK}
def rEqOwn (C : Addr) (sp : Sp) (E : XK) : R2 := fun x y H Q => ∃ a b dx dy fs gs, x = .ref a ∧ y = .ref b ∧ H a = some (.ins C dx fs) ∧ H b = some (.ins C dy gs) ∧ sp [.ref a, .ref b] H (fun v H' => (∃ r, v = .bl r) ∧ Q v H') E
theorem op_eqOwn (F : FnOk X.prog X.w X.K X.mg X.base CX n f fd ps sp) (hr : Room n X.A) (hs : PySem.W.findIn X.K (.ref C) "__eq__" = some (some (.ref f))) (hf : PySem.W.isFn X.K (.ref f) = true) (hb : Binds X.K fd ps []) (hx : Passes CX X E) :
    OpR X (compareOp .Eq) (rEqOwn C sp E) := by
  intro pins s σ H x y v u Q I rx ry h
  obtain ⟨a, b, dx, dy, fs, gs, rfl, rfl, ha, hb', hq⟩ := h
  cases rx
  cases ry
  obtain ⟨mA, J, _⟩ := ins_get I.hok ha
  obtain ⟨mB, J', _⟩ := ins_get I.hok hb'
  obtain ⟨od, J, _⟩ := J.look
  obtain ⟨od', J', _⟩ := J'.look
  obtain ⟨m, hF⟩ := I.fr
  show wpAny (model X.prog X.w) X.A (richCompare .Eq (.ref a) (.ref b)) (EP X pins σ Q) X.xe s
  refine PySem.W.cmp_K (op := .Eq) (tb := .ref C) hr.units0 hF I.ok.mod.kin J J'.type (by simp [PySem.W.notFirst]) hs hf ?_
  have hl := F.len _ _ _ _ hq
  refine wpAny_mono (run_fn (us := [.ref a, .ref b]) (vs := [.ref a, .ref b]) (dvs := []) (Q := fun v H' => (∃ r, v = .bl r) ∧ Q v H') F hr hb .nil hx I (.cons rfl (.cons rfl .nil)) hq) (fun u s' z => ?_) fun _ _ z => z
  obtain ⟨v, H', I', rv, ⟨r, ev⟩, q⟩ := z
  subst ev
  cases (show u = Value.bool r from rv)
  exact ⟨.bl r, H', I', rfl, q⟩
def rLenOwn (C : Addr) (sp : Sp) (E : XK) : List V → Hp → VK → Prop := fun xs H Q => ∃ (a dx : Addr) (fs : List (Str × V)) (k : Nat), xs = [.ref a] ∧ H a = some (.ins C dx fs) ∧ k < 2 ^ 62 ∧ sp [.ref a] H (fun v H' => v = .int (k : Int) ∧ Q v H') E
theorem call_lenOwn (F : FnOk X.prog X.w X.K X.mg X.base CX n f fd ps sp) (hr : Room (n + 1) X.A) (hs : PySem.W.findIn X.K (.ref C) "__len__" = some (some (.ref f))) (hf : PySem.W.isFn X.K (.ref f) = true) (hb : Binds X.K fd ps []) (hx : Passes CX X E) : CallR X (.builtin "len") (rLenOwn C sp E) := by
  intro pins s σ H xs us Q I r h
  obtain ⟨a, dx, fs, k, rfl, ha, hk, hq⟩ := h
  obtain ⟨u, rfl, ru⟩ := vals1 r
  cases ru
  obtain ⟨mA, J, _⟩ := ins_get I.hok ha
  obtain ⟨od, J, _⟩ := J.look
  obtain ⟨m, hF⟩ := I.fr
  have hl : ([Value.ref a] ++ ([] : List Value)).length = ps.length := by
    rw [← F.len _ _ _ _ hq]
    rfl
  refine PySem.W.len_K hF I.ok.mod.kin J hs hf (wpAny_call ?_)
  refine codeAny_mono (F.run X.A.in1 X.stack s H ⟨[.ref a], []⟩ [.ref a] [.ref a] _ E hr.in1 I.env0.in1 (hb s [.ref a] I.kIn hl) (.cons rfl .nil) hq) fun r s' hq => ?_
  cases r with
  | error e => exact hx pins σ H s e s' I hq
  | ok fl =>
    cases fl with
    | ret u =>
      obtain ⟨v, H', I', rv, ev, q⟩ := I.after hq
      subst ev
      obtain ⟨t, eu⟩ := (show ∃ t, u = Value.int (k : Int) t from rv)
      subst eu
      refine ⟨⟨by omega, by omega⟩, .int (k : Int), H', I'.tok _, ⟨_, rfl⟩, q⟩
    | next => exact False.elim hq
    | brk => exact False.elim hq
    | cont => exact False.elim hq
end
end TkS
set_option Elab.async false
set_option linter.all false
set_option maxRecDepth 100000
set_option maxHeartbeats 4000000
/-! data whose objects are all tracked -/
namespace TkS
open PySem PySem.Spec PyProof.Rows L2
mutual
inductive Dq (H : Hp) : V → PyData → Prop
  | non : Dq H .non .none
  | bl (b : Bool) : Dq H (.bl b) (.bool b)
  | int (i : Int) : Dq H (.int i) (.int i)
  | str (x : Str) : Dq H (.str x) (.str x)
  | lst {a : Addr} {xs : List V} {ds : List PyData} : H a = some (.lst xs) → DqAll H xs ds → Dq H (.ref a) (.list ds)
  | tup {a : Addr} {xs : List V} {ds : List PyData} : H a = some (.tup xs) → DqAll H xs ds → Dq H (.ref a) (.tuple ds)
inductive DqAll (H : Hp) : List V → List PyData → Prop
  | nil : DqAll H [] []
  | cons {v : V} {vs : List V} {d : PyData} {ds : List PyData} : Dq H v d → DqAll H vs ds → DqAll H (v :: vs) (d :: ds)
end
theorem DqAll.len {H : Hp} : ∀ {xs : List V} {ds : List PyData}, DqAll H xs ds → xs.length = ds.length
  | _, _, .nil => rfl
  | _, _, .cons _ t => congrArg Nat.succ t.len
theorem DqAll.get {H : Hp} : ∀ {xs : List V} {ds : List PyData} {i : Nat} {x : V}, DqAll H xs ds → xs[i]? = some x → ∃ d, ds[i]? = some d ∧ Dq H x d
  | _, _, _, _, .nil, e => by simp at e
  | _, _, 0, _, .cons h _, e => by
    simp at e
    subst e
    exact ⟨_, rfl, h⟩
  | _, _, i + 1, _, .cons _ t, e => by
    obtain ⟨d, h1, h2⟩ := t.get (i := i) (by simpa using e)
    exact ⟨d, by simpa using h1, h2⟩
theorem DqAll.append {H : Hp} : ∀ {xs ys : List V} {ds es : List PyData}, DqAll H xs ds → DqAll H ys es → DqAll H (xs ++ ys) (ds ++ es)
  | _, _, _, _, .nil, s => s
  | _, _, _, _, .cons r t, s => .cons r (t.append s)
theorem DqAll.snoc {H : Hp} {xs : List V} {ds : List PyData} {x : V} {d : PyData} (h : DqAll H xs ds) (h1 : Dq H x d) : DqAll H (xs ++ [x]) (ds ++ [d]) := h.append (.cons h1 .nil)
mutual
theorem Dq.same {H H' : Hp} (s : Same H H') : ∀ {v : V} (d : PyData), Dq H v d → Dq H' v d
  | _, .none, .non => .non
  | _, .bool _, .bl b => .bl b
  | _, .int _, .int i => .int i
  | _, .str _, .str x => .str x
  | _, .list _, .lst h t => .lst (s _ _ h) (DqAll.same s _ t)
  | _, .tuple _, .tup h t => .tup (s _ _ h) (DqAll.same s _ t)
theorem DqAll.same {H H' : Hp} (s : Same H H') : ∀ {vs : List V} (ds : List PyData), DqAll H vs ds → DqAll H' vs ds
  | _, [], .nil => .nil
  | _, _ :: _, .cons h t => .cons (Dq.same s _ h) (DqAll.same s _ t)
end
mutual
theorem Dq.dp {K : PySem.W.Frag} {H : Hp} : ∀ {v : V} (d : PyData), Dq H v d → Dp K H v d
  | _, .none, .non => .non
  | _, .bool _, .bl b => .bl b
  | _, .int _, .int i => .int i
  | _, .str _, .str x => .str x
  | _, .list _, .lst h t => .lst (SqL.of h) (DqAll.dp _ t)
  | _, .tuple _, .tup h t => .tup (SqT.of h) (DqAll.dp _ t)
theorem DqAll.dp {K : PySem.W.Frag} {H : Hp} : ∀ {vs : List V} (ds : List PyData), DqAll H vs ds → DpAll K H vs ds
  | _, [], .nil => .nil
  | _, _ :: _, .cons h t => .cons (Dq.dp _ h) (DqAll.dp _ t)
end
mutual
theorem Dq.fn {H : Hp} : ∀ {v : V} (d e : PyData), Dq H v d → Dq H v e → d = e
  | _, .none, _, .non, .non => rfl
  | _, .bool _, _, .bl _, .bl _ => rfl
  | _, .int _, _, .int _, .int _ => rfl
  | _, .str _, _, .str _, .str _ => rfl
  | _, .list ds, _, .lst h t, .lst h' t' => by
    rw [h] at h'
    cases h'
    rw [DqAll.fn _ _ t t']
  | _, .list _, _, .lst h _, .tup h' _ => by
    rw [h] at h'
    cases h'
  | _, .tuple ds, _, .tup h t, .tup h' t' => by
    rw [h] at h'
    cases h'
    rw [DqAll.fn _ _ t t']
  | _, .tuple _, _, .tup h _, .lst h' _ => by
    rw [h] at h'
    cases h'
theorem DqAll.fn {H : Hp} : ∀ {vs : List V} (ds es : List PyData), DqAll H vs ds → DqAll H vs es → ds = es
  | _, [], _, .nil, .nil => rfl
  | _, _ :: _, _, .cons h t, .cons h' t' => by rw [Dq.fn _ _ h h', DqAll.fn _ _ t t']
end
/-- the heap without one address -/
def Off (h : Addr) (H : Hp) : Hp := fun b => if b = h then none else H b
theorem off_same {h : Addr} {H : Hp} : Same (Off h H) H := fun b o e => by
  unfold Off at e
  by_cases z : b = h
  · rw [if_pos z] at e
    cases e
  · rw [if_neg z] at e
    exact e
theorem off_keep {h : Addr} {H H' : Hp} (k : ∀ b o, b ≠ h → H b = some o → H' b = some o) : Same (Off h H) (Off h H') := fun b o e => by
  unfold Off at e ⊢
  by_cases z : b = h
  · rw [if_pos z] at e
    cases e
  · rw [if_neg z] at e ⊢
    exact k b o z e
theorem off_of {h : Addr} {H H' : Hp} (s : Same H H') : Same (Off h H) (Off h H') := off_keep fun b o _ e => s b o e
theorem off_at {h a : Addr} {H : Hp} {o : HO} (n : a ≠ h) (e : H a = some o) : Off h H a = some o := by
  unfold Off
  rw [if_neg n]
  exact e
theorem same_new {H : Hp} {p : Addr} {o : HO} (h : H p = none) : Same H (upd H p o) := fun b x e => by
  rw [upd_ne (ne_of_none e h)]
  exact e
/-- a thing's kind as isinstance sees it -/
def isBlV : V → Bool
  | .bl _ => true
  | _ => false
def isNumV : V → Bool
  | .bl _ => true
  | .int _ => true
  | _ => false
def isIntV : V → Bool
  | .int _ => true
  | _ => false
def itemsD : PyData → Option (List PyData)
  | .list xs => some xs
  | .tuple xs => some xs
  | _ => none
theorem dq_ty {K : PySem.W.Frag} {H : Hp} {x : V} {d : PyData} (k : Dq H x d) : ∃ t, TyX K H x t ∧ PySem.W.kitOne K t (.type "bool") = some (isBlV x) ∧ PySem.W.kitOne K t (.type "int") = some (isNumV x) ∧
    PySem.W.kitAny K t [.type "list", .type "tuple"] = some (itemsD d).isSome ∧ PySem.W.kitOne K t (.type "tuple") = some (match d with | .tuple _ => true | _ => false) := by
  cases k with
  | non => exact ⟨_, .base .non, kit_ty (show kitB "NoneType" "bool" = some false by decide +kernel), kit_ty (show kitB "NoneType" "int" = some false by decide +kernel),
      kitAny_cons (b := false) (kit_ty (show kitB "NoneType" "list" = some false by decide +kernel)) (fun _ => kitAny_cons (b := false) (kit_ty (show kitB "NoneType" "tuple" = some false by decide +kernel)) (fun _ => kitAny_nil) (fun z => nomatch z)) (fun z => nomatch z), kit_ty (show kitB "NoneType" "tuple" = some false by decide +kernel)⟩
  | bl b => exact ⟨_, .base (.bl b), kit_ty (show kitB "bool" "bool" = some true by decide +kernel), kit_ty (show kitB "bool" "int" = some true by decide +kernel),
      kitAny_cons (b := false) (kit_ty (show kitB "bool" "list" = some false by decide +kernel)) (fun _ => kitAny_cons (b := false) (kit_ty (show kitB "bool" "tuple" = some false by decide +kernel)) (fun _ => kitAny_nil) (fun z => nomatch z)) (fun z => nomatch z), kit_ty (show kitB "bool" "tuple" = some false by decide +kernel)⟩
  | int i => exact ⟨_, .base (.int i), kit_ty (show kitB "int" "bool" = some false by decide +kernel), kit_ty (show kitB "int" "int" = some true by decide +kernel),
      kitAny_cons (b := false) (kit_ty (show kitB "int" "list" = some false by decide +kernel)) (fun _ => kitAny_cons (b := false) (kit_ty (show kitB "int" "tuple" = some false by decide +kernel)) (fun _ => kitAny_nil) (fun z => nomatch z)) (fun z => nomatch z), kit_ty (show kitB "int" "tuple" = some false by decide +kernel)⟩
  | str x => exact ⟨_, .base (.str x), kit_ty (show kitB "str" "bool" = some false by decide +kernel), kit_ty (show kitB "str" "int" = some false by decide +kernel),
      kitAny_cons (b := false) (kit_ty (show kitB "str" "list" = some false by decide +kernel)) (fun _ => kitAny_cons (b := false) (kit_ty (show kitB "str" "tuple" = some false by decide +kernel)) (fun _ => kitAny_nil) (fun z => nomatch z)) (fun z => nomatch z), kit_ty (show kitB "str" "tuple" = some false by decide +kernel)⟩
  | lst h _ => exact ⟨_, .base (.lst h), kit_ty (show kitB "list" "bool" = some false by decide +kernel), kit_ty (show kitB "list" "int" = some false by decide +kernel),
      kitAny_cons (b := true) (kit_ty (show kitB "list" "list" = some true by decide +kernel)) (fun z => nomatch z) (fun _ => rfl), kit_ty (show kitB "list" "tuple" = some false by decide +kernel)⟩
  | tup h _ => exact ⟨_, .base (.tup h), kit_ty (show kitB "tuple" "bool" = some false by decide +kernel), kit_ty (show kitB "tuple" "int" = some false by decide +kernel),
      kitAny_cons (b := false) (kit_ty (show kitB "tuple" "list" = some false by decide +kernel)) (fun _ => kitAny_cons (b := true) (kit_ty (show kitB "tuple" "tuple" = some true by decide +kernel)) (fun z => nomatch z) (fun _ => rfl)) (fun z => nomatch z), kit_ty (show kitB "tuple" "tuple" = some true by decide +kernel)⟩
end TkS
set_option Elab.async false
set_option linter.all false
set_option maxRecDepth 100000
set_option maxHeartbeats 4000000
/-! for and comprehensions over a list or a tuple -/
namespace TkS
open PySem PySem.Spec PyProof.Rows L2
def iSeq (K : PySem.W.Frag) (tl : TE) : TI := fun σ H R => iList K tl σ H R ∨ iTup K tl σ H R
theorem pi_seq {X : Cx} {tg l : Expr} {tl : TE} (hl : PE X l tl) : PI X tg l (iSeq X.K tl) :=
  ⟨fun pins s σ H R I h => h.elim (fun h => (pi_list hl).run pins s σ H R I h) (fun h => (pi_tup hl).run pins s σ H R I h)⟩
theorem seqT_same {K : PySem.W.Frag} {H H' : Hp} {a : Addr} {xs : List V} (s : Same H H') (h : SqT K H a xs) : SqT K H' a xs :=
  h.elim (fun h => .inl (h.elim (fun h => .inl (s _ _ h)) fun ⟨o, h⟩ => .inr ⟨o, s _ _ h⟩)) fun h => .inr h
def Sq (K : PySem.W.Frag) (H : Hp) (a : Addr) (xs : List V) : Prop := SqL K H a xs ∨ SqT K H a xs
theorem Sq.same {K : PySem.W.Frag} {H H' : Hp} {a : Addr} {xs : List V} (h : Sq K H a xs) (s : Same H H') : Sq K H' a xs :=
  h.elim (fun h => .inl (s.seq h)) (fun h => .inr (seqT_same s h))
theorem for_seq {K : PySem.W.Frag} {a : Addr} {xs : List V} {tl : TE} {g : TG} {tb : TS} {D : Ends} {σ : L2.St} {H : Hp} (Pv : Nat → L2.St → Hp → Prop) (ht : ∀ Q : VK, Q (.ref a) H → tl σ H Q) (hq : Sq K H a xs) (h0 : Pv 0 σ H)
    (hl : ∀ i σ H', i ≤ xs.length → Pv i σ H' → Same H H')
    (hs : ∀ i x σ H, xs[i]? = some x → Pv i σ H → g x σ H fun σ2 H2 => tb { D with nx := Pv (i + 1), ct := Pv (i + 1), bk := D.nx } σ2 H2) (hd : ∀ σ H, Pv xs.length σ H → D.nx σ H) :
    tFor (iSeq K tl) g tb D σ H :=
  hq.elim (fun h => .inl (ht _ ⟨a, rfl, ⟨xs, h⟩, for_list Pv h0 (fun i σ H' hi hP => (hl i σ H' hi hP).seq h) hs hd⟩))
    (fun h => .inr (ht _ ⟨a, rfl, ⟨xs, h⟩, for_tup Pv h0 (fun i σ H' hi hP => seqT_same (hl i σ H' hi hP) h) hs hd⟩))
theorem lc_seq {K : PySem.W.Frag} {a : Addr} {xs : List V} {tl : TE} {g : TG} {tt : TT} {te : TE} {vs : List Nat} {σ : L2.St} {H : Hp} {Q : VK} (Pv : Addr → Nat → Hp → Prop) (ht : ∀ Q : VK, Q (.ref a) H → tl σ H Q) (hq : Sq K H a xs)
    (h0 : ∀ D, H D = none → Pv D 0 (upd H D (.lst []))) (hl : ∀ D i H', H D = none → i ≤ xs.length → Pv D i H' → Same H H')
    (hs : ∀ D i x H', H D = none → xs[i]? = some x → Pv D i H' → g x (wipe σ vs) H' fun σ2 H2 => wipe σ2 vs = wipe σ vs ∧ tt σ2 H2 fun b H3 =>
      if b = true then te σ2 H3 fun y H4 => ∃ acc, H4 D = some (.lst acc) ∧ acc.length < sizeLine ∧ Pv D (i + 1) (upd H4 D (.lst (acc ++ [y]))) else Pv D (i + 1) H3) (hd : ∀ D H', H D = none → Pv D xs.length H' → Q (.ref D) H') :
    tLc (iSeq K tl) g tt te vs σ H Q :=
  hq.elim (fun h => .inl (ht _ ⟨a, rfl, ⟨xs, h⟩, fun D nD => lc_list (Pv D) (h0 D nD) (fun i H' hi hP => (hl D i H' nD hi hP).seq h) (fun i x H' => hs D i x H' nD) (fun H' => hd D H' nD)⟩))
    (fun h => .inr (ht _ ⟨a, rfl, ⟨xs, h⟩, fun D nD => lc_tup (Pv D) (h0 D nD) (fun i H' hi hP => seqT_same (hl D i H' nD hi hP) h) (fun i x H' => hs D i x H' nD) (fun H' => hd D H' nD)⟩))
/-- the items of a list or a tuple -/
theorem sq_of {K : PySem.W.Frag} {H : Hp} {x : V} {d : PyData} {ds : List PyData} (k : Dq H x d) (e : itemsD d = some ds) : ∃ (p : Addr) (xs : List V), x = .ref p ∧ DqAll H xs ds ∧ Sq K H p xs := by
  cases k with
  | lst h1 h2 =>
    cases e
    exact ⟨_, _, rfl, h2, .inl (SqL.of h1)⟩
  | tup h1 h2 =>
    cases e
    exact ⟨_, _, rfl, h2, .inr (SqT.of h1)⟩
  | _ => cases e
/-- tuple(x), x a list or a tuple of data -/
def rTupD : List V → Hp → VK → Prop := fun xs H Q => ∃ x d ds, xs = [x] ∧ Dq H x d ∧ itemsD d = some ds ∧ ∀ l H', Same H H' → Dq H' (.ref l) (.tuple ds) → Q (.ref l) H'
theorem call_tupD {X : Cx} : CallR X (.type "tuple") rTupD := by
  intro pins s σ H vs us Q I r h
  refine call_tuple_of pins s σ H vs us Q I r ?_
  obtain ⟨x, d, ds, rfl, k, e, q⟩ := h
  cases k with
  | lst h1 h2 =>
    cases e
    exact ⟨_, _, rfl, .inl ⟨SqL.of h1, fun l nl => q l _ (same_new nl) (.tup upd_same (DqAll.same (same_new nl) _ h2))⟩⟩
  | tup h1 h2 =>
    cases e
    exact ⟨_, _, rfl, .inr ⟨SqT.of h1, q _ _ (fun _ _ z => z) (.tup h1 h2)⟩⟩
  | _ => cases e
end TkS
set_option Elab.async false
set_option linter.all false
set_option maxRecDepth 100000
set_option maxHeartbeats 4000000
/-! sums and parts of tuples and lists of data -/
namespace TkS
open PySem PySem.Spec PyProof.Rows L2
theorem DqAll.take {H : Hp} : ∀ {xs : List V} {ds : List PyData}, DqAll H xs ds → ∀ n, DqAll H (xs.take n) (ds.take n)
  | _, _, _, 0 => .nil
  | _, _, .nil, _ + 1 => .nil
  | _, _, .cons h t, n + 1 => .cons h (t.take n)
theorem DqAll.drop {H : Hp} : ∀ {xs : List V} {ds : List PyData}, DqAll H xs ds → ∀ n, DqAll H (xs.drop n) (ds.drop n)
  | _, _, h, 0 => h
  | _, _, .nil, _ + 1 => .nil
  | _, _, .cons h t, n + 1 => t.drop n
theorem DqAll.of_get {H : Hp} : ∀ {xs : List V} {ds : List PyData}, xs.length = ds.length → (∀ (i : Nat) (x : V) (d : PyData), xs[i]? = some x → ds[i]? = some d → Dq H x d) → DqAll H xs ds
  | [], [], _, _ => .nil
  | x :: xs, d :: ds, e, h => .cons (h 0 x d rfl rfl) (DqAll.of_get (by simpa using e) fun i y f h1 h2 => h (i + 1) y f (by simpa using h1) (by simpa using h2))
theorem DqAll.rev {H : Hp} : ∀ {xs : List V} {ds : List PyData}, DqAll H xs ds → DqAll H xs.reverse ds.reverse
  | _, _, .nil => .nil
  | _, _, .cons h t => by
    rw [List.reverse_cons, List.reverse_cons]
    exact t.rev.snoc h
def cutD {α : Type} (xs : List α) (lo hi : Option Int) : List α := (xs.drop (HT.sIx xs.length 0 lo)).take (HT.sIx xs.length xs.length hi - HT.sIx xs.length 0 lo)
theorem cutD_lo {α : Type} (xs : List α) (n : Nat) : cutD xs (some (n : Int)) none = xs.drop n := by
  unfold cutD
  rw [HT.sIx_none, HT.sIx_nat]
  rcases Nat.le_total n xs.length with h | h
  · rw [Nat.min_eq_left h]
    exact List.take_of_length_le (by rw [List.length_drop]; omega)
  · rw [Nat.min_eq_right h, List.drop_of_length_le h, List.drop_of_length_le (Nat.le_refl _), List.take_nil]
theorem cutD_hi {α : Type} (xs : List α) (n : Nat) : cutD xs none (some (n : Int)) = xs.take n := by
  unfold cutD
  rw [HT.sIx_none, HT.sIx_nat]
  rcases Nat.le_total n xs.length with h | h
  · rw [Nat.min_eq_left h]
    rfl
  · rw [Nat.min_eq_right h, List.take_of_length_le h]
    exact List.take_of_length_le (by simp)
theorem DqAll.cut {H : Hp} {xs : List V} {ds : List PyData} (h : DqAll H xs ds) (lo hi : Option Int) : DqAll H (cutV xs lo hi) (cutD ds lo hi) := by
  unfold cutV cutD
  rw [h.len]
  exact (h.drop _).take _
theorem cutV_whole {α : Type} {xs : List α} {lo hi : Option Int} (h : HT.sIx xs.length 0 lo = 0 ∧ HT.sIx xs.length xs.length hi = xs.length) : cutD xs lo hi = xs := by
  unfold cutD
  rw [h.1, h.2]
  exact List.take_of_length_le (by simp)
def rCatD : R2 := fun x y H Q => ∃ ds es, Dq H x (.tuple ds) ∧ Dq H y (.tuple es) ∧ ds.length + es.length ≤ 1000 ∧ ∀ l H', Same H H' → Dq H' (.ref l) (.tuple (ds ++ es)) → Q (.ref l) H'
theorem thousand : 1000 ≤ sizeLine := by decide
theorem op_catD {X : Cx} : OpR X (binaryOp .Add) rCatD := by
  intro pins s σ H x y v u Q I rx ry h
  obtain ⟨ds, es, k1, k2, hl, q⟩ := h
  cases k1 with
  | tup h1 t1 =>
    cases k2 with
    | tup h2 t2 =>
      rename_i a xs b ys
      refine op_catA pins s σ H _ _ v u Q I rx ry ⟨a, b, xs, ys, rfl, rfl, SqT.of h1, SqT.of h2, ?_, fun e => ?_, fun _ e => ?_, fun _ _ p np => ?_⟩
      · rw [t1.len, t2.len]
        exact Nat.le_trans hl thousand
      · subst e
        cases t1
        exact q b H (fun _ _ z => z) (.tup h2 t2)
      · subst e
        cases t2
        exact q a H (fun _ _ z => z) (by rw [List.append_nil]; exact .tup h1 t1)
      · exact q p _ (same_new np) (.tup upd_same ((DqAll.same (same_new np) _ t1).append (DqAll.same (same_new np) _ t2)))
def rSlD : V → Option Int → Option Int → Hp → VK → Prop := fun x lo hi H Q => ∃ ds, Dq H x (.tuple ds) ∧ ∀ l H', Same H H' → Dq H' (.ref l) (.tuple (cutD ds lo hi)) → Q (.ref l) H'
theorem sl_tupD {X : Cx} : SlR X rSlD := by
  intro pins s σ H x v vl vu lo hi sl Q I rx hs pl pu h
  obtain ⟨ds, k, q⟩ := h
  cases k with
  | tup h1 t1 =>
    rename_i a xs
    refine sl_tupA pins s σ H _ v vl vu lo hi sl Q I rx hs pl pu ⟨a, xs, rfl, SqT.of h1, fun e => ?_, fun _ p np => ?_⟩
    · refine q a H (fun _ _ z => z) ?_
      rw [cutV_whole (by rw [← t1.len]; exact e)]
      exact .tup h1 t1
    · exact q p _ (same_new np) (.tup upd_same (DqAll.same (same_new np) _ (t1.cut lo hi)))
def rSlDL : V → Option Int → Option Int → Hp → VK → Prop := fun x lo hi H Q => ∃ ds, Dq H x (.list ds) ∧ ∀ l H', Same H H' → H l = none → Dq H' (.ref l) (.list (cutD ds lo hi)) → Q (.ref l) H'
theorem sl_listD {X : Cx} : SlR X rSlDL := by
  intro pins s σ H x v vl vu lo hi sl Q I rx hs pl pu h
  obtain ⟨ds, k, q⟩ := h
  cases k with
  | lst h1 t1 =>
    rename_i a xs
    exact sl_list pins s σ H _ v vl vu lo hi sl Q I rx hs pl pu ⟨a, xs, rfl, SqL.of h1, fun p np => q p _ (same_new np) np (.lst upd_same (DqAll.same (same_new np) _ (t1.cut lo hi)))⟩
/-- the sum of two lists -/
def rCatDL : R2 := fun x y H Q => ∃ ds es, Dq H x (.list ds) ∧ Dq H y (.list es) ∧ ds.length + es.length ≤ 1000 ∧ ∀ l H', Same H H' → H l = none → Dq H' (.ref l) (.list (ds ++ es)) → Q (.ref l) H'
theorem op_catDL {X : Cx} : OpR X (binaryOp .Add) rCatDL := by
  intro pins s σ H x y v u Q I rx ry h
  obtain ⟨ds, es, k1, k2, hl, q⟩ := h
  cases k1 with
  | lst h1 t1 =>
    cases k2 with
    | lst h2 t2 =>
      rename_i a xs b ys
      exact op_cat pins s σ H _ _ v u Q I rx ry ⟨a, b, xs, ys, rfl, rfl, h1, h2, by
        rw [t1.len, t2.len]
        exact Nat.le_trans hl thousand, fun p np => q p _ (same_new np) np (.lst upd_same ((DqAll.same (same_new np) _ t1).append (DqAll.same (same_new np) _ t2)))⟩
end TkS
set_option Elab.async false
set_option linter.all false
set_option maxRecDepth 100000
set_option maxHeartbeats 4000000
/-! a tuple whose object is known (its methods may be called) -/
namespace TkS
open PySem PySem.Spec PyProof.Rows L2
def Frz (H : Hp) (a : Addr) (xs : List V) : Prop := ∃ o : Obj, H a = some (.frz o (.tup xs)) ∧ o.cls = .type "tuple" ∧ o.dict = none
theorem Frz.same {H H' : Hp} {a : Addr} {xs : List V} (h : Frz H a xs) (s : Same H H') : Frz H' a xs := by
  obtain ⟨o, h1, h2⟩ := h
  exact ⟨o, s _ _ h1, h2⟩
theorem Frz.seq {K : PySem.W.Frag} {H : Hp} {a : Addr} {xs : List V} (h : Frz H a xs) : SqT K H a xs := by
  obtain ⟨o, h1, _⟩ := h
  exact .inl (.inr ⟨o, h1⟩)
theorem Frz.ty {K : PySem.W.Frag} {H : Hp} {a : Addr} {xs : List V} (h : Frz H a xs) : TyX K H (.ref a) (.type "tuple") := by
  obtain ⟨o, h1, _⟩ := h
  exact .fTuple h1
theorem Frz.fn {H : Hp} {a : Addr} {xs ys : List V} (h : Frz H a xs) (h' : Frz H a ys) : xs = ys := by
  obtain ⟨o, h1, _⟩ := h
  obtain ⟨o', h1', _⟩ := h'
  rw [h1] at h1'
  cases h1'
  rfl
def rTupF (K : PySem.W.Frag) : List V → Hp → VK → Prop := fun xs H Q => ∃ p ys, xs = [.ref p] ∧ SqL K H p ys ∧ ∀ l H', Same H H' → H l = none → Frz H' l ys → Q (.ref l) H'
theorem call_tupF {X : Cx} : CallR X (.type "tuple") (rTupF X.K) := by
  intro pins s σ H xs us Q I r h
  obtain ⟨p, ys, rfl, hq, q⟩ := h
  obtain ⟨u, rfl, rx⟩ := vals1 r
  cases rx
  obtain ⟨its, r', pl, hz⟩ := I.list hq
  have hlen := r'.length
  refine call_tuple_list pl.isList (fun h' kp => ?_) (by simp only [List.size_toArray] <;> omega)
  have I1 : Inv X pins σ H { s with heap := h' } := I.kept (t' := s.toks) kp
  have I2 : Inv X pins σ (upd H h'.objs.size (.frz { cls := .type "tuple", data := .seq its.toArray } (.tup ys))) { s with heap := h'.push { cls := .type "tuple", data := .seq its.toArray } } :=
    I1.laid (t' := s.toks) (fun b o e => Heap.get?_push_of_some _ e) (Nat.le_refl _) (show ObjOk X.prog X.w _ _ _ (.frz _ (.tup ys)) from ⟨Heap.get?_push_size _ rfl, hz, its, r', IsTup.new _ _⟩)
  have nf := I1.hok.fresh (Nat.le_refl _)
  exact ⟨.ref h'.objs.size, _, I2, rfl, q _ _ (same_new nf) nf ⟨_, upd_same, rfl, rfl⟩⟩
def tBMF (r : V → List V → Hp → VK → Prop) (to : TE) (t : TA) : TE := fun σ H Q => to σ H fun x H1 => (∃ a xs, x = .ref a ∧ Frz H1 a xs) ∧ t σ H1 fun xs H2 => r x xs H2 Q
theorem pe_bmF {X : Cx} {o e : Expr} {es : List Expr} {to : TE} {t : TA} {name : Str} {apos cpos : Pos} {id : String} {r : V → List V → Hp → VK → Prop} (pa : PlainAttrs "tuple") (slot : Slot "tuple" name id) (hty : typeOf (.builtin id) = pure (.type "method_descriptor")) (hm : MtR X id r) (ho : PE X o to) (ha : PA X (e :: es) t)
    (hbase : attributeBase o name X.env (eval o X.env) = eval o X.env := by rfl)
    (hfew : ((backTo cpos (starEach (e :: es) X.env)).all (fun x => !x.1) && (backToKw cpos (keywordEach [] X.env)).all (fun x => x.1.isSome)
      && decide ((e :: es).length + ([] : List Keyword).length + (if ([] : List Keyword).isEmpty then 0 else 1) < 30)) = true := by rfl)
    (hline : (apos.endLine == cpos.line) = true := by rfl) (hs : starEach (e :: es) X.env = (false, eval e X.env) :: starEach es X.env := by rfl) (hplain : (backTo cpos (starEach es X.env)).any (·.1) = false := by rfl) :
    PE X (.Call (.Attribute o name apos) (e :: es) [] cpos) (tBMF r to t) := by
  refine ⟨fun pins s σ H Q I h => ?_⟩
  refine wpAny_Call_method_late hbase hfew hline rfl (thn (ho.run pins s σ H _ I h) fun v s1 ⟨x, H1, I1, r1, ⟨a, xs, ex, o, h1, h2, h3⟩, q1⟩ => ?_)
  subst ex
  cases r1
  have hk := (I1.hok a _ h1).1
  refine ⟨"tuple", id, pa, slot, hty, ⟨o, hk, h2⟩, fun b e => by cases e; exact ⟨o, hk, h3⟩, ?_⟩
  have hA := ha.run cpos pins s1 σ H1 _ I1 q1
  rw [hs] at hA ⊢
  refine Calls.callWith_builtin (by show (false || (backTo cpos (starEach es X.env)).any (·.1)) = false; rw [hplain] <;> rfl) (Calls.evalArgs_plain ?_)
  exact thn hA fun us s2 ⟨vs, H2, I2, r2, q2⟩ => hm pins s2 σ H2 (.ref a) vs _ us Q I2 rfl r2 q2
theorem Frz.dp {K : PySem.W.Frag} {H : Hp} {a : Addr} {xs : List V} {ds : List PyData} (h : Frz H a xs) (k : DqAll H xs ds) : Dp K H (.ref a) (.tuple ds) := .tup h.seq (DqAll.dp _ k)
/-- such a tuple and a tuple that is not empty -/
def rCatF : R2 := fun x y H Q => ∃ (a : Addr) (xs : List V) (ds es : List PyData), x = .ref a ∧ Frz H a xs ∧ DqAll H xs ds ∧ Dq H y (.tuple es) ∧ es ≠ [] ∧ ds.length + es.length ≤ 1000 ∧ ∀ l H', Same H H' → Dq H' (.ref l) (.tuple (ds ++ es)) → Q (.ref l) H'
theorem op_catF {X : Cx} : OpR X (binaryOp .Add) rCatF := by
  intro pins s σ H x y v u Q I rx ry h
  obtain ⟨a, xs, ds, es, rfl, f, t1, k2, ne, hl, q⟩ := h
  cases k2 with
  | tup h2 t2 =>
    rename_i b ys
    refine op_catA pins s σ H _ _ v u Q I rx ry ⟨a, b, xs, ys, rfl, rfl, f.seq, SqT.of h2, ?_, fun e => ?_, fun _ e => ?_, fun _ _ p np => ?_⟩
    · rw [t1.len, t2.len]
      exact Nat.le_trans hl thousand
    · subst e
      cases t1
      exact q b H (fun _ _ z => z) (.tup h2 t2)
    · subst e
      cases t2
      exact absurd rfl ne
    · exact q p _ (same_new np) (.tup upd_same ((DqAll.same (same_new np) _ t1).append (DqAll.same (same_new np) _ t2)))
/-- a part of such a tuple that is not the whole -/
def rSlF : V → Option Int → Option Int → Hp → VK → Prop := fun x lo hi H Q => ∃ (a : Addr) (xs : List V) (ds : List PyData), x = .ref a ∧ Frz H a xs ∧ DqAll H xs ds ∧ ¬ (HT.sIx ds.length 0 lo = 0 ∧ HT.sIx ds.length ds.length hi = ds.length) ∧
  ∀ l H', Same H H' → Dq H' (.ref l) (.tuple (cutD ds lo hi)) → Q (.ref l) H'
theorem sl_tupF {X : Cx} : SlR X rSlF := by
  intro pins s σ H x v vl vu lo hi sl Q I rx hs pl pu h
  obtain ⟨a, xs, ds, rfl, f, t1, nw, q⟩ := h
  refine sl_tupA pins s σ H _ v vl vu lo hi sl Q I rx hs pl pu ⟨a, xs, rfl, f.seq, fun e => ?_, fun _ p np => ?_⟩
  · rw [t1.len] at e
    exact absurd e nw
  · exact q p _ (same_new np) (.tup upd_same (DqAll.same (same_new np) _ (t1.cut lo hi)))
end TkS
set_option Elab.async false
set_option linter.all false
set_option maxRecDepth 100000
set_option maxHeartbeats 4000000
/-! comprehensions whose items are data -/
namespace TkS
open PySem PySem.Spec PyProof.Rows L2
theorem off_put {h : Addr} {H : Hp} {o : HO} : TkS.Off h (upd H h o) = TkS.Off h H := by
  funext b
  unfold TkS.Off
  by_cases z : b = h
  · rw [if_pos z, if_pos z]
  · rw [if_neg z, if_neg z, upd_ne z]
theorem filter_snoc {α β : Type} (p : α → Bool) (f : α → β) {l : List α} {i : Nat} {x : α} (h : l[i]? = some x) :
    ((l.take (i + 1)).filter p).map f = if p x = true then ((l.take i).filter p).map f ++ [f x] else ((l.take i).filter p).map f := by
  rw [List.take_add_one, h]
  show ((l.take i ++ [x]).filter p).map f = _
  rw [List.filter_append, List.map_append, List.filter_cons]
  by_cases c : p x = true
  · rw [if_pos c, if_pos c]
    rfl
  · rw [if_neg c, if_neg c]
    show ((l.take i).filter p).map f ++ [] = _
    rw [List.append_nil]
theorem len_ft {α β : Type} (p : α → Bool) (f : α → β) (l : List α) : ((l.filter p).map f).length ≤ l.length := by
  rw [List.length_map]
  exact List.length_filter_le _ _
/-- the shared turn: a list D under way -/
def Acc (H0 : Hp) (D : Addr) (ds : List PyData) (H' : Hp) : Prop := Same H0 H' ∧ ∃ ys, H' D = some (.lst ys) ∧ DqAll (TkS.Off D H') ys ds
theorem Acc.nil {H0 : Hp} {D : Addr} (nD : H0 D = none) : Acc H0 D [] (upd H0 D (.lst [])) := ⟨same_new nD, [], upd_same, .nil⟩
theorem Acc.put {H0 H' H'' : Hp} {D : Addr} {ds : List PyData} {y : V} {d : PyData} (a : Acc H0 D ds H') (nD : H0 D = none) (hl : ds.length ≤ 900) (s : Same H' H'') (k : Dq (TkS.Off D H'') y d) :
    ∃ acc, H'' D = some (.lst acc) ∧ acc.length < sizeLine ∧ Acc H0 D (ds ++ [d]) (upd H'' D (.lst (acc ++ [y]))) := by
  obtain ⟨s0, ys, h1, h2⟩ := a
  refine ⟨ys, s _ _ h1, ?_, fun b o e => ?_, ys ++ [y], upd_same, ?_⟩
  · rw [h2.len]
    exact Nat.lt_of_le_of_lt hl (by decide)
  · rw [upd_ne (ne_of_none e nD)]
    exact s _ _ (s0 _ _ e)
  · rw [off_put]
    exact (DqAll.same (off_of s) _ h2).snoc k
theorem Acc.mv {H0 H' H'' : Hp} {D : Addr} {ds : List PyData} (a : Acc H0 D ds H') (s : Same H' H'') : Acc H0 D ds H'' := by
  obtain ⟨s0, ys, h1, h2⟩ := a
  exact ⟨s0.trans s, ys, s _ _ h1, DqAll.same (off_of s) _ h2⟩
theorem Acc.dq {H0 H' : Hp} {D : Addr} {ds : List PyData} (a : Acc H0 D ds H') : Dq H' (.ref D) (.list ds) := by
  obtain ⟨s0, ys, h1, h2⟩ := a
  exact .lst h1 (DqAll.same off_same _ h2)
theorem lc_rngD {tt : TT} {te : TE} {vs : List Nat} {σ : L2.St} {H0 : Hp} {D : Addr} {Qd : Hp → Prop} {j n : Nat} (f : Nat → Bool) (e : Nat → PyData)
    (nD : H0 D = none) (hl : n ≤ 900) (hw : ∀ x : V, wipe ((wipe σ vs).set j (some x)) vs = wipe σ vs)
    (ht : ∀ (i : Nat) (H' : Hp) (Q : Bool → Hp → Prop), i < n → Same H0 H' → (∀ H'', Same H' H'' → Q (f i) H'') → tt ((wipe σ vs).set j (some (.int (0 + (i : Int))))) H' Q)
    (he : ∀ (i : Nat) (H' : Hp) (Q : VK), i < n → f i = true → Same H0 H' → (∃ acc, H' D = some (.lst acc)) → (∀ y H'', Same H' H'' → Dq (TkS.Off D H'') y (e i) → Q y H'') → te ((wipe σ vs).set j (some (.int (0 + (i : Int))))) H' Q)
    (hd : ∀ H', Same H0 H' → Dq H' (.ref D) (.list (((List.range n).filter f).map e)) → Qd H') :
    ∃ W : Nat → Nat → Hp → Prop, (∃ m, W 0 m (upd H0 D (.lst []))) ∧ ∀ i m H, W i m H →
      ((Itr 0 n).stop i H ∧ Qd H) ∨ ((Itr 0 n).go i H ∧ ∃ Nx : Hp → Prop, (∀ H', Nx H' → ∃ m', m' < m ∧ W (i + 1) m' H') ∧ ∀ x H', (Itr 0 n).yld i H x H' → gName j x (wipe σ vs) H' fun σ2 H2 => wipe σ2 vs = wipe σ vs ∧ tt σ2 H2 fun b H3 =>
        if b = true then te σ2 H3 fun y H4 => ∃ acc, H4 D = some (.lst acc) ∧ acc.length < sizeLine ∧ Nx (upd H4 D (.lst (acc ++ [y]))) else Nx H3) := by
  refine lc_range (lo := 0) (n := n) (fun i H' => Acc H0 D (((List.range i).filter f).map e) H') (Acc.nil nD) (fun i H' hi hP => ?_) (fun H' hP => ?_)
  · refine ⟨hw _, ht i H' _ hi hP.1 fun H2 s2 => ?_⟩
    have er : ((List.range (i + 1)).filter f).map e = if f i = true then ((List.range i).filter f).map e ++ [e i] else ((List.range i).filter f).map e := by
      rw [List.range_succ, List.filter_append, List.map_append, List.filter_cons]
      by_cases c : f i = true
      · rw [if_pos c, if_pos c]
        rfl
      · rw [if_neg c, if_neg c]
        show _ ++ [] = _
        rw [List.append_nil]
    have hP2 := hP.mv s2
    cases c : f i with
    | true =>
      refine he i H2 _ hi c hP2.1 ⟨_, hP2.2.choose_spec.1⟩ fun y H3 s3 k => ?_
      rw [er, if_pos c]
      refine hP2.put nD ?_ s3 k
      have := len_ft f e (List.range i)
      rw [List.length_range] at this
      omega
    | false =>
      show Acc _ _ _ _
      rw [er, c, if_neg Bool.false_ne_true]
      exact hP2
  · exact hd H' hP.1 hP.dq
theorem lc_seqD {K : PySem.W.Frag} {a : Addr} {xs : List V} {ds : List PyData} {tl : TE} {tt : TT} {te : TE} {vs : List Nat} {σ : L2.St} {H : Hp} {Q : VK} {j : Nat} (f : PyData → Bool) (e : PyData → PyData)
    (ht0 : ∀ Q : VK, Q (.ref a) H → tl σ H Q) (hq : Sq K H a xs) (hx : DqAll H xs ds) (hl : ds.length ≤ 900) (hw : ∀ x : V, wipe ((wipe σ vs).set j (some x)) vs = wipe σ vs)
    (ht : ∀ (i : Nat) (x : V) (d : PyData) (H' : Hp) (Q : Bool → Hp → Prop), ds[i]? = some d → Same H H' → Dq H' x d → (∀ H'', Same H' H'' → Q (f d) H'') → tt ((wipe σ vs).set j (some x)) H' Q)
    (he : ∀ (D : Addr) (i : Nat) (x : V) (d : PyData) (H' : Hp) (Q : VK), H D = none → ds[i]? = some d → f d = true → Same H H' → Dq H' x d → (∃ acc, H' D = some (.lst acc)) → (∀ y H'', Same H' H'' → Dq (TkS.Off D H'') y (e d) → Q y H'') → te ((wipe σ vs).set j (some x)) H' Q)
    (hd : ∀ D H', H D = none → Same H H' → Dq H' (.ref D) (.list ((ds.filter f).map e)) → Q (.ref D) H') :
    tLc (iSeq K tl) (gName j) tt te vs σ H Q := by
  refine lc_seq (fun D i H' => Acc H D (((ds.take i).filter f).map e) H') ht0 hq (fun D nD => Acc.nil nD) (fun D i H' _ _ hP => hP.1) (fun D i x H' nD hxi hP => ?_) (fun D H' nD hP => ?_)
  · obtain ⟨d, hdi, kd⟩ := hx.get hxi
    have kd1 := kd.same hP.1
    refine ⟨hw _, ht i x d H' _ hdi hP.1 kd1 fun H2 s2 => ?_⟩
    have hP2 := hP.mv s2
    cases c : f d with
    | true =>
      refine he D i x d H2 _ nD hdi c hP2.1 (kd1.same s2) ⟨_, hP2.2.choose_spec.1⟩ fun y H3 s3 k => ?_
      rw [filter_snoc _ _ hdi, if_pos c]
      refine hP2.put nD ?_ s3 k
      have := len_ft f e (ds.take i)
      rw [List.length_take] at this
      omega
    | false =>
      show Acc _ _ _ _
      rw [filter_snoc _ _ hdi, c, if_neg Bool.false_ne_true]
      exact hP2
  · rw [hx.len, List.take_length] at hP
    exact hd D H' nD hP.1 hP.dq
/-! data without a list -/
mutual
def noList : PyData → Bool
  | .list _ => false
  | .tuple ds => noLists ds
  | _ => true
def noLists : List PyData → Bool
  | [] => true
  | d :: ds => noList d && noLists ds
end
mutual
theorem dq_noL {H : Hp} {D : Addr} {acc : List V} (h : H D = some (.lst acc)) : ∀ {v : V} (d : PyData), noList d = true → Dq H v d → Dq (TkS.Off D H) v d
  | _, .none, _, .non => .non
  | _, .bool _, _, .bl b => .bl b
  | _, .int _, _, .int i => .int i
  | _, .str _, _, .str x => .str x
  | _, .list _, n, .lst e t => by cases n
  | _, .tuple ds, n, .tup e t => .tup (off_at (fun z => by rw [z, h] at e; cases e) e) (dqs_noL h ds n t)
theorem dqs_noL {H : Hp} {D : Addr} {acc : List V} (h : H D = some (.lst acc)) : ∀ {vs : List V} (ds : List PyData), noLists ds = true → DqAll H vs ds → DqAll (TkS.Off D H) vs ds
  | _, [], _, .nil => .nil
  | _, d :: ds, n, .cons k t => .cons (dq_noL h d (by
      have n' : (noList d && noLists ds) = true := n
      exact (Bool.and_eq_true_iff.mp n').1) k) (dqs_noL h ds (by
      have n' : (noList d && noLists ds) = true := n
      exact (Bool.and_eq_true_iff.mp n').2) t)
end
/-! a hand (a list of a list and three ints) is no part of other data -/
def handD : PyData → Bool
  | .list [_, .int _, .int _, .int _] => true
  | _ => false
mutual
def noHand : PyData → Bool
  | .list ds => !handD (.list ds) && noHands ds
  | .tuple ds => noHands ds
  | _ => true
def noHands : List PyData → Bool
  | [] => true
  | d :: ds => noHand d && noHands ds
end
mutual
theorem dq_hand {H H' : Hp} {h : Addr} {c : V} {p r t : Int} (hh : H h = some (.lst [c, .int p, .int r, .int t])) (k : ∀ b o, b ≠ h → H b = some o → H' b = some o) : ∀ {v : V} (d : PyData), noHand d = true → Dq H v d → Dq H' v d
  | _, .none, _, .non => .non
  | _, .bool _, _, .bl b => .bl b
  | _, .int _, _, .int i => .int i
  | _, .str _, _, .str x => .str x
  | _, .list ds, n, .lst e u => by
    have n' : (!handD (.list ds) && noHands ds) = true := n
    obtain ⟨n1, n2⟩ := Bool.and_eq_true_iff.mp n'
    refine .lst (k _ _ (fun z => ?_) e) (dqs_hand hh k ds n2 u)
    rw [z, hh] at e
    cases e
    cases u with
    | cons u0 u =>
      cases u with
      | cons u1 u =>
        cases u with
        | cons u2 u =>
          cases u with
          | cons u3 u =>
            cases u
            cases u1
            cases u2
            cases u3
            exact absurd n1 (by simp [handD])
  | _, .tuple ds, n, .tup e u => .tup (k _ _ (fun z => by rw [z, hh] at e; cases e) e) (dqs_hand hh k ds n u)
theorem dqs_hand {H H' : Hp} {h : Addr} {c : V} {p r t : Int} (hh : H h = some (.lst [c, .int p, .int r, .int t])) (k : ∀ b o, b ≠ h → H b = some o → H' b = some o) : ∀ {vs : List V} (ds : List PyData), noHands ds = true → DqAll H vs ds → DqAll H' vs ds
  | _, [], _, .nil => .nil
  | _, d :: ds, n, .cons u v => .cons (dq_hand hh k d (by
      have n' : (noHand d && noHands ds) = true := n
      exact (Bool.and_eq_true_iff.mp n').1) u) (dqs_hand hh k ds (by
      have n' : (noHand d && noHands ds) = true := n
      exact (Bool.and_eq_true_iff.mp n').2) v)
end
end TkS
set_option Elab.async false
set_option linter.all false
set_option maxRecDepth 100000
set_option maxHeartbeats 4000000
/-! len(set(xs)), xs a list of tuples of ints -/
namespace TkS
open PySem PySem.Spec PyProof.Rows L2
def rLenSetT (P : Program) (w : World) : List V → Hp → VK → Prop := fun xs H Q => ∃ (a : Addr) (L : List (Addr × List Int)), xs = [.ref a] ∧ H a = some (SetTO P w a L) ∧ (∀ p ∈ L, ∃ ys, H p.1 = some (.tup ys) ∧ ys = p.2.map V.int) ∧ ((L.map (·.2)).Nodup → Q (.int (L.length : Int)) H)
theorem call_lenSetT {X : Cx} : CallR X (.builtin "len") (rLenSetT X.prog X.w) := by
  intro pins s σ H xs us Q I r h
  obtain ⟨a, L, rfl, ha, ht, q⟩ := h
  obtain ⟨u, rfl, rx⟩ := vals1 r
  cases rx
  have R0 : SetT0 X.prog X.w s.heap a L := (I.hok a _ ha).1
  obtain ⟨es, ep, t, R⟩ := R0.full fun p hp => by
    obtain ⟨ys, h1, h2⟩ := ht p hp
    subst h2
    exact I.isT (.inl (.inl h1))
  obtain ⟨o, ho, hex, hd⟩ := R.ob
  have hsz := R.size
  have few := R.few
  refine call_len_set ho hex hd R.fits (by rw [hsz]; omega) ⟨.int (L.length : Int), H, I.tok _, ⟨_, by rw [hsz]⟩, q R.nd⟩
theorem nd_le {α : Type} [DecidableEq α] : ∀ {A B : List α}, A.Nodup → (∀ x ∈ A, x ∈ B) → A.length ≤ B.length
  | [], _, _, _ => Nat.zero_le _
  | a :: A, B, n, s => by
    have ha := s a List.mem_cons_self
    have n2 := List.nodup_cons.mp n
    have := nd_le (A := A) (B := B.erase a) n2.2 fun x m => (List.mem_erase_of_ne (show x ≠ a from fun z => by subst z; exact n2.1 m)).mpr (s x (List.mem_cons_of_mem _ m))
    have e := (List.perm_cons_erase ha).length_eq
    simp only [List.length_cons] at e ⊢
    omega
theorem nd_perm {α : Type} [DecidableEq α] : ∀ {A B : List α}, A.Nodup → (∀ x ∈ A, x ∈ B) → A.length = B.length → A.Perm B
  | [], B, _, _, e => by
    have : B = [] := List.length_eq_zero_iff.mp e.symm
    rw [this]
  | a :: A, B, n, s, e => by
    have ha := s a List.mem_cons_self
    have n2 := List.nodup_cons.mp n
    have pe := List.perm_cons_erase ha
    have e2 := pe.length_eq
    simp only [List.length_cons] at e e2
    exact ((nd_perm (A := A) (B := B.erase a) n2.2 (fun x m => (List.mem_erase_of_ne (show x ≠ a from fun z => by subst z; exact n2.1 m)).mpr (s x (List.mem_cons_of_mem _ m))) (by omega)).cons a).trans pe.symm
theorem nd_iff {α : Type} [DecidableEq α] {A B : List α} (n : A.Nodup) (s : ∀ x ∈ A, x ∈ B) (s' : ∀ x ∈ B, x ∈ A) : A.length = B.length ↔ B.Nodup :=
  ⟨fun e => (nd_perm n s e).nodup_iff.mp n, fun nb => Nat.le_antisymm (nd_le n s) (nd_le nb s')⟩
end TkS
set_option Elab.async false
set_option linter.all false
set_option maxRecDepth 100000
set_option maxHeartbeats 4000000
/-! try with several clauses that each bind the error to one and the same name -/
namespace TkS
open PySem PySem.Spec PyProof.Rows L2
/-- a clause's ends: behind the suite the name is gone -/
def goneE (i : Nat) (D : Ends) : Ends := { nx := fun σ' H' => D.nx (σ'.set i none) H', rt := D.rt, bk := fun σ' H' => D.bk (σ'.set i none) H', ct := fun σ' H' => D.ct (σ'.set i none) H' }
def wAsM (K : PySem.W.Frag) (i : Nat) (Wout : WX) (D : Ends) : List (Value × (Addr → Value → Option Addr → TS)) → WX
  | [] => Wout
  | (c, ts) :: r => fun cls d σ H => ∃ b, PySem.W.exmOne K cls c = some b ∧ (b = true → ∀ a, H a = none → ts a cls d (goneE i D) (σ.set i (some (.ref a))) H) ∧ (b = false → wAsM K i Wout D r cls d σ H)
inductive AsOk (X : Cx) (n : Str) : List ExceptHandler → List (Value × (Addr → Value → Option Addr → TS)) → Prop
  | nil : AsOk X n [] []
  | cons {x : Str} {c : Value} {ts : Addr → Value → Option Addr → TS} {b₀ : Stmt} {suite : List Stmt} {np pos' : Pos} {hds : List ExceptHandler} {l : List (Value × (Addr → Value → Option Addr → TS))} (hc : Names X x c)
      (hsu : ∀ (a : Addr) (oe : Obj) (cls : Value) (d : Option Addr) (pn : List (Addr × Obj)), Zc cls d oe → (∃ vs, oe.data = .fields vs) → PSs (X.suite a ((a, oe) :: pn)) (b₀ :: suite) (ts a cls d)) (r : AsOk X n hds l) :
      AsOk X n (.ExceptHandler (some (.Name x np)) (some n) (b₀ :: suite) pos' :: hds) ((c, ts) :: l)
section
variable {X : Cx} {n : Str} {i : Nat} {body : List Stmt} {h₀ : ExceptHandler} {hds : List ExceptHandler} {l : List (Value × (Addr → Value → Option Addr → TS))} {pos : Pos} {tb : WX → TS} {Wout : WX}
theorem ps_try_asM (hs : X.stack = X.env :: X.outer) (hf : X.env.frame = some X.env.locals) (hN : X.N.Nodup) (hi : X.N[i]? = some n) (hln : X.env.kindOf n = some .local) (tk : Takes X Wout)
    (hb : ∀ (W : WX) (pn : List (Addr × Obj)) (xe : Value → Shared → Prop), Takes (X.tr pn xe) W → PassesOwn (model X.prog X.w) X.A X.env xe → PSs (X.tr pn xe) body (tb W))
    (hh : AsOk X n (h₀ :: hds) l) : PS X (.Try body (h₀ :: hds) [] [] pos) (fun D σ H => tb (wAsM X.K i Wout D l) D σ H) := by
  refine ⟨fun pins s σ H D I h => wpAny_Try_except ?_⟩
  have ok := I.ok
  have hfr : X.A.frames = some (X.env :: X.outer) := by rw [ok.frames, hs]
  refine wpAny_mono ((hb (wAsM X.K i Wout D l) (X.pn ++ pins) (fun e s₁ => wpAny (model X.prog X.w) X.A (noteFrame e X.env) (fun _ s₂ => wpAny (model X.prog X.w) X.A (setFlight e none) (fun _ s₃ =>
    wpAny (model X.prog X.w) X.A (handleBy e X.env (h₀ :: hds)) (SP X pins D) X.xe s₃) X.xe s₂) X.xe s₁) (fun u s' xx => ?_) PassesOwn.looking).run [] s σ H D (I.toTry _) h) (fun f s1 hsp => ?_) (fun e s1 he => he)
  · obtain ⟨a, B, sI, pins', σ', H', cls, d, rfl, J', nb, up, sky, na, os, ag, w⟩ := xx
    have J : Inv X pins σ' H' sI := J'.ofTry ok
    refine Sky.land Zc.steady hfr hf (by rw [← hs]; exact sky) fun h3 fl3 up3 => ?_
    have J3 : Inv X pins σ' H' { s' with heap := h3 } := J.landed nb fl3.1 (up.trans up3) os ag
    obtain ⟨oe3, vs3, he3, hz3, hd3⟩ := fl3.there
    have nfr : a ∉ frs (X.env :: X.outer) := fun hm => by
      obtain ⟨_, o', e', hnf⟩ := fl3.2.2.1.mem hm
      rw [he3] at e'
      cases e'
      exact hnf _ hd3
    have nL : a ≠ X.env.locals := fun z => nfr (List.mem_filterMap.mpr ⟨X.env, List.mem_cons_self, by rw [hf, z]⟩)
    have nF : a ∉ X.fs := fun hm => by
      obtain ⟨e, he, q⟩ := List.mem_filterMap.mp hm
      exact nfr (List.mem_filterMap.mpr ⟨e, List.mem_cons_of_mem _ he, q⟩)
    have S3 := J3.suite he3 hd3 na nL nF
    have go : ∀ {hds' : List ExceptHandler} {l' : List (Value × (Addr → Value → Option Addr → TS))}, AsOk X n hds' l' → wAsM X.K i Wout D l' cls d σ' H' →
        wpAny (model X.prog X.w) X.A (handleBy (.ref a) X.env hds') (SP X pins D) X.xe { s' with heap := h3 } := by
      intro hds' l' hk
      induction hk with
      | nil =>
        intro w
        refine wpAny_handleBy_nil ?_
        obtain ⟨k1, k2, k3, oe, vs, T, oT, ts', he, hz, hd, h1, hr⟩ := id fl3
        unfold PySem.passOn
        refine wpAny_bind (wpAny_field he hd h1 ?_)
        rw [if_neg (show ¬ ((Value.ref T == Value.none) = true) from by simp)]
        have fin : wpAny (model X.prog X.w) X.A (setFlight (.ref a) X.env.frame) (fun _ s4 => wpAny (model X.prog X.w) X.A (throw (.ref a) : Sem Flow) (SP X pins D) X.xe s4) X.xe { s' with heap := h3 } := by
          rw [hf]
          exact HandSPX.setFlight_upZ fl3 fun h4 hh4 up4 => wpAny_throw (tk _ _ ⟨a, B, sI, pins, σ', H', cls, d, rfl, J, nb, (up.trans up3).trans up4, .inr (.inr (by rw [hs]; exact hh4)), na, os, ag, w⟩)
        first
          | exact wpAny_bind (wpAny_pure (wpAny_bind fin))
          | exact wpAny_bind fin
      | @cons x c ts b₀ suite np pos' hds2 l2 hc hsu r ih =>
        intro w
        obtain ⟨b, hb1, hyes, hno⟩ := w
        refine wpAny_handleBy_cons (codeAny_handlers_test ?_) (by intro q; cases q)
        have LM := PySem.W.exm_one (M := model X.prog X.w) (J3.kIn) (fun A Q E s k q => wpAny_typeOf_ref (k _ _ he3) (by rw [hz3.1]; exact q)) hb1
        have test : ∀ {Q : Value → Shared → Prop} {E : Value → Shared → Prop}, Q c { s' with heap := h3 } → wpAny (model X.prog X.w) (X.A.mark (some (.ref a))) (eval (.Name x np) X.env) Q E { s' with heap := h3 } := fun {Q E} q => by
          obtain ⟨hg, hdbg, hm | ⟨hm, hv, hnn⟩⟩ := hc
          · exact ld_glob (X := X.suite a ((a, oe3) :: (X.pn ++ pins))) S3 hg hm q hdbg
          · exact ld_blt (X := X.suite a ((a, oe3) :: (X.pn ++ pins))) S3 hg hm hv q hnn hdbg
        refine test (LM.here ?_)
        cases b with
        | false => exact ih (hno rfl)
        | true =>
          refine codeAny_handlers_suite_as (HandSPX.lands_againZ fl3 fun h4 fl4 up4 => ?_)
          have J4 : Inv X pins σ' H' { s' with heap := h4 } := J.landed nb fl4.1 ((up.trans up3).trans up4) os ag
          obtain ⟨oe4, vs4, he4, hz4, hd4⟩ := fl4.there
          have S4 := J4.suite he4 hd4 na nL nF
          refine store_ok (X := X.suite a ((a, oe4) :: (X.pn ++ pins))) (v := .ref a) S4 hN hi (.inl hln) rfl (fun s5 S5 => ?_) (.inr hln)
          refine wpAny_mono ((hsu a oe4 cls d (X.pn ++ pins) hz4 ⟨_, hd4⟩).run [] s5 _ H' _ S5 (hyes rfl a na)) (fun f s6 hsp => ?_) (fun _ _ z => False.elim z)
          have end_ : ∀ {σ6 : L2.St} {H6 : Hp} {Q : Shared → Prop}, Inv (X.suite a ((a, oe4) :: (X.pn ++ pins))) [] σ6 H6 s6 → (∀ s7, Inv X pins (σ6.set i none) H6 s7 → Q s7) →
              wpAny (model X.prog X.w) X.A (do bindName X.env n .none; unbindBehindTheSuite X.env n pos') (fun _ s7 => Q s7) X.xe s6 := fun {σ6 H6 Q} S6 hq => gone_ok (S6.unsuite ok) hN hi hln hq
          cases f with
          | ret u =>
            obtain ⟨v6, σ6, H6, S6, r6, q6⟩ := hsp
            exact end_ S6 fun s7 J7 => ⟨_, _, _, J7, r6, q6⟩
          | next =>
            obtain ⟨σ6, H6, S6, q6⟩ := hsp
            exact end_ S6 fun s7 J7 => ⟨_, _, J7, q6⟩
          | brk =>
            obtain ⟨σ6, H6, S6, q6⟩ := hsp
            exact end_ S6 fun s7 J7 => ⟨_, _, J7, q6⟩
          | cont =>
            obtain ⟨σ6, H6, S6, q6⟩ := hsp
            exact end_ S6 fun s7 J7 => ⟨_, _, J7, q6⟩
    exact go hh w
  · cases f with
    | ret u =>
      obtain ⟨v, σ', H', J', r, q⟩ := hsp
      exact ⟨v, σ', H', J'.ofTry ok, r, q⟩
    | next =>
      obtain ⟨σ', H', J', q⟩ := hsp
      exact wpAny_execs_nil ⟨σ', H', J'.ofTry ok, q⟩
    | brk =>
      obtain ⟨σ', H', J', q⟩ := hsp
      exact ⟨σ', H', J'.ofTry ok, q⟩
    | cont =>
      obtain ⟨σ', H', J', q⟩ := hsp
      exact ⟨σ', H', J'.ofTry ok, q⟩
end
end TkS
set_option Elab.async false
set_option linter.all false
set_option maxRecDepth 100000
set_option maxHeartbeats 4000000
/-! the law's def at its caller alone, where it is known that nothing is being printed (repr asks for that) -/
namespace TkS
open PySem PySem.Spec PyProof.Rows L2
/-- a def's promise at the law's caller -/
def TopOk (P : Program) (w : World) (K : PySem.W.Frag) (mg : Str → Option Value) (base : Heap) (CX : CXT) (f : Addr) (fd : FuncData) (ps : List Str) (sp : Sp) : Prop :=
  ∀ (outer : List Env) (s : Shared) (H : Hp) (args : Args) (us : List Value) (vs : List V) (Q : VK) (E : XK), Env0 P w K mg base callerA outer s H → BindsTo s fd args (ps.zip us) → Vals vs us → sp vs H Q E →
    codeAny (model P w) callerA (.call (.ref f) args) (CR CX outer P w H s Q E) s
theorem room_top : Room 200 callerA := ⟨rfl, by decide, by decide⟩
theorem top_of {CX : CXT} {P : Program} {w : World} {K : PySem.W.Frag} {mg : Str → Option Value} {base : Heap} {f : Addr} {name qual : Str} {params : Arguments} {body : List Stmt} {scope : Scope} {dV kV doc pm cdv ct oc : Value} {an od : Option Addr}
    {osl : Array (Option Value)} {N ps : List Str} {sp : Sp} (lk : K.lookup f = some ⟨oc, od, .func (PySem.W.fnOf name qual params body scope dV kV doc pm an cdv ct), osl⟩) (hcd : PySem.W.codeIn K cdv qual = true) (S : FnScope N ps scope)
    (len : ∀ vs H Q E, sp vs H Q E → vs.length = ps.length)
    (hbody : ∀ (outer : List Env) (s : Shared) (H : Hp) (vs : List V) (Q : VK) (E : XK), Room 199 (callerA.deeper (envOfC qual scope s.heap.objs.size f cdv)) → sp vs H Q E →
      ∃ t, PSs (cxOf CX P w K mg base N qual scope f cdv callerA outer s H E) body t ∧ t { nx := fun _ H' => Q .non H', rt := Q } (start N vs) H) :
    TopOk P w K mg base CX f (PySem.W.fnOf name qual params body scope dV kV doc pm an cdv ct) ps sp := by
  intro outer s H args us vs Q E e0 hb r hsp
  have hr := room_top
  have hl := len _ _ _ _ hsp
  have KX : K.In s.heap := e0.mod.kin.keeps fun b o e => (e0.bs b o e).1
  have lim : s.heap.NoLimit := e0.mod.nolimit.keeps fun b o e => (e0.bs b o e).1
  have hkind : ∀ y ∈ ps.zip us, scope.names.lookup y.1 = some .local ∨ (scope.names.lookup y.1 = some .cell ∧ ((cellsFrom (s.heap.objs.size + 1) scope.names []).lookup y.1).isSome = true) := fun ⟨n, v⟩ hy => by
    rcases S.par n (List.of_mem_zip hy).1 with q | q
    · exact .inl q
    · exact .inr ⟨q, PySem.W.cellsFrom_some _ _ _ (.inl q)⟩
  refine codeAny_call_function hr.depth (KX _ _ lk) rfl S.co S.gen rfl (PySem.W.codeRec_of KX hcd) (hb _ _ _ _ ?_)
  refine wpAny_newFunctionEnv_cells S.kind hkind fun env he s1 x => ?_
  subst he
  refine ⟨lim.keeps x.toInCall.keep, codeAny_func ?_⟩
  obtain ⟨t, ht, hq⟩ := hbody outer s H vs Q E (hr.deeper _) hsp
  have I : Inv (cxOf CX P w K mg base N qual scope f cdv callerA outer s H E) [] (start N vs) H s1 := inv_start S hr.hd e0 hl r x
  refine wpAny_mono (ht.run [] s1 (start N vs) H _ I hq) (fun fl s' hs => ?_) fun e s' hs => hs
  have fin : ∀ {σ' : L2.St} {H' : Hp} {v : V} {u : Value}, Inv (cxOf CX P w K mg base N qual scope f cdv callerA outer s H E) [] σ' H' s' → RelV v u → Q v H' → CE outer P w H s Q u s' :=
    fun {σ' H' v u} J rv q => ⟨v, H', J.os, J.bare, J.base, J.hok, rv, q⟩
  cases fl with
  | ret u =>
    obtain ⟨v, σ', H', J, rv, q⟩ := hs
    exact fin J rv q
  | next =>
    obtain ⟨σ', H', J, q⟩ := hs
    exact fin (v := V.non) (u := Value.none) J rfl q
  | brk =>
    obtain ⟨_, _, _, q⟩ := hs
    exact False.elim q
  | cont =>
    obtain ⟨_, _, _, q⟩ := hs
    exact False.elim q
theorem top_call {P : Program} {w : World} {K : PySem.W.Frag} {mg mb : Str → Option Value} {CX : CXT} {fa a : Addr} {fd : FuncData} {x : Str} {sp : Sp} {s₁ : Shared} {vs : List Value} {ns : List Int}
    (KX : K.In s₁.heap) (hns : s₁.heap.Ns mainGlobals mg) (hb : s₁.heap.Ns builtinsNs mb) (hbb : ∀ x : Str, x ≠ "__name__" → mb x = bootBuiltins x) (hlim : s₁.heap.NoLimit) (hg : s₁.gens = #[])
    (ha : s₁.heap.get? a = some { cls := .type "list", data := .seq vs.toArray }) (hi : IntsAre vs ns) (hl : ns.length ≤ sizeLine)
    (F : ∀ base : Heap, K.In base → base.Ns mainGlobals mg → TopOk P w K mg base CX fa fd [x] sp) (hbind : ∀ (s : Shared) (u : Value), BindsTo s fd ⟨[u], []⟩ [(x, u)])
    (hsp : ∀ H : Hp, Only H → SqL K H a (ns.map V.int) → sp [.ref a] H (fun v _ => v = .bl true) fun _ _ _ => False)
    (hCX : ∀ H e s', CX [] H s₁ (fun _ _ _ => False) e s' → False) :
    codeAny (model P w) callerA (.call (.ref fa) ⟨[.ref a], []⟩) (fun r s' => r = .ok (.ret (.bool true)) ∧ OldK s₁.heap s'.heap ∧ s'.os = s₁.os ∧ AllBare s'.gens) s₁ := by
  have rv := vals_ints hi
  have lenV := hi.length
  -- from an abstract heap in which nothing but the script may be tracked
  have core : ∀ H : Hp, Only H → SqL K H a (ns.map V.int) → HOk P w H s₁.heap → (∀ b, H b ≠ none → b = a) → (H a ≠ none → K.lookup a = none) →
      codeAny (model P w) callerA (.call (.ref fa) ⟨[.ref a], []⟩) (fun r s' => r = .ok (.ret (.bool true)) ∧ OldK s₁.heap s'.heap ∧ s'.os = s₁.os ∧ AllBare s'.gens) s₁ := by
    intro H hO hS hok hA hK
    have base_of : ∀ {b : Addr} {o : Obj}, s₁.heap.get? b = some o → H b = none → (hidT s₁.heap H).get? b = some o := fun e n => hidT_get e n
    have noA : ∀ {b : Addr} {o : Obj} {es : Array DictEntry} {ep : Nat}, s₁.heap.get? b = some o → o.data = .dict es ep → H b = none := fun {b o es ep} e d => by
      cases q : H b with
      | none => rfl
      | some u =>
        have e' : b = a := hA b (by rw [q]; simp)
        subst e'
        rw [ha] at e; cases e
        have d' : Data.seq vs.toArray _ = Data.dict es ep := d
        cases d'
    have nsK : ∀ {b : Addr} {m : Str → Option Value}, s₁.heap.Ns b m → (hidT s₁.heap H).Ns b m := fun {b m} ⟨o, es, ep, e, d, r⟩ => ⟨o, es, ep, base_of e (noA e d), d, r⟩
    have hKb : K.In (hidT s₁.heap H) := fun b o e => base_of (KX b o e) (by
      cases q : H b with
      | none => rfl
      | some u =>
        have e' : b = a := hA b (by rw [q]; simp)
        subst e'
        rw [hK (by rw [q]; simp)] at e; cases e)
    have hM : Mod K mg (hidT s₁.heap H) := ⟨hKb, nsK hns, ⟨mb, nsK hb, hbb⟩, let ⟨mc, h1, h2⟩ := hlim; ⟨mc, nsK h1, h2⟩⟩
    have e0 : Env0 P w K mg (hidT s₁.heap H) callerA [] s₁ H := ⟨rfl, hM, fun b o e => of_hidT e, Nat.le_of_eq (hidT_size _ _), trivial, fun b hb => absurd (show b ∈ ([] : List Addr) from hb) (by simp), hok, .of_eq hg⟩
    refine codeAny_mono (F _ hKb (nsK hns) [] s₁ H ⟨[.ref a], []⟩ [.ref a] [.ref a] _ _ e0 (hbind s₁ (.ref a)) (.cons rfl .nil) (hsp H hO hS)) fun r s' h => ?_
    cases r with
    | error e => exact (hCX H e s' h).elim
    | ok fl =>
      cases fl with
      | next => exact False.elim h
      | brk => exact False.elim h
      | cont => exact False.elim h
      | ret u =>
        obtain ⟨v, H', os, bare, un, hok', r', q⟩ := h
        have q' : v = .bl true := q
        subst q'
        obtain rfl : u = Value.bool true := r'
        refine ⟨rfl, OldK.of_keep fun b o e => ?_, os, bare⟩
        cases q : H b with
        | none => exact un.keep b o e q (by intro z; exact absurd (show b ∈ ([] : List Addr) from z) (by simp)) (by simp)
        | some u =>
          rcases hO b with z | ⟨ob, xs, z⟩
          · rw [q] at z; cases z
          · have z2 := un.frzs b ob _ z
            obtain ⟨e1, _⟩ := hok b _ z
            obtain ⟨e2, _⟩ := hok' b _ z2
            rw [e] at e1; cases e1
            exact e2
  cases hk : K.lookup a with
  | some o =>
    -- the script is one of the module's own objects
    have e := KX a o hk
    rw [ha] at e
    cases e
    refine core (fun _ => none) (fun _ => .inl rfl) (.inr ⟨_, vs.toArray, _, hk, rfl, rfl, rfl, by rw [List.size_toArray, lenV]; exact hl, by simpa using rv⟩) (fun b u z => by have z' : (none : Option HO) = some u := z; cases z') (fun b z => absurd rfl z) fun z => absurd rfl z
  | none =>
    refine core (fun b => if b = a then some (.frz { cls := .type "list", data := .seq vs.toArray } (.lst (ns.map V.int))) else none) (fun b => ?_) (.inl (.inr ⟨{ cls := .type "list", data := .seq vs.toArray }, if_pos rfl⟩)) (fun b u z => ?_) (fun b z => ?_) fun _ => hk
    · by_cases hb : b = a
      · exact .inr ⟨_, _, if_pos hb⟩
      · exact .inl (if_neg hb)
    · by_cases hb : b = a
      · have z' := (if_pos hb).symm.trans z
        cases z'
        subst hb
        exact ⟨ha, by rw [List.length_map]; exact hl, vs, _, rv, ha⟩
      · have z' := (if_neg hb).symm.trans z
        cases z'
    · by_cases hb : b = a
      · exact hb
      · exact absurd (if_neg hb) z
theorem walk_top {l : PySem.W.OpenLaw} {n : Nat} {q : Program} {loose : List Str} {XP : (Str → Option Value) → Heap → Prop} {YP : World → Heap → Prop} {d : DefRec} {K : Params → PySem.W.Frag} {CX : World → CXT} {sp : World → Sp} {x : Str}
    (hn : l.most = some n) (hn2 : n ≤ sizeLine) (hdf : d.params.defaults = [])
    (hY : ∀ (w : World) (h : Heap), YP w h → (K w.params).In h)
    (F : ∀ (w : World) (mg : Str → Option Value) (fa : Addr) (h : Heap), (K w.params).In h → h.Ns mainGlobals mg → mg d.name = some (.ref fa) →
      ∃ fd : FuncData, (∀ (s : Shared) (u : Value), BindsTo s fd ⟨[u], []⟩ [(x, u)]) ∧
        ∀ base : Heap, (K w.params).In base → base.Ns mainGlobals mg → TopOk l.prog w (K w.params) mg base (CX w) fa fd [x] (sp w))
    (hsp : ∀ (w : World) (H : Hp) (a : Addr) (ns : List Int), ns.length ≤ n → Only H → SqL (K w.params) H a (ns.map V.int) → sp w [.ref a] H (fun v _ => v = .bl true) fun _ _ _ => False)
    (hCX : ∀ (w : World) (H : Hp) (s : Shared) (e : Value) (s' : Shared), CX w [] H s (fun _ _ _ => False) e s' → False) :
    PySem.W.WalkO q loose XP YP l.row.toRowW d [] (fun f vs => PySem.call f vs) := by
  refine Att.attach_call hn hdf fun w s₀ s₁ mg mb fa o pm cd doc a vs ns G Y ho hd hcd hmg hobj hints hlen hg => ?_
  have KX := hY w _ Y
  obtain ⟨fd, hb, hF⟩ := F w mg fa _ KX G.T.g hmg
  exact top_call KX G.T.g G.T.b G.T.builtins G.T.nolimit hg hobj hints (Nat.le_trans hlen hn2) hF hb (fun H hO hS => hsp w H a ns hlen hO hS) fun H e s' => hCX w H s₁ e s'
end TkS
set_option Elab.async false
set_option linter.all false
set_option maxRecDepth 100000
set_option maxHeartbeats 4000000
/-! list(reversed(xs)), xs a list -/
namespace TkS
open PySem PySem.Spec PyProof.Rows L2
section
variable {prog : Program} {w : World} {A : Around} {E : Value → Shared → Prop} {s : Shared} {R : Result → Shared → Prop}
theorem extend_rev {it l S : Addr} {items : Array Value} {res : Value} {c₀ : Nat} (hh : A.in1.handled = none) (hit : s.heap.IsRevIter it l ((items.size : Int) - 1)) (hl : s.heap.IsList l items) (hne : l ≠ it) (hn : items.size ≤ sizeLine) (hSi : S ≠ it) (hSl : S ≠ l)
    (hS : s.heap.get? S = some { cls := .type "list", data := .seq #[] c₀ })
    (hR : ∀ (s' : Shared) (acc' : Array Value) (c' : Nat), Moved (S :: [it]) (fun a b => b = a) s s' → s'.heap.get? S = some { cls := .type "list", dict := none, data := .seq acc' c', slots := #[] } → ItemsOf (fun i v => items[items.size - 1 - i]? = some v) acc' items.size → R (.ok (.ret res)) s') :
    wpAny (model prog w) A.in1 (Builtin.List.listExtendWith (.ref S) (.ref it) res)
      (fun fin s' => match fin with | .done f => R (.ok f) s' | .again c' => c'.quiet = true ∧ codeAny (model prog w) A c' R s') (fun e s' => R (.error e) s') s := by
  have W := (Walks.listRev (prog := prog) (w := w) (A := A.in1) hh it l hne items).toS
  have hSf : S ∉ [it, l] := by simp only [List.mem_cons, List.not_mem_nil, or_false, not_or]; exact ⟨hSi, hSl⟩
  have hT : s.TypeIs (.ref it) "list_reverseiterator" := hit.typeIs
  have h1 : Builtin.List.listSameRef (.ref S) (.ref it) = false := by simp [Builtin.List.listSameRef, hSi]
  unfold Builtin.List.listExtendWith
  refine wpAny_bind (wpAny_typeOf hT ?_)
  rw [if_neg (by rw [h1]; decide)]
  refine wpAny_bind (wpAny_pyIter_revIter hit ?_)
  refine wpAny_bind (wpAny_holding ?_)
  unfold Builtin.List.listLengthHint
  refine wpAny_bind (wpAny_specialOf hT RT.nolen_lri ?_)
  show wpAny _ A.in1 (specialOf (Value.ref it) (Str.ofString "__length_hint__") >>= _) _ _ _
  refine wpAny_bind (wpAny_specialOf hT RT.hint_lri ?_)
  generalize hid : ("list_reverseiterator.__length_hint__" : String) = id0
  wp_delta
  rw [show splitId id0 = some ("list_reverseiterator", "__length_hint__") from by subst hid; decide +kernel]
  subst hid
  refine wpAny_bind (wpAny_isInstance (b := true) hT (by rw [isSubtype_type]; kernel_rfl) ?_)
  refine wpAny_pure ?_
  rw [if_neg (by decide)]
  have e0 : ((items.size : Nat) : Int) - 1 - ((0 : Nat) : Int) = (items.size : Int) - 1 := by omega
  exact wpAny_pure ⟨plainId_quiet F.plain_extend_loop _, codeAny_extend_loopS W hn _ hSf _ items.size 0 _ _ _ rfl (Nat.zero_le _) ⟨Nat.zero_le _, by rw [e0]; exact hit, hl⟩ hS (ItemsOf.nil _) fun s' acc' c' hm hS' hacc => hR s' acc' c' hm hS' hacc⟩
theorem list_init_rev {it l S : Addr} {items : Array Value} (hh : A.in1.handled = none) (hit : s.heap.IsRevIter it l ((items.size : Int) - 1)) (hl : s.heap.IsList l items) (hne : l ≠ it) (hn : items.size ≤ sizeLine) (hSi : S ≠ it) (hSl : S ≠ l)
    (hS : s.heap.get? S = some { cls := .type "list", data := .seq #[] })
    (hR : ∀ (s' : Shared) (acc' : Array Value) (c' : Nat), (∀ b o, b ≠ S → b ≠ it → s.heap.get? b = some o → s'.heap.get? b = some o) → s' = { s with heap := s'.heap, toks := s'.toks } → s'.heap.get? S = some { cls := .type "list", dict := none, data := .seq acc' c', slots := #[] } → ItemsOf (fun i v => items[items.size - 1 - i]? = some v) acc' items.size → R (.ok (.ret .none)) s') :
    wpAny (model prog w) A.in1 (Builtin.«list.__init__» ⟨[.ref S, .ref it], []⟩)
      (fun fin s' => match fin with | .done f => R (.ok f) s' | .again c' => c'.quiet = true ∧ codeAny (model prog w) A c' R s') (fun e s' => R (.error e) s') s := by
  show wpAny _ A.in1 (do let old ← Builtin.List.listItems (.ref S); Builtin.List.listUpdate (.ref S) (fun _ => #[]); letGo old.toList.reverse; Builtin.List.listExtendWith (.ref S) (.ref it) .none) _ _ s
  refine wpAny_bind ?_
  unfold Builtin.List.listItems
  refine wpAny_bind (wpAny_seqItems hS rfl (wpAny_pure ?_))
  show wpAny _ A.in1 (updateSeq S (fun _ => #[]) >>= fun _ => letGo (#[] : Array Value).toList.reverse >>= fun _ => Builtin.List.listExtendWith (.ref S) (.ref it) .none) _ _ s
  refine wpAny_bind (wpAny_updateSeq hS rfl ?_)
  have hS₂ := Heap.get?_update_self (Obj.mapSeq (fun _ => (#[] : Array Value))) hS rfl
  have oth : ∀ b o, b ≠ S → s.heap.get? b = some o → (s.heap.update S (Obj.mapSeq (fun _ => (#[] : Array Value)))).get? b = some o :=
    fun b o hb e => (Heap.get?_update_other _ _ (Ne.symm hb)).trans e
  refine wpAny_bind (wpAny_letGo ?_)
  have hl' := hl
  obtain ⟨ol, hol, hlc, nl, hld⟩ := hl'
  refine extend_rev hh (hit.at fun o e => oth it o (Ne.symm hSi) e) ⟨ol, oth l _ (Ne.symm hSl) hol, hlc, nl, hld⟩ hne hn hSi hSl hS₂ fun s' acc' c' hm hS' hacc => ?_
  refine hR s' acc' c' (fun b o h1 h2 e => hm.heap b o (by simp [h1, h2]) (oth b o h1 e)) ?_ hS' hacc
  have := Moved.eq_with hm
  exact this
theorem call_list_rev {it l : Addr} {items : Array Value} {Q : Value → Shared → Prop} (hh : A.handled = none) (hit : s.heap.IsRevIter it l ((items.size : Int) - 1)) (hl : s.heap.IsList l items) (hne : l ≠ it) (hn : items.size ≤ sizeLine)
    (hQ : ∀ (h' : Heap) (tk : Nat) (acc : Array Value) (c' : Nat), (∀ b o, b ≠ it → s.heap.get? b = some o → h'.get? b = some o) → h'.get? s.heap.objs.size = some { cls := .type "list", dict := none, data := .seq acc c', slots := #[] } →
      ItemsOf (fun i v => items[items.size - 1 - i]? = some v) acc items.size → Q (.ref s.heap.objs.size) { s with heap := h', toks := tk }) :
    wpAny (model prog w) A (call (.type "list") [.ref it]) Q E s := by
  refine callType_codes (Q₁ := fun obj s₁ => obj = .ref s.heap.objs.size ∧ s₁ = { s with heap := s.heap.push { cls := .type "list", data := .seq #[] } }) F.called_list (F.typeCall_list_1 _) F.entry_list_init
    (code_list_new _ ⟨rfl, rfl⟩) fun obj s₁ h₁ => ?_
  obtain ⟨rfl, rfl⟩ := h₁
  have hS : (s.heap.push { cls := .type "list", data := .seq #[] }).get? s.heap.objs.size = some { cls := .type "list", data := .seq #[] } := Heap.get?_push_size _ rfl
  obtain ⟨oi, hoi, _⟩ := id hit
  obtain ⟨ol, hol, _⟩ := id hl
  refine ⟨⟨_, hS, rfl⟩, F.args_list_init_2 _ _, list_init_rev (A := A.in1) hh (hit.at fun o e => Heap.get?_push_of_some _ e) (hl.push _) hne hn (Nat.ne_of_gt (Heap.lt_size hoi)) (Nat.ne_of_gt (Heap.lt_size hol)) hS fun s' acc' c' k e hS' hacc => ?_⟩
  rw [e]
  exact ⟨rfl, hQ s'.heap s'.toks acc' c' (fun b o hb eo => k b o (Nat.ne_of_lt (Heap.lt_size eo)) hb (Heap.get?_push_of_some _ eo)) hS' hacc⟩
end
def tLstRev (K : PySem.W.Frag) (te : TE) : TE := fun σ H Q => te σ H fun v H1 => ∃ (a : Addr) (xs : List V), v = .ref a ∧ SqL K H1 a xs ∧ ∀ q, H1 q = none → Q (.ref q) (upd H1 q (.lst xs.reverse))
section
variable {X : Cx}
theorem pe_lstRev {e : Expr} {te : TE} {p p2 pos pos2 : Pos} (hc : X.calm = true) (hg : Gl X "list") (hm : X.mg "list" = none) (hg2 : Gl X "reversed") (hm2 : X.mg "reversed" = none) (he : PE X e te)
    (hs : starEach [e] X.env = (false, eval e X.env) :: starEach [] X.env := by rfl)
    (hs2 : starEach [.Call (.Name "reversed" p2) [e] [] pos2] X.env = (false, eval (.Call (.Name "reversed" p2) [e] [] pos2) X.env) :: starEach [] X.env := by rfl) :
    PE X (.Call (.Name "list" p) [.Call (.Name "reversed" p2) [e] [] pos2] [] pos) (tLstRev X.K te) := by
  refine ⟨fun pins s σ H Q I h => ?_⟩
  refine Call_ (ld_blt I hg hm boot_list (PyProof.Rows.callWith_type1 (args_cons (Call_ (ld_blt I hg2 hm2 PyProof.Rows.boot_reversed (PyProof.Rows.callWith_type1 (args_cons (thn (he.run pins s σ H _ I h) fun u s1 ⟨v, H1, I1, r1, q1⟩ => args_nil ?_) hs) hs rfl))) hs2) hs2 rfl))
  obtain ⟨a, xs, ev, hq, q⟩ := q1
  subst ev
  obtain rfl : u = Value.ref a := r1
  obtain ⟨its, rv, p', hz⟩ := I1.list hq
  refine call_reversed_list p'.isList (args_nil ?_)
  have k0 : ∀ b o, s1.heap.get? b = some o → (s1.heap.push (revObj a ((its.toArray.size : Int) - 1))).get? b = some o := fun b o e => Heap.get?_push_of_some _ e
  have I2 : Inv X pins σ H1 { s1 with heap := s1.heap.push (revObj a ((its.toArray.size : Int) - 1)) } := I1.kept (t' := s1.toks) k0
  obtain ⟨f0, f1, f2, f3, f4, f5⟩ := I1.fpOk (H' := H1) (b := s1.heap.objs.size) (Nat.le_refl _) (I1.hok.fresh (Nat.le_refl _))
  have hl := p'.isList
  obtain ⟨ol, hol, _⟩ := id hl
  have hn : its.toArray.size ≤ sizeLine := by rw [List.size_toArray, ← rv.length]; exact hz
  refine call_list_rev (s := { s1 with heap := s1.heap.push (revObj a ((its.toArray.size : Int) - 1)) }) (I1.ok.hd hc) ⟨_, Heap.get?_push_size _ rfl, rfl, rfl⟩ (hl.push _) (Nat.ne_of_lt (Heap.lt_size hol)) hn fun h' tk acc c' hk e' hi => ?_
  have hsz : (s1.heap.push (revObj a ((its.toArray.size : Int) - 1))).objs.size = s1.heap.objs.size + 1 := Heap.size_push ..
  rw [hsz] at e' ⊢
  refine ⟨.ref (s1.heap.objs.size + 1), upd H1 (s1.heap.objs.size + 1) (.lst xs.reverse), I1.laid (t' := tk) (fun b o e => hk b o (Nat.ne_of_lt (Heap.lt_size e)) (k0 b o e)) (Nat.le_succ _) (show ObjOk X.prog X.w _ _ _ (.lst xs.reverse) from ⟨by rw [List.length_reverse]; exact hz, acc.toList, c', RT.vals_rev rv hi, ?_⟩), rfl, q _ (I1.hok.fresh (Nat.le_succ _))⟩
  rw [Array.toArray_toList]
  exact e'
end
end TkS
set_option Elab.async false
set_option linter.all false
set_option maxRecDepth 100000
set_option maxHeartbeats 4000000
/-! how long a shown list of pairs of small numbers is -/
namespace TkS
open PySem PySem.Spec PyProof.Rows L2
theorem small_pair {a b : Int} (a0 : 0 ≤ a) (a1 : a < 5) (b0 : 0 ≤ b) (b1 : b < 5) :
    (PyData.shown (.tuple [.int a, .int b])).length ≤ 10 ∧ (PyData.shown (.list [.int a, .int b])).length ≤ 10 ∧ PyData.showable (.tuple [.int a, .int b]) = true ∧ PyData.showable (.list [.int a, .int b]) = true := by
  have ha : a = 0 ∨ a = 1 ∨ a = 2 ∨ a = 3 ∨ a = 4 := by omega
  have hb : b = 0 ∨ b = 1 ∨ b = 2 ∨ b = 3 ∨ b = 4 := by omega
  rcases ha with rfl | rfl | rfl | rfl | rfl <;> rcases hb with rfl | rfl | rfl | rfl | rfl <;> decide +kernel
theorem textFrom_le (n : Nat) : ∀ (ts : List Str) (k : Nat) (acc : Str), (∀ t ∈ ts, t.length ≤ n) → (textFrom k acc ts).length ≤ acc.length + ts.length * (n + 2)
  | [], _, acc, _ => by
    show acc.length ≤ acc.length + _
    omega
  | t :: r, k, acc, h => by
    have ih := textFrom_le n r (k + 1) (acc ++ (if k > 0 then ", " else "" : String) ++ t) fun u m => h u (List.mem_cons_of_mem _ m)
    have e : (acc ++ (if k > 0 then ", " else "" : String) ++ t).length = acc.length + (if k > 0 then 2 else 0) + t.length := by
      rw [strLen_append, strLen_append]
      split <;> rfl
    have ht := h t List.mem_cons_self
    have e3 : (t :: r).length * (n + 2) = r.length * (n + 2) + (n + 2) := by
      rw [List.length_cons, Nat.succ_mul]
    rw [e] at ih
    show (textFrom (k + 1) _ r).length ≤ _
    rw [e3]
    have hb : (if k > 0 then 2 else 0 : Nat) ≤ 2 := by split <;> omega
    omega
def SmallPair (d : PyData) : Prop := ∃ a b : Int, 0 ≤ a ∧ a < 5 ∧ 0 ≤ b ∧ b < 5 ∧ (d = .tuple [.int a, .int b] ∨ d = .list [.int a, .int b])
theorem small_show {d : PyData} (h : SmallPair d) : d.shown.length ≤ 10 ∧ d.showable = true ∧ d.hasDict = false ∧ d.depth ≤ 1 := by
  obtain ⟨a, b, a0, a1, b0, b1, rfl | rfl⟩ := h
  · obtain ⟨h1, _, h3, _⟩ := small_pair a0 a1 b0 b1
    exact ⟨h1, h3, by simp [PyData.hasDict, PyData.hasDictAll], by simp [PyData.depth, PyData.depthAll]⟩
  · obtain ⟨_, h2, _, h4⟩ := small_pair a0 a1 b0 b1
    exact ⟨h2, h4, by simp [PyData.hasDict, PyData.hasDictAll], by simp [PyData.depth, PyData.depthAll]⟩
theorem shown_pairs {ds : List PyData} (h : ∀ d ∈ ds, SmallPair d) (hl : ds.length ≤ 30) : (PyData.list ds).showable = true ∧ (PyData.list ds).hasDict = false ∧ (PyData.list ds).depth ≤ 60 ∧ (PyData.list ds).shown.length ≤ sizeLine := by
  have key : PyData.showableAll ds = true ∧ PyData.hasDictAll ds = false ∧ PyData.depthAll ds ≤ 1 ∧ (∀ t ∈ PyData.shownAll ds, t.length ≤ 10) ∧ (PyData.shownAll ds).length = ds.length := by
    clear hl
    induction ds with
    | nil => exact ⟨by simp [PyData.showableAll], by simp [PyData.hasDictAll], by simp [PyData.depthAll], by simp [PyData.shownAll], by simp [PyData.shownAll]⟩
    | cons d ds ih =>
      obtain ⟨i1, i2, i3, i4, i5⟩ := ih fun x m => h x (List.mem_cons_of_mem _ m)
      obtain ⟨s1, s2, s3, s4⟩ := small_show (h d List.mem_cons_self)
      refine ⟨by simp [PyData.showableAll, s2, i1], by simp [PyData.hasDictAll, s3, i2], by simp only [PyData.depthAll]; omega, fun t m => ?_, by simp [PyData.shownAll, i5]⟩
      rw [PyData.shownAll] at m
      rcases List.mem_cons.mp m with e | e
      · rw [e]
        exact s1
      · exact i4 t e
  obtain ⟨k1, k2, k3, k4, k5⟩ := key
  refine ⟨by simp [PyData.showable, k1], by simp [PyData.hasDict, k2], by simp only [PyData.depth]; omega, ?_⟩
  have e := textFrom_le 10 (PyData.shownAll ds) 0 "[" k4
  rw [k5] at e
  have e1 : (PyData.list ds).shown = textFrom 0 "[" (PyData.shownAll ds) ++ "]" := by
    simp only [PyData.shown, listText]
  rw [e1, strLen_append]
  have e2 : (("[" : Str)).length = 1 := rfl
  have e3 : (("]" : Str)).length = 1 := rfl
  rw [e2] at e
  rw [e3]
  have : 1000 ≤ sizeLine := by decide
  omega
end TkS
set_option Elab.async false
set_option linter.all false
set_option maxRecDepth 100000
set_option maxHeartbeats 4000000
/-! comprehensions over a list that is made on the way, and over zip -/
namespace TkS
open PySem PySem.Spec PyProof.Rows L2
theorem lc_listD {K : PySem.W.Frag} {a : Addr} {xs : List V} {ds : List PyData} {tt : TT} {te : TE} {vs : List Nat} {σ : L2.St} {H : Hp} {D : Addr} {Qd : Hp → Prop} {j : Nat} (f : PyData → Bool) (e : PyData → PyData)
    (hq : SqL K H a xs) (hx : DqAll H xs ds) (nD : H D = none) (hl : ds.length ≤ 900) (hw : ∀ x : V, wipe ((wipe σ vs).set j (some x)) vs = wipe σ vs)
    (ht : ∀ (i : Nat) (x : V) (d : PyData) (H' : Hp) (Q : Bool → Hp → Prop), ds[i]? = some d → Same H H' → Dq H' x d → (∀ H'', Same H' H'' → Q (f d) H'') → tt ((wipe σ vs).set j (some x)) H' Q)
    (he : ∀ (i : Nat) (x : V) (d : PyData) (H' : Hp) (Q : VK), ds[i]? = some d → f d = true → Same H H' → Dq H' x d → (∃ acc, H' D = some (.lst acc)) → (∀ y H'', Same H' H'' → Dq (TkS.Off D H'') y (e d) → Q y H'') → te ((wipe σ vs).set j (some x)) H' Q)
    (hd : ∀ H', Same H H' → Dq H' (.ref D) (.list ((ds.filter f).map e)) → Qd H') :
    ∃ W : Nat → Nat → Hp → Prop, (∃ m, W 0 m (upd H D (.lst []))) ∧ ∀ i m H, W i m H →
      ((Itl K a).stop i H ∧ Qd H) ∨ ((Itl K a).go i H ∧ ∃ Nx : Hp → Prop, (∀ H', Nx H' → ∃ m', m' < m ∧ W (i + 1) m' H') ∧ ∀ x H', (Itl K a).yld i H x H' → gName j x (wipe σ vs) H' fun σ2 H2 => wipe σ2 vs = wipe σ vs ∧ tt σ2 H2 fun b H3 =>
        if b = true then te σ2 H3 fun y H4 => ∃ acc, H4 D = some (.lst acc) ∧ acc.length < sizeLine ∧ Nx (upd H4 D (.lst (acc ++ [y]))) else Nx H3) := by
  refine lc_list (xs := xs) (fun i H' => Acc H D (((ds.take i).filter f).map e) H') (Acc.nil nD) (fun i H' _ hP => hP.1.seq hq) (fun i x H' hxi hP => ?_) (fun H' hP => ?_)
  · obtain ⟨d, hdi, kd⟩ := hx.get hxi
    have kd1 := kd.same hP.1
    refine ⟨hw _, ht i x d H' _ hdi hP.1 kd1 fun H2 s2 => ?_⟩
    have hP2 := hP.mv s2
    cases c : f d with
    | true =>
      refine he i x d H2 _ hdi c hP2.1 (kd1.same s2) ⟨_, hP2.2.choose_spec.1⟩ fun y H3 s3 k => ?_
      rw [filter_snoc _ _ hdi, if_pos c]
      refine hP2.put nD ?_ s3 k
      have := len_ft f e (ds.take i)
      rw [List.length_take] at this
      omega
    | false =>
      show Acc _ _ _ _
      rw [filter_snoc _ _ hdi, c, if_neg Bool.false_ne_true]
      exact hP2
  · rw [hx.len, List.take_length] at hP
    exact hd H' hP.1 hP.dq
theorem lc_zipS {t1 t2 : Bool} {K : PySem.W.Frag} {a b : Addr} {xs ys : List V} {g : TG} {tt : TT} {te : TE} {vs : List Nat} {σ : L2.St} {H1 : Hp} {D : Addr} {Qd : Hp → Prop} (hl : xs.length = ys.length) (Pv : Nat → Hp → Prop) (h0 : Pv 0 (upd H1 D (.lst []))) (hq : ∀ i H, Pv i H → RZM.SqS t1 K H a xs ∧ RZM.SqS t2 K H b ys)
    (hs : ∀ (i : Nat) (x y : V) (T : Addr) (H : Hp), xs[i]? = some x → ys[i]? = some y → Pv i H → H T = none → g (.ref T) (wipe σ vs) (upd H T (.tup [x, y])) fun σ2 H2 => wipe σ2 vs = wipe σ vs ∧ tt σ2 H2 fun b H3 =>
      if b = true then te σ2 H3 fun y H4 => ∃ acc, H4 D = some (.lst acc) ∧ acc.length < sizeLine ∧ Pv (i + 1) (upd H4 D (.lst (acc ++ [y]))) else Pv (i + 1) H3) (hd : ∀ H, Pv xs.length H → Qd H) :
    ∃ W : Nat → Nat → Hp → Prop, (∃ m, W 0 m (upd H1 D (.lst []))) ∧ ∀ i m H, W i m H →
      ((RZM.ItzS t1 t2 K a b).stop i H ∧ Qd H) ∨ ((RZM.ItzS t1 t2 K a b).go i H ∧ ∃ Nx : Hp → Prop, (∀ H', Nx H' → ∃ m', m' < m ∧ W (i + 1) m' H') ∧ ∀ x H', (RZM.ItzS t1 t2 K a b).yld i H x H' → g x (wipe σ vs) H' fun σ2 H2 => wipe σ2 vs = wipe σ vs ∧ tt σ2 H2 fun b H3 =>
        if b = true then te σ2 H3 fun y H4 => ∃ acc, H4 D = some (.lst acc) ∧ acc.length < sizeLine ∧ Nx (upd H4 D (.lst (acc ++ [y]))) else Nx H3) := by
  refine ⟨fun i m H => m = xs.length - i ∧ i ≤ xs.length ∧ Pv i H, ⟨xs.length, rfl, Nat.zero_le _, h0⟩, ?_⟩
  rintro i m H ⟨rfl, hi, p⟩
  obtain ⟨qx, qy⟩ := hq i H p
  rcases Nat.lt_or_ge i xs.length with hlt | hge
  · refine .inr ⟨⟨xs, ys, _, _, qx, qy, List.getElem?_eq_getElem hlt, List.getElem?_eq_getElem (by omega)⟩, Pv (i + 1), fun H' p' => ⟨xs.length - (i + 1), by omega, rfl, hlt, p'⟩, fun v H' y => ?_⟩
    obtain ⟨T, x', y', rfl, hT, rfl, f1, f2⟩ := y
    exact hs i x' y' T H (f1 xs qx) (f2 ys qy) p hT
  · have e : i = xs.length := by omega
    subst e
    exact .inl ⟨⟨xs, ys, qx, qy, Or.inl (Nat.le_refl _)⟩, hd H p⟩
end TkS
set_option Elab.async false
set_option linter.all false
set_option maxRecDepth 100000
set_option maxHeartbeats 4000000
/-! X() of an own error without __init__; any() of whole numbers; defs and calls that know that nothing is being printed -/
namespace TkS
open PySem PySem.Spec PyProof.Rows L2
theorem pmk_own0 {X : Cx} {C : Addr} {bmB : List Value} {B newId initId : String} {x : Str} {p pos : Pos} (F : ExcBaseFacts B newId initId bmB) (q : PySem.W.excIn X.K C bmB newId = true) (gC : X.mg x = some (.ref C)) (kC : PySem.W.keepIn X.K (.ref C) = true)
    (r : Raises X (.ref C)) (hg : Gl X x) (hdb : (x == ("__debug__" : Str)) = false := by decide) : PMk X (.Call (.Name x p) [] [] pos) (fun _ H Q => Q (.ref C) none H) := by
  intro pins s σ H Q I h
  refine wpAny_Call_Name_kw (ld_glob I hg gC ?_ hdb)
  refine PySem.W.callWith_K0 I.kIn kC ?_
  show wpAny _ _ (call (.ref C) []) _ _ _
  obtain ⟨bm, N, nm, qn, bs, hdct, sn, sub, ab, col, dd, k0, k1, k2, k3, k5, mN, hC, hN, hni, T⟩ := exc_obj I.kIn q
  refine wpAny_call_exc_subT F T hC hN hni (fun h' e hm => ?_) (Nat.zero_le _)
  exact mk_of I hm r h (I.hok.gone hm.new)
theorem truth_ints {prog : Program} {w : World} {A : Around} {ns : List Int} {its : List Value} (e : Vals (ns.map V.int) its) :
    TruthOf prog w A (fun i v => its.toArray[i]? = some v) (fun i => decide (ns.getD i 0 ≠ 0)) := fun i v s Q E hv hq => by
  have hv' : its[i]? = some v := by simpa using hv
  have hi : i < ns.length := by
    have := (List.getElem?_eq_some_iff.mp hv').1
    rw [← e.length, List.length_map] at this
    exact this
  obtain ⟨u, hu, t, rfl⟩ : ∃ u, its[i]? = some u ∧ ∃ t, u = Value.int (ns.getD i 0) t := by
    have h1 : (ns.map V.int)[i]? = some (.int (ns.getD i 0)) := by
      rw [List.getElem?_map, List.getElem?_eq_getElem hi, List.getD_eq_getElem?_getD, List.getElem?_eq_getElem hi]
      rfl
    obtain ⟨u, hu, r⟩ := e.get h1
    exact ⟨u, hu, r⟩
  rw [hv'] at hu
  cases hu
  have hq2 : Q (decide (ns.getD i 0 ≠ 0)) s := hq
  generalize ns.getD i 0 = z at hq2
  have z2 : decide (z ≠ 0) = (z != 0) := by
    by_cases c : z = 0
    · subst c
      rfl
    · rw [decide_eq_true c, bne_iff_ne.mpr c]
  rw [z2] at hq2
  exact PyProof.Rows.truthy_int hq2
theorem any_rangeI : ∀ ns : List Int, (List.range ns.length).any (fun i => decide (ns.getD i 0 ≠ 0)) = ns.any fun z => decide (z ≠ 0)
  | [] => rfl
  | b :: bs => by
    rw [List.length_cons, List.range_succ_eq_map, List.any_cons, List.any_map, List.any_cons, ← any_rangeI bs]
    all_goals rfl
def rAnyI (K : PySem.W.Frag) : List V → Hp → VK → Prop := fun vs H Q => ∃ (a : Addr) (ns : List Int), vs = [V.ref a] ∧ SqL K H a (ns.map V.int) ∧ Q (.bl (ns.any fun z => decide (z ≠ 0))) H
theorem cr_anyI {X : Cx} (hc : X.calm = true) : CallR X (.builtin "any") (rAnyI X.K) := by
  intro pins s σ H vs us Q I r h
  obtain ⟨a, bs, rfl, hs, q⟩ := h
  obtain ⟨its, rv, hl, _⟩ := I.list hs
  rw [Vals.ref1 r]
  refine call_any_walk (iter_any hl.isList fun s₂ e2 st hne => ?_)
  subst e2
  refine ⟨_, _, _, _, _, _, _, rfl, Walks.list (A := X.A.in1) (I.ok.hd hc) _ a hne its.toArray, st, truth_ints rv, fun h' tk hk => ?_⟩
  refine ⟨.bl _, H, I.kept fun b o eo => hk b o (fun hmem => ?_) (Heap.get?_push_of_some _ eo), ?_, q⟩
  · rcases List.mem_cons.mp hmem with e1 | hmem
    · exact absurd (e1 ▸ Heap.lt_size eo) (Nat.lt_irrefl _)
    · cases hmem
  · show Value.bool _ = Value.bool _
    rw [← any_rangeI, List.size_toArray, ← rv.length, List.length_map]
/-- a def's promise where nothing is being printed -/
structure FnG (P : Program) (w : World) (K : PySem.W.Frag) (mg : Str → Option Value) (base : Heap) (CX : CXT) (k : Nat) (f : Addr) (fd : FuncData) (ps : List Str) (sp : Sp) : Prop where
  len : ∀ vs H Q E, sp vs H Q E → vs.length = ps.length
  run : ∀ (A : Around) (outer : List Env) (s : Shared) (H : Hp) (args : Args) (us : List Value) (vs : List V) (Q : VK) (E : XK), A.guards = some [] → Room k A → Env0 P w K mg base A outer s H → BindsTo s fd args (ps.zip us) → Vals vs us → sp vs H Q E →
    codeAny (model P w) A (.call (.ref f) args) (CR CX outer P w H s Q E) s
theorem fnG_of {CX : CXT} {P : Program} {w : World} {K : PySem.W.Frag} {mg : Str → Option Value} {base : Heap} {k : Nat} {f : Addr} {name qual : Str} {params : Arguments} {body : List Stmt} {scope : Scope} {dV kV doc pm cdv ct oc : Value} {an od : Option Addr}
    {osl : Array (Option Value)} {N ps : List Str} {sp : Sp} (lk : K.lookup f = some ⟨oc, od, .func (PySem.W.fnOf name qual params body scope dV kV doc pm an cdv ct), osl⟩) (hcd : PySem.W.codeIn K cdv qual = true) (S : FnScope N ps scope)
    (len : ∀ vs H Q E, sp vs H Q E → vs.length = ps.length)
    (hbody : ∀ (A : Around) (outer : List Env) (s : Shared) (H : Hp) (vs : List V) (Q : VK) (E : XK), A.guards = some [] → Room k (A.deeper (envOfC qual scope s.heap.objs.size f cdv)) → sp vs H Q E →
      ∃ t, PSs (cxOf CX P w K mg base N qual scope f cdv A outer s H E) body t ∧ t { nx := fun _ H' => Q .non H', rt := Q } (start N vs) H) :
    FnG P w K mg base CX (k + 1) f (PySem.W.fnOf name qual params body scope dV kV doc pm an cdv ct) ps sp := by
  refine ⟨len, fun A outer s H args us vs Q E gd hr e0 hb r hsp => ?_⟩
  have hl := len _ _ _ _ hsp
  have KX : K.In s.heap := e0.mod.kin.keeps fun b o e => (e0.bs b o e).1
  have lim : s.heap.NoLimit := e0.mod.nolimit.keeps fun b o e => (e0.bs b o e).1
  have hkind : ∀ y ∈ ps.zip us, scope.names.lookup y.1 = some .local ∨ (scope.names.lookup y.1 = some .cell ∧ ((cellsFrom (s.heap.objs.size + 1) scope.names []).lookup y.1).isSome = true) := fun ⟨n, v⟩ hy => by
    rcases S.par n (List.of_mem_zip hy).1 with q | q
    · exact .inl q
    · exact .inr ⟨q, PySem.W.cellsFrom_some _ _ _ (.inl q)⟩
  refine codeAny_call_function hr.depth (KX _ _ lk) rfl S.co S.gen rfl (PySem.W.codeRec_of KX hcd) (hb _ _ _ _ ?_)
  refine wpAny_newFunctionEnv_cells S.kind hkind fun env he s1 x => ?_
  subst he
  refine ⟨lim.keeps x.toInCall.keep, codeAny_func ?_⟩
  obtain ⟨t, ht, hq⟩ := hbody A outer s H vs Q E gd (hr.deeper _) hsp
  have I : Inv (cxOf CX P w K mg base N qual scope f cdv A outer s H E) [] (start N vs) H s1 := inv_start S hr.hd e0 hl r x
  refine wpAny_mono (ht.run [] s1 (start N vs) H _ I hq) (fun fl s' hs => ?_) fun e s' hs => hs
  have fin : ∀ {σ' : L2.St} {H' : Hp} {v : V} {u : Value}, Inv (cxOf CX P w K mg base N qual scope f cdv A outer s H E) [] σ' H' s' → RelV v u → Q v H' → CE outer P w H s Q u s' :=
    fun {σ' H' v u} J rv q => ⟨v, H', J.os, J.bare, J.base, J.hok, rv, q⟩
  cases fl with
  | ret u =>
    obtain ⟨v, σ', H', J, rv, q⟩ := hs
    exact fin J rv q
  | next =>
    obtain ⟨σ', H', J, q⟩ := hs
    exact fin (v := V.non) (u := Value.none) J rfl q
  | brk =>
    obtain ⟨_, _, _, q⟩ := hs
    exact False.elim q
  | cont =>
    obtain ⟨_, _, _, q⟩ := hs
    exact False.elim q
theorem FnG.of_fun {P : Program} {w : World} {K : PySem.W.Frag} {mg : Str → Option Value} {base : Heap} {x qual : Str} {st : Stmt} {f : Addr} {fd : FuncData} {N ps : List Str} {k : Nat} {sp : Sp} (F : Fun K x qual st f fd) (S : FnScope N ps (defScope st)) (len : ∀ vs H Q E, sp vs H Q E → vs.length = ps.length)
    (hbody : ∀ (cdv : Value) (A : Around) (outer : List Env) (s : Shared) (H : Hp) (vs : List V) (Q : VK) (E : XK), A.guards = some [] → Room k (A.deeper (envOfC qual (defScope st) s.heap.objs.size f cdv)) → sp vs H Q E →
      ∃ t, PSs (cxOf CX0 P w K mg base N qual (defScope st) f cdv A outer s H E).nox (defBody st) t ∧ t { nx := fun _ H' => Q .non H', rt := Q } (start N vs) H) : FnG P w K mg base CX0 (k + 1) f fd ps sp := by
  obtain ⟨oc, od, kV, doc, pm, an, cdv, ct, osl, rfl, lk, hcd⟩ := F.ex
  refine fnG_of lk hcd S len fun A outer s H vs Q E gd hr hsp => ?_
  obtain ⟨t, h, q⟩ := hbody cdv A outer s H vs Q E gd hr hsp
  exact ⟨t, h.nox, q⟩
section
variable {X : Cx} {CX : CXT} {k : Nat} {f : Addr} {fd : FuncData} {ps : List Str} {sp : Sp} {dvs : List V} {ds : List Value} {E : XK} {x : Str} {p pos : Pos} {e : Expr} {es : List Expr} {t : TA}
theorem pe_callG (gd : X.A.guards = some []) (F : FnG X.prog X.w X.K X.mg X.base CX k f fd ps sp) (hr : Room k X.A) (hg : Gl X x) (hm : X.mg x = some (.ref f)) (hk : PySem.W.keepIn X.K (.ref f) = true) (hb : Binds X.K fd ps ds) (hd : Vals dvs ds) (hx : Passes CX X E)
    (ha : PA X (e :: es) t) (hdb : (x == ("__debug__" : Str)) = false := by decide) (he : starEach (e :: es) X.env = (false, eval e X.env) :: starEach es X.env := by rfl) (hpl : (backTo pos (starEach es X.env)).any (·.1) = false := by rfl) :
    PE X (.Call (.Name x p) (e :: es) [] pos) (tCall sp dvs E t) := by
  refine ⟨fun pins s σ H Q I h => ?_⟩
  refine wpAny_Call_Name_kw (ld_glob I hg hm ?_ hdb)
  refine PySem.W.callWith_K (h₀ := X.base) I.ok.mod.kin hk (thn (ha.run pos pins s σ H _ I h) fun us s1 ⟨vs, H1, I1, r, q⟩ => ⟨I1.kIn, ?_⟩) he hpl
  have r2 : Vals (vs ++ dvs) (us ++ ds) := r.append hd
  have hl : (us ++ ds).length = ps.length := by rw [← r2.length]; exact F.len _ _ _ _ q
  refine wpAny_call (codeAny_mono (F.run X.A X.stack s1 H1 ⟨us, []⟩ (us ++ ds) (vs ++ dvs) Q E gd hr I1.env0 (hb s1 us I1.kIn hl) r2 q) fun r s' hq => ?_)
  cases r with
  | error e => exact hx pins σ H1 s1 e s' I1 hq
  | ok fl =>
    cases fl with
    | ret u => exact I1.after hq
    | next => exact False.elim hq
    | brk => exact False.elim hq
    | cont => exact False.elim hq
end
end TkS
set_option Elab.async false
set_option linter.all false
set_option maxRecDepth 100000
set_option maxHeartbeats 4000000
/-! comprehensions whose items are known values: over zip, over a list or a tuple, over a range -/
namespace TkS
open PySem PySem.Spec PyProof.Rows L2
theorem sqs_same {t : Bool} {K : PySem.W.Frag} {H H' : Hp} {a : Addr} {xs : List V} (s : Same H H') (h : RZM.SqS t K H a xs) : RZM.SqS t K H' a xs := by
  cases t with
  | true => exact seqT_same s h
  | false => exact s.seq h
theorem sqs_of {K : PySem.W.Frag} {H : Hp} {a : Addr} {xs : List V} (h : Sq K H a xs) : ∃ t, RZM.SqS t K H a xs := h.elim (fun z => ⟨false, z⟩) (fun z => ⟨true, z⟩)
theorem range_snoc {α : Type} (f : Nat → Bool) (e : Nat → α) (i : Nat) : ((List.range (i + 1)).filter f).map e = if f i = true then ((List.range i).filter f).map e ++ [e i] else ((List.range i).filter f).map e := by
  rw [List.range_succ, List.filter_append, List.map_append]
  cases c : f i with
  | true =>
    rw [if_pos rfl, List.filter_cons_of_pos c]
    rfl
  | false =>
    rw [if_neg Bool.false_ne_true, List.filter_cons_of_neg (by rw [c]; exact Bool.false_ne_true)]
    exact List.append_nil _
theorem range_len {α : Type} (f : Nat → Bool) (e : Nat → α) (i : Nat) : (((List.range i).filter f).map e).length ≤ i := by
  rw [List.length_map]
  exact Nat.le_trans (List.length_filter_le _ _) (by rw [List.length_range]; exact Nat.le_refl _)
/-- the list under way -/
def AccV (H0 : Hp) (D : Addr) (vs : List V) (H' : Hp) : Prop := Same H0 H' ∧ H' D = some (.lst vs)
theorem AccV.put {H0 H' H'' : Hp} {D : Addr} {vs : List V} {v : V} (a : AccV H0 D vs H') (nD : H0 D = none) (hl : vs.length ≤ 900) (s : Same H' H'') :
    ∃ acc, H'' D = some (.lst acc) ∧ acc.length < sizeLine ∧ AccV H0 D (vs ++ [v]) (upd H'' D (.lst (acc ++ [v]))) := by
  refine ⟨vs, s _ _ a.2, small1000 (by omega), fun b o e => ?_, upd_same⟩
  rw [upd_ne (ne_of_none e nD)]
  exact s _ _ (a.1 _ _ e)
theorem AccV.mv {H0 H' H'' : Hp} {D : Addr} {vs : List V} (a : AccV H0 D vs H') (s : Same H' H'') : AccV H0 D vs H'' := ⟨a.1.trans s, s _ _ a.2⟩
theorem lc_zipV {t1 t2 : Bool} {K : PySem.W.Frag} {a b : Addr} {xs ys : List V} {g : TG} {tt : TT} {te : TE} {vs : List Nat} {σ : L2.St} {H1 : Hp} {D : Addr} {Qd : Hp → Prop} (f : Nat → Bool) (e : Nat → V) (hl : xs.length = ys.length) (hn : xs.length ≤ 900) (nD : H1 D = none)
    (qx : RZM.SqS t1 K H1 a xs) (qy : RZM.SqS t2 K H1 b ys)
    (hs : ∀ (i : Nat) (x y : V) (T : Addr) (H' : Hp) (R : V → Hp → Prop) (N : Hp → Prop), xs[i]? = some x → ys[i]? = some y → Same H1 H' → H' T = some (.tup [x, y]) → (f i = true → ∀ H'', Same H' H'' → R (e i) H'') → (f i = false → ∀ H'', Same H' H'' → N H'') →
      g (.ref T) (wipe σ vs) H' fun σ2 H2 => wipe σ2 vs = wipe σ vs ∧ tt σ2 H2 fun b H3 => if b = true then te σ2 H3 R else N H3)
    (hd : ∀ H', Same H1 H' → H' D = some (.lst (((List.range xs.length).filter f).map e)) → Qd H') :
    ∃ W : Nat → Nat → Hp → Prop, (∃ m, W 0 m (upd H1 D (.lst []))) ∧ ∀ i m H, W i m H →
      ((RZM.ItzS t1 t2 K a b).stop i H ∧ Qd H) ∨ ((RZM.ItzS t1 t2 K a b).go i H ∧ ∃ Nx : Hp → Prop, (∀ H', Nx H' → ∃ m', m' < m ∧ W (i + 1) m' H') ∧ ∀ x H', (RZM.ItzS t1 t2 K a b).yld i H x H' → g x (wipe σ vs) H' fun σ2 H2 => wipe σ2 vs = wipe σ vs ∧ tt σ2 H2 fun b H3 =>
        if b = true then te σ2 H3 fun y H4 => ∃ acc, H4 D = some (.lst acc) ∧ acc.length < sizeLine ∧ Nx (upd H4 D (.lst (acc ++ [y]))) else Nx H3) := by
  refine lc_zipS hl (fun i H' => AccV H1 D (((List.range i).filter f).map e) H') ⟨same_new nD, upd_same⟩ (fun i H' hP => ⟨sqs_same hP.1 qx, sqs_same hP.1 qy⟩) (fun i x y T H' hx hy hP nT => ?_) (fun H' hP => hd H' hP.1 hP.2)
  have hi : i < xs.length := (List.getElem?_eq_some_iff.mp hx).1
  have sT : Same H' (upd H' T (.tup [x, y])) := same_new nT
  have hP2 := hP.mv sT
  refine hs i x y T _ _ _ hx hy hP2.1 upd_same (fun c H'' s => ?_) (fun c H'' s => ?_)
  · rw [range_snoc, if_pos c]
    exact hP2.put nD (Nat.le_trans (range_len _ _ _) (by omega)) s
  · show AccV _ _ _ _
    rw [range_snoc, c, if_neg Bool.false_ne_true]
    exact hP2.mv s
theorem lc_seqV {K : PySem.W.Frag} {a : Addr} {xs : List V} {tl : TE} {g : TG} {tt : TT} {te : TE} {vs : List Nat} {σ : L2.St} {H : Hp} {Q : VK} (f : Nat → Bool) (e : Nat → V)
    (ht0 : ∀ Q : VK, Q (.ref a) H → tl σ H Q) (hq : Sq K H a xs) (hn : xs.length ≤ 900)
    (hs : ∀ (i : Nat) (x : V) (H' : Hp) (R : V → Hp → Prop) (N : Hp → Prop), xs[i]? = some x → Same H H' → (f i = true → ∀ H'', Same H' H'' → R (e i) H'') → (f i = false → ∀ H'', Same H' H'' → N H'') →
      g x (wipe σ vs) H' fun σ2 H2 => wipe σ2 vs = wipe σ vs ∧ tt σ2 H2 fun b H3 => if b = true then te σ2 H3 R else N H3)
    (hd : ∀ D H', H D = none → Same H H' → H' D = some (.lst (((List.range xs.length).filter f).map e)) → Q (.ref D) H') :
    tLc (iSeq K tl) g tt te vs σ H Q := by
  refine lc_seq (fun D i H' => AccV H D (((List.range i).filter f).map e) H') ht0 hq (fun D nD => ⟨same_new nD, upd_same⟩) (fun D i H' _ _ hP => hP.1) (fun D i x H' nD hx hP => ?_) (fun D H' nD hP => hd D H' nD hP.1 hP.2)
  have hi : i < xs.length := (List.getElem?_eq_some_iff.mp hx).1
  refine hs i x _ _ _ hx hP.1 (fun c H'' s => ?_) (fun c H'' s => ?_)
  · rw [range_snoc, if_pos c]
    exact hP.put nD (Nat.le_trans (range_len _ _ _) (by omega)) s
  · show AccV _ _ _ _
    rw [range_snoc, c, if_neg Bool.false_ne_true]
    exact hP.mv s
theorem range_all {α : Type} (e : Nat → α) (n : Nat) : ((List.range n).filter fun _ => true).map e = (List.range n).map e := by
  rw [List.filter_eq_self.mpr fun _ _ => rfl]
theorem ret_cb_lc {r : List V → Hp → VK → Prop} {wi : TI} {g : TG} {tt : TT} {te : TE} {vs : List Nat} {D : Ends} {σ : L2.St} {H : Hp} (h : tLc wi g tt te vs σ H fun v H1 => r [v] H1 D.rt) : tRet (tCB r (tCons (tLc wi g tt te vs) tNil)) D σ H := h
theorem lc_tupV {K : PySem.W.Frag} {a : Addr} {xs : List V} {g : TG} {tt : TT} {te : TE} {vs : List Nat} {σ : L2.St} {H : Hp} {D : Addr} {Qd : Hp → Prop} (f : Nat → Bool) (e : Nat → V)
    (hq : SqT K H a xs) (hn : xs.length ≤ 900) (nD : H D = none)
    (hs : ∀ (i : Nat) (x : V) (H' : Hp) (R : V → Hp → Prop) (N : Hp → Prop), xs[i]? = some x → Same H H' → (f i = true → ∀ H'', Same H' H'' → R (e i) H'') → (f i = false → ∀ H'', Same H' H'' → N H'') →
      g x (wipe σ vs) H' fun σ2 H2 => wipe σ2 vs = wipe σ vs ∧ tt σ2 H2 fun b H3 => if b = true then te σ2 H3 R else N H3)
    (hd : ∀ H', Same H H' → H' D = some (.lst (((List.range xs.length).filter f).map e)) → Qd H') :
    ∃ W : Nat → Nat → Hp → Prop, (∃ m, W 0 m (upd H D (.lst []))) ∧ ∀ i m H, W i m H →
      ((Itt K a).stop i H ∧ Qd H) ∨ ((Itt K a).go i H ∧ ∃ Nx : Hp → Prop, (∀ H', Nx H' → ∃ m', m' < m ∧ W (i + 1) m' H') ∧ ∀ x H', (Itt K a).yld i H x H' → g x (wipe σ vs) H' fun σ2 H2 => wipe σ2 vs = wipe σ vs ∧ tt σ2 H2 fun b H3 =>
        if b = true then te σ2 H3 fun y H4 => ∃ acc, H4 D = some (.lst acc) ∧ acc.length < sizeLine ∧ Nx (upd H4 D (.lst (acc ++ [y]))) else Nx H3) := by
  refine lc_tup (fun i H' => AccV H D (((List.range i).filter f).map e) H') ⟨same_new nD, upd_same⟩ (fun i H' _ hP => seqT_same hP.1 hq) (fun i x H' hx hP => ?_) (fun H' hP => hd H' hP.1 hP.2)
  have hi : i < xs.length := (List.getElem?_eq_some_iff.mp hx).1
  refine hs i x _ _ _ hx hP.1 (fun c H'' s => ?_) (fun c H'' s => ?_)
  · rw [range_snoc, if_pos c]
    exact hP.put nD (Nat.le_trans (range_len _ _ _) (by omega)) s
  · show AccV _ _ _ _
    rw [range_snoc, c, if_neg Bool.false_ne_true]
    exact hP.mv s
theorem nx_go {f : L2.St → Hp → Prop} {D : Ends} {σ : L2.St} {H : Hp} (hD : D.nx = f) (h : f σ H) : tNext D σ H := by
  unfold tNext
  rw [hD]
  exact h
theorem if_lcOp {r : R2} {wi : TI} {g : TG} {tt : TT} {te tb : TE} {vs : List Nat} {t1 t2 rest : TS} {D : Ends} {σ : L2.St} {H : Hp}
    (h : tLc wi g tt te vs σ H fun x H1 => tb σ H1 fun y H2 => r x y H2 fun v H3 => ∃ b, v = .bl b ∧ if b = true then t1 { D with nx := rest D } σ H3 else t2 { D with nx := rest D } σ H3) :
    tSeq (tIfS (tTest (tOp r (tLc wi g tt te vs) tb)) t1 t2) rest D σ H := h
theorem lc_listD2 {K : PySem.W.Frag} {a : Addr} {xs : List V} {ds : List PyData} {tt : TT} {te : TE} {vs : List Nat} {σ : L2.St} {H : Hp} {D : Addr} {Qd : Hp → Prop} {j : Nat} (f : PyData → Bool) (e : PyData → PyData)
    (hq : SqL K H a xs) (hx : DqAll H xs ds) (nD : H D = none) (hl : ds.length ≤ 900) (hw : ∀ x : V, wipe ((wipe σ vs).set j (some x)) vs = wipe σ vs)
    (ht : ∀ (i : Nat) (x : V) (d : PyData) (H' : Hp) (Q : Bool → Hp → Prop), ds[i]? = some d → Same H H' → Dq H' x d → (∀ H'', Same H' H'' → Q (f d) H'') → tt ((wipe σ vs).set j (some x)) H' Q)
    (he : ∀ (i : Nat) (x : V) (d : PyData) (H' : Hp) (Q : VK), ds[i]? = some d → f d = true → Dq H x d → Same H H' → Dq H' x d → (∃ acc, H' D = some (.lst acc)) → (∀ y H'', Same H' H'' → Dq (TkS.Off D H'') y (e d) → Q y H'') → te ((wipe σ vs).set j (some x)) H' Q)
    (hd : ∀ H', Same H H' → Dq H' (.ref D) (.list ((ds.filter f).map e)) → Qd H') :
    ∃ W : Nat → Nat → Hp → Prop, (∃ m, W 0 m (upd H D (.lst []))) ∧ ∀ i m H, W i m H →
      ((Itl K a).stop i H ∧ Qd H) ∨ ((Itl K a).go i H ∧ ∃ Nx : Hp → Prop, (∀ H', Nx H' → ∃ m', m' < m ∧ W (i + 1) m' H') ∧ ∀ x H', (Itl K a).yld i H x H' → gName j x (wipe σ vs) H' fun σ2 H2 => wipe σ2 vs = wipe σ vs ∧ tt σ2 H2 fun b H3 =>
        if b = true then te σ2 H3 fun y H4 => ∃ acc, H4 D = some (.lst acc) ∧ acc.length < sizeLine ∧ Nx (upd H4 D (.lst (acc ++ [y]))) else Nx H3) := by
  refine lc_list (xs := xs) (fun i H' => Acc H D (((ds.take i).filter f).map e) H') (Acc.nil nD) (fun i H' _ hP => hP.1.seq hq) (fun i x H' hxi hP => ?_) (fun H' hP => ?_)
  · obtain ⟨d, hdi, kd⟩ := hx.get hxi
    have kd1 := kd.same hP.1
    refine ⟨hw _, ht i x d H' _ hdi hP.1 kd1 fun H2 s2 => ?_⟩
    have hP2 := hP.mv s2
    cases c : f d with
    | true =>
      refine he i x d H2 _ hdi c kd hP2.1 (kd1.same s2) ⟨_, hP2.2.choose_spec.1⟩ fun y H3 s3 k => ?_
      rw [filter_snoc _ _ hdi, if_pos c]
      refine hP2.put nD ?_ s3 k
      have := len_ft f e (ds.take i)
      rw [List.length_take] at this
      omega
    | false =>
      show Acc _ _ _ _
      rw [filter_snoc _ _ hdi, c, if_neg Bool.false_ne_true]
      exact hP2
  · rw [hx.len, List.take_length] at hP
    exact hd H' hP.1 hP.dq
theorem same_off {H H' : Hp} {D : Addr} (nD : H D = none) (s : Same H H') : Same H (TkS.Off D H') := fun b o e => off_at (ne_of_none e nD) (s _ _ e)
end TkS
set_option Elab.async false
set_option linter.all false
set_option maxRecDepth 100000
set_option maxHeartbeats 4000000
/-! errors with an own __init__ whose context is known to be None; a try whose suite raises another error -/
namespace TkS
open PySem PySem.Spec PyProof.Rows L2
theorem CX.ofN {P : Program} {w : World} {outer : List Env} {H : Hp} {s : Shared} {E : XK} {u : Value} {s' : Shared} (c : L2N.CX P w outer H s E u s') : L2.CX P w outer H s E u s' := by
  obtain ⟨a, B, H', cls, d, e, fl, r⟩ := c
  exact ⟨a, B, H', cls, d, e, L2H.flyingZ_imp (fun _ z => z.zc) fl, r⟩
theorem FnOk.ofN {P : Program} {w : World} {K : PySem.W.Frag} {mg : Str → Option Value} {base : Heap} {k : Nat} {f : Addr} {fd : FuncData} {ps : List Str} {sp : Sp} (F : FnOk P w K mg base (L2N.CX P w) k f fd ps sp) : FnOk P w K mg base (L2.CX P w) k f fd ps sp :=
  ⟨F.len, fun A outer s H args us vs Q E hr e0 hb r hsp => codeAny_mono (F.run A outer s H args us vs Q E hr e0 hb r hsp) fun r s' h => by
    cases r with
    | error e => exact CX.ofN h
    | ok fl => cases fl <;> exact h⟩
theorem Fun.okN {P : Program} {w : World} {K : PySem.W.Frag} {mg : Str → Option Value} {base : Heap} {x qual : Str} {st : Stmt} {f : Addr} {fd : FuncData} {N ps : List Str} {k : Nat} {sp : Sp} (F : Fun K x qual st f fd) (S : FnScope N ps (defScope st)) (len : ∀ vs H Q E, sp vs H Q E → vs.length = ps.length)
    (hbody : ∀ (cdv : Value) (A : Around) (outer : List Env) (s : Shared) (H : Hp) (vs : List V) (Q : VK) (E : XK), Room k (A.deeper (envOfC qual (defScope st) s.heap.objs.size f cdv)) → sp vs H Q E →
      ∃ t, PSs (cxOf (L2N.CX P w) P w K mg base N qual (defScope st) f cdv A outer s H E) (defBody st) t ∧ t { nx := fun _ H' => Q .non H', rt := Q } (start N vs) H) : FnOk P w K mg base (L2N.CX P w) (k + 1) f fd ps sp := by
  obtain ⟨oc, od, kV, doc, pm, an, cdv, ct, osl, rfl, lk, hcd⟩ := F.ex
  exact fn_of lk hcd S len fun A outer s H vs Q E hr hsp => hbody cdv A outer s H vs Q E hr hsp
section
variable {X : Cx} {e : Expr} {es : List Expr} {ta : TA} {p pos : Pos}
theorem mk_endN {pins : List (Addr × Obj)} {σ : L2.St} {H1 H2 : Hp} {Q : XK} {hp hp2 h2 : Heap} {g1 g2 : Array GenState} {d1 d2 : Drawn} {t1 t2 : Nat} {os1 os2 : OsState} {a C d p : Addr} {fs : List (Str × V)} (T : Raises X (.ref C)) (I1 : Inv X pins σ H1 ⟨hp, g1, d1, t1, os1⟩)
    (ha : hp.objs.size ≤ a) (k : ∀ b o, hp.get? b = some o → hp2.get? b = some o) (un : Un (frs X.stack) [] (upd H1 a (exo a C none)) H2 hp2 h2) (hok : HOk X.prog X.w H2 h2) (ho : os2 = os1) (hb : AllBare g2)
    (ea : H2 a = some (exo a C (some d))) (ed : H2 d = some (exd d fs)) (hd1 : H1 d = none) (q : Q (.ref C) (some d) (upd (del H2 a) d (.xd fs))) : L2N.MkP X pins σ Q (.ref a) ⟨h2, g2, d2, t2, os2⟩ := by
  obtain ⟨t0, G, J, kG, ge, hoe, na⟩ := mk_end0 (d2 := d2) (t2 := t2) I1 ha k un hok ho hb ea ed hd1
  refine ⟨a, _, _, ⟨G, g2, d2, t2, os2⟩, _, .ref C, some d, rfl, J, kG, ge, hoe, ⟨rfl, rfl, fun vs hv => ?_⟩, rfl, rfl, na, rfl, hb, T, q⟩
  cases hv
  rfl
theorem pmkN_oex {CX : CXT} {x : Str} {C fI : Addr} {k : Nat} {fd : FuncData} {ps : List Str} {sp : Sp} {ds : List Value} {dvs : List V} (T : OexC X.K C) (iC : PySem.W.findIn X.K (.ref C) "__init__" = some (some (.ref fI))) (tI : PySem.W.typeIn X.K (.ref fI) = some (.type "function"))
    (F1 : FnOk X.prog X.w X.K X.mg X.base CX k fI fd ps sp) (hr : Room (k + 1) X.A) (hb : Binds X.K fd ps ds) (hd : Vals dvs ds) (hx : Passes CX X (fun _ _ _ => False)) (hg : Gl X x) (hm : X.mg x = some (.ref C)) (ha : PA X (e :: es) ta)
    (hdb : (x == ("__debug__" : Str)) = false := by decide) (he : starEach (e :: es) X.env = (false, eval e X.env) :: starEach es X.env := by rfl) (hpl : (backTo pos (starEach es X.env)).any (·.1) = false := by rfl) :
    L2N.PMk X (.Call (.Name x p) (e :: es) [] pos) (tMkO C sp dvs ta) := by
  intro pins s σ H Q I h
  obtain ⟨nm, q, N, bs, bm, sn, sub, ab, col, dd, k0, k1, k2, k3, k5, hC, hbm⟩ := T.cls
  refine wpAny_Call_Name_kw (ld_glob I hg hm ?_ hdb)
  refine PySem.W.callWith_K (h₀ := X.base) I.ok.mod.kin T.kC (thn (ha.run pos pins s σ H _ I h) fun us s1 ⟨vs, H1, I1, r1, hz, q1⟩ => ⟨I1.kIn, ?_⟩) he hpl
  show wpAny _ _ (call (.ref C) us) _ _ _
  obtain ⟨hp, g, dr, tk, os⟩ := s1
  have hsz : hp.objs.size ≤ hp.objs.size + 1 := Nat.le_succ _
  have hn : H1 (hp.objs.size + 1) = none := I1.hok.fresh hsz
  have hq := q1 (hp.objs.size + 1) hn
  have kk : ∀ b o, hp.get? b = some o → ((hp.push (PySem.W.kdv_tup us)).push (PySem.HandSPX.excO C hp.objs.size)).get? b = some o := fun b o e => Heap.get?_push_of_some _ (Heap.get?_push_of_some _ e)
  have hget : ((hp.push (PySem.W.kdv_tup us)).push (PySem.HandSPX.excO C hp.objs.size)).get? (hp.objs.size + 1) = some (PySem.HandSPX.excO C hp.objs.size) := by heap_get
  have I2 : Inv X pins σ (upd H1 (hp.objs.size + 1) (exo (hp.objs.size + 1) C none)) ⟨(hp.push (PySem.W.kdv_tup us)).push (PySem.HandSPX.excO C hp.objs.size), g, dr, tk, os⟩ :=
    I1.laid (t' := tk) (a := hp.objs.size + 1) (o := exo (hp.objs.size + 1) C none) (h' := (hp.push (PySem.W.kdv_tup us)).push (PySem.HandSPX.excO C hp.objs.size)) kk hsz (exo_ok hget)
  have r2 : Vals (V.ref (hp.objs.size + 1) :: (vs ++ dvs)) (Value.ref (hp.objs.size + 1) :: (us ++ ds)) := .cons rfl (r1.append hd)
  have hl : (Value.ref (hp.objs.size + 1) :: us ++ ds).length = ps.length := by
    have e := r2.length
    rw [F1.len _ _ _ _ hq] at e
    exact e.symm
  have hus : us.length ≤ sizeLine := by
    rw [← Paired.length r1, sizeLine_eq]
    omega
  refine wpAny_call (PySem.HandSPX.call_own F.excBase_ValueError (fun Y => PySem.HandSPX.refsVE_contains Y bm hbm) (I1.kIn _ _ hC) (PySem.W.looks_findIn I1.kIn iC) (fun self => PySem.W.bind_fn I1.kIn self tI) hus
    (codeAny_mono (F1.run _ X.stack _ _ ⟨Value.ref (hp.objs.size + 1) :: us, []⟩ (Value.ref (hp.objs.size + 1) :: (us ++ ds)) _ _ (fun _ _ _ => False) (hr.make C us []) (I2.env0.make C us []) (hb _ (Value.ref (hp.objs.size + 1) :: us) I2.kIn hl) r2 hq) fun r s' hq' => ?_))
  cases r with
  | error er => exact hx pins σ _ _ er s' I2 hq'
  | ok fl =>
    cases fl with
    | ret u =>
      obtain ⟨v, H2, os2, bare2, un2, hok2, rv, ev, d, fs, ea, ed, hd1, q2⟩ := hq'
      subst ev
      obtain ⟨h2, g2, d2, t2, os'⟩ := s'
      exact ⟨rv, mk_endN (p := hp.objs.size) (raises_own T.exC T.tyC) I1 hsz kk un2 hok2 os2 bare2 ea ed hd1 q2⟩
    | next => exact False.elim hq'
    | brk => exact False.elim hq'
    | cont => exact False.elim hq'
end
theorem Fun.okH {P : Program} {w : World} {K : PySem.W.Frag} {mg : Str → Option Value} {base : Heap} {x qual : Str} {st : Stmt} {f : Addr} {fd : FuncData} {N ps : List Str} {k : Nat} {sp : Sp} (F : Fun K x qual st f fd) (S : FnScope N ps (defScope st)) (len : ∀ vs H Q E, sp vs H Q E → vs.length = ps.length)
    (hbody : ∀ (cdv : Value) (A : Around) (outer : List Env) (s : Shared) (H : Hp) (vs : List V) (Q : VK) (E : XK) (p : Addr × Obj), L2H.Hot1 A p → L2H.RoomH k (A.deeper (envOfC qual (defScope st) s.heap.objs.size f cdv)) → sp vs H Q E →
      ∃ t, PSs (L2H.cxH CX0 P w K mg base N qual (defScope st) f cdv A outer s H E p) (defBody st) t ∧ t { nx := fun _ H' => Q .non H', rt := Q } (start N vs) H) : L2H.FnH P w K mg base CX0 (k + 1) f fd ps sp := by
  obtain ⟨oc, od, kV, doc, pm, an, cdv, ct, osl, rfl, lk, hcd⟩ := F.ex
  exact L2H.fn_ofH lk hcd S len fun A outer s H vs Q E p hot hr hsp => hbody cdv A outer s H vs Q E p hot hr hsp
end TkS
set_option Elab.async false
set_option linter.all false
set_option maxRecDepth 100000
set_option maxHeartbeats 4000000
/-! data that the hand can't be part of: a hand's first item is a list -/
namespace TkS
open PySem PySem.Spec PyProof.Rows L2
def hdD : PyData → Bool
  | .list [.list _, .int _, .int _, .int _] => true
  | _ => false
mutual
def noHd : PyData → Bool
  | .list ds => !hdD (.list ds) && noHds ds
  | .tuple ds => noHds ds
  | _ => true
def noHds : List PyData → Bool
  | [] => true
  | d :: ds => noHd d && noHds ds
end
mutual
theorem dq_hd {H H' : Hp} {h c : Addr} {cs : List V} {p r t : Int} (hh : H h = some (.lst [.ref c, .int p, .int r, .int t])) (hc : H c = some (.lst cs)) (k : ∀ b o, b ≠ h → H b = some o → H' b = some o) : ∀ {v : V} (d : PyData), noHd d = true → Dq H v d → Dq H' v d
  | _, .none, _, .non => .non
  | _, .bool _, _, .bl b => .bl b
  | _, .int _, _, .int i => .int i
  | _, .str _, _, .str x => .str x
  | _, .list ds, n, .lst e u => by
    have n' : (!hdD (.list ds) && noHds ds) = true := n
    obtain ⟨n1, n2⟩ := Bool.and_eq_true_iff.mp n'
    refine .lst (k _ _ (fun z => ?_) e) (dqs_hd hh hc k ds n2 u)
    rw [z, hh] at e
    cases e
    cases u with
    | cons u0 u =>
      cases u with
      | cons u1 u =>
        cases u with
        | cons u2 u =>
          cases u with
          | cons u3 u =>
            cases u
            cases u1
            cases u2
            cases u3
            cases u0 with
            | lst e0 _ => exact absurd n1 (by simp [hdD])
            | tup e0 _ =>
              rw [hc] at e0
              cases e0
  | _, .tuple ds, n, .tup e u => .tup (k _ _ (fun z => by rw [z, hh] at e; cases e) e) (dqs_hd hh hc k ds n u)
theorem dqs_hd {H H' : Hp} {h c : Addr} {cs : List V} {p r t : Int} (hh : H h = some (.lst [.ref c, .int p, .int r, .int t])) (hc : H c = some (.lst cs)) (k : ∀ b o, b ≠ h → H b = some o → H' b = some o) : ∀ {vs : List V} (ds : List PyData), noHds ds = true → DqAll H vs ds → DqAll H' vs ds
  | _, [], _, .nil => .nil
  | _, d :: ds, n, .cons u v => .cons (dq_hd hh hc k d (by
      have n' : (noHd d && noHds ds) = true := n
      exact (Bool.and_eq_true_iff.mp n').1) u) (dqs_hd hh hc k ds (by
      have n' : (noHd d && noHds ds) = true := n
      exact (Bool.and_eq_true_iff.mp n').2) v)
end
theorem noHds_all {ds : List PyData} : noHds ds = true ↔ ∀ d ∈ ds, noHd d = true := by
  induction ds with
  | nil => exact ⟨(fun _ _ m => nomatch m), (fun _ => rfl)⟩
  | cons a ds ih =>
    show (noHd a && noHds ds) = true ↔ _
    rw [Bool.and_eq_true, ih]
    constructor
    · rintro ⟨h1, h2⟩ d m
      rcases List.mem_cons.mp m with e | m
      · rw [e]; exact h1
      · exact h2 d m
    · exact fun h => ⟨h a List.mem_cons_self, fun d m => h d (List.mem_cons_of_mem _ m)⟩
theorem noHd_list {ds : List PyData} (h : ∀ d ∈ ds, noHd d = true) (n : ds.length ≠ 4 ∨ ∀ d ∈ ds, ∀ es, d ≠ .list es) : noHd (.list ds) = true := by
  show (!hdD (.list ds) && noHds ds) = true
  rw [noHds_all.mpr h, Bool.and_true]
  cases c : hdD (.list ds) with
  | false => rfl
  | true =>
    exfalso
    unfold hdD at c
    split at c
    · rename_i es a b cc e
      cases e
      rcases n with n | n
      · exact n rfl
      · exact n _ List.mem_cons_self es rfl
    · cases c
theorem noHd_tup {ds : List PyData} (h : ∀ d ∈ ds, noHd d = true) : noHd (.tuple ds) = true := noHds_all.mpr h
/-! data of before stands beside a new object -/
mutual
theorem dq_new {H : Hp} {l : Addr} {o : HO} (n : H l = none) : ∀ {v : V} (d : PyData), Dq H v d → Dq (TkS.Off l (upd H l o)) v d
  | _, .none, .non => .non
  | _, .bool _, .bl b => .bl b
  | _, .int _, .int i => .int i
  | _, .str _, .str x => .str x
  | _, .list _, .lst e t => .lst (off_at (ne_of_none e n) ((same_new n) _ _ e)) (dqs_new n _ t)
  | _, .tuple _, .tup e t => .tup (off_at (ne_of_none e n) ((same_new n) _ _ e)) (dqs_new n _ t)
theorem dqs_new {H : Hp} {l : Addr} {o : HO} (n : H l = none) : ∀ {vs : List V} (ds : List PyData), DqAll H vs ds → DqAll (TkS.Off l (upd H l o)) vs ds
  | _, [], .nil => .nil
  | _, _ :: _, .cons k t => .cons (dq_new n _ k) (dqs_new n _ t)
end
end TkS
set_option Elab.async false
set_option linter.all false
set_option maxRecDepth 100000
set_option maxHeartbeats 4000000
set_option exponentiation.threshold 5000
/-! data of bounded depth, width and numbers: it can be laid, shown, compared -/
namespace TkS
open PySem PySem.Spec PyProof.Rows L2
def mild : Nat → PyData → Bool
  | _, .none => true
  | _, .bool _ => true
  | _, .int i => decide (i.natAbs < 10 ^ 121)
  | _, .str x => PyData.canLay0 (.str x) && decide ((PyData.shown (.str x)).length ≤ 130)
  | n + 1, .list ds => decide (ds.length ≤ 40) && ds.all (mild n)
  | n + 1, .tuple ds => decide (ds.length ≤ 40) && ds.all (mild n)
  | _, _ => false
theorem int_len {i : Int} (h : i.natAbs < 10 ^ 121) : (PyData.shown (.int i)).length ≤ 130 := by
  have e : PyData.shown (.int i) = Str.ofString (toString i) := by simp only [PyData.shown]
  rw [e, PySem.ofString_length]
  have nat : ∀ n : Nat, n < 10 ^ 121 → n.repr.length ≤ 121 := fun n hn => by
    have : n.repr = String.ofList (Nat.toDigits 10 n) := rfl
    rw [this, String.length_ofList]
    exact (Nat.length_toDigits_le_iff (by decide) (by decide)).mpr hn
  have e2 : toString i = i.repr := rfl
  rw [e2]
  cases i with
  | ofNat m =>
    have := nat m h
    show m.repr.length ≤ 130
    omega
  | negSucc m =>
    have := nat (m + 1) h
    show ("-" ++ (m + 1).repr).length ≤ 130
    rw [String.length_append]
    have : ("-" : String).length = 1 := by decide
    omega
def bnd : Nat → Nat
  | 0 => 130
  | n + 1 => 40 * (bnd n + 2) + 10
theorem bnd_ge : ∀ n, 130 ≤ bnd n
  | 0 => Nat.le_refl _
  | n + 1 => by
    have := bnd_ge n
    show 130 ≤ 40 * (bnd n + 2) + 10
    omega
theorem join_le (n : Nat) : ∀ ts : List Str, (∀ t ∈ ts, t.length ≤ n) → (Str.join ", " ts).length ≤ ts.length * (n + 2)
  | [], _ => by
    show (0 : Nat) ≤ _
    omega
  | [x], h => by
    show x.length ≤ _
    have := h x List.mem_cons_self
    rw [List.length_singleton]
    omega
  | x :: y :: r, h => by
    have ih := join_le n (y :: r) fun t m => h t (List.mem_cons_of_mem _ m)
    show (x ++ ", " ++ Str.join ", " (y :: r)).length ≤ _
    have e2 : ((", " : String) : Str).length = 2 := rfl
    rw [strLen_append, strLen_append, e2]
    have := h x List.mem_cons_self
    have e3 : (x :: y :: r).length * (n + 2) = (y :: r).length * (n + 2) + (n + 2) := by
      rw [List.length_cons, Nat.succ_mul]
    rw [e3]
    omega
structure Mild (n : Nat) (d : PyData) : Prop where
  lay : d.canLay0 = true
  dep : d.depth ≤ n
  sh : d.showable = true
  len : d.shown.length ≤ bnd n
theorem log_small {i : Int} (h : i.natAbs < 10 ^ 121) : i.natAbs.log2 < 1920 := by
  have : i.natAbs < 2 ^ 1920 := Nat.lt_of_lt_of_le h (by decide)
  by_cases z : i.natAbs = 0
  · rw [z]
    decide
  · exact (Nat.log2_lt z).mpr this
theorem mild_is : ∀ (n : Nat) (d : PyData), mild n d = true → Mild n d
  | n, .none, _ => ⟨by simp [PyData.canLay0], by simp [PyData.depth], by simp [PyData.showable], by
    have : (PyData.shown .none).length = 4 := by decide +kernel
    have := bnd_ge n
    omega⟩
  | n, .bool b, _ => ⟨by simp [PyData.canLay0], by simp [PyData.depth], by simp [PyData.showable], by
    have : (PyData.shown (.bool b)).length ≤ 5 := by cases b <;> decide +kernel
    have := bnd_ge n
    omega⟩
  | n, .int i, h => ⟨by simp [PyData.canLay0], by simp [PyData.depth], by
    have h' : i.natAbs < 10 ^ 121 := by
      unfold mild at h
      exact of_decide_eq_true h
    simp only [PyData.showable]
    exact decide_eq_true (log_small h'), by
    have h' : i.natAbs < 10 ^ 121 := by
      unfold mild at h
      exact of_decide_eq_true h
    exact Nat.le_trans (int_len h') (bnd_ge n)⟩
  | n, .str x, h => by
    have h' : (PyData.canLay0 (.str x) && decide ((PyData.shown (.str x)).length ≤ 130)) = true := by
      unfold mild at h
      exact h
    rw [Bool.and_eq_true] at h'
    exact ⟨h'.1, by simp [PyData.depth], by simp [PyData.showable], Nat.le_trans (of_decide_eq_true h'.2) (bnd_ge n)⟩
  | 0, .list ds, h => by
    unfold mild at h
    cases h
  | 0, .tuple ds, h => by
    unfold mild at h
    cases h
  | n, .dict k, h => by
    unfold mild at h
    cases n <;> cases h
  | n + 1, .list ds, h => by
    have h' : (decide (ds.length ≤ 40) && ds.all (mild n)) = true := by
      unfold mild at h
      exact h
    rw [Bool.and_eq_true] at h'
    have hl := of_decide_eq_true h'.1
    obtain ⟨k1, k2, k3, k4, k5⟩ := mild_all n ds (fun d m => mild_is n d (List.all_eq_true.mp h'.2 d m))
    refine ⟨by simp [PyData.canLay0, k1], by simp only [PyData.depth]; omega, by simp [PyData.showable, k3], ?_⟩
    have e1 : (PyData.list ds).shown = textFrom 0 "[" (PyData.shownAll ds) ++ "]" := by simp only [PyData.shown, listText]
    have e := textFrom_le (bnd n) (PyData.shownAll ds) 0 "[" k4
    rw [e1, strLen_append]
    have e2 : (("[" : Str)).length = 1 := rfl
    have e3 : (("]" : Str)).length = 1 := rfl
    rw [k5, e2] at e
    rw [e3]
    have : ds.length * (bnd n + 2) ≤ 40 * (bnd n + 2) := Nat.mul_le_mul_right _ hl
    show _ ≤ 40 * (bnd n + 2) + 10
    omega
  | n + 1, .tuple ds, h => by
    have h' : (decide (ds.length ≤ 40) && ds.all (mild n)) = true := by
      unfold mild at h
      exact h
    rw [Bool.and_eq_true] at h'
    have hl := of_decide_eq_true h'.1
    obtain ⟨k1, k2, k3, k4, k5⟩ := mild_all n ds (fun d m => mild_is n d (List.all_eq_true.mp h'.2 d m))
    refine ⟨by simp [PyData.canLay0, k1], by simp only [PyData.depth]; omega, by simp [PyData.showable, k3], ?_⟩
    have e := join_le (bnd n) (PyData.shownAll ds) k4
    have e1 : (PyData.tuple ds).shown = ("(" : Str) ++ Str.join ", " (PyData.shownAll ds) ++ (if (PyData.shownAll ds).length == 1 then ",)" else ")" : String) := by simp only [PyData.shown, tupleText]
    rw [e1, strLen_append, strLen_append]
    have e2 : (("(" : Str)).length = 1 := rfl
    have e3 : (((if (PyData.shownAll ds).length == 1 then ",)" else ")" : String) : Str)).length ≤ 2 := by split <;> decide
    rw [e2]
    rw [k5] at e
    have : ds.length * (bnd n + 2) ≤ 40 * (bnd n + 2) := Nat.mul_le_mul_right _ hl
    show _ ≤ 40 * (bnd n + 2) + 10
    omega
where mild_all (n : Nat) : ∀ ds : List PyData, (∀ d ∈ ds, Mild n d) → PyData.canLayAll0 ds = true ∧ PyData.depthAll ds ≤ n ∧ PyData.showableAll ds = true ∧ (∀ t ∈ PyData.shownAll ds, t.length ≤ bnd n) ∧ (PyData.shownAll ds).length = ds.length
  | [], _ => ⟨by simp [PyData.canLayAll0], by simp [PyData.depthAll], by simp [PyData.showableAll], by simp [PyData.shownAll], by simp [PyData.shownAll]⟩
  | d :: ds, h => by
    obtain ⟨k1, k2, k3, k4, k5⟩ := mild_all n ds fun x m => h x (List.mem_cons_of_mem _ m)
    obtain ⟨m1, m2, m3, m4⟩ := h d List.mem_cons_self
    refine ⟨by simp [PyData.canLayAll0, m1, k1], by simp only [PyData.depthAll]; omega, by simp [PyData.showableAll, m3, k3], fun t m => ?_, by simp [PyData.shownAll, k5]⟩
    rw [PyData.shownAll] at m
    rcases List.mem_cons.mp m with e | e
    · rw [e]
      exact m4
    · exact k4 t e
theorem Mild.shaped {n : Nat} {d : PyData} (h : Mild n d) (hn : n ≤ 60) : SeqAt.shaped d = true := by
  unfold SeqAt.shaped
  rw [h.lay, decide_eq_true (by have := h.dep; omega)]
  rfl
theorem Mild.noDict {n : Nat} {d : PyData} (h : Mild n d) : d.hasDict = false := PyData.hasDict_of_canLay d h.lay
theorem Mild.fits {d : PyData} (h : Mild 3 d) : d.shown.length ≤ sizeLine := Nat.le_trans h.len (by decide)
theorem mild_items {n : Nat} {d : PyData} {ds : List PyData} (h : mild (n + 1) d = true) (e : itemsD d = some ds) : ds.length ≤ 40 ∧ ∀ x ∈ ds, mild n x = true := by
  cases d with
  | list es =>
    cases e
    unfold mild at h
    rw [Bool.and_eq_true] at h
    exact ⟨of_decide_eq_true h.1, fun x m => List.all_eq_true.mp h.2 x m⟩
  | tuple es =>
    cases e
    unfold mild at h
    rw [Bool.and_eq_true] at h
    exact ⟨of_decide_eq_true h.1, fun x m => List.all_eq_true.mp h.2 x m⟩
  | _ => cases e
theorem mild_tup {n : Nat} {ds : List PyData} (hl : ds.length ≤ 40) (h : ∀ x ∈ ds, mild n x = true) : mild (n + 1) (.tuple ds) = true := by
  unfold mild
  rw [decide_eq_true hl, List.all_eq_true.mpr h]
  rfl
theorem mild_lst {n : Nat} {ds : List PyData} (hl : ds.length ≤ 40) (h : ∀ x ∈ ds, mild n x = true) : mild (n + 1) (.list ds) = true := by
  unfold mild
  rw [decide_eq_true hl, List.all_eq_true.mpr h]
  rfl
theorem mild_up : ∀ (n : Nat) (d : PyData), mild n d = true → mild (n + 1) d = true
  | n, .none, _ => by unfold mild; rfl
  | n, .bool b, _ => by unfold mild; rfl
  | n, .int i, h => by
    unfold mild at h ⊢
    exact h
  | n, .str x, h => by
    unfold mild at h ⊢
    exact h
  | 0, .list ds, h => by
    unfold mild at h
    cases h
  | 0, .tuple ds, h => by
    unfold mild at h
    cases h
  | n, .dict k, h => by
    unfold mild at h
    cases n <;> cases h
  | n + 1, .list ds, h => by
    obtain ⟨hl, hi⟩ := mild_items h rfl
    exact mild_lst hl fun x m => mild_up n x (hi x m)
  | n + 1, .tuple ds, h => by
    obtain ⟨hl, hi⟩ := mild_items h rfl
    exact mild_tup hl fun x m => mild_up n x (hi x m)
theorem mild_filter {n : Nat} {ds : List PyData} {f : PyData → Bool} (hl : ds.length ≤ 40) (h : ∀ x ∈ ds, mild n x = true) : mild (n + 1) (.list (ds.filter f)) = true :=
  mild_lst (Nat.le_trans (List.length_filter_le _ _) hl) fun x m => h x (List.mem_filter.mp m).1
end TkS
set_option Elab.async false
set_option linter.all false
set_option maxRecDepth 100000
set_option maxHeartbeats 4000000
/-! repr of data of bounded depth, width and numbers -/
namespace TkS
open PySem PySem.Spec PyProof.Rows L2
def rReprM : List V → Hp → VK → Prop := fun xs H Q => ∃ x d, xs = [x] ∧ Dq H x d ∧ mild 3 d = true ∧ Q (.str d.shown) H
theorem call_reprM {X : Cx} (hg : X.A.guards = some []) (hu : X.A.units + 65 < cLine) : CallR X (.builtin "repr") rReprM := by
  intro pins s σ H xs us Q I r h
  obtain ⟨x, d, rfl, k, hm, q⟩ := h
  have M := mild_is 3 d hm
  have big : ∀ a, x = .ref a → wpAny (model X.prog X.w) X.A (call (.builtin "repr") us) (EP X pins σ Q) X.xe s := fun a e => by
    subst e
    exact call_reprD hg hu pins s σ H _ us Q I r ⟨a, d, rfl, k.dp, M.sh, M.noDict, Nat.le_trans M.dep (by decide), M.fits, q⟩
  cases k with
  | non =>
    obtain ⟨u, rfl, ru⟩ := vals1 r
    cases ru
    have e : PyData.shown .none = ("None" : Str) := by simp only [PyData.shown]
    rw [e] at q
    exact PySem.P.repr_of_none ⟨.str _, H, I.tok _, ⟨_, rfl⟩, q⟩
  | bl b =>
    obtain ⟨u, rfl, ru⟩ := vals1 r
    cases ru
    have e : PyData.shown (.bool b) = if b = true then ("True" : Str) else ("False" : Str) := by simp only [PyData.shown]
    rw [e] at q
    exact PySem.P.repr_of_bool ⟨.str _, H, I.tok _, ⟨_, rfl⟩, q⟩
  | int i =>
    obtain ⟨u, rfl, t, rfl⟩ := vals1 r
    have e : PyData.shown (.int i) = Str.ofString (toString i) := by simp only [PyData.shown]
    rw [e] at q
    have hz : i.natAbs.log2 < 1920 := by
      have := M.sh
      simp only [PyData.showable] at this
      exact of_decide_eq_true this
    exact PySem.P.repr_of_int hz ⟨.str _, H, I.tok _, ⟨_, rfl⟩, q⟩
  | str z =>
    obtain ⟨u, rfl, t, rfl⟩ := vals1 r
    have e : PyData.shown (.str z) = reprText z := by simp only [PyData.shown]
    have hs := M.fits
    rw [e] at q hs
    exact PySem.P.repr_of_str ⟨.str _, H, I.tok _, ⟨_, rfl⟩, q⟩ hs
  | lst h1 h2 => exact big _ rfl
  | tup h1 h2 => exact big _ rfl
end TkS
set_option Elab.async false
set_option linter.all false
set_option maxRecDepth 100000
set_option maxHeartbeats 4000000
/-! enumerate of a tuple, and of a list or a tuple -/
namespace TkS
open PySem PySem.Spec PyProof.Rows L2
set_option maxHeartbeats 1000000 in
theorem meets_enum1 {v : Value} {o : Obj} {H : Heap → Prop} (B : Begins v o H) :
    Meets (Builtin.«enumerate.__new__» ⟨[.type "enumerate", v], []⟩) (fun _ R s => H s.heap ∧
      R (.ok (.ret (.ref (s.heap.push o).objs.size))) { s with heap := (s.heap.push o).push { cls := .type "enumerate", data := .fields #[.none, .bool false, .ref s.heap.objs.size, rawInt 0, .none, .none] } }) :=
  .of_wp fun prog w A R s h => by
    obtain ⟨hp, g, d, tk, os⟩ := s
    obtain ⟨b0, h⟩ := h
    have sube := sub_enumerate
    have go : ∀ {A' : Around} {E : Value → Shared → Prop} {Q : Value → Shared → Prop}, Q (.ref hp.objs.size) ⟨hp.push o, g, d, tk, os⟩ → wpAny (model prog w) A' (pyIter v) Q E ⟨hp, g, d, tk, os⟩ := fun q => B.iter prog w _ _ ⟨hp, g, d, tk, os⟩ _ b0 q
    wp_walk using go
    refine wpAny_stack_any fun st => wpAny_pure ?_
    split
    · rename_i k _ _ _ _ _
      cases (k == Value.type "enumerate") <;> (wp_walk using go; exact ⟨_, rfl, h⟩)
    · wp_walk using go
      exact ⟨_, rfl, h⟩
theorem enum_begins1 {prog : Program} {w : World} {A : Around} {E : Value → Shared → Prop} {s : Shared} {v : Value} {o : Obj} {H : Heap → Prop} {Q : Value → Shared → Prop} (B : Begins v o H) (b0 : H s.heap)
    (h : ∀ h', IsEnum h' (s.heap.objs.size + 1) s.heap.objs.size 0 .none → h'.get? s.heap.objs.size = some o → (∀ b ob, s.heap.get? b = some ob → h'.get? b = some ob) → Q (.ref (s.heap.objs.size + 1)) { s with heap := h' }) :
    wpAny (model prog w) A (call (.type "enumerate") [v]) Q E s := by
  refine callType_new F.called_enumerate (by decide) (F.typeCall_enumerate_1 _) (F.newCall_enumerate_1 _) (fun obj => F.args_object_init_2 obj _) F.entry_enumerate_new (meets_enum1 B) ⟨b0, ?_⟩
  have z1 : (s.heap.push o).objs.size = s.heap.objs.size + 1 := Heap.size_push ..
  have e1 : ((s.heap.push o).push { cls := .type "enumerate", data := .fields #[.none, .bool false, .ref s.heap.objs.size, rawInt 0, .none, .none] }).get? (s.heap.push o).objs.size = some _ := Heap.get?_push_size _ rfl
  show _ ∧ _
  rw [z1] at e1 ⊢
  exact ⟨⟨_, e1, rfl⟩, h _ e1 (Heap.get?_push_of_some _ (Heap.get?_push_size _ B.free)) fun b ob z => Heap.get?_push_of_some _ (Heap.get?_push_of_some _ z)⟩
def IteT (K : PySem.W.Frag) (a : Addr) : It :=
  ⟨fun i H => ∃ (xs : List V) (x : V), SqT K H a xs ∧ xs[i]? = some x, fun i H v H' => ∃ T x, v = .ref T ∧ H T = none ∧ H' = upd H T (.tup [.int (i : Nat), x]) ∧ ∀ xs, SqT K H a xs → xs[i]? = some x, fun i H => ∃ xs : List V, SqT K H a xs ∧ xs.length ≤ i⟩
theorem turn_enumT {P : Program} {w : World} {K : PySem.W.Frag} {elts : List Expr} {kk : Nat} {tpos : Pos} (a e it : Addr) (hei : e ≠ it) (hea : e ≠ a) (hai : a ≠ it) :
    Turn P w K (.Tuple elts kk tpos) (IteT K a) [e, it] e (fun i h => (∃ old, IsEnum h e it ((i : Nat) : Int) old) ∧ h.IsTupleIter it a i) where
  mem := by simp
  obj := fun i h st b hb => by
    obtain ⟨⟨old, he⟩, ⟨o, ho, _, hd⟩⟩ := st
    have hb' : b = e ∨ b = it := by simpa using hb
    rcases hb' with z | z
    · subst z
      exact ⟨_, he, fun v q => nomatch q⟩
    · subst z
      exact ⟨o, ho, fun v q => by rw [hd] at q; cases q⟩
  keep := fun i h h' st k => by
    obtain ⟨⟨old, he⟩, hi⟩ := st
    exact ⟨⟨old, k e (by simp) _ he⟩, hi.at fun o q => k it (by simp) o q⟩
  item := by
    intro X hP hw hK hc i pins s σ H E I hf st hg
    subst hP hw hK
    obtain ⟨⟨old, he⟩, hit⟩ := st
    obtain ⟨xs, x, hq, hx⟩ := hg
    obtain ⟨its, rv, p, hz⟩ := I.tuple hq
    obtain ⟨u, hu, ru⟩ := rv.get hx
    have le : e < s.heap.objs.size := Heap.lt_size he
    have li : it < s.heap.objs.size := by
      obtain ⟨_, q, _⟩ := hit
      exact Heap.lt_size q
    have lx : i < its.toArray.size := by
      have := (List.getElem?_eq_some_iff.mp hu).1
      simpa using this
    refine wpAny_pyNext_enum_itemD (Draws.tuple (prog := X.prog) (w := X.w) (A := X.A.in1) (I.ok.hd hc) it a hai its.toArray) he ⟨hit, p⟩ lx hei (by simp [hei, hea]) fun x' h' tk hP ho hst hT hsz hk => ?_
    have ex : x' = u := by
      have : its[i]? = some x' := by simpa using hP
      rw [hu] at this
      exact (Option.some.inj this).symm
    subst ex
    refine ⟨_, rfl, wpAny_letOwnedTupleGo_enum (s := { s with heap := h', toks := tk + 1 }) ho fun h'' he' sb => ?_⟩
    have hT2 : h''.get? s.heap.objs.size = some { cls := .type "tuple", data := .seq #[.int i tk, x'] } := (sb.2 _ (Nat.ne_of_gt le)).trans hT
    have new : ObjOk X.prog X.w (upd H s.heap.objs.size (.tup [.int (i : Nat), x])) h'' s.heap.objs.size (.tup [.int (i : Nat), x]) :=
      ⟨by show 2 ≤ sizeLine; decide, [.int i tk, x'], .cons ⟨_, rfl⟩ (.cons ru .nil), ⟨_, hT2, rfl, _, rfl⟩⟩
    have I1 : Inv X pins σ (upd H s.heap.objs.size (.tup [.int (i : Nat), x])) { s with heap := h'', toks := tk + 1 } :=
      I.turnedNew (ch := [e, it]) (fun b ob hb q => (sb.2 b (fun z => hb (by simp [z]))).trans (hk b ob (fun z => hb (by simp [z])) (fun z => hb (by simp [z])) q)) hf (Nat.le_refl _) new
    refine ⟨.ref s.heap.objs.size, _, I1, rfl, ⟨_, x, rfl, I.hok.fresh (Nat.le_refl _), rfl, fun ys hy => by rw [I.tuple_inj hy hq]; exact hx⟩, ⟨⟨x', ?_⟩, hst.1.at fun o q => (sb.2 it (Ne.symm hei)).trans q⟩, fun b hb => ?_⟩
    · rw [show ((i + 1 : Nat) : Int) = (i : Int) + 1 by omega]
      exact he'
    · have lb : b < s.heap.objs.size := by
        have hb' : b = e ∨ b = it := by simpa using hb
        rcases hb' with z | z <;> (subst z; assumption)
      rw [upd_ne (Nat.ne_of_lt lb)]
      exact (hf b hb).1
  done := by
    intro X hP hw hK hc i pins s σ H E I hf st hg
    subst hP hw hK
    obtain ⟨⟨old, he⟩, hit⟩ := st
    obtain ⟨xs, hq, hx⟩ := hg
    obtain ⟨its, rv, p, hz⟩ := I.tuple hq
    obtain ⟨f0, f1, f2, f3, f4, f5⟩ := hf it (by simp)
    have hl := rv.length
    have D : Draws X.prog X.w X.A.in1 it [it, a] i (fun j v => its.toArray[j]? = some v) (fun j h => j = i ∧ h.IsTupleIter it a j ∧ h.IsTuple a its.toArray) :=
      { live := fun _ _ st => let ⟨o, ho, _⟩ := st.2.1; ⟨o, ho⟩
        frame := fun j h h' st hk => ⟨st.1, (Draws.tuple (prog := X.prog) (w := X.w) (A := X.A.in1) (I.ok.hd hc) it a hai its.toArray).frame j h h' st.2 hk⟩
        item := fun j s' Q' E' hj st' hQ => absurd st'.1 (Nat.ne_of_lt hj)
        done := fun s' Q' E' st' hE => wpAny_nextOf_tuple_end (I.ok.hd hc) st'.2.1 st'.2.2 (by simp; omega) hE }
    exact wpAny_pyNext_enum_endD D he ⟨rfl, hit, p⟩ fun h' eb => ⟨rfl, I.turned (t' := s.toks) (fun b o hb q => eb b o hb q) f0 f1 f3 f4 f5⟩
  self := fun A i s Q E st h => let ⟨⟨_, he⟩, _⟩ := st; wpAny_pyIter_enum he h
def iEnumT (K : PySem.W.Frag) (ta : TA) : TI := fun σ H R => ta σ H fun vs H1 => ∃ a xs, vs = [.ref a] ∧ SqT K H1 a xs ∧ R (IteT K a) H1
theorem pi_enumT {X : Cx} {e : Expr} {ta : TA} {p pos tpos : Pos} {elts : List Expr} {kk : Nat} (hg : Gl X "enumerate") (hm : X.mg "enumerate" = none) (ha : PA X [e] ta) (hs : starEach [e] X.env = [(false, eval e X.env)] := by rfl) :
    PI X (.Tuple elts kk tpos) (.Call (.Name "enumerate" p) [e] [] pos) (iEnumT X.K ta) := by
  refine ⟨fun pins s σ H R I h => ?_⟩
  refine Call_ (ld_blt I hg hm boot_enumerate (PyProof.Rows.callWith_type1 (thn (ha.run pos pins s σ H _ I h) fun us s1 ⟨vs, H1, I1, r1, a, xs, ex, hq, q⟩ => ?_) hs rfl))
  subst ex
  obtain ⟨u, rfl, r⟩ : ∃ u, us = [u] ∧ RelV (.ref a) u := by
    cases r1 with
    | cons r rr =>
      cases rr
      exact ⟨_, rfl, r⟩
  cases r
  obtain ⟨its, rv, p', hz⟩ := I1.tuple hq
  have la : a < s1.heap.objs.size := by
    obtain ⟨_, z, _⟩ := p'
    exact Heap.lt_size z
  refine enum_begins1 (begins_tuple a its.toArray) p' fun h' he hit hk => wpAny_pyIter_enum he ?_
  have I2 : Inv X pins σ H1 { s1 with heap := h' } := I1.kept (t' := s1.toks) hk
  refine ⟨s1.heap.objs.size + 1, [s1.heap.objs.size + 1, s1.heap.objs.size], _, _, H1, rfl, I2, turn_enumT a (s1.heap.objs.size + 1) s1.heap.objs.size (Nat.succ_ne_self _) (Nat.ne_of_gt (Nat.lt_succ_of_lt la)) (Nat.ne_of_lt la), ⟨⟨.none, he⟩, ⟨_, hit, rfl, rfl⟩⟩, fun b hb => ?_, q⟩
  have lb : s1.heap.objs.size ≤ b := by
    have hb' : b = s1.heap.objs.size + 1 ∨ b = s1.heap.objs.size := by simpa using hb
    rcases hb' with z | z <;> rw [z]
    · exact Nat.le_add_right _ _
    · exact Nat.le_refl _
  exact I1.fpOk lb (I1.hok.fresh lb)
def iEnumS (K : PySem.W.Frag) (ta : TA) : TI := fun σ H R => iEnum K ta σ H R ∨ iEnumT K ta σ H R
theorem pi_enumS {X : Cx} {e : Expr} {ta : TA} {p pos tpos : Pos} {elts : List Expr} {kk : Nat} (hg : Gl X "enumerate") (hm : X.mg "enumerate" = none) (ha : PA X [e] ta) (hs : starEach [e] X.env = [(false, eval e X.env)] := by rfl) :
    PI X (.Tuple elts kk tpos) (.Call (.Name "enumerate" p) [e] [] pos) (iEnumS X.K ta) :=
  ⟨fun pins s σ H R I h => h.elim (fun h => (pi_enum hg hm ha hs).run pins s σ H R I h) (fun h => (pi_enumT hg hm ha hs).run pins s σ H R I h)⟩
theorem for_enumS {K : PySem.W.Frag} {a : Addr} {xs : List V} {ta : TA} {g : TG} {tb : TS} {D : Ends} {σ : L2.St} {H : Hp} (Pv : Nat → L2.St → Hp → Prop) (ht : ∀ Q : List V → Hp → Prop, Q [.ref a] H → ta σ H Q) (hq : Sq K H a xs) (h0 : Pv 0 σ H)
    (hl : ∀ i σ H', Pv i σ H' → Same H H')
    (hs : ∀ i x T σ H', xs[i]? = some x → Pv i σ H' → H' T = none → g (.ref T) σ (upd H' T (.tup [.int (i : Nat), x])) fun σ2 H2 => tb { D with nx := Pv (i + 1), ct := Pv (i + 1), bk := D.nx } σ2 H2) (hd : ∀ σ H', Pv xs.length σ H' → D.nx σ H') :
    tFor (iEnumS K ta) g tb D σ H := by
  have walk : ∀ {J : It} {ok : Hp → Prop}, (∀ i H', ok H' → (∀ x, xs[i]? = some x → J.go i H') ∧ (xs.length ≤ i → J.stop i H') ∧ ∀ v H'', J.yld i H' v H'' → ∃ T x, v = .ref T ∧ H' T = none ∧ H'' = upd H' T (.tup [.int (i : Nat), x]) ∧ xs[i]? = some x) → (∀ H', Same H H' → ok H') →
      ∃ W : Nat → Nat → L2.St → Hp → Prop, (∃ m, W 0 m σ H) ∧ ∀ i m σ H, W i m σ H →
        (J.stop i H ∧ D.nx σ H) ∨ (J.go i H ∧ ∃ N : L2.St → Hp → Prop, (∀ σ' H', N σ' H' → ∃ m', m' < m ∧ W (i + 1) m' σ' H') ∧ ∀ v H', J.yld i H v H' → g v σ H' fun σ2 H2 => tb { D with nx := N, ct := N, bk := D.nx } σ2 H2) := fun {J ok} hJ hok => by
    refine ⟨fun i m σ H' => m = xs.length - i ∧ i ≤ xs.length ∧ Pv i σ H', ⟨xs.length, rfl, Nat.zero_le _, h0⟩, ?_⟩
    rintro i m σ' H' ⟨rfl, hi, p⟩
    obtain ⟨j1, j2, j3⟩ := hJ i H' (hok H' (hl i σ' H' p))
    rcases Nat.lt_or_ge i xs.length with hlt | hge
    · refine .inr ⟨j1 _ (List.getElem?_eq_getElem hlt), Pv (i + 1), fun σ2 H2 p2 => ⟨xs.length - (i + 1), by omega, rfl, hlt, p2⟩, fun v H2 y => ?_⟩
      obtain ⟨T, x, rfl, hT, rfl, hx⟩ := j3 v H2 y
      exact hs i x T σ' H' hx p hT
    · have e : i = xs.length := by omega
      subst e
      exact .inl ⟨j2 (Nat.le_refl _), hd σ' H' p⟩
  rcases hq with hq | hq
  · exact .inl (ht _ ⟨a, xs, rfl, hq, walk (J := Ite K a) (ok := fun H' => SqL K H' a xs) (fun i H' z => ⟨fun x hx => ⟨xs, x, z, hx⟩, fun hi => ⟨xs, z, hi⟩, fun v H2 ⟨T, x, e1, e2, e3, e4⟩ => ⟨T, x, e1, e2, e3, e4 xs z⟩⟩) fun H' s => s.seq hq⟩)
  · exact .inr (ht _ ⟨a, xs, rfl, hq, walk (J := IteT K a) (ok := fun H' => SqT K H' a xs) (fun i H' z => ⟨fun x hx => ⟨xs, x, z, hx⟩, fun hi => ⟨xs, z, hi⟩, fun v H2 ⟨T, x, e1, e2, e3, e4⟩ => ⟨T, x, e1, e2, e3, e4 xs z⟩⟩) fun H' s => seqT_same s hq⟩)
end TkS
set_option Elab.async false
set_option linter.all false
set_option maxRecDepth 100000
set_option maxHeartbeats 4000000
/-! sorted of a list of tuples, each of d small numbers -/
namespace TkS
open PySem PySem.Spec PyProof.Rows L2
section
open Srt SrtO
variable {prog : Program} {w : World} {A : Around} {E : Value → Shared → Prop} {s : Shared}
abbrev ltC (B : Int) (k : Value → List Int) (v u : Value) : Bool := decide (TS.code B (k v) < TS.code B (k u))
theorem ltC_swo {B : Int} {k : Value → List Int} : Swo (ltC B k) := by
  refine ⟨fun x y h => ?_, fun x y z h1 h2 => ?_⟩
  · have a := of_decide_eq_true h
    exact decide_eq_false (by omega)
  · have a := of_decide_eq_false h1
    have b := of_decide_eq_false h2
    exact decide_eq_false (by omega)
theorem tups_cmp {vs : List Value} {d : Nat} {B : Int} {k : Value → List Int} (hp : ∀ v ∈ vs, TS.TupInts s.heap v (k v) ∧ (k v).length = d ∧ TS.Bd B (k v)) :
    SrtO.Cmp prog w A s (tuples' true) (fun p => p.1 ∈ vs) (lt2 (ltC B k)) := by
  intro p q hm hm'
  obtain ⟨⟨a, xs, e1, ⟨o, ho, hc, n, hdt⟩, i⟩, l1, b1⟩ := hp _ hm
  obtain ⟨⟨a', ys, e2, ⟨o', ho', hc', n', hdt'⟩, i'⟩, l2, b2⟩ := hp _ hm'
  show wpAny (model prog w) A (keyLt' (tuples' true) p.1 q.1) (fun r s' => s' = s ∧ r = decide (TS.code B (k p.1) < TS.code B (k q.1))) (fun _ _ => False) s
  generalize k p.1 = ns at i l1 b1 ⊢
  generalize k q.1 = ms at i' l2 b2 ⊢
  rw [e1, e2]
  refine PySem.W.kat_lt ho hdt ho' hdt' ?_
  have sz : decide (xs.size < ys.size) = false := by
    have l3 := i.length
    have l4 := i'.length
    rw [Array.length_toList] at l3 l4
    exact decide_eq_false (by omega)
  rw [sz]
  exact TS.lex_ints 0 i i' (by omega) b1 b2 ⟨rfl, rfl⟩
theorem tups_sortable {a : Addr} {vs : List Value} {d : Nat} {B : Int} {k : Value → List Int} (h0 : 0 < vs.length) (hd : 1 ≤ d) (hp : ∀ v ∈ vs, TS.TupInts s.heap v (k v) ∧ (k v).length = d ∧ TS.Bd B (k v)) (ha : ∀ o, s.heap.get? a = some o → o.cls ≠ .type "tuple") :
    SortableO prog w A s a vs (ltC B k) := by
  intro h' keep
  have hp' : ∀ v ∈ vs, TS.TupInts h' v (k v) ∧ (k v).length = d ∧ TS.Bd B (k v) := fun v hm => ⟨(hp v hm).1.keeps fun b o e c => keep b o (fun z => by subst z; exact ha o e c) e, (hp v hm).2⟩
  obtain ⟨fs, h1, h2, h3⟩ := TS.firsts_of (h := h') hd vs fun v hm => ⟨k v, hp' v hm⟩
  refine ⟨tuples' true, fun Q E hq => ?_, tups_cmp hp'⟩
  refine PySem.W.kat_kind (T := .type "int") h1 (by omega) (fun f hm => ?_) (by rfl) ?_
  · obtain ⟨x, t, rfl⟩ := h3 f hm
    exact PySem.W.Looks.now
  · have e : (Value.type "int" != Value.type "tuple") = true := by decide +kernel
    rw [e]
    exact hq
end
def rSortedN (K : PySem.W.Frag) : List V → Hp → VK → Prop := fun vs H Q => ∃ (a : Addr) (xs : List V) (k : V → List Int) (d : Nat) (B : Int), vs = [V.ref a] ∧ SqL K H a xs ∧ 1 ≤ d ∧ (∀ x ∈ xs, (∃ t, x = V.ref t ∧ H t = some (.tup ((k x).map V.int))) ∧ (k x).length = d ∧ TS.Bd B (k x)) ∧
  ∀ ys p, ys.Perm xs → ys.Pairwise (fun x y => TS.code B (k x) ≤ TS.code B (k y)) → H p = none → Q (.ref p) (upd H p (.lst ys))
theorem cr_sortedN {X : Cx} : CallR X (.builtin "sorted") (rSortedN X.K) := by
  intro pins s σ H vs us Q I r h
  obtain ⟨a, xs, k, d, B, rfl, hs, hd1, hx, q⟩ := h
  obtain ⟨its, rv, hl, hz⟩ := I.list hs
  rw [Vals.ref1 r]
  obtain ⟨e1, e2⟩ := refs_back rv fun x m => by
    obtain ⟨⟨t, e, _⟩, _⟩ := hx x m
    exact ⟨t, e⟩
  have tup : ∀ v ∈ its, TS.TupInts s.heap v (k (backV v)) ∧ (k (backV v)).length = d ∧ TS.Bd B (k (backV v)) := fun v hv => by
    obtain ⟨t, rfl⟩ := e2 v hv
    have hm : V.ref t ∈ xs := by
      rw [e1]
      exact List.mem_map.mpr ⟨_, hv, rfl⟩
    obtain ⟨⟨t', e, ht⟩, l, b⟩ := hx _ hm
    cases e
    obtain ⟨_, its2, r2, o, ho, hc, n, hdt⟩ := I.hok _ _ ht
    exact ⟨⟨t, its2.toArray, rfl, ⟨o, ho, hc, n, hdt⟩, r2.ints⟩, l, b⟩
  refine SrtO.sorted_ord (ltC_swo (B := B) (k := fun u => k (backV u))) hl.isList (by rw [← rv.length]; exact hz) (fun h2 h₁ a' ha kk => ?_) fun out h1 h2 => ?_
  · refine tups_sortable (s := { s with heap := h₁ }) (by omega) hd1 (fun v hm => ⟨(tup v hm).1.keeps fun b o e _ => (kk b o e).2, (tup v hm).2⟩) fun o e => ?_
    have e' : some o = some (PyProof.Rows.seqObj "list" its.toArray 0) := e.symm.trans ha
    cases e'
    intro c
    exact absurd (Value.type.inj c) (by decide)
  · obtain ⟨ep, he'⟩ := PyProof.Rows.sortedAll_at s.heap its out.toArray
    have h3 : ∀ u ∈ out, ∃ a, u = Value.ref a := fun u hu => e2 u (h2.perm.mem_iff.mp hu)
    have hb : (out.map backV).Perm xs := by
      rw [e1]
      exact h2.perm.map backV
    have hlen : (out.map backV).length ≤ sizeLine := by
      rw [hb.length_eq]
      exact hz
    refine ⟨.ref _, upd H (s.heap.objs.size + 1) (.lst (out.map backV)), I.laid (t' := s.toks) (fun _ _ => PyProof.Rows.sortedAll_old) (Nat.le_succ _) ⟨hlen, out, ep, vals_back h3, he'⟩, rfl, q _ _ hb ?_ (I.hok.fresh (Nat.le_succ _))⟩
    rw [List.pairwise_map]
    exact h1.imp fun {x y} z => Int.not_lt.mp (of_decide_eq_false z)
end TkS
set_option Elab.async false
set_option linter.all false
set_option maxRecDepth 100000
set_option maxHeartbeats 4000000
/-! a tuple once or more times -/
namespace TkS
open PySem PySem.Spec PyProof.Rows L2
theorem tuple_mul1 (l : Addr) (items : Array Value) (n : Nat) (dd : Option Addr) (sl : Array (Option Value)) (u : Tok) (he : items.isEmpty = false) :
    Meets (Builtin.«tuple.__mul__» ⟨[.ref l, .int 1 u], []⟩) (fun _ R s => s.heap.get? l = some { cls := .type "tuple", dict := dd, data := .seq items n, slots := sl } ∧ R (.ok (.ret (Value.ref l))) s) :=
  .of_wp fun prog w A R s h => by
    obtain ⟨hp, g, d, tk, os⟩ := s
    obtain ⟨hl, h⟩ := h
    have f1 := AutoSeq1.idx_int
    wp_walk using wpAny_loadPart' hl
    exact ⟨_, rfl, h⟩
/-- tuple * k, k from 1 on: once is the tuple itself -/
def rRepN (K : PySem.W.Frag) : R2 := fun x y H Q => ∃ l k xs, x = .ref l ∧ y = .int k ∧ SqT K H l xs ∧ xs ≠ [] ∧ 1 ≤ k ∧ k ≤ 1000 ∧ xs.length ≤ 1000 ∧ (k = 1 → Q (.ref l) H) ∧ (2 ≤ k → ∀ p, H p = none → Q (.ref p) (upd H p (.tup (List.replicate k.toNat xs).flatten)))
theorem op_repN {X : Cx} : OpR X (binaryOp .Mult) (rRepN X.K) := by
  intro pins s σ H x y v u Q I rx ry h
  obtain ⟨l, k, xs, rfl, rfl, hT, hne, h1, h2, hz, q1, q2⟩ := h
  by_cases c : k = 1
  · subst c
    cases rx
    obtain ⟨t, rfl⟩ := ry
    obtain ⟨its, r, ⟨⟨cls, dd, data, sl⟩, ho, hc, n, hd⟩, hs⟩ := I.tuple hT
    simp only at hc hd
    subst hc hd
    have hi : its.toArray.isEmpty = false := by
      cases its with
      | nil =>
        cases r
        exact absurd rfl hne
      | cons a b => rfl
    refine wpAny_binaryOp_repeat_ref (T := "tuple") (U := "int") (by decide) ⟨_, ho, rfl⟩ (fun s' => typeIs_int s' 1 t) noFill_tuple_mul F.fills_int_mul F.slot_int_rmul repeat_tuple F.slot_int_index.lookup
      (call_meets F.slot_int_rmul (typeIs_int s 1 t) F.entry_int_rmul (F.args_int_rmul_2 _ _) (int_rmul_tuple 1 t l its.toArray n dd sl)
        ⟨ho, rfl, ⟨_, ho, rfl⟩, call_meets F.slot_tuple_mul ⟨_, ho, rfl⟩ F.entry_tuple_mul (F.args_tuple_mul_2 _ _) (tuple_mul1 l its.toArray n dd sl t hi) ⟨ho, ?_⟩⟩)
    exact ⟨.ref l, H, I, rfl, q1 rfl⟩
  · exact op_repT pins s σ H _ _ v u Q I rx ry ⟨l, k, xs, rfl, rfl, hT, hne, by omega, h2, hz, q2 (by omega)⟩
end TkS
set_option Elab.async false
set_option linter.all false
set_option maxRecDepth 100000
set_option maxHeartbeats 4000000
set_option exponentiation.threshold 5000
/-! data of bounded depth; repr of up to 64 numbers; list() of data; a callee that raises in no case -/
namespace TkS
open PySem PySem.Spec PyProof.Rows L2
def low : Nat → PyData → Bool
  | _, .none => true
  | _, .bool _ => true
  | _, .int _ => true
  | _, .str x => PyData.canLay0 (.str x)
  | n + 1, .list ds => ds.all (low n)
  | n + 1, .tuple ds => ds.all (low n)
  | _, _ => false
theorem low_is : ∀ (n : Nat) (d : PyData), low n d = true → d.canLay0 = true ∧ d.depth ≤ n
  | n, .none, _ => ⟨by simp [PyData.canLay0], by simp [PyData.depth]⟩
  | n, .bool b, _ => ⟨by simp [PyData.canLay0], by simp [PyData.depth]⟩
  | n, .int i, _ => ⟨by simp [PyData.canLay0], by simp [PyData.depth]⟩
  | n, .str x, h => by
    unfold low at h
    exact ⟨h, by simp [PyData.depth]⟩
  | 0, .list ds, h => by
    unfold low at h
    cases h
  | 0, .tuple ds, h => by
    unfold low at h
    cases h
  | n, .dict k, h => by
    unfold low at h
    cases n <;> cases h
  | n + 1, .list ds, h => by
    unfold low at h
    obtain ⟨k1, k2⟩ := low_all n ds fun d m => low_is n d (List.all_eq_true.mp h d m)
    exact ⟨by simp [PyData.canLay0, k1], by simp only [PyData.depth]; omega⟩
  | n + 1, .tuple ds, h => by
    unfold low at h
    obtain ⟨k1, k2⟩ := low_all n ds fun d m => low_is n d (List.all_eq_true.mp h d m)
    exact ⟨by simp [PyData.canLay0, k1], by simp only [PyData.depth]; omega⟩
where low_all (n : Nat) : ∀ ds : List PyData, (∀ d ∈ ds, d.canLay0 = true ∧ d.depth ≤ n) → PyData.canLayAll0 ds = true ∧ PyData.depthAll ds ≤ n
  | [], _ => ⟨by simp [PyData.canLayAll0], by simp [PyData.depthAll]⟩
  | d :: ds, h => by
    obtain ⟨k1, k2⟩ := low_all n ds fun x m => h x (List.mem_cons_of_mem _ m)
    obtain ⟨m1, m2⟩ := h d List.mem_cons_self
    exact ⟨by simp [PyData.canLayAll0, m1, k1], by simp only [PyData.depthAll]; omega⟩
theorem low_shp {n : Nat} {d : PyData} (h : low n d = true) (hn : n ≤ 60) : SeqAt.shaped d = true := by
  obtain ⟨k1, k2⟩ := low_is n d h
  unfold SeqAt.shaped
  rw [k1, decide_eq_true (by omega)]
  rfl
theorem low_refl {n : Nat} {d : PyData} (h : low n d = true) : PyData.eqv d d = true := SeqAt.eqv_refl d (low_is n d h).1
theorem low_tup {n : Nat} {ds : List PyData} (h : ∀ x ∈ ds, low n x = true) : low (n + 1) (.tuple ds) = true := by
  unfold low
  exact List.all_eq_true.mpr h
theorem low_lst {n : Nat} {ds : List PyData} (h : ∀ x ∈ ds, low n x = true) : low (n + 1) (.list ds) = true := by
  unfold low
  exact List.all_eq_true.mpr h
theorem low_up : ∀ (n : Nat) (d : PyData), low n d = true → low (n + 1) d = true
  | n, .none, _ => by unfold low; rfl
  | n, .bool b, _ => by unfold low; rfl
  | n, .int i, _ => by unfold low; rfl
  | n, .str x, h => by
    unfold low at h ⊢
    exact h
  | 0, .list ds, h => by
    unfold low at h
    cases h
  | 0, .tuple ds, h => by
    unfold low at h
    cases h
  | n, .dict k, h => by
    unfold low at h
    cases n <;> cases h
  | n + 1, .list ds, h => by
    unfold low at h
    exact low_lst fun x m => low_up n x (List.all_eq_true.mp h x m)
  | n + 1, .tuple ds, h => by
    unfold low at h
    exact low_tup fun x m => low_up n x (List.all_eq_true.mp h x m)
theorem low_int {n : Nat} {i : Int} : low n (.int i) = true := by unfold low; rfl
theorem low_ints (ns : List Int) : low 1 (.tuple (ns.map PyData.int)) = true := low_tup fun x m => by
  obtain ⟨i, _, rfl⟩ := List.mem_map.mp m
  exact low_int
theorem low_intsL (ns : List Int) : low 1 (.list (ns.map PyData.int)) = true := low_lst fun x m => by
  obtain ⟨i, _, rfl⟩ := List.mem_map.mp m
  exact low_int
def rReprI : List V → Hp → VK → Prop := fun xs H Q => ∃ (x : V) (d : PyData) (ns : List Int), xs = [x] ∧ Dq H x d ∧ itemsD d = some (ns.map PyData.int) ∧ ns.length ≤ 64 ∧ (∀ n ∈ ns, n.natAbs < 10 ^ 121) ∧ Q (.str d.shown) H
theorem call_reprI {X : Cx} (hg : X.A.guards = some []) (hu : X.A.units + 65 < cLine) : CallR X (.builtin "repr") rReprI := by
  intro pins s σ H xs us Q I r h
  obtain ⟨x, d, ns, rfl, k, e, hl, hs, q⟩ := h
  obtain ⟨k1, k2, k3, k4, k5⟩ := mild_is.mild_all 0 (ns.map PyData.int) (fun d m => by
    obtain ⟨i, hi, rfl⟩ := List.mem_map.mp m
    refine mild_is 0 _ ?_
    unfold mild
    exact decide_eq_true (hs i hi))
  have ll : (PyData.shownAll (ns.map PyData.int)).length ≤ 64 := by rw [k5, List.length_map]; exact hl
  have b0 : bnd 0 = 130 := rfl
  rw [b0] at k4
  cases k with
  | lst h1 h2 =>
    cases e
    refine call_reprD hg hu pins s σ H _ us Q I r ⟨_, _, rfl, (Dq.lst h1 h2).dp, by simp [PyData.showable, k3], PyData.hasDict_of_canLay _ (by simp [PyData.canLay0, k1]), by simp only [PyData.depth]; omega, ?_, q⟩
    have e1 : (PyData.list (ns.map PyData.int)).shown = textFrom 0 "[" (PyData.shownAll (ns.map PyData.int)) ++ "]" := by simp only [PyData.shown, listText]
    have e := textFrom_le 130 (PyData.shownAll (ns.map PyData.int)) 0 "[" k4
    rw [e1, strLen_append]
    have e2 : (("[" : Str)).length = 1 := rfl
    have e3 : (("]" : Str)).length = 1 := rfl
    rw [e2] at e
    rw [e3, sizeLine_eq]
    have : (PyData.shownAll (ns.map PyData.int)).length * (130 + 2) ≤ 64 * (130 + 2) := Nat.mul_le_mul_right _ ll
    omega
  | tup h1 h2 =>
    cases e
    refine call_reprD hg hu pins s σ H _ us Q I r ⟨_, _, rfl, (Dq.tup h1 h2).dp, by simp [PyData.showable, k3], PyData.hasDict_of_canLay _ (by simp [PyData.canLay0, k1]), by simp only [PyData.depth]; omega, ?_, q⟩
    have e := join_le 130 (PyData.shownAll (ns.map PyData.int)) k4
    have e1 : (PyData.tuple (ns.map PyData.int)).shown = ("(" : Str) ++ Str.join ", " (PyData.shownAll (ns.map PyData.int)) ++ (if (PyData.shownAll (ns.map PyData.int)).length == 1 then ",)" else ")" : String) := by simp only [PyData.shown, tupleText]
    rw [e1, strLen_append, strLen_append]
    have e2 : (("(" : Str)).length = 1 := rfl
    have e3 : (((if (PyData.shownAll (ns.map PyData.int)).length == 1 then ",)" else ")" : String) : Str)).length ≤ 2 := by split <;> decide
    rw [e2, sizeLine_eq]
    have : (PyData.shownAll (ns.map PyData.int)).length * (130 + 2) ≤ 64 * (130 + 2) := Nat.mul_le_mul_right _ ll
    omega
  | _ => cases e
/-- list(x), x a list or a tuple of data -/
def rLstD : List V → Hp → VK → Prop := fun xs H Q => ∃ x d ds, xs = [x] ∧ Dq H x d ∧ itemsD d = some ds ∧ ∀ l H', Same H H' → H l = none → Dq H' (.ref l) (.list ds) → Q (.ref l) H'
theorem call_lstD {X : Cx} : CallR X (.type "list") rLstD := by
  intro pins s σ H vs us Q I r h
  refine call_list_of pins s σ H vs us Q I r ?_
  obtain ⟨x, d, ds, rfl, k, e, q⟩ := h
  cases k with
  | lst h1 h2 =>
    cases e
    exact ⟨_, _, rfl, .inl (SqL.of h1), fun l nl => q l _ (same_new nl) nl (.lst upd_same (DqAll.same (same_new nl) _ h2))⟩
  | tup h1 h2 =>
    cases e
    exact ⟨_, _, rfl, .inr (SqT.of h1), fun l nl => q l _ (same_new nl) nl (.lst upd_same (DqAll.same (same_new nl) _ h2))⟩
  | _ => cases e
theorem passE0 {P : Program} {w : World} {X : Cx} : Passes (L2.CX P w) X E0 := fun _ _ _ _ _ _ _ h => by
  obtain ⟨_, _, _, _, _, _, _, _, _, _, _, _, z⟩ := h
  exact z.elim
end TkS
set_option Elab.async false
set_option linter.all false
set_option maxRecDepth 100000
set_option maxHeartbeats 4000000
set_option exponentiation.threshold 5000
namespace K02
open PySem PySem.Spec PyProof.Rows L2 TkS
/-! the text -/
def topS (i : Nat) : Stmt := PySem.Challenge.pw_sheetproofs_k02_whole_rings_tours_and_tu.main.body.getD i (.Pass ⟨0, 0, 0, 0⟩)
abbrev s_BadPicture_init : Stmt := inClass (topS 3) 0
theorem sc_BadPicture_init : FnScope ["self", "what"] ["self", "what"] (defScope s_BadPicture_init) := ⟨rfl, rfl, rfl, by decide +kernel, rfl, by decide +kernel, by decide +kernel⟩
abbrev s_NotOpen_init : Stmt := inClass (topS 4) 0
theorem sc_NotOpen_init : FnScope ["self", "pair"] ["self", "pair"] (defScope s_NotOpen_init) := ⟨rfl, rfl, rfl, by decide +kernel, rfl, by decide +kernel, by decide +kernel⟩
abbrev s_BadRing_init : Stmt := inClass (topS 6) 0
theorem sc_BadRing_init : FnScope ["self", "what"] ["self", "what"] (defScope s_BadRing_init) := ⟨rfl, rfl, rfl, by decide +kernel, rfl, by decide +kernel, by decide +kernel⟩
abbrev s_is_whole : Stmt := topS 8
theorem sc_is_whole : FnScope ["thing", "low", "high"] ["thing", "low", "high"] (defScope s_is_whole) := ⟨rfl, rfl, rfl, by decide +kernel, rfl, by decide +kernel, by decide +kernel⟩
abbrev s_is_sign : Stmt := topS 9
theorem sc_is_sign : FnScope ["thing"] ["thing"] (defScope s_is_sign) := ⟨rfl, rfl, rfl, by decide +kernel, rfl, by decide +kernel, by decide +kernel⟩
abbrev s_is_sequence : Stmt := topS 11
theorem sc_is_sequence : FnScope ["thing", "length"] ["thing", "length"] (defScope s_is_sequence) := ⟨rfl, rfl, rfl, by decide +kernel, rfl, by decide +kernel, by decide +kernel⟩
abbrev s_ring_sides : Stmt := topS 15
theorem sc_ring_sides : FnScope ["corners", "sides", "at", "here", "there"] ["corners"] (defScope s_ring_sides) := ⟨rfl, rfl, rfl, by decide +kernel, rfl, by decide +kernel, by decide +kernel⟩
abbrev s_check_corners : Stmt := topS 16
theorem sc_check_corners : FnScope ["picture", "corners", "at", "corner", "many"] ["picture", "corners"] (defScope s_check_corners) := ⟨rfl, rfl, rfl, by decide +kernel, rfl, by decide +kernel, by decide +kernel⟩
abbrev s_check_sides : Stmt := topS 17
theorem sc_check_sides : FnScope ["picture", "corners", "pair", "_"] ["picture", "corners"] (defScope s_check_sides) := ⟨rfl, rfl, rfl, by decide +kernel, rfl, by decide +kernel, by decide +kernel⟩
abbrev s_check_ring : Stmt := topS 18
theorem sc_check_ring : FnScope ["picture", "corners"] ["picture", "corners"] (defScope s_check_ring) := ⟨rfl, rfl, rfl, by decide +kernel, rfl, by decide +kernel, by decide +kernel⟩
abbrev s_ring_tour : Stmt := topS 19
theorem sc_ring_tour : FnScope ["picture", "corners", "tour", "pair", "step", "place"] ["picture", "corners"] (defScope s_ring_tour) := ⟨rfl, rfl, rfl, by decide +kernel, rfl, by decide +kernel, by decide +kernel⟩
abbrev s_ring_saying : Stmt := topS 20
theorem sc_ring_saying : FnScope ["picture", "corners", "sign", "tour"] ["picture", "corners", "sign"] (defScope s_ring_saying) := ⟨rfl, rfl, rfl, by decide +kernel, rfl, by decide +kernel, by decide +kernel⟩
abbrev s_turned_ring : Stmt := topS 21
theorem sc_turned_ring : FnScope ["corners", "at"] ["corners"] (defScope s_turned_ring) := ⟨rfl, rfl, rfl, by decide +kernel, rfl, by decide +kernel, by decide +kernel⟩
abbrev s_tile_ring : Stmt := topS 22
theorem sc_tile_ring : FnScope ["picture", "p", "u", "q", "v", "corners"] ["picture", "p", "u", "q", "v"] (defScope s_tile_ring) := ⟨rfl, rfl, rfl, by decide +kernel, rfl, by decide +kernel, by decide +kernel⟩
abbrev s_tiles_of : Stmt := topS 23
theorem sc_tiles_of : FnScope ["picture", "tiles", "p", "u", "q", "v"] ["picture"] (defScope s_tiles_of) := ⟨rfl, rfl, rfl, by decide +kernel, rfl, by decide +kernel, by decide +kernel⟩
abbrev s_merged_labels : Stmt := topS 26
theorem sc_merged_labels : FnScope ["labels", "one", "other", "least", "label"] ["labels", "one", "other"] (defScope s_merged_labels) := ⟨rfl, rfl, rfl, by decide +kernel, rfl, by decide +kernel, by decide +kernel⟩
abbrev s_piece_labels : Stmt := topS 27
theorem sc_piece_labels : FnScope ["points", "walls", "pairs", "labels", "point", "wall"] ["points", "walls", "pairs"] (defScope s_piece_labels) := ⟨rfl, rfl, rfl, by decide +kernel, rfl, by decide +kernel, by decide +kernel⟩
abbrev s_pieces_by_labels : Stmt := topS 28
theorem sc_pieces_by_labels : FnScope ["points", "labels", "pieces", "label", "corners", "inside", "corner"] ["points", "labels"] (defScope s_pieces_by_labels) := ⟨rfl, rfl, rfl, by decide +kernel, rfl, by decide +kernel, by decide +kernel⟩
abbrev s_Picture_init : Stmt := inClass (topS 29) 0
theorem sc_Picture_init : FnScope ["self", "points", "walls", "pairs", "pair", "kept", "at"] ["self", "points", "walls", "pairs"] (defScope s_Picture_init) := ⟨rfl, rfl, rfl, by decide +kernel, rfl, by decide +kernel, by decide +kernel⟩
abbrev s_Picture_eq : Stmt := inClass (topS 29) 1
theorem sc_Picture_eq : FnScope ["self", "other"] ["self", "other"] (defScope s_Picture_eq) := ⟨rfl, rfl, rfl, by decide +kernel, rfl, by decide +kernel, by decide +kernel⟩
abbrev s_Picture_len : Stmt := inClass (topS 29) 2
theorem sc_Picture_len : FnScope ["self"] ["self"] (defScope s_Picture_len) := ⟨rfl, rfl, rfl, by decide +kernel, rfl, by decide +kernel, by decide +kernel⟩
abbrev s_Picture_pieces : Stmt := inClass (topS 29) 3
theorem sc_Picture_pieces : FnScope ["self"] ["self"] (defScope s_Picture_pieces) := ⟨rfl, rfl, rfl, by decide +kernel, rfl, by decide +kernel, by decide +kernel⟩
abbrev s_Pictureis_pair : Stmt := inClass (topS 29) 4
theorem sc_Pictureis_pair : FnScope ["self", "thing"] ["self", "thing"] (defScope s_Pictureis_pair) := ⟨rfl, rfl, rfl, by decide +kernel, rfl, by decide +kernel, by decide +kernel⟩
abbrev s_Picture_place_of : Stmt := inClass (topS 29) 5
theorem sc_Picture_place_of : FnScope ["self", "pair"] ["self", "pair"] (defScope s_Picture_place_of) := ⟨rfl, rfl, rfl, by decide +kernel, rfl, by decide +kernel, by decide +kernel⟩
abbrev s_Picture_is_open : Stmt := inClass (topS 29) 6
theorem sc_Picture_is_open : FnScope ["self", "pair"] ["self", "pair"] (defScope s_Picture_is_open) := ⟨rfl, rfl, rfl, by decide +kernel, rfl, by decide +kernel, by decide +kernel⟩
abbrev s_law_hand : Stmt := topS 31
theorem sc_law_hand : FnScope ["_law_script", "_law_total", "_law_cells", "_law_cell"] ["_law_script"] (defScope s_law_hand) := ⟨rfl, rfl, rfl, by decide +kernel, rfl, by decide +kernel, by decide +kernel⟩
abbrev s_law_mixed : Stmt := topS 32
theorem sc_law_mixed : FnScope ["_law_number", "_law_turn", "_law_once", "_law_twice"] ["_law_number", "_law_turn"] (defScope s_law_mixed) := ⟨rfl, rfl, rfl, by decide +kernel, rfl, by decide +kernel, by decide +kernel⟩
abbrev s_law_take : Stmt := topS 33
theorem sc_law_take : FnScope ["_law_hand_here", "_law_many", "_law_cell", "_law_rest"] ["_law_hand_here", "_law_many"] (defScope s_law_take) := ⟨rfl, rfl, rfl, by decide +kernel, rfl, by decide +kernel, by decide +kernel⟩
abbrev s_law_whole : Stmt := topS 34
theorem sc_law_whole : FnScope ["_law_thing"] ["_law_thing"] (defScope s_law_whole) := ⟨rfl, rfl, rfl, by decide +kernel, rfl, by decide +kernel, by decide +kernel⟩
abbrev s_law_full : Stmt := topS 35
theorem sc_law_full : FnScope ["_law_points", "_law_shuts", "_law_told", "_law_point", "_law_shut_here"] ["_law_points", "_law_shuts"] (defScope s_law_full) := ⟨rfl, rfl, rfl, by decide +kernel, rfl, by decide +kernel, by decide +kernel⟩
abbrev s_law_picture : Stmt := topS 36
theorem sc_law_picture : FnScope ["_law_hand_here", "_law_pick", "_law_shut", "_law_shuts", "_law_pairs", "_law_k", "_law_pair"] ["_law_hand_here"] (defScope s_law_picture) := ⟨rfl, rfl, rfl, by decide +kernel, rfl, by decide +kernel, by decide +kernel⟩
abbrev s_law_ring_tour : Stmt := topS 37
theorem sc_law_ring_tour : FnScope ["_law_pairs", "_law_corners", "_law_told", "_law_many", "_law_k", "_law_place"] ["_law_pairs", "_law_corners"] (defScope s_law_ring_tour) := ⟨rfl, rfl, rfl, by decide +kernel, rfl, by decide +kernel, by decide +kernel⟩
abbrev s_law_rings : Stmt := topS 38
theorem sc_law_rings : FnScope ["_law_points", "_law_shuts", "_law_pairs", "_law_told", "_law_p", "_law_q", "_law_u", "_law_both", "_law_r", "_law_v"] ["_law_points", "_law_shuts", "_law_pairs"] (defScope s_law_rings) := ⟨rfl, rfl, rfl, by decide +kernel, rfl, by decide +kernel, by decide +kernel⟩
abbrev s_law_sixes : Stmt := topS 39
theorem sc_law_sixes : FnScope ["_law_shuts", "_law_pairs", "_law_p", "_law_q", "_law_r", "_law_u", "_law_one", "_law_v", "_law_two", "_law_three", "_law_told", "_law_w"] ["_law_shuts", "_law_pairs", "_law_p", "_law_q", "_law_r"] (defScope s_law_sixes) := ⟨rfl, rfl, rfl, by decide +kernel, rfl, by decide +kernel, by decide +kernel⟩
abbrev s_law_tuple : Stmt := topS 40
theorem sc_law_tuple : FnScope ["_law_told", "_law_due", "_law_x"] ["_law_told", "_law_due"] (defScope s_law_tuple) := ⟨rfl, rfl, rfl, by decide +kernel, rfl, by decide +kernel, by decide +kernel⟩
abbrev s_law_ring_due : Stmt := topS 41
theorem sc_law_ring_due : FnScope ["_law_points", "_law_shuts", "_law_pairs", "_law_corners", "_law_k", "_law_here", "_law_there"] ["_law_points", "_law_shuts", "_law_pairs", "_law_corners"] (defScope s_law_ring_due) := ⟨rfl, rfl, rfl, by decide +kernel, rfl, by decide +kernel, by decide +kernel⟩
abbrev s_law_asked : Stmt := topS 42
theorem sc_law_asked : FnScope ["_law_way_here", "_law_picture_here", "_law_corners", "_law_sign", "_law_told", "_law_word", "e"] ["_law_way_here", "_law_picture_here", "_law_corners", "_law_sign"] (defScope s_law_asked) := ⟨rfl, rfl, rfl, by decide +kernel, rfl, by decide +kernel, by decide +kernel⟩
abbrev s_law_way : Stmt := topS 43
theorem sc_law_way : FnScope ["_law_hand_here", "_law_pairs", "_law_point", "_law_shut_here", "_law_way_here", "_law_k", "_law_last", "_law_ends", "_law_back", "_law_told", "_law_pair"] ["_law_hand_here", "_law_pairs"] (defScope s_law_way) := ⟨rfl, rfl, rfl, by decide +kernel, rfl, by decide +kernel, by decide +kernel⟩
abbrev s_law_long : Stmt := topS 44
theorem sc_law_long : FnScope ["_law_hand_here", "_law_pairs", "_law_rings_here", "_law_told", "_law_k", "_law_ring", "_law_turn", "_law_many"] ["_law_hand_here", "_law_pairs", "_law_rings_here"] (defScope s_law_long) := ⟨rfl, rfl, rfl, by decide +kernel, rfl, by decide +kernel, by decide +kernel⟩
abbrev s_law_good : Stmt := topS 45
theorem sc_law_good : FnScope ["_law_picture_here", "_law_pairs", "_law_corners", "_law_sign", "_law_tour", "_law_kept", "_law_sides", "_law_turned", "_law_many", "_law_other", "_law_k", "_law_here", "_law_there", "_law_due", "_law_number"] ["_law_picture_here", "_law_pairs", "_law_corners", "_law_sign"] (defScope s_law_good) := ⟨rfl, rfl, rfl, by decide +kernel, rfl, by decide +kernel, by decide +kernel⟩
abbrev s_law_bad : Stmt := topS 46
theorem sc_law_bad : FnScope ["_law_hand_here", "_law_world", "_law_picture_here", "_law_corners", "_law_points", "_law_shuts", "_law_pairs", "_law_at", "_law_odd", "_law_other", "_law_things", "_law_thing", "_law_due", "_law_way_here", "_law_told", "_law_sign"] ["_law_hand_here", "_law_world", "_law_picture_here", "_law_corners"] (defScope s_law_bad) := ⟨rfl, rfl, rfl, by decide +kernel, rfl, by decide +kernel, by decide +kernel⟩
abbrev s_law_tile : Stmt := topS 47
theorem sc_law_tile : FnScope ["_law_picture_here", "_law_p", "_law_u", "_law_q", "_law_v", "_law_told", "e"] ["_law_picture_here", "_law_p", "_law_u", "_law_q", "_law_v"] (defScope s_law_tile) := ⟨rfl, rfl, rfl, by decide +kernel, rfl, by decide +kernel, by decide +kernel⟩
abbrev s_law_tiles : Stmt := topS 48
theorem sc_law_tiles : FnScope ["_law_hand_here", "_law_world", "_law_picture_here", "_law_rings_here", "_law_points", "_law_shuts", "_law_pairs", "_law_k", "_law_odd", "_law_corners", "_law_p", "_law_u", "_law_q", "_law_v", "_law_due", "_law_told", "_law_high", "_law_ring"] ["_law_hand_here", "_law_world", "_law_picture_here", "_law_rings_here"] (defScope s_law_tiles) := ⟨rfl, rfl, rfl, by decide +kernel, rfl, by decide +kernel, by decide +kernel⟩
abbrev s_law : Stmt := topS 49
theorem sc_law : FnScope ["_law_script", "_law_hand_here", "_law_world", "_law_points", "_law_shuts", "_law_pairs", "_law_picture_here", "_law_rings_here", "_law_k", "_law_corners"] ["_law_script"] (defScope s_law) := ⟨rfl, rfl, rfl, by decide +kernel, rfl, by decide +kernel, by decide +kernel⟩
/-! what the top leaves -/
structure Txt (K : PySem.W.Frag) (mg : Str → Option Value) where
  f_BadPicture_init : Addr
  d_BadPicture_init : FuncData
  F_BadPicture_init : Fun K "__init__" "BadPicture.__init__" s_BadPicture_init f_BadPicture_init d_BadPicture_init
  b_BadPicture_init : Binds K d_BadPicture_init ["self", "what"] []
  f_NotOpen_init : Addr
  d_NotOpen_init : FuncData
  F_NotOpen_init : Fun K "__init__" "NotOpen.__init__" s_NotOpen_init f_NotOpen_init d_NotOpen_init
  b_NotOpen_init : Binds K d_NotOpen_init ["self", "pair"] []
  f_BadRing_init : Addr
  d_BadRing_init : FuncData
  F_BadRing_init : Fun K "__init__" "BadRing.__init__" s_BadRing_init f_BadRing_init d_BadRing_init
  b_BadRing_init : Binds K d_BadRing_init ["self", "what"] []
  f_is_whole : Addr
  d_is_whole : FuncData
  F_is_whole : FunD K "is_whole" "is_whole" (defArgs s_is_whole) (defBody s_is_whole) (defScope s_is_whole) [.non, .non] [] f_is_whole d_is_whole
  b_is_whole : Binds K d_is_whole ["thing", "low", "high"] []
  g_is_whole : mg "is_whole" = some (.ref f_is_whole)
  f_is_sign : Addr
  d_is_sign : FuncData
  F_is_sign : Fun K "is_sign" "is_sign" s_is_sign f_is_sign d_is_sign
  b_is_sign : Binds K d_is_sign ["thing"] []
  g_is_sign : mg "is_sign" = some (.ref f_is_sign)
  f_is_sequence : Addr
  d_is_sequence : FuncData
  F_is_sequence : FunD K "is_sequence" "is_sequence" (defArgs s_is_sequence) (defBody s_is_sequence) (defScope s_is_sequence) [.non] [] f_is_sequence d_is_sequence
  b1_is_sequence : Binds K d_is_sequence ["thing", "length"] [.none]
  b_is_sequence : Binds K d_is_sequence ["thing", "length"] []
  g_is_sequence : mg "is_sequence" = some (.ref f_is_sequence)
  f_ring_sides : Addr
  d_ring_sides : FuncData
  F_ring_sides : Fun K "ring_sides" "ring_sides" s_ring_sides f_ring_sides d_ring_sides
  b_ring_sides : Binds K d_ring_sides ["corners"] []
  g_ring_sides : mg "ring_sides" = some (.ref f_ring_sides)
  f_check_corners : Addr
  d_check_corners : FuncData
  F_check_corners : Fun K "_check_corners" "_check_corners" s_check_corners f_check_corners d_check_corners
  b_check_corners : Binds K d_check_corners ["picture", "corners"] []
  g_check_corners : mg "_check_corners" = some (.ref f_check_corners)
  f_check_sides : Addr
  d_check_sides : FuncData
  F_check_sides : Fun K "_check_sides" "_check_sides" s_check_sides f_check_sides d_check_sides
  b_check_sides : Binds K d_check_sides ["picture", "corners"] []
  g_check_sides : mg "_check_sides" = some (.ref f_check_sides)
  f_check_ring : Addr
  d_check_ring : FuncData
  F_check_ring : Fun K "check_ring" "check_ring" s_check_ring f_check_ring d_check_ring
  b_check_ring : Binds K d_check_ring ["picture", "corners"] []
  g_check_ring : mg "check_ring" = some (.ref f_check_ring)
  f_ring_tour : Addr
  d_ring_tour : FuncData
  F_ring_tour : Fun K "ring_tour" "ring_tour" s_ring_tour f_ring_tour d_ring_tour
  b_ring_tour : Binds K d_ring_tour ["picture", "corners"] []
  g_ring_tour : mg "ring_tour" = some (.ref f_ring_tour)
  f_ring_saying : Addr
  d_ring_saying : FuncData
  F_ring_saying : Fun K "ring_saying" "ring_saying" s_ring_saying f_ring_saying d_ring_saying
  b_ring_saying : Binds K d_ring_saying ["picture", "corners", "sign"] []
  g_ring_saying : mg "ring_saying" = some (.ref f_ring_saying)
  f_turned_ring : Addr
  d_turned_ring : FuncData
  F_turned_ring : Fun K "turned_ring" "turned_ring" s_turned_ring f_turned_ring d_turned_ring
  b_turned_ring : Binds K d_turned_ring ["corners"] []
  g_turned_ring : mg "turned_ring" = some (.ref f_turned_ring)
  f_tile_ring : Addr
  d_tile_ring : FuncData
  F_tile_ring : Fun K "tile_ring" "tile_ring" s_tile_ring f_tile_ring d_tile_ring
  b_tile_ring : Binds K d_tile_ring ["picture", "p", "u", "q", "v"] []
  g_tile_ring : mg "tile_ring" = some (.ref f_tile_ring)
  f_tiles_of : Addr
  d_tiles_of : FuncData
  F_tiles_of : Fun K "tiles_of" "tiles_of" s_tiles_of f_tiles_of d_tiles_of
  b_tiles_of : Binds K d_tiles_of ["picture"] []
  g_tiles_of : mg "tiles_of" = some (.ref f_tiles_of)
  f_merged_labels : Addr
  d_merged_labels : FuncData
  F_merged_labels : Fun K "merged_labels" "merged_labels" s_merged_labels f_merged_labels d_merged_labels
  b_merged_labels : Binds K d_merged_labels ["labels", "one", "other"] []
  g_merged_labels : mg "merged_labels" = some (.ref f_merged_labels)
  f_piece_labels : Addr
  d_piece_labels : FuncData
  F_piece_labels : Fun K "_piece_labels" "_piece_labels" s_piece_labels f_piece_labels d_piece_labels
  b_piece_labels : Binds K d_piece_labels ["points", "walls", "pairs"] []
  g_piece_labels : mg "_piece_labels" = some (.ref f_piece_labels)
  f_pieces_by_labels : Addr
  d_pieces_by_labels : FuncData
  F_pieces_by_labels : Fun K "_pieces_by_labels" "_pieces_by_labels" s_pieces_by_labels f_pieces_by_labels d_pieces_by_labels
  b_pieces_by_labels : Binds K d_pieces_by_labels ["points", "labels"] []
  g_pieces_by_labels : mg "_pieces_by_labels" = some (.ref f_pieces_by_labels)
  f_Picture_init : Addr
  d_Picture_init : FuncData
  F_Picture_init : Fun K "__init__" "Picture.__init__" s_Picture_init f_Picture_init d_Picture_init
  b_Picture_init : Binds K d_Picture_init ["self", "points", "walls", "pairs"] []
  f_Picture_eq : Addr
  d_Picture_eq : FuncData
  F_Picture_eq : Fun K "__eq__" "Picture.__eq__" s_Picture_eq f_Picture_eq d_Picture_eq
  b_Picture_eq : Binds K d_Picture_eq ["self", "other"] []
  f_Picture_len : Addr
  d_Picture_len : FuncData
  F_Picture_len : Fun K "__len__" "Picture.__len__" s_Picture_len f_Picture_len d_Picture_len
  b_Picture_len : Binds K d_Picture_len ["self"] []
  f_Picture_pieces : Addr
  d_Picture_pieces : FuncData
  F_Picture_pieces : Fun K "pieces" "Picture.pieces" s_Picture_pieces f_Picture_pieces d_Picture_pieces
  b_Picture_pieces : Binds K d_Picture_pieces ["self"] []
  f_Pictureis_pair : Addr
  d_Pictureis_pair : FuncData
  F_Pictureis_pair : Fun K "_is_pair" "Picture._is_pair" s_Pictureis_pair f_Pictureis_pair d_Pictureis_pair
  b_Pictureis_pair : Binds K d_Pictureis_pair ["self", "thing"] []
  f_Picture_place_of : Addr
  d_Picture_place_of : FuncData
  F_Picture_place_of : Fun K "place_of" "Picture.place_of" s_Picture_place_of f_Picture_place_of d_Picture_place_of
  b_Picture_place_of : Binds K d_Picture_place_of ["self", "pair"] []
  f_Picture_is_open : Addr
  d_Picture_is_open : FuncData
  F_Picture_is_open : Fun K "is_open" "Picture.is_open" s_Picture_is_open f_Picture_is_open d_Picture_is_open
  b_Picture_is_open : Binds K d_Picture_is_open ["self", "pair"] []
  f_law_hand : Addr
  d_law_hand : FuncData
  F_law_hand : Fun K "_law_hand" "_law_hand" s_law_hand f_law_hand d_law_hand
  b_law_hand : Binds K d_law_hand ["_law_script"] []
  g_law_hand : mg "_law_hand" = some (.ref f_law_hand)
  f_law_mixed : Addr
  d_law_mixed : FuncData
  F_law_mixed : Fun K "_law_mixed" "_law_mixed" s_law_mixed f_law_mixed d_law_mixed
  b_law_mixed : Binds K d_law_mixed ["_law_number", "_law_turn"] []
  g_law_mixed : mg "_law_mixed" = some (.ref f_law_mixed)
  f_law_take : Addr
  d_law_take : FuncData
  F_law_take : Fun K "_law_take" "_law_take" s_law_take f_law_take d_law_take
  b_law_take : Binds K d_law_take ["_law_hand_here", "_law_many"] []
  g_law_take : mg "_law_take" = some (.ref f_law_take)
  f_law_whole : Addr
  d_law_whole : FuncData
  F_law_whole : Fun K "_law_whole" "_law_whole" s_law_whole f_law_whole d_law_whole
  b_law_whole : Binds K d_law_whole ["_law_thing"] []
  g_law_whole : mg "_law_whole" = some (.ref f_law_whole)
  f_law_full : Addr
  d_law_full : FuncData
  F_law_full : Fun K "_law_full" "_law_full" s_law_full f_law_full d_law_full
  b_law_full : Binds K d_law_full ["_law_points", "_law_shuts"] []
  g_law_full : mg "_law_full" = some (.ref f_law_full)
  f_law_picture : Addr
  d_law_picture : FuncData
  F_law_picture : Fun K "_law_picture" "_law_picture" s_law_picture f_law_picture d_law_picture
  b_law_picture : Binds K d_law_picture ["_law_hand_here"] []
  g_law_picture : mg "_law_picture" = some (.ref f_law_picture)
  f_law_ring_tour : Addr
  d_law_ring_tour : FuncData
  F_law_ring_tour : Fun K "_law_ring_tour" "_law_ring_tour" s_law_ring_tour f_law_ring_tour d_law_ring_tour
  b_law_ring_tour : Binds K d_law_ring_tour ["_law_pairs", "_law_corners"] []
  g_law_ring_tour : mg "_law_ring_tour" = some (.ref f_law_ring_tour)
  f_law_rings : Addr
  d_law_rings : FuncData
  F_law_rings : Fun K "_law_rings" "_law_rings" s_law_rings f_law_rings d_law_rings
  b_law_rings : Binds K d_law_rings ["_law_points", "_law_shuts", "_law_pairs"] []
  g_law_rings : mg "_law_rings" = some (.ref f_law_rings)
  f_law_sixes : Addr
  d_law_sixes : FuncData
  F_law_sixes : Fun K "_law_sixes" "_law_sixes" s_law_sixes f_law_sixes d_law_sixes
  b_law_sixes : Binds K d_law_sixes ["_law_shuts", "_law_pairs", "_law_p", "_law_q", "_law_r"] []
  g_law_sixes : mg "_law_sixes" = some (.ref f_law_sixes)
  f_law_tuple : Addr
  d_law_tuple : FuncData
  F_law_tuple : Fun K "_law_tuple" "_law_tuple" s_law_tuple f_law_tuple d_law_tuple
  b_law_tuple : Binds K d_law_tuple ["_law_told", "_law_due"] []
  g_law_tuple : mg "_law_tuple" = some (.ref f_law_tuple)
  f_law_ring_due : Addr
  d_law_ring_due : FuncData
  F_law_ring_due : Fun K "_law_ring_due" "_law_ring_due" s_law_ring_due f_law_ring_due d_law_ring_due
  b_law_ring_due : Binds K d_law_ring_due ["_law_points", "_law_shuts", "_law_pairs", "_law_corners"] []
  g_law_ring_due : mg "_law_ring_due" = some (.ref f_law_ring_due)
  f_law_asked : Addr
  d_law_asked : FuncData
  F_law_asked : Fun K "_law_asked" "_law_asked" s_law_asked f_law_asked d_law_asked
  b_law_asked : Binds K d_law_asked ["_law_way_here", "_law_picture_here", "_law_corners", "_law_sign"] []
  g_law_asked : mg "_law_asked" = some (.ref f_law_asked)
  f_law_way : Addr
  d_law_way : FuncData
  F_law_way : Fun K "_law_way" "_law_way" s_law_way f_law_way d_law_way
  b_law_way : Binds K d_law_way ["_law_hand_here", "_law_pairs"] []
  g_law_way : mg "_law_way" = some (.ref f_law_way)
  f_law_long : Addr
  d_law_long : FuncData
  F_law_long : Fun K "_law_long" "_law_long" s_law_long f_law_long d_law_long
  b_law_long : Binds K d_law_long ["_law_hand_here", "_law_pairs", "_law_rings_here"] []
  g_law_long : mg "_law_long" = some (.ref f_law_long)
  f_law_good : Addr
  d_law_good : FuncData
  F_law_good : Fun K "_law_good" "_law_good" s_law_good f_law_good d_law_good
  b_law_good : Binds K d_law_good ["_law_picture_here", "_law_pairs", "_law_corners", "_law_sign"] []
  g_law_good : mg "_law_good" = some (.ref f_law_good)
  f_law_bad : Addr
  d_law_bad : FuncData
  F_law_bad : Fun K "_law_bad" "_law_bad" s_law_bad f_law_bad d_law_bad
  b_law_bad : Binds K d_law_bad ["_law_hand_here", "_law_world", "_law_picture_here", "_law_corners"] []
  g_law_bad : mg "_law_bad" = some (.ref f_law_bad)
  f_law_tile : Addr
  d_law_tile : FuncData
  F_law_tile : Fun K "_law_tile" "_law_tile" s_law_tile f_law_tile d_law_tile
  b_law_tile : Binds K d_law_tile ["_law_picture_here", "_law_p", "_law_u", "_law_q", "_law_v"] []
  g_law_tile : mg "_law_tile" = some (.ref f_law_tile)
  f_law_tiles : Addr
  d_law_tiles : FuncData
  F_law_tiles : Fun K "_law_tiles" "_law_tiles" s_law_tiles f_law_tiles d_law_tiles
  b_law_tiles : Binds K d_law_tiles ["_law_hand_here", "_law_world", "_law_picture_here", "_law_rings_here"] []
  g_law_tiles : mg "_law_tiles" = some (.ref f_law_tiles)
  f_law : Addr
  d_law : FuncData
  F_law : Fun K "law" "law" s_law f_law d_law
  m_abs : mg "abs" = none
  m_bool : mg "bool" = none
  m_enumerate : mg "enumerate" = none
  m_int : mg "int" = none
  m_isinstance : mg "isinstance" = none
  m_len : mg "len" = none
  m_list : mg "list" = none
  m_min : mg "min" = none
  m_property : mg "property" = none
  m_range : mg "range" = none
  m_repr : mg "repr" = none
  m_reversed : mg "reversed" = none
  m_sorted : mg "sorted" = none
  m_tuple : mg "tuple" = none
  tk_FEWEST_CORNERS : Tok
  c_FEWEST_CORNERS : mg "FEWEST_CORNERS" = some (.int 4 tk_FEWEST_CORNERS)
  tk_MOST_CORNERS_rings : Tok
  c_MOST_CORNERS_rings : mg "MOST_CORNERS_rings" = some (.int 60 tk_MOST_CORNERS_rings)
  tk_MOST_CORNERS_pictures : Tok
  c_MOST_CORNERS_pictures : mg "MOST_CORNERS_pictures" = some (.int 5 tk_MOST_CORNERS_pictures)
  C_SheetError : Addr
  g_SheetError : mg "SheetError" = some (.ref C_SheetError)
  C_BadPicture : Addr
  g_BadPicture : mg "BadPicture" = some (.ref C_BadPicture)
  x_BadPicture : XfC K C_BadPicture
  e_BadPicture : ExcC K C_BadPicture
  o_BadPicture : OexC K C_BadPicture
  i_BadPicture : PySem.W.findIn K (.ref C_BadPicture) "__init__" = some (some (.ref f_BadPicture_init))
  t_BadPicture : PySem.W.typeIn K (.ref f_BadPicture_init) = some (.type "function")
  n_BadPicture : PySem.W.findIn K (.ref C_BadPicture) "what" = some none
  C_NotOpen : Addr
  g_NotOpen : mg "NotOpen" = some (.ref C_NotOpen)
  x_NotOpen : XfC K C_NotOpen
  e_NotOpen : ExcC K C_NotOpen
  o_NotOpen : OexC K C_NotOpen
  i_NotOpen : PySem.W.findIn K (.ref C_NotOpen) "__init__" = some (some (.ref f_NotOpen_init))
  t_NotOpen : PySem.W.typeIn K (.ref f_NotOpen_init) = some (.type "function")
  n_NotOpen : PySem.W.findIn K (.ref C_NotOpen) "pair" = some none
  C_BadSign : Addr
  g_BadSign : mg "BadSign" = some (.ref C_BadSign)
  x_BadSign : XfC K C_BadSign
  e_BadSign : ExcC K C_BadSign
  q_BadSign : PySem.W.excIn K C_BadSign [Value.type "ValueError", Value.type "Exception", Value.type "BaseException", Value.type "object"] "ValueError.__new__" = true
  k_BadSign : PySem.W.keepIn K (.ref C_BadSign) = true
  b_BadSign : PySem.W.subIn K (.ref C_BadSign) (.type "BaseException") = some true
  ty_BadSign : PySem.W.typeIn K (.ref C_BadSign) = some (.type "type")
  C_BadRing : Addr
  g_BadRing : mg "BadRing" = some (.ref C_BadRing)
  x_BadRing : XfC K C_BadRing
  e_BadRing : ExcC K C_BadRing
  o_BadRing : OexC K C_BadRing
  i_BadRing : PySem.W.findIn K (.ref C_BadRing) "__init__" = some (some (.ref f_BadRing_init))
  t_BadRing : PySem.W.typeIn K (.ref f_BadRing_init) = some (.type "function")
  n_BadRing : PySem.W.findIn K (.ref C_BadRing) "what" = some none
  mm_BadPicture_BadRing : PySem.W.exmOne K (.ref C_BadPicture) (.ref C_BadRing) = some false
  mm_NotOpen_BadRing : PySem.W.exmOne K (.ref C_NotOpen) (.ref C_BadRing) = some false
  mm_BadSign_BadRing : PySem.W.exmOne K (.ref C_BadSign) (.ref C_BadRing) = some false
  mm_BadRing_BadRing : PySem.W.exmOne K (.ref C_BadRing) (.ref C_BadRing) = some true
  mm_BadPicture_BadSign : PySem.W.exmOne K (.ref C_BadPicture) (.ref C_BadSign) = some false
  mm_NotOpen_BadSign : PySem.W.exmOne K (.ref C_NotOpen) (.ref C_BadSign) = some false
  mm_BadSign_BadSign : PySem.W.exmOne K (.ref C_BadSign) (.ref C_BadSign) = some true
  mm_BadRing_BadSign : PySem.W.exmOne K (.ref C_BadRing) (.ref C_BadSign) = some false
  kit_BadRing_SheetError : PySem.W.kitOne K (.ref C_BadRing) (.ref C_SheetError) = some true
  kit_BadRing_BadSign : PySem.W.kitOne K (.ref C_BadRing) (.ref C_BadSign) = some false
  kit_BadSign_SheetError : PySem.W.kitOne K (.ref C_BadSign) (.ref C_SheetError) = some true
  C_Picture : Addr
  g_Picture : mg "Picture" = some (.ref C_Picture)
  cl_Picture : Cls K C_Picture
  M_Picture : Mk K C_Picture f_Picture_init
  na_points : NoAttr K C_Picture "points"
  na_walls : NoAttr K C_Picture "walls"
  na_pairs : NoAttr K C_Picture "pairs"
  na_pieces : NoAttr K C_Picture "_pieces"
  eq_at : PySem.W.findIn K (.ref C_Picture) "__eq__" = some (some (.ref f_Picture_eq))
  eq_fn : PySem.W.isFn K (.ref f_Picture_eq) = true
  len_at : PySem.W.findIn K (.ref C_Picture) "__len__" = some (some (.ref f_Picture_len))
  len_fn : PySem.W.isFn K (.ref f_Picture_len) = true
  p_pieces : Addr
  pr_pieces : PropOf K C_Picture "pieces" p_pieces f_Picture_pieces
  M_is_pair : Meth K C_Picture "_is_pair" f_Pictureis_pair
  M_place_of : Meth K C_Picture "place_of" f_Picture_place_of
  M_is_open : Meth K C_Picture "is_open" f_Picture_is_open
  k_class : PySem.W.findIn K (.ref C_Picture) "__class__" = some (some (.builtin "object.__class__"))
  k_get : PySem.W.specialIn K (.builtin "object.__class__") "__get__" = some (some (.builtin "getset_descriptor.__get__"))
  k_takes : PySem.W.takesIn K (.builtin "object.__class__") = some true
  k_mro : PySem.W.mroIn K C_Picture (.type "object") = some true
  k_isp : PySem.W.kitOne K (.ref C_Picture) (.ref C_Picture) = some true
def Raised (C : Addr) (f : Str) (v : V) (H : Hp) (E : XK) : Prop := ∀ d H', Same H H' → H d = none → H' d = some (.xd [(f, v)]) → E (.ref C) (some d) H'
/-- the promise of an error's __init__ that stores its one argument -/
def sp_exc (C : Addr) (f : Str) : Sp := fun vs H Q _ => ∃ (a : Addr) (v : V), vs = [.ref a, v] ∧ H a = some (exo a C none) ∧ ∀ dx, H dx = none → dx ≠ a → Q .non (upd (upd H dx (exd dx [(f, v)])) a (exo a C (some dx)))
theorem mk_exc {C : Addr} {f : Str} {w : V} {H : Hp} {Q : XK} (h : ∀ d H', Same H H' → H d = none → H' d = some (.xd [(f, w)]) → Q (.ref C) (some d) H') :
    [w].length ≤ 1000 ∧ ∀ a, H a = none → sp_exc C f (.ref a :: ([w] ++ [])) (upd H a (exo a C none))
      (fun v H2 => v = .non ∧ ∃ (d : Addr) (fs : List (Str × V)), H2 a = some (exo a C (some d)) ∧ H2 d = some (exd d fs) ∧ H d = none ∧ Q (.ref C) (some d) (upd (del H2 a) d (.xd fs))) (fun _ _ _ => False) := by
  refine ⟨by simp, fun a na => ⟨a, w, rfl, upd_same, fun dx nd ne => ⟨rfl, dx, _, upd_same, by rw [upd_ne ne, upd_same], ?_, ?_⟩⟩⟩
  · rw [upd_ne ne] at nd
    exact nd
  · rw [upd_ne ne] at nd
    refine h dx _ (fun b o e => ?_) nd upd_same
    have hb : b ≠ dx := ne_of_none e nd
    have hb2 : b ≠ a := ne_of_none e na
    rw [upd_ne hb, del_ne hb2, upd_ne hb2, upd_ne hb, upd_ne hb2]
    exact e
section
variable {P : Program} {w : World} {K : PySem.W.Frag} {mg : Str → Option Value} {base : Heap}
theorem ok_BadPicture_init (T : Txt K mg) : FnOk P w K mg base CX0 1 T.f_BadPicture_init T.d_BadPicture_init ["self", "what"] (sp_exc T.C_BadPicture "what") := by
  refine T.F_BadPicture_init.ok sc_BadPicture_init (fun vs H Q E h => ?_) (fun cdv A outer s H vs Q E hr h => ?_)
  · obtain ⟨a, v, rfl, _⟩ := h
    rfl
  · obtain ⟨a, v, rfl, ha, q⟩ := h
    refine ⟨_, pss_one (ps_ost (pv 0) (pv 1)), ?_⟩
    exact ⟨v, rfl, _, rfl, a, T.C_BadPicture, rfl, T.o_BadPicture, T.n_BadPicture, .inl ⟨ha, fun dx n ne => q dx n ne⟩⟩
theorem ok_NotOpen_init (T : Txt K mg) : FnOk P w K mg base CX0 1 T.f_NotOpen_init T.d_NotOpen_init ["self", "pair"] (sp_exc T.C_NotOpen "pair") := by
  refine T.F_NotOpen_init.ok sc_NotOpen_init (fun vs H Q E h => ?_) (fun cdv A outer s H vs Q E hr h => ?_)
  · obtain ⟨a, v, rfl, _⟩ := h
    rfl
  · obtain ⟨a, v, rfl, ha, q⟩ := h
    refine ⟨_, pss_one (ps_ost (pv 0) (pv 1)), ?_⟩
    exact ⟨v, rfl, _, rfl, a, T.C_NotOpen, rfl, T.o_NotOpen, T.n_NotOpen, .inl ⟨ha, fun dx n ne => q dx n ne⟩⟩
theorem ok_BadRing_init (T : Txt K mg) : FnOk P w K mg base CX0 1 T.f_BadRing_init T.d_BadRing_init ["self", "what"] (sp_exc T.C_BadRing "what") := by
  refine T.F_BadRing_init.ok sc_BadRing_init (fun vs H Q E h => ?_) (fun cdv A outer s H vs Q E hr h => ?_)
  · obtain ⟨a, v, rfl, _⟩ := h
    rfl
  · obtain ⟨a, v, rfl, ha, q⟩ := h
    refine ⟨_, pss_one (ps_ost (pv 0) (pv 1)), ?_⟩
    exact ⟨v, rfl, _, rfl, a, T.C_BadRing, rfl, T.o_BadRing, T.n_BadRing, .inl ⟨ha, fun dx n ne => q dx n ne⟩⟩
end
end K02
set_option Elab.async false
set_option linter.all false
set_option maxRecDepth 100000
set_option maxHeartbeats 4000000
set_option exponentiation.threshold 5000
namespace K02
open PySem PySem.Spec PyProof.Rows L2 TkS
/-! bounds, sequences -/
def Lim (v : V) : Prop := v = .non ∨ ∃ l : Int, v = .int l
def wholeIn : V → V → V → Bool
  | .int i, lo, hi => (match lo with | .int l => decide (l ≤ i) | _ => true) && (match hi with | .int h => decide (i ≤ h) | _ => true)
  | _, _, _ => false
theorem wi_low {i l : Int} {hi : V} : wholeIn (.int i) (.int l) hi = (decide (l ≤ i) && wholeIn (.int i) .non hi) := by
  simp [wholeIn]
theorem wi_high {i m : Int} : wholeIn (.int i) .non (.int m) = decide (i ≤ m) := by
  simp [wholeIn]
def seqIs (d : PyData) (n : V) : Bool := match itemsD d with
  | none => false
  | some ds => match n with
    | .int k => decide ((ds.length : Int) = k)
    | _ => true
theorem int_dec {a b : Int} : decide (V.int a = V.int b) = decide (a = b) := by
  by_cases h : a = b
  · subst h
    simp
  · rw [decide_eq_false h, decide_eq_false fun z => h (V.int.inj z)]
def sp_is_whole : Sp := fun vs H Q _ => ∃ x lo hi d, vs = [x, lo, hi] ∧ Dq H x d ∧ Lim lo ∧ Lim hi ∧ Q (.bl (wholeIn x lo hi)) H
def sp_is_sequence : Sp := fun vs H Q _ => ∃ x n d, vs = [x, n] ∧ Dq H x d ∧ (n = .non ∨ ∃ k : Int, n = .int k) ∧ ∀ H', Same H H' → Q (.bl (seqIs d n)) H'
section
variable {P : Program} {w : World} {K : PySem.W.Frag} {mg : Str → Option Value} {base : Heap}
theorem ok_is_whole (T : Txt K mg) : FnOk P w K mg base CX0 1 T.f_is_whole T.d_is_whole ["thing", "low", "high"] sp_is_whole := by
  refine T.F_is_whole.ok sc_is_whole (fun vs H Q E h => ?_) (fun cdv A outer s H vs Q E hr h => ?_)
  · obtain ⟨x, lo, hi, d, rfl, _⟩ := h
    rfl
  · obtain ⟨x, lo, hi, d, rfl, hk, hl, hh, q⟩ := h
    obtain ⟨t, ty, k1, k2, _⟩ := dq_ty (K := K) hk
    refine ⟨_, (pss_cons (ps_if (PW.pt (pw_or (pt_val (pe_callB call_isi (by rfl) T.m_isinstance (by decide +kernel) (pa_cons (pv 0) (pa_cons (pe_bltn (v := .ty "bool") (u := .type "bool") (by rfl) T.m_bool (by decide +kernel) rfl) pa_nil)))) (pw_or1 (pt_not (pt_val (pe_callB call_isi (by rfl) T.m_isinstance (by decide +kernel) (pa_cons (pv 0) (pa_cons (pe_bltn (v := .ty "int") (u := .type "int") (by rfl) T.m_int (by decide +kernel) rfl) pa_nil))))))))
        (pss_one (ps_ret pe_bl))
        pss_nil)
      (pss_cons (ps_if (PW.pt (pw_and (pt_cmpR op_notN (pv 1) pe_non (nomark _)) (pw_and1 (pt_cmpR op_lt (pv 0) (pv 1) (nomark _)))))
        (pss_one (ps_ret pe_bl))
        pss_nil)
      (pss_one (ps_ret (pe_or (pe_cmpR op_isN (pv 2) pe_non (nomark _)) (pe_one (pe_cmpR op_le (pv 0) (pv 2) (nomark _)))))))), ?_⟩
    refine ⟨x, rfl, x, .ty "bool", t, _, isBlV x, rfl, .ty _, ty, k1, isBlV x, rfl, ?_⟩
    have tail : ∀ i : Int, Q (.bl (wholeIn (.int i) .non hi)) H → tRet (tOrV (tOp (fun x y H Q => y = V.non ∧ Q (V.bl (decide (x = V.non))) H) (tVar 2) (tC V.non)) (tOp (rI0 fun i j => V.bl (decide (i ≤ j))) (tVar 0) (tVar 2))) { nx := fun x H' => Q V.non H', rt := Q } (L2.start ["thing", "low", "high"] [V.int i, lo, hi]) H := by
      intro i q
      rcases hh with rfl | ⟨m, rfl⟩
      · exact ⟨.non, rfl, rfl, _, rfl, iteT q⟩
      · refine ⟨.int m, rfl, rfl, _, rfl, iteF ?_⟩
        rw [wi_high] at q
        exact ⟨_, rfl, _, rfl, i, m, rfl, rfl, q⟩
    cases hk with
    | bl b => exact iteT (iteT q)
    | int i =>
      refine iteF ⟨_, rfl, _, .ty "int", t, _, true, rfl, .ty _, ty, k2, true, rfl, iteF ?_⟩
      rcases hl with rfl | ⟨l, rfl⟩
      · exact ⟨.non, rfl, rfl, _, rfl, iteF (iteF (tail i q))⟩
      · rw [wi_low] at q
        refine ⟨.int l, rfl, rfl, _, rfl, iteT ⟨.int i, rfl, .int l, rfl, i, l, rfl, rfl, _, rfl, ite2 (fun e => ?_) (fun e => ?_)⟩⟩
        · have e2 := of_decide_eq_true e
          rw [decide_eq_false (by omega : ¬ l ≤ i)] at q
          exact q
        · have e2 : l ≤ i := Int.not_lt.mp fun z => e (decide_eq_true z)
          rw [decide_eq_true e2] at q
          exact tail i q
    | non => exact iteF ⟨_, rfl, _, .ty "int", t, _, false, rfl, .ty _, ty, k2, false, rfl, iteT q⟩
    | str z => exact iteF ⟨_, rfl, _, .ty "int", t, _, false, rfl, .ty _, ty, k2, false, rfl, iteT q⟩
    | lst z y => exact iteF ⟨_, rfl, _, .ty "int", t, _, false, rfl, .ty _, ty, k2, false, rfl, iteT q⟩
    | tup z y => exact iteF ⟨_, rfl, _, .ty "int", t, _, false, rfl, .ty _, ty, k2, false, rfl, iteT q⟩
theorem ok_is_sequence (T : Txt K mg) : FnOk P w K mg base CX0 1 T.f_is_sequence T.d_is_sequence ["thing", "length"] sp_is_sequence := by
  refine T.F_is_sequence.ok sc_is_sequence (fun vs H Q E h => ?_) (fun cdv A outer s H vs Q E hr h => ?_)
  · obtain ⟨x, n, d, rfl, _⟩ := h
    rfl
  · obtain ⟨x, n, d, rfl, hk, hn, q⟩ := h
    refine ⟨_, (pss_cons (ps_if (pt_not (pt_val (pe_callB call_isiT (by rfl) T.m_isinstance (by decide +kernel) (pa_cons (pv 0) (pa_cons (pe_tup (pa_cons (pe_bltn (v := .ty "list") (u := .type "list") (by rfl) T.m_list (by decide +kernel) rfl) (pa_cons (pe_bltn (v := .ty "tuple") (u := .type "tuple") (by rfl) T.m_tuple (by decide +kernel) rfl) pa_nil))) pa_nil)))))
        (pss_one (ps_ret pe_bl))
        pss_nil)
      (pss_one (ps_ret (pe_or (pe_cmpR op_isN (pv 1) pe_non (nomark _)) (pe_one (pe_cmpR op_eq (pe_callB call_len_seq (by rfl) T.m_len (by decide +kernel) (pa_cons (pv 0) pa_nil)) (pv 1) (nomark _))))))), ?_⟩
    refine ⟨x, rfl, (by show 2 ≤ sizeLine; decide), fun u nu => ?_⟩
    have sm : Same H (upd H u (.tup [.ty "list", .ty "tuple"])) := same_new nu
    obtain ⟨t, ty, _, _, k3, _⟩ := dq_ty (K := K) (Dq.same sm d hk)
    have q' := q _ sm
    refine ⟨x, u, _, t, _, (itemsD d).isSome, rfl, upd_same, .cons (.ty _) (.cons (.ty _) .nil), ty, k3, _, rfl, ?_⟩
    have no : itemsD d = none → (if (!(itemsD d).isSome) = true then tRet (tC (V.bl false)) { nx := tRet (tOrV (tOp (fun x y H Q => y = V.non ∧ Q (V.bl (decide (x = V.non))) H) (tVar 1) (tC V.non)) (tOp rEq (tCB (fun xs H Q => ∃ p ys, xs = [V.ref p] ∧ (SqL K H p ys ∨ SqT K H p ys) ∧ Q (V.int ↑ys.length) H) (tCons (tVar 0) tNil)) (tVar 1))) { nx := fun x H' => Q V.non H', rt := Q }, rt := Q } (L2.start ["thing", "length"] [x, n]) (upd H u (.tup [.ty "list", .ty "tuple"]))
        else tNext { nx := tRet (tOrV (tOp (fun x y H Q => y = V.non ∧ Q (V.bl (decide (x = V.non))) H) (tVar 1) (tC V.non)) (tOp rEq (tCB (fun xs H Q => ∃ p ys, xs = [V.ref p] ∧ (SqL K H p ys ∨ SqT K H p ys) ∧ Q (V.int ↑ys.length) H) (tCons (tVar 0) tNil)) (tVar 1))) { nx := fun x H' => Q V.non H', rt := Q }, rt := Q } (L2.start ["thing", "length"] [x, n]) (upd H u (.tup [.ty "list", .ty "tuple"]))) := fun e => by
      unfold seqIs at q'
      rw [e] at q' ⊢
      exact iteT q'
    have yes : ∀ (a : Addr) (xs : List V) (ds : List PyData), x = .ref a → itemsD d = some ds → xs.length = ds.length → (SqL K (upd H u (.tup [.ty "list", .ty "tuple"])) a xs ∨ SqT K (upd H u (.tup [.ty "list", .ty "tuple"])) a xs) →
        tRet (tOrV (tOp (fun x y H Q => y = V.non ∧ Q (V.bl (decide (x = V.non))) H) (tVar 1) (tC V.non)) (tOp rEq (tCB (fun xs H Q => ∃ p ys, xs = [V.ref p] ∧ (SqL K H p ys ∨ SqT K H p ys) ∧ Q (V.int ↑ys.length) H) (tCons (tVar 0) tNil)) (tVar 1))) { nx := fun x H' => Q V.non H', rt := Q } (L2.start ["thing", "length"] [x, n]) (upd H u (.tup [.ty "list", .ty "tuple"])) := fun a xs ds ex ed el hs => by
      unfold seqIs at q'
      rw [ed] at q'
      rcases hn with rfl | ⟨k, rfl⟩
      · exact ⟨.non, rfl, rfl, _, rfl, iteT q'⟩
      · refine ⟨.int k, rfl, rfl, _, rfl, iteF ⟨_, rfl, a, xs, by rw [ex], hs, _, rfl, rfl, ?_⟩⟩
        rw [el, int_dec]
        exact q'
    cases hk with
    | lst h1 h2 => exact iteF (yes _ _ _ rfl rfl h2.len (.inl (SqL.of (sm _ _ h1))))
    | tup h1 h2 => exact iteF (yes _ _ _ rfl rfl h2.len (.inr (SqT.of (sm _ _ h1))))
    | non => exact no rfl
    | bl b => exact no rfl
    | int b => exact no rfl
    | str b => exact no rfl
end
/-! labels -/
def mrg (ls : List Int) (a b : Int) : List Int := ls.map fun l => if l = a ∨ l = b then (if b < a then b else a) else l
theorem mrg_len (ls : List Int) (a b : Int) : (mrg ls a b).length = ls.length := by
  unfold mrg
  rw [List.length_map]
def row0 (n : Nat) : List Int := (List.range n).map fun (i : Nat) => (i : Int)
theorem row0_len (n : Nat) : (row0 n).length = n := by
  unfold row0
  rw [List.length_map, List.length_range]
def stepM (P : Int) (ls : List Int) (p : Int × Int) : List Int := mrg ls (ls.getD p.1.toNat 0) (ls.getD (P + p.2).toNat 0)
def marks (P W : Int) (ps : List (Int × Int)) : List Int := ps.foldl (stepM P) (row0 (P + W).toNat)
theorem fold_len (P : Int) : ∀ (ps : List (Int × Int)) (ls : List Int), (ps.foldl (stepM P) ls).length = ls.length
  | [], _ => rfl
  | p :: ps, ls => by
    show (ps.foldl (stepM P) (stepM P ls p)).length = _
    rw [fold_len P ps]
    exact mrg_len _ _ _
theorem marks_len (P W : Int) (ps : List (Int × Int)) : (marks P W ps).length = (P + W).toNat := by
  unfold marks
  rw [fold_len, row0_len]
/-- the pairs lie in the picture -/
def Ins (P W : Int) (ps : List (Int × Int)) : Prop := ∀ p ∈ ps, 0 ≤ p.1 ∧ p.1 < P ∧ 0 ≤ p.2 ∧ p.2 < W
def prD (p : Int × Int) : PyData := .tuple [.int p.1, .int p.2]
theorem pr_items {H : Hp} {xs : List V} {ps : List (Int × Int)} {i : Nat} {x : V} (h : DqAll H xs (ps.map prD)) (hx : xs[i]? = some x) : ∃ (t : Addr) (p : Int × Int), x = .ref t ∧ ps[i]? = some p ∧ H t = some (.tup [.int p.1, .int p.2]) := by
  obtain ⟨d, h1, h2⟩ := h.get hx
  rw [List.getElem?_map] at h1
  obtain ⟨p, hp, rfl⟩ := Option.map_eq_some_iff.mp h1
  cases h2 with
  | tup ht ha =>
    cases ha with
    | cons u v =>
      cases v with
      | cons u' v' =>
        cases v'
        cases u
        cases u'
        exact ⟨_, p, rfl, hp, ht⟩
def sp_merged_labels (K : PySem.W.Frag) : Sp := fun vs H Q _ => ∃ (l : Addr) (ls : List Int) (a b : Int), vs = [.ref l, .int a, .int b] ∧ SqL K H l (ls.map V.int) ∧ ls.length ≤ 100 ∧ ∀ H' p, Same H H' → H p = none → H' p = some (.lst ((mrg ls a b).map V.int)) → Q (.ref p) H'
def sp_piece_labels (K : PySem.W.Frag) : Sp := fun vs H Q _ => ∃ (P W : Int) (l : Addr) (xs : List V) (ps : List (Int × Int)), vs = [.int P, .int W, .ref l] ∧ 0 ≤ P ∧ 0 ≤ W ∧ P + W ≤ 100 ∧ SqL K H l xs ∧ DqAll H xs (ps.map prD) ∧ Ins P W ps ∧
  ∀ H' p, Same H H' → H' p = some (.lst ((marks P W ps).map V.int)) → Q (.ref p) H'
theorem in2 {l a b : Int} : inV (.int l) [.int a, .int b] = decide (l = a ∨ l = b) := by
  have e : inV (.int l) [.int a, .int b] = ((a == l) || ((b == l) || false)) := rfl
  rw [e]
  by_cases h1 : l = a
  · subst h1
    simp
  · by_cases h2 : l = b
    · subst h2
      simp
    · have n1 : (a == l) = false := beq_eq_false_iff_ne.mpr fun z => h1 z.symm
      have n2 : (b == l) = false := beq_eq_false_iff_ne.mpr fun z => h2 z.symm
      rw [n1, n2, decide_eq_false (by intro z; rcases z with z | z <;> contradiction)]
      rfl
theorem map_at {ls : List Int} {i : Nat} {x : V} (h : (ls.map V.int)[i]? = some x) : ∃ n, ls[i]? = some n ∧ x = .int n := by
  rw [List.getElem?_map] at h
  obtain ⟨n, hn, e⟩ := Option.map_eq_some_iff.mp h
  exact ⟨n, hn, e.symm⟩
theorem take_snoc {α β : Type} (f : α → β) {l : List α} {i : Nat} {x : α} (h : l[i]? = some x) : (l.take (i + 1)).map f = (l.take i).map f ++ [f x] := by
  rw [List.take_add_one, h, List.map_append]
  rfl
section
variable {P : Program} {w : World} {K : PySem.W.Frag} {mg : Str → Option Value} {base : Heap}
theorem ok_merged_labels (T : Txt K mg) : FnOk P w K mg base CX0 1 T.f_merged_labels T.d_merged_labels ["labels", "one", "other"] (sp_merged_labels K) := by
  refine T.F_merged_labels.ok sc_merged_labels (fun vs H Q E h => ?_) (fun cdv A outer s H vs Q E hr h => ?_)
  · obtain ⟨l, ls, a, b, rfl, _⟩ := h
    rfl
  · obtain ⟨l, ls, a, b, rfl, hS, hlen, q⟩ := h
    refine ⟨_, (pss_cons (ps_set (i := 3) sc_merged_labels.nd rfl (.inr rfl) (pe_callB (call_min2 rfl) (by rfl) T.m_min (by decide +kernel) (pa_cons (pv 1) (pa_cons (pv 2) pa_nil))))
      (pss_one (ps_ret (pe_lc rfl sc_merged_labels.nd (pi_list (pv 0)) (blkOk_by (own := [("label", 4)]) (N := ["labels", "one", "other", "least", "label"]) (sc := defScope s_merged_labels) (by decide +kernel)) (fun _ _ _ _ _ => (pg_name (i := 4) sc_merged_labels.nd rfl (.inl rfl))) (fun _ _ _ _ _ => pts_nil) (fun _ _ _ _ _ => (pe_ifExp (pt_cmpR (show OpR _ (compareOp .In) (rIn K false) from op_in_seq) (pv 4) (pe_tup (pa_cons (pv 1) (pa_cons (pv 2) pa_nil))) rfl) (pv 3) (pv 4))))))), ?_⟩
    refine ⟨_, rfl, _, rfl, a, b, rfl, _, rfl, l, rfl, ⟨_, hS⟩, fun D nD => ?_⟩
    refine lc_list (xs := ls.map V.int) (fun i H' => Same H H' ∧ H' D = some (.lst (((ls.take i).map fun l => if l = a ∨ l = b then (if b < a then b else a) else l).map V.int)))
      ⟨same_new nD, upd_same⟩ (fun i H' _ hP => hP.1.seq hS) (fun i x H' hx hP => ?_) (fun H' hP => ?_)
    · obtain ⟨sm, hD⟩ := hP
      obtain ⟨n, hn, rfl⟩ := map_at hx
      have hi : i < ls.length := (List.getElem?_eq_some_iff.mp hn).1
      refine ⟨rfl, ?_⟩
      refine ⟨_, rfl, _, rfl, _, rfl, (by show 2 ≤ sizeLine; decide), fun u nu => ⟨u, _, rfl, .inr (SqT.of upd_same), rfl, rfl, _, rfl, ?_⟩⟩
      have nDu : D ≠ u := ne_of_none hD nu
      have sm2 : Same H (upd H' u (.tup [.int a, .int b])) := fun c o e => (same_new nu) _ _ (sm _ _ e)
      have fin : ∀ z : Int, z = (if n = a ∨ n = b then (if b < a then b else a) else n) → ∃ acc, (upd H' u (.tup [.int a, .int b])) D = some (.lst acc) ∧ acc.length < sizeLine ∧
          (Same H (upd (upd H' u (.tup [.int a, .int b])) D (.lst (acc ++ [.int z]))) ∧ (upd (upd H' u (.tup [.int a, .int b])) D (.lst (acc ++ [.int z]))) D = some (.lst (((ls.take (i + 1)).map fun l => if l = a ∨ l = b then (if b < a then b else a) else l).map V.int))) := fun z ez => by
        refine ⟨_, by rw [upd_ne nDu]; exact hD, ?_, fun c o e => ?_, ?_⟩
        · rw [List.length_map, List.length_map, List.length_take]
          exact small1000 (by omega)
        · rw [upd_ne (ne_of_none e nD)]
          exact sm2 _ _ e
        · rw [upd_same, take_snoc _ hn, List.map_append, ez]
          rfl
      by_cases c : n = a ∨ n = b
      · refine (show (if (if false = true then !inV (V.int n) [V.int a, V.int b] else inV (V.int n) [V.int a, V.int b]) = true then _ else _) from ?_)
        rw [if_neg Bool.false_ne_true, in2, decide_eq_true c]
        exact iteT ⟨_, rfl, fin _ (by rw [if_pos c])⟩
      · refine (show (if (if false = true then !inV (V.int n) [V.int a, V.int b] else inV (V.int n) [V.int a, V.int b]) = true then _ else _) from ?_)
        rw [if_neg Bool.false_ne_true, in2, decide_eq_false c]
        exact iteF ⟨_, rfl, fin _ (by rw [if_neg c])⟩
    · obtain ⟨sm, hD⟩ := hP
      rw [List.length_map, List.take_length] at hD
      exact q H' D sm nD hD
end
end K02
set_option Elab.async false
set_option linter.all false
set_option maxRecDepth 100000
set_option maxHeartbeats 4000000
set_option exponentiation.threshold 5000
namespace K02
open PySem PySem.Spec PyProof.Rows L2 TkS
/-! comprehensions of ints -/
theorem filter_snoc {α β : Type} (p : α → Bool) (f : α → β) {l : List α} {i : Nat} {x : α} (h : l[i]? = some x) :
    ((l.take (i + 1)).filter p).map f = if p x = true then ((l.take i).filter p).map f ++ [f x] else ((l.take i).filter p).map f := by
  rw [List.take_add_one, h]
  show ((l.take i ++ [x]).filter p).map f = _
  rw [List.filter_append, List.map_append, List.filter_cons]
  by_cases c : p x = true
  · rw [if_pos c, if_pos c]
    rfl
  · rw [if_neg c, if_neg c]
    show ((l.take i).filter p).map f ++ [] = _
    rw [List.append_nil]
theorem filter_range {β : Type} (p : Nat → Bool) (f : Nat → β) (i : Nat) :
    ((List.range (i + 1)).filter p).map f = if p i = true then ((List.range i).filter p).map f ++ [f i] else ((List.range i).filter p).map f := by
  rw [List.range_succ, List.filter_append, List.map_append, List.filter_cons]
  by_cases c : p i = true
  · rw [if_pos c, if_pos c]
    rfl
  · rw [if_neg c, if_neg c]
    show ((List.range i).filter p).map f ++ [] = _
    rw [List.append_nil]
theorem len_filter_take {α β : Type} (p : α → Bool) (f : α → β) (l : List α) (i : Nat) : (((l.take i).filter p).map f).length ≤ l.length := by
  rw [List.length_map]
  exact Nat.le_trans (List.length_filter_le _ _) (by rw [List.length_take]; omega)
theorem len_filter_range {β : Type} (p : Nat → Bool) (f : Nat → β) (i : Nat) : (((List.range i).filter p).map f).length ≤ i := by
  rw [List.length_map]
  exact Nat.le_trans (List.length_filter_le _ _) (by rw [List.length_range]; exact Nat.le_refl _)
/-- a comprehension over any items, each turn told by f (kept) and e (the new item), which leave the heap -/
theorem lc_vals {α : Type} {K : PySem.W.Frag} {a : Addr} {ns : List α} {h : α → V} {tt : TT} {te : TE} {vs : List Nat} {σ : L2.St} {H0 H1 : Hp} {D : Addr} {Qd : Hp → Prop} {j : Nat} (f : α → Bool) (e : α → V)
    (sm : Same H0 H1) (nD : H1 D = none) (hl : ns.length ≤ 1000) (hS : ∀ H', Same H0 H' → SqL K H' a (ns.map h)) (hw : ∀ x : V, wipe ((wipe σ vs).set j (some x)) vs = wipe σ vs)
    (ht : ∀ (i : Nat) (n : α) (H' : Hp) (Q : Bool → Hp → Prop), ns[i]? = some n → Same H0 H' → (∀ H'', Same H' H'' → Q (f n) H'') → tt ((wipe σ vs).set j (some (h n))) H' Q)
    (he : ∀ (i : Nat) (n : α) (H' : Hp) (Q : VK), ns[i]? = some n → f n = true → Same H0 H' → (∀ H'', Same H' H'' → Q (e n) H'') → te ((wipe σ vs).set j (some (h n))) H' Q)
    (hd : ∀ H', Same H0 H' → H' D = some (.lst ((ns.filter f).map e)) → Qd H') :
    ∃ W : Nat → Nat → Hp → Prop, (∃ m, W 0 m (upd H1 D (.lst []))) ∧ ∀ i m H, W i m H →
      ((Itl K a).stop i H ∧ Qd H) ∨ ((Itl K a).go i H ∧ ∃ Nx : Hp → Prop, (∀ H', Nx H' → ∃ m', m' < m ∧ W (i + 1) m' H') ∧ ∀ x H', (Itl K a).yld i H x H' → gName j x (wipe σ vs) H' fun σ2 H2 => wipe σ2 vs = wipe σ vs ∧ tt σ2 H2 fun b H3 =>
        if b = true then te σ2 H3 fun y H4 => ∃ acc, H4 D = some (.lst acc) ∧ acc.length < sizeLine ∧ Nx (upd H4 D (.lst (acc ++ [y]))) else Nx H3) := by
  refine lc_list (xs := ns.map h) (fun i H' => Same H0 H' ∧ H' D = some (.lst (((ns.take i).filter f).map e)) ∧ ∀ b o, H0 b = some o → b ≠ D) ⟨sm.trans (same_new nD), upd_same, fun b o z => ne_of_none (sm _ _ z) nD⟩ (fun i H' _ hP => hS _ hP.1) (fun i x H' hx hP => ?_) (fun H' hP => ?_)
  · obtain ⟨s, hD, ap⟩ := hP
    rw [List.getElem?_map] at hx
    obtain ⟨n, hn, rfl⟩ := Option.map_eq_some_iff.mp hx
    refine ⟨hw _, ht i n H' _ hn s fun H2 s2 => ?_⟩
    have hD2 := s2 _ _ hD
    cases c : f n with
    | true =>
      refine he i n H2 _ hn c (s.trans s2) fun H3 s3 => ⟨_, s3 _ _ hD2, ?_, fun b o z => ?_, ?_, ap⟩
      · exact small1000 (Nat.le_trans (len_filter_take _ _ _ _) hl)
      · rw [upd_ne (ap b o z)]
        exact s3 _ _ (s2 _ _ (s _ _ z))
      · rw [upd_same, filter_snoc _ _ hn, if_pos c]
    | false =>
      refine ⟨s.trans s2, ?_, ap⟩
      rw [filter_snoc _ _ hn, c, if_neg Bool.false_ne_true]
      exact hD2
  · obtain ⟨s, hD, _⟩ := hP
    rw [List.length_map, List.take_length] at hD
    exact hd H' s hD
/-- the same over a range -/
theorem lc_rng {tt : TT} {te : TE} {vs : List Nat} {σ : L2.St} {H0 H1 : Hp} {D : Addr} {Qd : Hp → Prop} {j n : Nat} (f : Nat → Bool) (e : Nat → V)
    (sm : Same H0 H1) (nD : H1 D = none) (hl : n ≤ 1000) (hw : ∀ x : V, wipe ((wipe σ vs).set j (some x)) vs = wipe σ vs)
    (ht : ∀ (i : Nat) (H' : Hp) (Q : Bool → Hp → Prop), i < n → Same H0 H' → (∀ H'', Same H' H'' → Q (f i) H'') → tt ((wipe σ vs).set j (some (.int (0 + (i : Int))))) H' Q)
    (he : ∀ (i : Nat) (H' : Hp) (Q : VK), i < n → f i = true → Same H0 H' → (∀ H'', Same H' H'' → Q (e i) H'') → te ((wipe σ vs).set j (some (.int (0 + (i : Int))))) H' Q)
    (hd : ∀ H', Same H0 H' → H' D = some (.lst (((List.range n).filter f).map e)) → Qd H') :
    ∃ W : Nat → Nat → Hp → Prop, (∃ m, W 0 m (upd H1 D (.lst []))) ∧ ∀ i m H, W i m H →
      ((Itr 0 n).stop i H ∧ Qd H) ∨ ((Itr 0 n).go i H ∧ ∃ Nx : Hp → Prop, (∀ H', Nx H' → ∃ m', m' < m ∧ W (i + 1) m' H') ∧ ∀ x H', (Itr 0 n).yld i H x H' → gName j x (wipe σ vs) H' fun σ2 H2 => wipe σ2 vs = wipe σ vs ∧ tt σ2 H2 fun b H3 =>
        if b = true then te σ2 H3 fun y H4 => ∃ acc, H4 D = some (.lst acc) ∧ acc.length < sizeLine ∧ Nx (upd H4 D (.lst (acc ++ [y]))) else Nx H3) := by
  refine lc_range (lo := 0) (n := n) (fun i H' => Same H0 H' ∧ H' D = some (.lst (((List.range i).filter f).map e)) ∧ ∀ b o, H0 b = some o → b ≠ D) ⟨sm.trans (same_new nD), upd_same, fun b o z => ne_of_none (sm _ _ z) nD⟩ (fun i H' hi hP => ?_) (fun H' hP => ?_)
  · obtain ⟨s, hD, ap⟩ := hP
    refine ⟨hw _, ht i H' _ hi s fun H2 s2 => ?_⟩
    have hD2 := s2 _ _ hD
    cases c : f i with
    | true =>
      refine he i H2 _ hi c (s.trans s2) fun H3 s3 => ⟨_, s3 _ _ hD2, ?_, fun b o z => ?_, ?_, ap⟩
      · exact small1000 (Nat.le_trans (len_filter_range _ _ _) (by omega))
      · rw [upd_ne (ap b o z)]
        exact s3 _ _ (s2 _ _ (s _ _ z))
      · rw [upd_same, filter_range, if_pos c]
    | false =>
      refine ⟨s.trans s2, ?_, ap⟩
      rw [filter_range, c, if_neg Bool.false_ne_true]
      exact hD2
  · exact hd H' hP.1 hP.2.1
/-! pieces -/
def cs (ls : List Int) (label : Nat) : List Nat := (List.range ls.length).filter fun c => decide (ls.getD c 0 = (label : Int))
def pieceD (P : Int) (c : List Nat) : PyData := .tuple [.tuple ((c.filter fun (k : Nat) => decide ((k : Int) < P)).map fun (k : Nat) => .int (k : Int)), .tuple ((c.filter fun (k : Nat) => decide (P ≤ (k : Int))).map fun (k : Nat) => .int ((k : Int) - P))]
def piecesD (P : Int) (ls : List Int) : List PyData := ((List.range ls.length).filter fun l => !(cs ls l).isEmpty).map fun l => pieceD P (cs ls l)
theorem dq_ints {H : Hp} {α : Type} (f : α → Int) : ∀ l : List α, DqAll H (l.map fun x => .int (f x)) (l.map fun x => .int (f x))
  | [] => .nil
  | _ :: l => .cons (.int _) (dq_ints f l)
theorem off_upd {h : Addr} {H : Hp} {o : HO} : TkS.Off h (upd H h o) = TkS.Off h H := by
  funext b
  unfold TkS.Off
  by_cases z : b = h
  · rw [if_pos z, if_pos z]
  · rw [if_neg z, if_neg z, upd_ne z]
theorem ix_at {ls : List Int} {z : Int} (h0 : 0 ≤ z) (h1 : z < ls.length) : atI (ls.map V.int) z = some (.int (ls.getD z.toNat 0)) := by
  have hp : z.toNat < ls.length := by omega
  refine at_of (j := z.toNat) (by omega) ?_
  rw [List.getElem?_map, List.getElem?_eq_getElem hp]
  show some (V.int ls[z.toNat]) = _
  rw [List.getD_eq_getElem?_getD, List.getElem?_eq_getElem hp]
  rfl
def sp_pieces_by_labels (K : PySem.W.Frag) : Sp := fun vs H Q _ => ∃ (P : Int) (l : Addr) (ls : List Int), vs = [.int P, .ref l] ∧ SqL K H l (ls.map V.int) ∧ ls.length ≤ 100 ∧ ∀ H' v, Same H H' → Dq H' v (.tuple (piecesD P ls)) → Q v H'
section
variable {P : Program} {w : World} {K : PySem.W.Frag} {mg : Str → Option Value} {base : Heap}
theorem rg_row {a b : Int} (h : 0 ≤ b) : rgV 0 b = (row0 b.toNat).map V.int := by
  unfold rgV row0
  rw [List.map_map, Int.sub_zero]
  refine List.map_congr_left fun i _ => ?_
  show V.int (0 + (i : Int)) = V.int (i : Int)
  rw [Int.zero_add]
theorem ok_piece_labels (T : Txt K mg) : FnOk P w K mg base CX0 2 T.f_piece_labels T.d_piece_labels ["points", "walls", "pairs"] (sp_piece_labels K) := by
  refine T.F_piece_labels.ok sc_piece_labels (fun vs H Q E h => ?_) (fun cdv A outer s H vs Q E hr h => ?_)
  · obtain ⟨P', W, l, xs, ps, rfl, _⟩ := h
    rfl
  · obtain ⟨P', W, l, xs, ps, rfl, p0, w0, pw, hS, hD, hin, q⟩ := h
    refine ⟨_, (pss_cons (ps_set (i := 3) sc_piece_labels.nd rfl (.inl rfl) (pe_listRg rfl (by rfl) T.m_list (prg_1 (by rfl) T.m_range (pe_op op_add (pv 0) (pv 1)))))
      (pss_cons (ps_for PassesOwn.never rfl (pi_list (pv 2)) (pg_tup rfl (pgs_cons (pg_name (i := 4) sc_piece_labels.nd rfl (.inl rfl)) (pgs_cons (pg_name (i := 5) sc_piece_labels.nd rfl (.inl rfl)) pgs_nil)))
        (pss_one (ps_set (i := 3) sc_piece_labels.nd rfl (.inl rfl) (pe_call (ok_merged_labels T) (hr.mono (by decide)) (by rfl) T.g_merged_labels T.F_merged_labels.kp T.b_merged_labels .nil pass0 (pa_cons (pv 3) (pa_cons (pe_ix ix_list (pv 3) (pv 4) (fun _ _ => rfl)) (pa_cons (pe_ix ix_list (pv 3) (pe_op op_add (pv 0) (pv 5)) (fun _ _ => rfl)) pa_nil)))))))
      (pss_one (ps_ret (pv 3))))), ?_⟩
    refine ⟨_, rfl, _, rfl, P', W, rfl, rfl, P' + W, rfl, RgOk.of_le (by decide) (by omega) (by decide) (by omega), fun l0 n0 => ?_⟩
    have hlen : xs.length = ps.length := by
      rw [hD.len, List.length_map]
    refine ⟨_, rfl, l, rfl, ⟨_, (same_new n0).seq hS⟩, for_list (xs := xs) (fun i σ H' => ∃ (a : Addr) (y4 y5 : Option V), σ = [some (.int P'), some (.int W), some (.ref l), some (.ref a), y4, y5] ∧ Same H H' ∧ H' a = some (.lst (((ps.take i).foldl (stepM P') (row0 (P' + W).toNat)).map V.int)))
      ⟨l0, none, none, rfl, same_new n0, ?_⟩ (fun i σ H' _ hP => by obtain ⟨_, _, _, _, sm, _⟩ := hP; exact sm.seq hS) (fun i x σ H' hx hP => ?_) (fun σ H' hP => ?_)⟩
    · rw [upd_same, rg_row (a := 0) (by omega)]
      rfl
    · obtain ⟨a, y4, y5, rfl, sm, ha⟩ := hP
      obtain ⟨t, p, rfl, hp, ht⟩ := pr_items hD hx
      obtain ⟨b1, b2, b3, b4⟩ := hin p (List.mem_of_getElem? hp)
      generalize el : (ps.take i).foldl (stepM P') (row0 (P' + W).toNat) = ls at ha
      have ll : ls.length = (P' + W).toNat := by rw [← el, fold_len, row0_len]
      refine ⟨t, _, rfl, SqT.of (sm _ _ ht), rfl, _, _, rfl, _, _, rfl, rfl, ?_⟩
      refine ⟨_, rfl, _, rfl, _, rfl, a, _, p.1, _, rfl, rfl, SqL.of ha, ix_at b1 (by omega), _, rfl, _, rfl, _, rfl, P', p.2, rfl, rfl, a, _, P' + p.2, _, rfl, rfl, SqL.of ha, ix_at (by omega) (by omega), ?_⟩
      refine ⟨a, ls, _, _, rfl, SqL.of ha, by omega, fun H2 b s2 nb hb => ⟨b, _, _, rfl, sm.trans s2, ?_⟩⟩
      rw [hb, List.take_add_one, hp, List.foldl_append, el]
      rfl
    · obtain ⟨a, y4, y5, rfl, sm, ha⟩ := hP
      refine ⟨_, rfl, q H' a sm ?_⟩
      rw [hlen, List.take_length] at ha
      exact ha
theorem ok_pieces_by_labels (T : Txt K mg) : FnOk P w K mg base CX0 1 T.f_pieces_by_labels T.d_pieces_by_labels ["points", "labels"] (sp_pieces_by_labels K) := by
  refine T.F_pieces_by_labels.ok sc_pieces_by_labels (fun vs H Q E h => ?_) (fun cdv A outer s H vs Q E hr h => ?_)
  · obtain ⟨P', l, ls, rfl, _⟩ := h
    rfl
  · obtain ⟨P', l, ls, rfl, hS, hlen, q⟩ := h
    refine ⟨_, (pss_cons (ps_set (i := 2) sc_pieces_by_labels.nd rfl (.inl rfl) (pe_lst pa_nil))
      (pss_cons (ps_for PassesOwn.never rfl (pi_range1 (by rfl) T.m_range (pa_cons (pe_callB call_len_seq (by rfl) T.m_len (by decide +kernel) (pa_cons (pv 1) pa_nil)) pa_nil)) (pg_name (i := 3) sc_pieces_by_labels.nd rfl (.inr rfl))
        (pss_cons (ps_setLc (i := 4) rfl sc_pieces_by_labels.nd rfl rfl (sw_true rfl rfl rfl (by decide +kernel)) (pi_range1 (by rfl) T.m_range (pa_cons (pe_callB call_len_seq (by rfl) T.m_len (by decide +kernel) (pa_cons (pv 1) pa_nil)) pa_nil)) (blkOk_by (own := [("corner", 6)]) (N := ["points", "labels", "pieces", "label", "corners", "inside", "corner"]) (sc := defScope s_pieces_by_labels) (by decide +kernel)) (fun _ _ _ _ _ => (pg_name (i := 6) sc_pieces_by_labels.nd rfl (.inl rfl))) (fun _ _ _ _ _ => (pts_one (pt_cmpR op_eq (pe_ix (show IxR _ (rIxL K) from ix_list) (pv 1) (pv 6) (fun _ _ => rfl)) (pv 3) (nomark _)))) (fun _ _ _ _ _ => (pv 6)))
        (pss_one (ps_if (pt_truth (pv 4) (by intro _; rfl))
          (pss_cons (ps_set (i := 5) sc_pieces_by_labels.nd rfl (.inl rfl) (pe_callTy call_tuple_of (by rfl) T.m_tuple (by decide +kernel) (pa_cons (pe_lc rfl sc_pieces_by_labels.nd (pi_list (pv 4)) (blkOk_by (own := [("corner", 6)]) (N := ["points", "labels", "pieces", "label", "corners", "inside", "corner"]) (sc := defScope s_pieces_by_labels) (by decide +kernel)) (fun _ _ _ _ _ => (pg_name (i := 6) sc_pieces_by_labels.nd rfl (.inl rfl))) (fun _ _ _ _ _ => (pts_one (pt_cmpR op_lt (pv 6) (pv 0) (nomark _)))) (fun _ _ _ _ _ => (pv 6))) pa_nil)))
          (pss_one (ps_expr (pe_bm PySem.F.plainAttrs_list PySem.F.slot_list_append PySem.F.type_list_append mt_append (pv 2) (pa_cons (pe_tup (pa_cons (pv 5) (pa_cons (pe_callTy call_tuple_of (by rfl) T.m_tuple (by decide +kernel) (pa_cons (pe_lc rfl sc_pieces_by_labels.nd (pi_list (pv 4)) (blkOk_by (own := [("corner", 6)]) (N := ["points", "labels", "pieces", "label", "corners", "inside", "corner"]) (sc := defScope s_pieces_by_labels) (by decide +kernel)) (fun _ _ _ _ _ => (pg_name (i := 6) sc_pieces_by_labels.nd rfl (.inl rfl))) (fun _ _ _ _ _ => (pts_one (pt_cmpR op_ge (pv 6) (pv 0) (nomark _)))) (fun _ _ _ _ _ => (pe_op op_sub (pv 6) (pv 0)))) pa_nil)) pa_nil))) pa_nil)))))
          pss_nil))))
      (pss_one (ps_ret (pe_callTy call_tuple_of (by rfl) T.m_tuple (by decide +kernel) (pa_cons (pv 2) pa_nil)))))), ?_⟩
    refine ⟨Nat.zero_le _, fun pp np => ?_⟩
    have sm0 : Same H (upd H pp (.lst [])) := same_new np
    refine ⟨_, rfl, l, _, rfl, .inl (sm0.seq hS), _, rfl, by omega, by rw [List.length_map]; omega, for_range (n := ((ls.map V.int).length : Int).toNat)
      (fun i σ H' => ∃ (xs : List V) (y3 y4 y5 : Option V), σ = [some (.int P'), some (.ref l), some (.ref pp), y3, y4, y5, none] ∧ Same H H' ∧ H' pp = some (.lst xs) ∧ DqAll (TkS.Off pp H') xs (((List.range i).filter fun l => !(cs ls l).isEmpty).map fun l => pieceD P' (cs ls l)))
      ⟨[], none, none, none, rfl, sm0, upd_same, .nil⟩ (fun i σ H' hi hP => ?_) (fun σ H' hP => ?_)⟩
    · obtain ⟨xs, y3, y4, y5, rfl, sm, hpp, hd⟩ := hP
      have hi' : i < ls.length := by simpa using hi
      have lx : xs.length ≤ ls.length := by
        rw [hd.len]
        exact Nat.le_trans (len_filter_range _ _ _) (by omega)
      refine ⟨_, rfl, l, _, rfl, .inl (sm.seq hS), _, rfl, by omega, by rw [List.length_map]; omega, fun D nD => ?_⟩
      refine lc_rng (fun k => decide (ls.getD k 0 = (i : Int))) (fun k => .int (k : Int)) (H0 := H') (fun _ _ h => h) nD (by rw [List.length_map]; omega) (fun _ => rfl)
        (fun k H2 Q hk s2 q2 => ?_) (fun k H2 Q hk _ s2 q2 => ?_) (fun H2 s2 hD => ?_)
      · have hk' : k < ls.length := by simpa using hk
        refine ⟨_, rfl, _, rfl, l, ls.map V.int, (k : Int), .int (ls.getD k 0), rfl, by rw [Int.zero_add], (sm.trans s2).seq hS, ix_at (z := (k : Int)) (by omega) (by omega), _, rfl, rfl, _, rfl, ?_⟩
        rw [int_dec, Int.zero_add]
        exact q2 _ (fun _ _ h => h)
      · refine ⟨_, rfl, ?_⟩
        rw [Int.zero_add]
        exact q2 _ (fun _ _ h => h)
      · have e : ((ls.map V.int).length : Int).toNat = ls.length := by simp
        rw [e] at hD
        refine ⟨_, rfl, _, .inl ⟨_, SqL.of hD, rfl⟩, ?_⟩
        have hD' : H2 D = some (.lst ((cs ls i).map fun (k : Nat) => .int (k : Int))) := hD
        have cl : (cs ls i).length ≤ 100 := Nat.le_trans (List.length_filter_le _ _) (by rw [List.length_range]; exact hlen)
        refine (show (if (!((cs ls i).map fun (k : Nat) => V.int (k : Int)).isEmpty) = true then _ else _) from ?_)
        rw [show ((cs ls i).map fun (k : Nat) => V.int (k : Int)).isEmpty = (cs ls i).isEmpty from List.isEmpty_map]
        cases hc : (cs ls i).isEmpty with
        | true =>
          refine iteF ⟨xs, _, _, _, rfl, sm.trans s2, s2 _ _ hpp, ?_⟩
          rw [filter_range, hc, if_neg (by decide)]
          exact DqAll.same (off_of s2) _ hd
        | false =>
          refine iteT ⟨_, rfl, D, rfl, ⟨_, SqL.of hD'⟩, fun D2 nD2 => ?_⟩
          refine lc_vals (ns := cs ls i) (h := fun (k : Nat) => .int (k : Int)) (fun k => decide ((k : Int) < P')) (fun k => .int (k : Int)) (H0 := H2) (fun _ _ h => h) nD2 (by omega) (fun H3 s3 => SqL.of (s3 _ _ hD')) (fun _ => rfl)
            (fun j k H3 Q hk s3 q3 => ?_) (fun j k H3 Q hk _ s3 q3 => ?_) (fun H3 s3 hD2 => ?_)
          · exact ⟨_, rfl, _, rfl, _, _, rfl, rfl, _, rfl, q3 _ (fun _ _ h => h)⟩
          · exact ⟨_, rfl, q3 _ (fun _ _ h => h)⟩
          · refine ⟨D2, _, rfl, .inl ⟨SqL.of hD2, fun t1 n1 => ?_⟩⟩
            have m1 : Same H2 (upd H3 t1 (.tup (((cs ls i).filter fun (k : Nat) => decide ((k : Int) < P')).map fun (k : Nat) => .int (k : Int)))) := s3.trans (same_new n1)
            generalize e4 : upd H3 t1 (.tup (((cs ls i).filter fun (k : Nat) => decide ((k : Int) < P')).map fun (k : Nat) => .int (k : Int))) = H4 at m1
            have t1e : H4 t1 = some (.tup (((cs ls i).filter fun (k : Nat) => decide ((k : Int) < P')).map fun (k : Nat) => .int (k : Int))) := by rw [← e4, upd_same]
            refine ⟨_, rfl, by rw [← e4]; exact .inl ⟨rfl, xs, SqL.of ((s3.trans (same_new n1)) _ _ (s2 _ _ hpp))⟩, _, rfl, _, rfl, D, rfl, ⟨_, SqL.of (m1 _ _ hD')⟩, fun D3 nD3 => ?_⟩
            refine lc_vals (ns := cs ls i) (h := fun (k : Nat) => .int (k : Int)) (fun k => decide (P' ≤ (k : Int))) (fun k => .int ((k : Int) - P')) (H0 := H4) (fun _ _ h => h) nD3 (by omega) (fun H5 s5 => SqL.of (s5 _ _ (m1 _ _ hD'))) (fun _ => rfl)
              (fun j k H5 Q hk s5 q5 => ?_) (fun j k H5 Q hk _ s5 q5 => ?_) (fun H5 s5 hD3 => ?_)
            · exact ⟨_, rfl, _, rfl, _, _, rfl, rfl, _, rfl, q5 _ (fun _ _ h => h)⟩
            · exact ⟨_, rfl, _, rfl, _, _, rfl, rfl, q5 _ (fun _ _ h => h)⟩
            · refine ⟨D3, _, rfl, .inl ⟨SqL.of hD3, fun t2 n2 => ?_⟩⟩
              generalize e6 : upd H5 t2 (.tup (((cs ls i).filter fun (k : Nat) => decide (P' ≤ (k : Int))).map fun (k : Nat) => .int ((k : Int) - P'))) = H6
              have m6 : Same H4 H6 := by rw [← e6]; exact s5.trans (same_new n2)
              have t2e : H6 t2 = some (.tup (((cs ls i).filter fun (k : Nat) => decide (P' ≤ (k : Int))).map fun (k : Nat) => .int ((k : Int) - P'))) := by rw [← e6, upd_same]
              have p4 : H4 pp = some (.lst xs) := m1 _ _ (s2 _ _ hpp)
              have p6 : H6 pp = some (.lst xs) := m6 _ _ p4
              have ne1 : t1 ≠ pp := fun z => by
                subst z
                rw [t1e] at p4
                cases p4
              have ne2 : t2 ≠ pp := fun z => by
                subst z
                rw [t2e] at p6
                cases p6
              refine ⟨(by show 2 ≤ sizeLine; decide), fun t3 n3 => ⟨pp, xs, _, rfl, rfl, (same_new n3) _ _ p6, small1000 (by omega), ?_⟩⟩
              have ne3 : t3 ≠ pp := (ne_of_none p6 n3).symm
              have all : Same H (upd H6 t3 (.tup [.ref t1, .ref t2])) := (((sm.trans s2).trans m1).trans m6).trans (same_new n3)
              refine ⟨xs ++ [.ref t3], _, _, _, rfl, fun b o z => ?_, upd_same, ?_⟩
              · rw [upd_ne (ne_of_none z np)]
                exact all b o z
              · rw [off_upd, filter_range, hc, if_pos (by decide)]
                refine (DqAll.same (off_of (((s2.trans m1).trans m6).trans (same_new n3))) _ hd).snoc (.tup (off_at ne3 upd_same) (.cons (.tup (off_at ne1 ((same_new n3) _ _ (m6 _ _ t1e))) ?_) (.cons (.tup (off_at ne2 ((same_new n3) _ _ t2e)) ?_) .nil)))
                · exact dq_ints (fun (k : Nat) => (k : Int)) _
                · exact dq_ints (fun (k : Nat) => (k : Int) - P') _
    · obtain ⟨xs, y3, y4, y5, rfl, sm, hpp, hd⟩ := hP
      refine ⟨_, rfl, pp, xs, rfl, .inl ⟨SqL.of hpp, fun t nt => ?_⟩⟩
      refine q _ _ (sm.trans (same_new nt)) (.tup upd_same ?_)
      have e : ((ls.map V.int).length : Int).toNat = ls.length := by simp
      rw [e] at hd
      exact DqAll.same ((off_same).trans (same_new nt)) _ hd
end
end K02
set_option Elab.async false
set_option linter.all false
set_option maxRecDepth 100000
set_option maxHeartbeats 4000000
set_option exponentiation.threshold 5000
namespace K02
open PySem PySem.Spec PyProof.Rows L2 TkS
/-! pairs as data -/
theorem prD_datum (p : Int × Int) : prD p = PySem.W.Datum.toD p := rfl
theorem eqv_pr (p q : Int × Int) : PyData.eqv (prD p) (prD q) = decide (p = q) := PySem.W.Datum.eqv p q
theorem eqv_prs (ps qs : List (Int × Int)) : PyData.eqvAll (ps.map prD) (qs.map prD) = decide (ps = qs) := PySem.W.eqvAll_map ps qs
theorem any_pr (ps : List (Int × Int)) (p : Int × Int) : ((ps.map prD).any fun d => PyData.eqv d (prD p)) = decide (p ∈ ps) := (PySem.W.any_datum ps p).trans (decide_eq_decide.mpr Iff.rfl)
theorem shaped_pr (p : Int × Int) : SeqAt.shaped (prD p) = true := by
  simp [SeqAt.shaped, prD, PyData.canLay0, PyData.canLayAll0, PyData.depth, PyData.depthAll]
theorem lay_prs : ∀ ps : List (Int × Int), PyData.canLayAll0 (ps.map prD) = true ∧ PyData.depthAll (ps.map prD) ≤ 1
  | [] => ⟨rfl, Nat.zero_le _⟩
  | p :: ps => by
    have h := lay_prs ps
    constructor
    · simp [PyData.canLayAll0, prD, PyData.canLay0] at h ⊢
      exact h.1
    · simp [PyData.depthAll, prD, PyData.depth] at h ⊢
      exact Nat.max_le.mpr ⟨Nat.le_refl _, h.2⟩
theorem shaped_prs (ps : List (Int × Int)) : SeqAt.shaped (.tuple (ps.map prD)) = true := by
  have h := lay_prs ps
  simp [SeqAt.shaped, PyData.canLay0, PyData.depth, h.1]
  omega
theorem shaped_prs_l (ps : List (Int × Int)) : SeqAt.shaped (.list (ps.map prD)) = true := by
  have h := lay_prs ps
  simp [SeqAt.shaped, PyData.canLay0, PyData.depth, h.1]
  omega
def wholeD (d : PyData) (lo hi : Int) : Bool := match d with | .int i => decide (lo ≤ i) && decide (i ≤ hi) | _ => false
theorem wi_dq {H : Hp} {x : V} {d : PyData} {lo hi : Int} (k : Dq H x d) : wholeIn x (.int lo) (.int hi) = wholeD d lo hi := by cases k <;> rfl
theorem wholeD_of {d : PyData} {lo hi : Int} (h : wholeD d lo hi = true) : ∃ i, d = .int i ∧ lo ≤ i ∧ i ≤ hi := by
  cases d with
  | int i =>
    have h' : (decide (lo ≤ i) && decide (i ≤ hi)) = true := h
    rw [Bool.and_eq_true, decide_eq_true_iff, decide_eq_true_iff] at h'
    exact ⟨i, rfl, h'⟩
  | _ => cases h
def isPair (P W : Int) (d : PyData) : Bool := match itemsD d with | some [a, b] => wholeD a 0 (P - 1) && wholeD b 0 (W - 1) | _ => false
def prOf (d : PyData) : Int × Int := match itemsD d with | some [.int a, .int b] => (a, b) | _ => (0, 0)
theorem prOf_prD (p : Int × Int) : prOf (prD p) = p := rfl
theorem isPair_of {P W : Int} {d : PyData} (h : isPair P W d = true) : itemsD d = some [.int (prOf d).1, .int (prOf d).2] ∧ 0 ≤ (prOf d).1 ∧ (prOf d).1 < P ∧ 0 ≤ (prOf d).2 ∧ (prOf d).2 < W := by
  unfold isPair at h
  split at h
  · rename_i a b e
    rw [Bool.and_eq_true] at h
    obtain ⟨i, rfl, h1, h2⟩ := wholeD_of h.1
    obtain ⟨j, rfl, h3, h4⟩ := wholeD_of h.2
    unfold prOf
    rw [e]
    exact ⟨rfl, h1, by show i < P; omega, h3, by show j < W; omega⟩
  · cases h
theorem isPair_prD {P W : Int} {p : Int × Int} : isPair P W (prD p) = true ↔ 0 ≤ p.1 ∧ p.1 < P ∧ 0 ≤ p.2 ∧ p.2 < W := by
  constructor
  · intro h
    exact (isPair_of h).2
  · rintro ⟨h1, h2, h3, h4⟩
    show (decide (0 ≤ p.1) && decide (p.1 ≤ P - 1) && (decide (0 ≤ p.2) && decide (p.2 ≤ W - 1))) = true
    simp
    omega
/-! sorted lists of pairs -/
def leP (p q : Int × Int) : Prop := SrtO.lexB q p = false
theorem leP_iff {p q : Int × Int} : leP p q ↔ p.1 < q.1 ∨ (p.1 = q.1 ∧ p.2 ≤ q.2) := by
  unfold leP
  rw [SrtO.lexB_no]
  omega
def leB (p q : Int × Int) : Bool := !SrtO.lexB q p
def srt (l : List (Int × Int)) : List (Int × Int) := l.mergeSort leB
theorem leB_iff {p q : Int × Int} : leB p q = true ↔ leP p q := by
  unfold leB leP
  cases SrtO.lexB q p <;> simp
theorem srt_sorted (l : List (Int × Int)) : (srt l).Pairwise leP := by
  have h := List.pairwise_mergeSort (le := leB) (fun a b c h1 h2 => leB_iff.mpr (by
    have a1 := leP_iff.mp (leB_iff.mp h1)
    have a2 := leP_iff.mp (leB_iff.mp h2)
    exact leP_iff.mpr (by omega))) (fun a b => by
    by_cases h : leB a b = true
    · rw [h]
      rfl
    · have h2 : leB b a = true := leB_iff.mpr (leP_iff.mpr (by
        have n : ¬ leP a b := fun z => h (leB_iff.mpr z)
        rw [leP_iff] at n
        omega))
      rw [h2]
      simp) l
  exact h.imp fun z => leB_iff.mp z
theorem srt_perm (l : List (Int × Int)) : (srt l).Perm l := List.mergeSort_perm l leB
theorem srt_len (l : List (Int × Int)) : (srt l).length = l.length := (srt_perm l).length_eq
theorem srt_uniq {l m : List (Int × Int)} (h : l.Pairwise leP) (p : l.Perm m) : l = srt m :=
  List.Perm.eq_of_pairwise (le := leP) (fun a b _ _ h1 h2 => by
    have a1 := leP_iff.mp h1
    have a2 := leP_iff.mp h2
    exact Prod.ext (by omega) (by omega)) h (srt_sorted m) (p.trans (srt_perm m).symm)
def Asc (l : List (Int × Int)) : Prop := l.Pairwise fun p q => SrtO.lexB p q = true
theorem asc_le {l : List (Int × Int)} (h : Asc l) : l.Pairwise leP := h.imp fun z => leP_iff.mpr (by
  have := SrtO.lexB_iff.mp z
  omega)
theorem asc_nodup {l : List (Int × Int)} (h : Asc l) : l.Nodup := h.imp fun {a b} z e => by
  subst e
  have := SrtO.lexB_iff.mp z
  omega
theorem asc_of {l : List (Int × Int)} (h : l.Pairwise leP) (n : l.Nodup) : Asc l := by
  have := List.Pairwise.and h n
  exact this.imp fun {a b} z => SrtO.lexB_iff.mpr (by
    have z1 := leP_iff.mp z.1
    have z2 : ¬ (a.1 = b.1 ∧ a.2 = b.2) := fun e => z.2 (Prod.ext e.1 e.2)
    omega)
/-- equal neighbours tell of a double -/
theorem twins {l : List (Int × Int)} (h : l.Pairwise leP) (n : ∀ i, 1 ≤ i → i < l.length → l.getD (i - 1) (0, 0) ≠ l.getD i (0, 0)) : l.Nodup := by
  induction l with
  | nil => exact .nil
  | cons a r ih =>
    cases r with
    | nil => exact List.pairwise_singleton _ _
    | cons b r =>
      have h2 := (List.pairwise_cons.mp h).2
      have nd : (b :: r).Nodup := ih h2 fun i i1 i2 => by
        have := n (i + 1) (by omega) (by simp at i2 ⊢; omega)
        have e : i + 1 - 1 = (i - 1) + 1 := by omega
        rw [e] at this
        exact this
      refine List.nodup_cons.mpr ⟨fun m => ?_, nd⟩
      have hab : a ≠ b := n 1 (by omega) (by simp)
      have l1 : leP a b := (List.pairwise_cons.mp h).1 b List.mem_cons_self
      rcases List.mem_cons.mp m with e | e
      · exact hab e
      · have l2 : leP b a := (List.pairwise_cons.mp h2).1 a e
        have z1 := leP_iff.mp l1
        have z2 := leP_iff.mp l2
        exact hab (Prod.ext (by omega) (by omega))
/-! pictures -/
structure Pic (C : Addr) (H : Hp) (a : Addr) (P W : Int) (ps : List (Int × Int)) : Prop where
  at_ : ∃ (dx t : Addr) (v : V) (xs : List V), H a = some (.ins C dx [("points", .int P), ("walls", .int W), ("pairs", .ref t), ("_pieces", v)]) ∧ Frz H t xs ∧ DqAll H xs (ps.map prD) ∧ Dq H v (.tuple (piecesD P (marks P W ps)))
  ok : 1 ≤ P ∧ P ≤ 5 ∧ 1 ≤ W ∧ W ≤ 5
  ins : Ins P W ps
  asc : Asc ps
theorem Pic.same {C : Addr} {H H' : Hp} {a : Addr} {P W : Int} {ps : List (Int × Int)} (h : Pic C H a P W ps) (s : Same H H') : Pic C H' a P W ps := by
  obtain ⟨⟨dx, t, v, xs, h1, h2, h2', h3⟩, h4, h5, h6⟩ := h
  exact ⟨⟨dx, t, v, xs, s _ _ h1, h2.same s, DqAll.same s _ h2', h3.same s⟩, h4, h5, h6⟩
def wordD (p w ps : PyData) : Option Str :=
  if wholeD p 1 5 = true then
    if wholeD w 1 5 = true then
      match p, w, itemsD ps with
      | .int P, .int W, some ds => if ds.all (isPair P W) = true then (if (ds.map prOf).Nodup then none else some "double") else some "pair"
      | _, _, _ => some "pair"
    else some "walls"
  else some "points"
def sp_is_pair (C : Addr) : Sp := fun vs H Q _ => ∃ (a dx : Addr) (x : V) (d : PyData) (P W : Int) (fs : List (Str × V)), vs = [.ref a, x] ∧ H a = some (.ins C dx fs) ∧ fs.lookup ("points" : Str) = some (.int P) ∧ fs.lookup ("walls" : Str) = some (.int W) ∧ Dq H x d ∧
  ∀ H', Same H H' → Q (.bl (isPair P W d)) H'
section
variable {P : Program} {w : World} {K : PySem.W.Frag} {mg : Str → Option Value} {base : Heap}
theorem ok_is_pair (T : Txt K mg) : FnOk P w K mg base CX0 2 T.f_Pictureis_pair T.d_Pictureis_pair ["self", "thing"] (sp_is_pair T.C_Picture) := by
  refine T.F_Pictureis_pair.ok sc_Pictureis_pair (fun vs H Q E h => ?_) (fun cdv A outer s H vs Q E hr h => ?_)
  · obtain ⟨a, dx, x, d, P', W, fs, rfl, _⟩ := h
    rfl
  · obtain ⟨a, dx, x, d, P', W, fs, rfl, ha, hp, hw, hk, q⟩ := h
    refine ⟨_, (pss_one (ps_ret (pe_and (pe_call (ok_is_sequence T) (hr.mono (by decide)) (by rfl) T.g_is_sequence T.F_is_sequence.kp T.b_is_sequence .nil pass0 (pa_cons (pv 1) (pa_cons pe_int pa_nil))) (pe_and (pe_call (ok_is_whole T) (hr.mono (by decide)) (by rfl) T.g_is_whole T.F_is_whole.kp T.b_is_whole .nil pass0 (pa_cons (pe_ix ix_seq (pv 1) pe_int (fun _ _ => rfl)) (pa_cons pe_int (pa_cons (pe_op op_sub (pe_fld (pv 0) rfl) pe_int) pa_nil)))) (pe_one (pe_call (ok_is_whole T) (hr.mono (by decide)) (by rfl) T.g_is_whole T.F_is_whole.kp T.b_is_whole .nil pass0 (pa_cons (pe_ix ix_seq (pv 1) pe_int (fun _ _ => rfl)) (pa_cons pe_int (pa_cons (pe_op op_sub (pe_fld (pv 0) rfl) pe_int) pa_nil))))))))), ?_⟩
    refine ⟨x, rfl, x, .int 2, d, rfl, hk, .inr ⟨2, rfl⟩, fun H1 s1 => ?_⟩
    have hk1 := hk.same s1
    have no : seqIs d (.int 2) = false → isPair P' W d = false := fun z => by
      unfold seqIs at z
      unfold isPair
      cases e : itemsD d with
      | none => rfl
      | some ds =>
        rw [e] at z
        match ds, z with
        | [], _ => rfl
        | [_], _ => rfl
        | [_, _], z => exact (of_decide_eq_false z rfl).elim
        | _ :: _ :: _ :: _, _ => rfl
    cases hz : seqIs d (.int 2) with
    | false =>
      have q' := q _ s1
      rw [no hz] at q'
      exact ⟨_, rfl, iteF q'⟩
    | true =>
      obtain ⟨a0, a1, e⟩ : ∃ a0 a1, itemsD d = some [a0, a1] := by
        unfold seqIs at hz
        cases e : itemsD d with
        | none =>
          rw [e] at hz
          cases hz
        | some ds =>
          rw [e] at hz
          match ds, hz with
          | [], z => exact absurd z (by decide)
          | [_], z => exact absurd (show ((1 : Nat) : Int) = 2 from of_decide_eq_true z) (by decide)
          | [a, b], _ => exact ⟨a, b, rfl⟩
          | a :: b :: c :: r, z =>
            exfalso
            have z' : ((r.length + 1 + 1 + 1 : Nat) : Int) = 2 := of_decide_eq_true z
            omega
      obtain ⟨p, xs, rfl, hxs, hsq⟩ := sq_of (K := K) hk1 e
      cases hxs with
      | cons k0 t =>
        cases t with
        | cons k1 t =>
          cases t
          rename_i v0 v1
          have ix : ∀ (i : Int) (v : V) (Q' : VK), atI [v0, v1] i = some v → Q' v H1 → rIx K (.ref p) (.int i) H1 Q' := fun i v Q' hv qv =>
            hsq.elim (fun h => .inl ⟨p, _, i, v, rfl, rfl, h, hv, qv⟩) (fun h => .inr (.inl ⟨p, _, i, v, rfl, rfl, h, hv, qv⟩))
          have e2 : isPair P' W d = (wholeD a0 0 (P' - 1) && wholeD a1 0 (W - 1)) := by
            unfold isPair
            rw [e]
          have ha1 := s1 _ _ ha
          refine ⟨_, rfl, iteT ⟨_, rfl, ix 0 v0 _ rfl ⟨_, rfl, a, T.C_Picture, dx, fs, _, rfl, ha1, T.cl_Picture, T.na_points, hp, P', 1, rfl, rfl, v0, .int 0, .int (P' - 1), a0, rfl, k0, .inr ⟨0, rfl⟩, .inr ⟨_, rfl⟩, ?_⟩⟩⟩
          rw [wi_dq k0]
          have q' := q _ s1
          rw [e2] at q'
          cases b0 : wholeD a0 0 (P' - 1) with
          | false =>
            rw [b0] at q'
            exact ⟨_, rfl, iteF q'⟩
          | true =>
            rw [b0] at q'
            refine ⟨_, rfl, iteT ⟨_, rfl, ix 1 v1 _ rfl ⟨_, rfl, a, T.C_Picture, dx, fs, _, rfl, ha1, T.cl_Picture, T.na_walls, hw, W, 1, rfl, rfl, v1, .int 0, .int (W - 1), a1, rfl, k1, .inr ⟨0, rfl⟩, .inr ⟨_, rfl⟩, ?_⟩⟩⟩
            rw [wi_dq k1]
            exact q'
end
end K02
set_option Elab.async false
set_option linter.all false
set_option maxRecDepth 100000
set_option maxHeartbeats 4000000
set_option exponentiation.threshold 5000
namespace K02
open PySem PySem.Spec PyProof.Rows L2 TkS
/-! stores to an instance leave data as it is -/
mutual
theorem dq_put {H : Hp} {a C dx : Addr} {fs : List (Str × V)} {o : HO} (h : H a = some (.ins C dx fs)) : ∀ {v : V} (d : PyData), Dq H v d → Dq (upd H a o) v d
  | _, .none, .non => .non
  | _, .bool _, .bl b => .bl b
  | _, .int _, .int i => .int i
  | _, .str _, .str x => .str x
  | _, .list _, .lst e t => .lst (by
      rw [upd_ne (fun z => by rw [z, h] at e; cases e)]
      exact e) (dqAll_put h _ t)
  | _, .tuple _, .tup e t => .tup (by
      rw [upd_ne (fun z => by rw [z, h] at e; cases e)]
      exact e) (dqAll_put h _ t)
theorem dqAll_put {H : Hp} {a C dx : Addr} {fs : List (Str × V)} {o : HO} (h : H a = some (.ins C dx fs)) : ∀ {vs : List V} (ds : List PyData), DqAll H vs ds → DqAll (upd H a o) vs ds
  | _, [], .nil => .nil
  | _, _ :: _, .cons k t => .cons (dq_put h _ k) (dqAll_put h _ t)
end
theorem sq_put {K : PySem.W.Frag} {H : Hp} {a C dx p : Addr} {fs : List (Str × V)} {o : HO} {d : PyData} {ds : List PyData} (h : H a = some (.ins C dx fs)) (k : Dq H (.ref p) d) (e : itemsD d = some ds) : ∃ xs, DqAll (upd H a o) xs ds ∧ Sq K (upd H a o) p xs := by
  obtain ⟨p', xs, z, h1, h2⟩ := sq_of (K := K) (dq_put (o := o) h _ k) e
  cases z
  exact ⟨xs, h1, h2⟩
def KeepA (a : Addr) (H H' : Hp) : Prop := ∀ b o, H b = some o → b ≠ a → H' b = some o
theorem KeepA.same {a : Addr} {H H1 H2 : Hp} (k : KeepA a H H1) (s : Same H1 H2) : KeepA a H H2 := fun b o e n => s _ _ (k b o e n)
theorem KeepA.put {a : Addr} {H H1 : Hp} {o : HO} (k : KeepA a H H1) : KeepA a H (upd H1 a o) := fun b x e n => by
  rw [upd_ne n]
  exact k b x e n
def prV (H : Hp) : V → Int × Int
  | .ref t => match H t with
    | some (.tup [.int a, .int b]) => (a, b)
    | _ => (0, 0)
  | _ => (0, 0)
theorem prV_of {H : Hp} {x : V} {p : Int × Int} (k : Dq H x (prD p)) : prV H x = p ∧ ∃ t, x = .ref t ∧ H t = some (.tup [.int p.1, .int p.2]) := by
  cases k with
  | tup e t =>
    cases t with
    | cons u v =>
      cases v with
      | cons u' v' =>
        cases v'
        cases u
        cases u'
        refine ⟨?_, _, rfl, e⟩
        unfold prV
        simp only [e]
theorem prV_map {H : Hp} : ∀ {xs : List V} {l : List (Int × Int)}, DqAll H xs (l.map prD) → xs.map (prV H) = l ∧ ∀ x ∈ xs, Dq H x (prD (prV H x)) ∧ ∃ t, x = .ref t ∧ H t = some (.tup [.int (prV H x).1, .int (prV H x).2])
  | _, [], .nil => ⟨rfl, fun x m => nomatch m⟩
  | _, p :: l, .cons k t => by
    obtain ⟨e1, t1, e2, e3⟩ := prV_of k
    obtain ⟨f1, f2⟩ := prV_map t
    refine ⟨by rw [List.map_cons, e1, f1], fun x m => ?_⟩
    rcases List.mem_cons.mp m with z | m
    · subst z
      rw [e1]
      exact ⟨k, t1, e2, e3⟩
    · exact f2 x m
theorem dqAll_by {H : Hp} {k : V → Int × Int} : ∀ {xs : List V}, (∀ x ∈ xs, Dq H x (prD (k x))) → DqAll H xs ((xs.map k).map prD)
  | [], _ => .nil
  | x :: xs, h => .cons (h x List.mem_cons_self) (dqAll_by fun y m => h y (List.mem_cons_of_mem _ m))
theorem two_ints {H H' : Hp} {xs : List V} {i j : Int} (h : DqAll H xs [.int i, .int j]) : xs = [.int i, .int j] ∧ DqAll H' xs [.int i, .int j] := by
  cases h with
  | cons u v =>
    cases v with
    | cons u' v' =>
      cases v'
      cases u
      cases u'
      exact ⟨rfl, .cons (.int _) (.cons (.int _) .nil)⟩
theorem sorted_is {k : V → Int × Int} {ys zs : List V} {l : List (Int × Int)} (e : ys.map k = l) (s : SrtO.Srtd (ltP k) zs) (b : SrtO.Stb (ltP k) zs ys) : zs.map k = srt l := by
  refine srt_uniq ?_ (by rw [← e]; exact b.perm.map k)
  rw [List.pairwise_map]
  exact s
theorem asg_cb_lc {r : List V → Hp → VK → Prop} {wi : TI} {g : TG} {tt : TT} {te : TE} {vs : List Nat} {gi : TG} {rest : TS} {D : Ends} {σ : L2.St} {H : Hp} (h : tLc wi g tt te vs σ H fun v H1 => r [v] H1 fun x H2 => gi x σ H2 fun σ' H' => rest D σ' H') :
    tSeq (tAsg (tCB r (tCons (tLc wi g tt te vs) tNil)) gi) rest D σ H := h
def sp_Picture_init (C CB : Addr) : Sp := fun vs H Q E => ∃ (a dx : Addr) (p w ps : V) (dp dw dps : PyData), vs = [.ref a, p, w, ps] ∧ H a = some (.ins C dx []) ∧ Dq H p dp ∧ Dq H w dw ∧ Dq H ps dps ∧ (∀ ds, itemsD dps = some ds → ds.length ≤ 200) ∧
  (∀ e, wordD dp dw dps = some e → ∀ d H', KeepA a H H' → H' d = some (.xd [("what", .str e)]) → E (.ref CB) (some d) H') ∧
  (∀ P W ds, dp = .int P → dw = .int W → itemsD dps = some ds → wordD dp dw dps = none → ∀ H', KeepA a H H' → Pic C H' a P W (srt (ds.map prOf)) → Q .non H')
section
variable {P : Program} {w : World} {K : PySem.W.Frag} {mg : Str → Option Value} {base : Heap}
theorem ok_Picture_init (T : Txt K mg) : FnOk P w K mg base (L2.CX P w) 4 T.f_Picture_init T.d_Picture_init ["self", "points", "walls", "pairs"] (sp_Picture_init T.C_Picture T.C_BadPicture) := by
  refine T.F_Picture_init.okX sc_Picture_init (fun vs H Q E h => ?_) (fun cdv A outer s H vs Q E hr h => ?_)
  · obtain ⟨a, dx, p, w, ps, dp, dw, dps, rfl, _⟩ := h
    rfl
  · obtain ⟨a, dx, p, w, ps, dp, dw, dps, rfl, ha, kp, kw, kps, hlen, hE, hQ⟩ := h
    refine ⟨_, (pss_cons (ps_if (pt_not (pt_val (pe_call (ok_is_whole T) (hr.mono (by decide)) (by rfl) T.g_is_whole T.F_is_whole.kp T.b_is_whole .nil pass0 (pa_cons (pv 1) (pa_cons pe_int (pa_cons (pe_glob (v := .int 5) rfl T.c_MOST_CORNERS_pictures ⟨_, rfl⟩) pa_nil))))))
        (pss_one (ps_raise (W := fun cls d _ H => E cls d H) rfl (takes_of rfl rfl rfl rfl) (pmk_oex T.o_BadPicture T.i_BadPicture T.t_BadPicture (ok_BadPicture_init T) (hr.mono (by decide)) T.b_BadPicture_init .nil pass0 (by rfl) T.g_BadPicture (pa_cons pe_str pa_nil))))
        pss_nil)
      (pss_cons (ps_if (pt_not (pt_val (pe_call (ok_is_whole T) (hr.mono (by decide)) (by rfl) T.g_is_whole T.F_is_whole.kp T.b_is_whole .nil pass0 (pa_cons (pv 2) (pa_cons pe_int (pa_cons (pe_glob (v := .int 5) rfl T.c_MOST_CORNERS_pictures ⟨_, rfl⟩) pa_nil))))))
        (pss_one (ps_raise (W := fun cls d _ H => E cls d H) rfl (takes_of rfl rfl rfl rfl) (pmk_oex T.o_BadPicture T.i_BadPicture T.t_BadPicture (ok_BadPicture_init T) (hr.mono (by decide)) T.b_BadPicture_init .nil pass0 (by rfl) T.g_BadPicture (pa_cons pe_str pa_nil))))
        pss_nil)
      (pss_cons (ps_fld (pv 0) (pv 1) rfl)
      (pss_cons (ps_fld (pv 0) (pv 2) rfl)
      (pss_cons (ps_if (pt_not (pt_val (pe_call (ok_is_sequence T) (hr.mono (by decide)) (by rfl) T.g_is_sequence T.F_is_sequence.kp T.b1_is_sequence (show L2.Vals [.non] [.none] from .cons rfl .nil) pass0 (pa_cons (pv 3) pa_nil))))
        (pss_one (ps_raise (W := fun cls d _ H => E cls d H) rfl (takes_of rfl rfl rfl rfl) (pmk_oex T.o_BadPicture T.i_BadPicture T.t_BadPicture (ok_BadPicture_init T) (hr.mono (by decide)) T.b_BadPicture_init .nil pass0 (by rfl) T.g_BadPicture (pa_cons pe_str pa_nil))))
        pss_nil)
      (pss_cons (ps_for (by exact passes_of rfl) rfl (pi_seq (pv 3)) (pg_name (i := 4) sc_Picture_init.nd rfl (.inl rfl))
        (pss_one (ps_if (pt_not (pt_val (pe_meth (pv 0) T.cl_Picture T.M_is_pair (ok_is_pair T) (hr.mono (by decide)) T.b_Pictureis_pair .nil pass0 (pa_cons (pv 4) pa_nil))))
          (pss_one (ps_raise (W := fun cls d _ H => E cls d H) rfl (takes_of rfl rfl rfl rfl) (pmk_oex T.o_BadPicture T.i_BadPicture T.t_BadPicture (ok_BadPicture_init T) (hr.mono (by decide)) T.b_BadPicture_init .nil pass0 (by rfl) T.g_BadPicture (pa_cons pe_str pa_nil))))
          pss_nil)))
      (pss_cons (ps_set (i := 5) sc_Picture_init.nd rfl (.inl rfl) (pe_callB cr_sortedPO (by rfl) T.m_sorted (by decide +kernel) (pa_cons (pe_lc rfl sc_Picture_init.nd (pi_seq (pv 3)) (blkOk_by (own := [("pair", 4)]) (N := ["self", "points", "walls", "pairs", "pair", "kept", "at"]) (sc := defScope s_Picture_init) (by decide +kernel)) (fun _ _ _ _ _ => (pg_name (i := 4) sc_Picture_init.nd rfl (.inl rfl))) (fun _ _ _ _ _ => pts_nil) (fun _ _ _ _ _ => (pe_callTy call_tupD (by rfl) T.m_tuple (by decide +kernel) (pa_cons (pv 4) pa_nil)))) pa_nil)))
      (pss_cons (ps_for (by exact passes_of rfl) rfl (pi_range2 (by rfl) T.m_range (pa_cons pe_int (pa_cons (pe_callB call_len_seq (by rfl) T.m_len (by decide +kernel) (pa_cons (pv 5) pa_nil)) pa_nil))) (pg_name (i := 6) sc_Picture_init.nd rfl (.inl rfl))
        (pss_one (ps_if (pt_cmpR (op_eqD hr.units) (pe_ix ix_list (pv 5) (pe_op op_sub (pv 6) pe_int) (fun _ _ => rfl)) (pe_ix ix_list (pv 5) (pv 6) (fun _ _ => rfl)) (nomark _))
          (pss_one (ps_raise (W := fun cls d _ H => E cls d H) rfl (takes_of rfl rfl rfl rfl) (pmk_oex T.o_BadPicture T.i_BadPicture T.t_BadPicture (ok_BadPicture_init T) (hr.mono (by decide)) T.b_BadPicture_init .nil pass0 (by rfl) T.g_BadPicture (pa_cons pe_str pa_nil))))
          pss_nil)))
      (pss_cons (ps_fld (pv 0) (pe_callTy call_tupF (by rfl) T.m_tuple (by decide +kernel) (pa_cons (pv 5) pa_nil)) rfl)
      (pss_one (ps_fld (pv 0) (pe_call (ok_pieces_by_labels T) (hr.mono (by decide)) (by rfl) T.g_pieces_by_labels T.F_pieces_by_labels.kp T.b_pieces_by_labels .nil pass0 (pa_cons (pv 1) (pa_cons (pe_call (ok_piece_labels T) (hr.mono (by decide)) (by rfl) T.g_piece_labels T.F_piece_labels.kp T.b_piece_labels .nil pass0 (pa_cons (pv 1) (pa_cons (pv 2) (pa_cons (pv 5) pa_nil)))) pa_nil))) rfl))))))))))), ?_⟩
    refine ⟨p, rfl, p, .int 1, .int 5, dp, rfl, kp, .inr ⟨_, rfl⟩, .inr ⟨_, rfl⟩, ?_⟩
    rw [wi_dq kp]
    cases b1 : wholeD dp 1 5 with
    | false =>
      exact ⟨_, rfl, iteT (mk_exc fun d H' s nd hd => hE _ (by unfold wordD; rw [b1]; rfl) d H' (fun b o e _ => s b o e) hd)⟩
    | true =>
      refine ⟨_, rfl, iteF ?_⟩
      refine ⟨w, rfl, w, .int 1, .int 5, dw, rfl, kw, .inr ⟨_, rfl⟩, .inr ⟨_, rfl⟩, ?_⟩
      rw [wi_dq kw]
      cases b2 : wholeD dw 1 5 with
      | false =>
        exact ⟨_, rfl, iteT (mk_exc fun d H' s nd hd => hE _ (by unfold wordD; rw [b1, b2]; rfl) d H' (fun b o e _ => s b o e) hd)⟩
      | true =>
        obtain ⟨P', rfl, p1, p2⟩ := wholeD_of b1
        obtain ⟨W, rfl, w1, w2⟩ := wholeD_of b2
        cases kp
        cases kw
        refine ⟨_, rfl, iteF ?_⟩
        refine ⟨_, rfl, _, rfl, a, T.C_Picture, dx, [], rfl, ha, T.cl_Picture, T.na_points, by decide, ?_⟩
        refine ⟨_, rfl, _, rfl, a, T.C_Picture, dx, _, rfl, upd_same, T.cl_Picture, T.na_walls, by simp [putF], ?_⟩
        generalize eH2 : upd (upd H a (.ins T.C_Picture dx (putF "points" (.int P') []))) a (.ins T.C_Picture dx (putF "walls" (.int W) (putF "points" (.int P') []))) = H2
        have a2 : H2 a = some (.ins T.C_Picture dx [("points", .int P'), ("walls", .int W)]) := by
          rw [← eH2, upd_same]
          rfl
        have k2 : KeepA a H H2 := by
          rw [← eH2]
          exact KeepA.put (KeepA.put fun b o e _ => e)
        have kps2 : Dq H2 ps dps := by
          rw [← eH2]
          exact dq_put upd_same _ (dq_put ha _ kps)
        refine ⟨ps, rfl, ps, .non, dps, rfl, kps2, .inl rfl, fun H3 s3 => ?_⟩
        cases e3 : itemsD dps with
        | none =>
          refine ⟨_, rfl, ?_⟩
          unfold seqIs
          rw [e3]
          exact iteT (mk_exc fun d H' s nd hd => hE _ (by unfold wordD; rw [b1, b2, e3]; rfl) d H' ((k2.same s3).same s) hd)
        | some ds =>
          have wd : wordD (.int P') (.int W) dps = if ds.all (isPair P' W) = true then (if (ds.map prOf).Nodup then (none : Option Str) else some ("double" : Str)) else some ("pair" : Str) := by
            unfold wordD
            rw [b1, b2, e3]
            rfl
          have ld := hlen ds e3
          refine ⟨_, rfl, ?_⟩
          unfold seqIs
          rw [e3]
          refine iteF ?_
          obtain ⟨pp, xs, rfl, hxs, hq⟩ := sq_of (K := K) (kps2.same s3) e3
          have a3 := s3 _ _ a2
          have k3 := k2.same s3
          have lx := hxs.len
          refine for_seq (xs := xs) (a := pp) (fun i σ H' => ∃ y4, σ = [some (.ref a), some (.int P'), some (.int W), some (.ref pp), y4, none, none] ∧ Same H3 H' ∧ ∀ d ∈ ds.take i, isPair P' W d = true) (fun Q h => ⟨_, rfl, h⟩) hq
            ⟨none, rfl, fun _ _ h => h, fun d m => by simp at m⟩ (fun i σ H' _ hP => by obtain ⟨_, _, sm, _⟩ := hP; exact sm) (fun i x σ H4 hx hP => ?_) (fun σ H4 hP => ?_)
          · obtain ⟨y4, rfl, s4, hall⟩ := hP
            obtain ⟨d, hd, kd⟩ := hxs.get hx
            refine ⟨_, rfl, a, dx, _, rfl, s4 _ _ a3, rfl, ?_⟩
            refine ⟨_, rfl, a, dx, x, d, P', W, _, rfl, s4 _ _ a3, rfl, rfl, kd.same s4, fun H5 s5 => ⟨_, rfl, ?_⟩⟩
            cases hb : isPair P' W d with
            | false =>
              refine iteT (mk_exc fun dd H' s nd hdd => hE _ ?_ dd H' ((k3.same (s4.trans s5)).same s) hdd)
              rw [wd, if_neg]
              intro z
              have := List.all_eq_true.mp z d (List.mem_of_getElem? hd)
              rw [hb] at this
              cases this
            | true =>
              refine iteF ⟨_, rfl, s4.trans s5, fun d' m => ?_⟩
              rw [List.take_add_one, hd] at m
              rcases List.mem_append.mp m with m | m
              · exact hall d' m
              · have : d' = d := by simpa using m
                rw [this]
                exact hb
          · obtain ⟨y4, rfl, s4, hall⟩ := hP
            rw [lx, List.take_length] at hall
            have k4 := k3.same s4
            have a4 := s4 _ _ a3
            have hxs4 := DqAll.same s4 _ hxs
            have hq4 := hq.same s4
            dsimp only
            refine asg_cb_lc ?_
            refine lc_seq (xs := xs) (a := pp) (fun D i H' => Same H4 H' ∧ ∃ ys, H' D = some (.lst ys) ∧ DqAll (TkS.Off D H') ys (((ds.take i).map prOf).map prD)) (fun Q h => ⟨_, rfl, h⟩) hq4
              (fun D nD => ⟨same_new nD, [], upd_same, .nil⟩) (fun D i H' nD _ hP => hP.1) (fun D i x H' nD hx hP => ?_) (fun D H' nD hP => ?_)
            · obtain ⟨s5, ys, hD, hy⟩ := hP
              obtain ⟨d, hd, kd⟩ := hxs4.get hx
              obtain ⟨f1, f2⟩ := isPair_of (hall d (List.mem_of_getElem? hd))
              have ly := hy.len
              rw [List.length_map, List.length_map, List.length_take] at ly
              refine ⟨rfl, x, rfl, x, d, _, rfl, kd.same s5, f1, fun l H6 s6 k6 => ⟨ys, s6 _ _ hD, small1000 (by omega), fun b o e => ?_, ys ++ [.ref l], upd_same, ?_⟩⟩
              · rw [upd_ne (ne_of_none e nD)]
                exact s6 _ _ (s5 _ _ e)
              · rw [off_upd, List.take_add_one, hd]
                show DqAll _ _ (((ds.take i ++ [d]).map prOf).map prD)
                rw [List.map_append, List.map_append]
                refine (DqAll.same (off_of s6) _ hy).snoc ?_
                have n6 : l ≠ D := fun z => by
                  subst z
                  have e6 := s6 _ _ hD
                  cases k6 with
                  | tup e7 _ =>
                    rw [e6] at e7
                    cases e7
                cases k6 with
                | tup e7 t7 =>
                  exact .tup (off_at n6 e7) (two_ints t7).2
            · obtain ⟨s5, ys, hD, hy⟩ := hP
              rw [lx, List.take_length] at hy
              have hy' : DqAll H' ys ((ds.map prOf).map prD) := DqAll.same off_same _ hy
              obtain ⟨m1, m2⟩ := prV_map hy'
              refine ⟨D, ys, prV H', rfl, SqL.of hD, fun x m => (m2 x m).2, fun zs p srt1 stb1 np => ?_⟩
              have hz := sorted_is m1 srt1 stb1
              have hz2 : DqAll (upd H' p (.lst zs)) zs ((srt (ds.map prOf)).map prD) := by
                rw [← hz]
                exact DqAll.same (same_new np) _ (dqAll_by fun x m => (m2 x (stb1.perm.mem_iff.mp m)).1)
              have s6 : Same H4 (upd H' p (.lst zs)) := s5.trans (same_new np)
              have hp6 : (upd H' p (.lst zs)) p = some (.lst zs) := upd_same
              generalize upd H' p (.lst zs) = H6 at hz2 s6 hp6
              have lz : zs.length = ds.length := by rw [stb1.perm.length_eq, ← lx, lx, hy'.len, List.length_map, List.length_map]
              have nds : ∀ i, 1 ≤ i → i < (srt (ds.map prOf)).length → (srt (ds.map prOf)).getD (i - 1) (0, 0) = (srt (ds.map prOf)).getD i (0, 0) → ¬ (ds.map prOf).Nodup := fun i h1 h2 he nd => by
                have nd2 : (srt (ds.map prOf)).Nodup := (srt_perm _).nodup_iff.mpr nd
                rw [List.getD_eq_getElem?_getD, List.getD_eq_getElem?_getD, List.getElem?_eq_getElem (by omega : i - 1 < _), List.getElem?_eq_getElem h2] at he
                exact List.pairwise_iff_getElem.mp nd2 (i - 1) i (by omega) h2 (by omega) he
              have kall : ds.all (isPair P' W) = true := List.all_eq_true.mpr hall
              have lsr : (srt (ds.map prOf)).length = zs.length := by rw [srt_len, List.length_map, lz]
              refine ⟨_, rfl, p, zs, rfl, .inl (SqL.of hp6), 1, (zs.length : Int), rfl, ⟨by decide, by decide, by omega, by omega⟩, for_range (lo := 1) (n := ((zs.length : Int) - 1).toNat)
                (fun i σ H7 => ∃ y6, σ = [some (.ref a), some (.int P'), some (.int W), some (.ref pp), y4, some (.ref p), y6] ∧ H6 = H7 ∧ ∀ j, 1 ≤ j → j < i + 1 → (srt (ds.map prOf)).getD (j - 1) (0, 0) ≠ (srt (ds.map prOf)).getD j (0, 0))
                ⟨none, rfl, rfl, fun j h1 h2 => by omega⟩ (fun i σ H7 hi hP => ?_) (fun σ H7 hP => ?_)⟩
              · obtain ⟨y6, rfl, rfl, nt⟩ := hP
                have hi' : i + 1 < zs.length := by omega
                have at_ : ∀ j, j < zs.length → ∃ z, zs[j]? = some z ∧ Dq H6 z (prD ((srt (ds.map prOf)).getD j (0, 0))) := fun j hj => by
                  obtain ⟨d, e1, e2⟩ := hz2.get (List.getElem?_eq_getElem hj)
                  refine ⟨_, List.getElem?_eq_getElem hj, ?_⟩
                  rw [List.getElem?_map] at e1
                  obtain ⟨q, e3, rfl⟩ := Option.map_eq_some_iff.mp e1
                  rw [List.getD_eq_getElem?_getD, e3]
                  exact e2
                obtain ⟨z0, g0, k0⟩ := at_ i (by omega)
                obtain ⟨z1, g1, k1⟩ := at_ (i + 1) hi'
                refine ⟨_, rfl, _, rfl, (1 + (i : Int)), 1, rfl, rfl, p, zs, (i : Int), z0, rfl, by show V.int (1 + (i : Int) - 1) = _; rw [show (1 + (i : Int) - 1) = (i : Int) by omega], SqL.of hp6, at_of (j := i) (by omega) g0, ?_⟩
                refine ⟨_, rfl, _, rfl, p, zs, (1 + (i : Int)), z1, rfl, rfl, SqL.of hp6, at_of (j := i + 1) (by omega) g1, ?_⟩
                refine ⟨_, _, k0.dp, k1.dp, shaped_pr _, shaped_pr _, _, rfl, ?_⟩
                rw [eqv_pr]
                by_cases c : (srt (ds.map prOf)).getD i (0, 0) = (srt (ds.map prOf)).getD (i + 1) (0, 0)
                · rw [decide_eq_true c]
                  refine iteT (mk_exc fun dd H' s nd hdd => hE _ ?_ dd H' ((k4.same s6).same s) hdd)
                  rw [wd, if_pos kall, if_neg (nds (i + 1) (by omega) (by omega) c)]
                · rw [decide_eq_false c]
                  refine iteF ⟨_, rfl, rfl, fun j h1 h2 => ?_⟩
                  by_cases e : j = i + 1
                  · subst e
                    exact c
                  · exact nt j h1 (by omega)
              · obtain ⟨y6, rfl, rfl, nt⟩ := hP
                have nd0 : (srt (ds.map prOf)).Nodup := twins (srt_sorted _) fun j h1 h2 => nt j h1 (by omega)
                have nd : (ds.map prOf).Nodup := (srt_perm _).nodup_iff.mp nd0
                have hins : Ins P' W (srt (ds.map prOf)) := fun q m => by
                  obtain ⟨d, md, rfl⟩ := List.mem_map.mp ((srt_perm _).mem_iff.mp m)
                  exact (isPair_of (hall d md)).2
                have a6 := s6 _ _ (s4 _ _ a3)
                have k6 := k4.same s6
                refine ⟨_, rfl, p, zs, rfl, SqL.of hp6, fun t H7 s7 nt ft => ?_⟩
                have a7 := s7 _ _ a6
                refine ⟨_, rfl, a, T.C_Picture, dx, _, rfl, a7, T.cl_Picture, T.na_pairs, by simp, ?_⟩
                have nta : t ≠ a := fun z => by
                  obtain ⟨o, f1, _⟩ := ft
                  rw [z, a7] at f1
                  cases f1
                have ft8 : Frz (upd H7 a (.ins T.C_Picture dx (putF "pairs" (.ref t) [("points", .int P'), ("walls", .int W)]))) t zs := by
                  obtain ⟨o, f1, f2⟩ := ft
                  exact ⟨o, by rw [upd_ne nta]; exact f1, f2⟩
                have hp8 : (upd H7 a (.ins T.C_Picture dx (putF "pairs" (.ref t) [("points", .int P'), ("walls", .int W)]))) p = some (.lst zs) := by
                  rw [upd_ne (fun z => by
                    have q9 := s7 _ _ hp6
                    rw [z, a7] at q9
                    cases q9)]
                  exact s7 _ _ hp6
                have hz8 := dqAll_put (o := .ins T.C_Picture dx (putF "pairs" (.ref t) [("points", .int P'), ("walls", .int W)])) a7 _ (DqAll.same s7 _ hz2)
                have k8 : KeepA a H (upd H7 a (.ins T.C_Picture dx (putF "pairs" (.ref t) [("points", .int P'), ("walls", .int W)]))) := (k6.same s7).put
                have a8 : (upd H7 a (.ins T.C_Picture dx (putF "pairs" (.ref t) [("points", .int P'), ("walls", .int W)]))) a = some (.ins T.C_Picture dx [("points", .int P'), ("walls", .int W), ("pairs", .ref t)]) := upd_same
                generalize upd H7 a (.ins T.C_Picture dx (putF "pairs" (.ref t) [("points", .int P'), ("walls", .int W)])) = H8 at ft8 hp8 hz8 k8 a8
                refine ⟨_, rfl, _, rfl, _, rfl, _, rfl, P', W, p, zs, srt (ds.map prOf), rfl, by omega, by omega, by omega, SqL.of hp8, hz8, hins, fun H9 q9 s9 hq9 => ?_⟩
                refine ⟨P', q9, marks P' W (srt (ds.map prOf)), rfl, SqL.of hq9, by rw [marks_len]; omega, fun H10 v s10 kv => ?_⟩
                have a10 := s10 _ _ (s9 _ _ a8)
                have s8 : Same H8 H10 := s9.trans s10
                refine ⟨_, rfl, a, T.C_Picture, dx, _, rfl, a10, T.cl_Picture, T.na_pieces, by simp, ?_⟩
                refine hQ P' W ds rfl rfl e3 (by rw [wd, if_pos kall, if_pos nd]) _ (((k8.same s9).same s10).put) ⟨⟨dx, t, v, zs, upd_same, ?_, dqAll_put a10 _ (DqAll.same s8 _ hz8), dq_put a10 _ kv⟩, ⟨p1, p2, w1, w2⟩, hins, asc_of (srt_sorted _) nd0⟩
                obtain ⟨o, f1, f2⟩ := ft8.same s8
                exact ⟨o, by rw [upd_ne nta]; exact f1, f2⟩
end
end K02
set_option Elab.async false
set_option linter.all false
set_option maxRecDepth 100000
set_option maxHeartbeats 4000000
set_option exponentiation.threshold 5000
namespace K02
open PySem PySem.Spec PyProof.Rows L2 TkS
/-- all pairs -/
def fullPs (p w : Nat) : List (Int × Int) := (List.range p).flatMap fun (i : Nat) => (List.range w).map fun (j : Nat) => ((i : Int), (j : Int))
def isOpen (P W : Int) (ps : List (Int × Int)) (d : PyData) : Bool := isPair P W d && decide (prOf d ∈ ps)
theorem isOpen_of {P W : Int} {ps : List (Int × Int)} {d : PyData} (h : isOpen P W ps d = true) : isPair P W d = true ∧ prOf d ∈ ps := by
  unfold isOpen at h
  rw [Bool.and_eq_true, decide_eq_true_iff] at h
  exact h
theorem tup_items {P W : Int} {d : PyData} (h : isPair P W d = true) : itemsD d = some [.int (prOf d).1, .int (prOf d).2] := (isPair_of h).1
theorem word_none {P W : Int} {ps : List (Int × Int)} {dps : PyData} (ok : 1 ≤ P ∧ P ≤ 5 ∧ 1 ≤ W ∧ W ≤ 5) (hi : Ins P W ps) (nd : ps.Nodup) (e : itemsD dps = some (ps.map prD)) : wordD (.int P) (.int W) dps = none := by
  have b1 : wholeD (.int P) 1 5 = true := by
    show (decide (1 ≤ P) && decide (P ≤ 5)) = true
    simp
    omega
  have b2 : wholeD (.int W) 1 5 = true := by
    show (decide (1 ≤ W) && decide (W ≤ 5)) = true
    simp
    omega
  have b3 : (ps.map prD).all (isPair P W) = true := by
    rw [List.all_map, List.all_eq_true]
    exact fun p m => isPair_prD.mpr (hi p m)
  have b4 : ((ps.map prD).map prOf) = ps := by
    rw [List.map_map, show (prOf ∘ prD) = id from rfl, List.map_id]
  unfold wordD
  rw [b1, b2, e]
  show (if (ps.map prD).all (isPair P W) = true then (if ((ps.map prD).map prOf).Nodup then (none : Option Str) else some ("double" : Str)) else some ("pair" : Str)) = none
  rw [if_pos b3, b4, if_pos nd]
theorem rm_at : ∀ {ps : List (Int × Int)} {j : Nat} {q : Int × Int}, ps.Nodup → ps[j]? = some q → ps.take j ++ ps.drop (j + 1) = ps.filter fun p => decide (p ≠ q)
  | p :: ps, 0, q, nd, e => by
    have e' : p = q := Option.some.inj e
    subst e'
    have n := (List.nodup_cons.mp nd).1
    rw [List.filter_cons_of_neg (by simp)]
    show ps = _
    exact (List.filter_eq_self.mpr fun x m => by
      simp
      intro z
      subst z
      exact n m).symm
  | p :: ps, j + 1, q, nd, e => by
    have m : q ∈ ps := List.mem_of_getElem? (i := j) (by simpa using e)
    have n : p ≠ q := fun z => (List.nodup_cons.mp nd).1 (z ▸ m)
    rw [List.filter_cons_of_pos (by simpa using n), ← rm_at (j := j) (List.nodup_cons.mp nd).2 (by simpa using e)]
    rfl
theorem asc_filter {ps : List (Int × Int)} (f : Int × Int → Bool) (h : Asc ps) : Asc (ps.filter f) := List.Pairwise.sublist List.filter_sublist h
theorem srt_asc {ps : List (Int × Int)} (h : Asc ps) : srt ps = ps := (srt_uniq (asc_le h) (List.Perm.refl _)).symm
/-- a new picture, as the caller of the class sees it -/
theorem mk_pic {C CB : Addr} {H1 : Hp} {R : Addr → Hp → Prop} {E : XK} {p w ps : V} {dp dw dps : PyData} (kp : Dq H1 p dp) (kw : Dq H1 w dw) (kps : Dq H1 ps dps) (hlen : ∀ ds, itemsD dps = some ds → ds.length ≤ 200)
    (hE : ∀ e, wordD dp dw dps = some e → ∀ d H', Same H1 H' → H' d = some (.xd [("what", .str e)]) → E (.ref CB) (some d) H')
    (hQ : ∀ P W ds, dp = .int P → dw = .int W → itemsD dps = some ds → wordD dp dw dps = none → ∀ H' y, Same H1 H' → H1 y = none → Pic C H' y P W (srt (ds.map prOf)) → R y H') :
    ∀ x dx, H1 x = none → H1 dx = none → dx ≠ x → sp_Picture_init C CB (.ref x :: ([p, w, ps] ++ [])) (upd (upd H1 dx (.own x)) x (.ins C dx [])) (fun v H2 => v = .non ∧ R x H2) E := fun x dx nx nd ne => by
  have s0 : Same H1 (upd (upd H1 dx (.own x)) x (.ins C dx [])) := Same.made nx nd fun b o e _ => e
  have sm : ∀ H', KeepA x (upd (upd H1 dx (.own x)) x (.ins C dx [])) H' → Same H1 H' := fun H' k => Same.made nx nd k
  exact ⟨x, dx, p, w, ps, dp, dw, dps, rfl, upd_same, kp.same s0, kw.same s0, kps.same s0, hlen, fun e he d H' k hd => hE e he d H' (sm H' k) hd, fun P W ds e1 e2 e3 e4 H' k hp => ⟨rfl, hQ P W ds e1 e2 e3 e4 H' x (sm H' k) nx hp⟩⟩
def sp_is_open (C : Addr) : Sp := fun vs H Q _ => ∃ (a : Addr) (x : V) (d : PyData) (P W : Int) (ps : List (Int × Int)), vs = [.ref a, x] ∧ Pic C H a P W ps ∧ Dq H x d ∧ ∀ H', Same H H' → Q (.bl (isOpen P W ps d)) H'
def sp_place_of (C CN : Addr) : Sp := fun vs H Q E => ∃ (a : Addr) (x : V) (d : PyData) (P W : Int) (ps : List (Int × Int)), vs = [.ref a, x] ∧ Pic C H a P W ps ∧ Dq H x d ∧
  (isOpen P W ps d = false → ∀ e H', Same H H' → H' e = some (.xd [("pair", x)]) → E (.ref CN) (some e) H') ∧
  (isOpen P W ps d = true → ∀ (j : Nat) H', ps[j]? = some (prOf d) → Same H H' → Q (.int (j : Int)) H')
def sp_Picture_len (C : Addr) : Sp := fun vs H Q _ => ∃ (a : Addr) (P W : Int) (ps : List (Int × Int)), vs = [.ref a] ∧ Pic C H a P W ps ∧ ∀ H', Same H H' → Q (.int (ps.length : Int)) H'
def sp_Picture_pieces (C : Addr) : Sp := fun vs H Q _ => ∃ (a : Addr) (P W : Int) (ps : List (Int × Int)), vs = [.ref a] ∧ Pic C H a P W ps ∧ ∀ v, Dq H v (.tuple (piecesD P (marks P W ps))) → Q v H
def sp_Picture_eq (C : Addr) : Sp := fun vs H Q _ => ∃ (a b : Addr) (P W : Int) (ps : List (Int × Int)) (P' W' : Int) (ps' : List (Int × Int)), vs = [.ref a, .ref b] ∧ Pic C H a P W ps ∧ Pic C H b P' W' ps' ∧ ∀ H', Same H H' → Q (.bl (decide (P = P' ∧ W = W' ∧ ps = ps'))) H'
section
variable {P : Program} {w : World} {K : PySem.W.Frag} {mg : Str → Option Value} {base : Heap}
theorem hu65 {k : Nat} {A : Around} (hr : Room k A) : A.units + 65 < cLine := by
  have := hr.un
  omega
theorem ok_Picture_pieces (T : Txt K mg) : FnOk P w K mg base CX0 1 T.f_Picture_pieces T.d_Picture_pieces ["self"] (sp_Picture_pieces T.C_Picture) := by
  refine T.F_Picture_pieces.ok sc_Picture_pieces (fun vs H Q E h => ?_) (fun cdv A outer s H vs Q E hr h => ?_)
  · obtain ⟨a, P', W, ps, rfl, _⟩ := h
    rfl
  · obtain ⟨a, P', W, ps, rfl, pic, q⟩ := h
    obtain ⟨dx, t, v, xs, ha, ht, hx, hv⟩ := pic.at_
    refine ⟨_, (pss_one (ps_ret (pe_fld (pv 0) rfl))), ?_⟩
    exact ⟨_, rfl, a, T.C_Picture, dx, _, v, rfl, ha, T.cl_Picture, T.na_pieces, rfl, q v hv⟩
theorem ok_Picture_len (T : Txt K mg) : FnOk P w K mg base CX0 1 T.f_Picture_len T.d_Picture_len ["self"] (sp_Picture_len T.C_Picture) := by
  refine T.F_Picture_len.ok sc_Picture_len (fun vs H Q E h => ?_) (fun cdv A outer s H vs Q E hr h => ?_)
  · obtain ⟨a, P', W, ps, rfl, _⟩ := h
    rfl
  · obtain ⟨a, P', W, ps, rfl, pic, q⟩ := h
    obtain ⟨dx, t, v, xs, ha, ht, hx, hv⟩ := pic.at_
    refine ⟨_, (pss_one (ps_ret (pe_callB call_len_seq (by rfl) T.m_len (by decide +kernel) (pa_cons (pe_fld (pv 0) rfl) pa_nil)))), ?_⟩
    refine ⟨_, rfl, a, T.C_Picture, dx, _, _, rfl, ha, T.cl_Picture, T.na_pairs, rfl, t, _, rfl, .inr ht.seq, ?_⟩
    have l := hx.len
    rw [List.length_map] at l
    rw [l]
    exact q H fun _ _ z => z
theorem ok_Picture_eq (T : Txt K mg) : FnOk P w K mg base CX0 1 T.f_Picture_eq T.d_Picture_eq ["self", "other"] (sp_Picture_eq T.C_Picture) := by
  refine T.F_Picture_eq.ok sc_Picture_eq (fun vs H Q E h => ?_) (fun cdv A outer s H vs Q E hr h => ?_)
  · obtain ⟨a, b, P', W, ps, P2, W2, ps2, rfl, _⟩ := h
    rfl
  · obtain ⟨a, b, P', W, ps, P2, W2, ps2, rfl, pa, pb, q⟩ := h
    obtain ⟨dx, t, v, xs, ha, ht, hx, hv⟩ := pa.at_
    obtain ⟨dy, t2, v2, xs2, hb, ht2, hx2, hv2⟩ := pb.at_
    refine ⟨_, (pss_one (ps_ret (pe_and (pe_callB call_isi (by rfl) T.m_isinstance (by decide +kernel) (pa_cons (pv 1) (pa_cons (pe_glob (v := .ref T.C_Picture) rfl T.g_Picture rfl) pa_nil))) (pe_and (pe_cmpR op_eq (pe_fld (pv 0) rfl) (pe_fld (pv 1) rfl) (nomark _)) (pe_and (pe_cmpR op_eq (pe_fld (pv 0) rfl) (pe_fld (pv 1) rfl) (nomark _)) (pe_one (pe_cmpR (op_eqD hr.units) (pe_fld (pv 0) rfl) (pe_fld (pv 1) rfl) (nomark _)))))))), ?_⟩
    refine ⟨_, rfl, .ref b, .ref T.C_Picture, .ref T.C_Picture, .ref T.C_Picture, true, rfl, .own _, .base (.ins hb T.cl_Picture T.k_class T.k_get T.k_takes T.k_mro), T.k_isp, true, rfl, iteT ?_⟩
    refine ⟨_, rfl, a, T.C_Picture, dx, _, _, rfl, ha, T.cl_Picture, T.na_points, rfl, _, rfl, b, T.C_Picture, dy, _, _, rfl, hb, T.cl_Picture, T.na_points, rfl, rfl, _, rfl, ?_⟩
    have q' := q H fun _ _ z => z
    by_cases c1 : P' = P2
    · subst c1
      rw [decide_eq_true (rfl : V.int P' = V.int P')]
      refine iteT ?_
      refine ⟨_, rfl, a, T.C_Picture, dx, _, _, rfl, ha, T.cl_Picture, T.na_walls, rfl, _, rfl, b, T.C_Picture, dy, _, _, rfl, hb, T.cl_Picture, T.na_walls, rfl, rfl, _, rfl, ?_⟩
      by_cases c2 : W = W2
      · subst c2
        rw [decide_eq_true (rfl : V.int W = V.int W)]
        refine iteT ?_
        refine ⟨_, rfl, a, T.C_Picture, dx, _, _, rfl, ha, T.cl_Picture, T.na_pairs, rfl, _, rfl, b, T.C_Picture, dy, _, _, rfl, hb, T.cl_Picture, T.na_pairs, rfl, _, _, ht.dp hx, ht2.dp hx2, shaped_prs _, shaped_prs _, ?_⟩
        have e : PyData.eqv (.tuple (ps.map prD)) (.tuple (ps2.map prD)) = decide (P' = P' ∧ W = W ∧ ps = ps2) := by
          rw [PyData.eqv, eqv_prs]
          exact decide_eq_decide.mpr ⟨fun z => ⟨rfl, rfl, z⟩, fun z => z.2.2⟩
        rw [e]
        exact q'
      · rw [int_dec, decide_eq_false c2]
        refine iteF ?_
        rw [decide_eq_false fun z => c2 z.2.1] at q'
        exact q'
    · rw [int_dec, decide_eq_false c1]
      refine iteF ?_
      rw [decide_eq_false fun z => c1 z.1] at q'
      exact q'
theorem ok_Picture_is_open (T : Txt K mg) : FnOk P w K mg base CX0 4 T.f_Picture_is_open T.d_Picture_is_open ["self", "pair"] (sp_is_open T.C_Picture) := by
  refine T.F_Picture_is_open.ok sc_Picture_is_open (fun vs H Q E h => ?_) (fun cdv A outer s H vs Q E hr h => ?_)
  · obtain ⟨a, x, d, P', W, ps, rfl, _⟩ := h
    rfl
  · obtain ⟨a, x, d, P', W, ps, rfl, pic, hk, q⟩ := h
    obtain ⟨dx, t, v, xs, ha, ht, hx, hv⟩ := pic.at_
    refine ⟨_, (pss_one (ps_ret (pe_and (pe_meth (pv 0) T.cl_Picture T.M_is_pair (ok_is_pair T) (hr.mono (by decide)) T.b_Pictureis_pair .nil pass0 (pa_cons (pv 1) pa_nil)) (pe_one (pe_cmpR (op_inT (hu65 hr)) (pe_callTy call_tupD (by rfl) T.m_tuple (by decide +kernel) (pa_cons (pv 1) pa_nil)) (pe_fld (pv 0) rfl) rfl))))), ?_⟩
    refine ⟨_, rfl, a, dx, _, rfl, ha, rfl, _, rfl, a, dx, x, d, P', W, _, rfl, ha, rfl, rfl, hk, fun H1 s1 => ⟨_, rfl, ?_⟩⟩
    cases hb : isPair P' W d with
    | false =>
      have q' := q H1 s1
      unfold isOpen at q'
      rw [hb] at q'
      exact iteF q'
    | true =>
      refine iteT ⟨x, rfl, x, d, _, rfl, hk.same s1, tup_items hb, fun l H2 s2 kl => ?_⟩
      refine ⟨_, rfl, a, T.C_Picture, dx, _, _, rfl, s2 _ _ (s1 _ _ ha), T.cl_Picture, T.na_pairs, rfl, _, _, kl.dp, ((ht.same s1).same s2).dp (DqAll.same (s1.trans s2) _ hx), shaped_pr (prOf d), shaped_prs _, ?_⟩
      have q' := q H2 (s1.trans s2)
      unfold isOpen at q'
      rw [hb] at q'
      have e : ((ps.map prD).any fun z => PyData.eqv z (prD (prOf d))) = decide (prOf d ∈ ps) := any_pr _ _
      have e2 : ((ps.map prD).any fun z => PyData.eqv z (.tuple [.int (prOf d).1, .int (prOf d).2])) = decide (prOf d ∈ ps) := e
      rw [if_neg Bool.false_ne_true, e2]
      exact q'
theorem at_of_mem {ps : List (Int × Int)} {q : Int × Int} (h : q ∈ ps) : ∃ j : Nat, ps[j]? = some q ∧ ∀ m, m < j → ps[m]? ≠ some q := by
  induction ps with
  | nil => cases h
  | cons p ps ih =>
    by_cases e : p = q
    · exact ⟨0, by rw [e]; rfl, fun m hm => absurd hm (Nat.not_lt_zero _)⟩
    · rcases List.mem_cons.mp h with z | z
      · exact absurd z.symm e
      · obtain ⟨j, h1, h2⟩ := ih z
        refine ⟨j + 1, h1, fun m hm => ?_⟩
        cases m with
        | zero => exact fun z => e (Option.some.inj z)
        | succ m => exact h2 m (by omega)
theorem ok_Picture_place_of (T : Txt K mg) : FnOk P w K mg base (L2.CX P w) 6 T.f_Picture_place_of T.d_Picture_place_of ["self", "pair"] (sp_place_of T.C_Picture T.C_NotOpen) := by
  refine T.F_Picture_place_of.okX sc_Picture_place_of (fun vs H Q E h => ?_) (fun cdv A outer s H vs Q E hr h => ?_)
  · obtain ⟨a, x, d, P', W, ps, rfl, _⟩ := h
    rfl
  · obtain ⟨a, x, d, P', W, ps, rfl, pic, hk, hE, hQ⟩ := h
    obtain ⟨dx, t, v, xs, ha, ht, hx, hv⟩ := pic.at_
    refine ⟨_, (pss_cons (ps_if (pt_not (pt_val (pe_meth (pv 0) T.cl_Picture T.M_is_open (ok_Picture_is_open T) (hr.mono (by decide)) T.b_Picture_is_open .nil pass0 (pa_cons (pv 1) pa_nil))))
        (pss_one (ps_raise (W := fun cls d _ H => E cls d H) rfl (takes_of rfl rfl rfl rfl) (pmk_oex T.o_NotOpen T.i_NotOpen T.t_NotOpen (ok_NotOpen_init T) (hr.mono (by decide)) T.b_NotOpen_init .nil pass0 (by rfl) T.g_NotOpen (pa_cons (pv 1) pa_nil))))
        pss_nil)
      (pss_one (ps_ret (pe_bmF PySem.F.plainAttrs_tuple PySem.F.slot_tuple_index PySem.F.type_tuple_index (mt_tupIx (hu65 hr)) (pe_fld (pv 0) rfl) (pa_cons (pe_callTy call_tupD (by rfl) T.m_tuple (by decide +kernel) (pa_cons (pv 1) pa_nil)) pa_nil))))), ?_⟩
    refine ⟨_, rfl, a, dx, _, rfl, ha, rfl, _, rfl, a, x, d, P', W, ps, rfl, pic, hk, fun H1 s1 => ⟨_, rfl, ?_⟩⟩
    cases hb : isOpen P' W ps d with
    | false => exact iteT ⟨_, rfl, mk_exc fun e H' s' _ he => hE hb e H' (s1.trans s') he⟩
    | true =>
      obtain ⟨b1, b2⟩ := isOpen_of hb
      obtain ⟨j, j1, j2⟩ := at_of_mem b2
      have ht1 := ht.same s1
      have hx1 := DqAll.same s1 _ hx
      refine iteF ⟨_, rfl, a, T.C_Picture, dx, _, _, rfl, s1 _ _ ha, T.cl_Picture, T.na_pairs, rfl, ⟨t, xs, rfl, ht1⟩, x, rfl, x, d, _, rfl, hk.same s1, tup_items b1, fun l H2 s2 kl => ?_⟩
      refine ⟨t, .ref l, prD (prOf d), ps.map prD, j, prD (prOf d), rfl, rfl, (ht1.same s2).dp (DqAll.same s2 _ hx1), kl.dp, shaped_prs _, shaped_pr _, ?_, ?_, fun m z hm hz => ?_, hQ hb j H2 j1 (s1.trans s2)⟩
      · rw [List.getElem?_map, j1]
        rfl
      · rw [eqv_pr]
        simp
      · rw [List.getElem?_map] at hz
        obtain ⟨q, hq, rfl⟩ := Option.map_eq_some_iff.mp hz
        rw [eqv_pr]
        refine decide_eq_false fun z => ?_
        subst z
        exact j2 m hm hq
end
end K02
set_option Elab.async false
set_option linter.all false
set_option maxRecDepth 100000
set_option maxHeartbeats 4000000
set_option exponentiation.threshold 5000
namespace K02
open PySem PySem.Spec PyProof.Rows L2 TkS
def rowPs (i w : Nat) : List (Int × Int) := (List.range w).map fun (j : Nat) => ((i : Int), (j : Int))
theorem fullPs_eq (p w : Nat) : fullPs p w = (List.range p).flatMap fun i => rowPs i w := rfl
theorem fullPs_succ (p w : Nat) : fullPs (p + 1) w = fullPs p w ++ rowPs p w := by
  rw [fullPs_eq, fullPs_eq, List.range_succ, List.flatMap_append]
  simp
theorem rowPs_succ (i j : Nat) : rowPs i (j + 1) = rowPs i j ++ [((i : Int), (j : Int))] := by
  unfold rowPs
  rw [List.range_succ, List.map_append]
  rfl
theorem fullPs_len (p w : Nat) : (fullPs p w).length = p * w := by
  induction p with
  | zero => simp [fullPs]
  | succ p ih =>
    rw [fullPs_succ, List.length_append, ih, Nat.succ_mul]
    congr 1
    unfold rowPs
    simp
theorem mem_fullPs {p w : Nat} {q : Int × Int} : q ∈ fullPs p w ↔ 0 ≤ q.1 ∧ q.1 < p ∧ 0 ≤ q.2 ∧ q.2 < w := by
  unfold fullPs
  simp only [List.mem_flatMap, List.mem_map, List.mem_range]
  constructor
  · rintro ⟨i, hi, j, hj, rfl⟩
    refine ⟨?_, ?_, ?_, ?_⟩ <;> simp <;> omega
  · rintro ⟨h1, h2, h3, h4⟩
    exact ⟨q.1.toNat, by omega, q.2.toNat, by omega, Prod.ext (by simp; omega) (by simp; omega)⟩
theorem fullPs_asc (p w : Nat) : Asc (fullPs p w) := by
  unfold fullPs Asc
  rw [List.pairwise_flatMap]
  refine ⟨fun i _ => ?_, ?_⟩
  · rw [List.pairwise_map]
    refine List.Pairwise.imp (R := fun (a b : Nat) => a < b) ?_ List.pairwise_lt_range
    intro a b h
    exact SrtO.lexB_iff.mpr (.inr ⟨rfl, Int.ofNat_lt.mpr h⟩)
  · refine List.pairwise_lt_range.imp fun {a b} h => ?_
    intro x hx y hy
    obtain ⟨j, _, rfl⟩ := List.mem_map.mp hx
    obtain ⟨k, _, rfl⟩ := List.mem_map.mp hy
    exact SrtO.lexB_iff.mpr (.inl (Int.ofNat_lt.mpr h))
theorem fullPs_ins {P W : Int} (p0 : 0 ≤ P) (w0 : 0 ≤ W) : Ins P W (fullPs P.toNat W.toNat) := fun q m => by
  have := mem_fullPs.mp m
  omega
/-- two ranges in a comprehension -/
theorem lc2_rr {n m : Nat} {g g1 : TG} {tt tt1 : TT} {te : TE} {vs vs1 : List Nat} {wi wi1 : TI} {σ : L2.St} {H : Hp} {Q : VK} (Pv : Addr → Nat → Nat → Hp → Prop)
    (hi : ∀ R, R (Itr 0 n) H → wi σ H R) (h0 : ∀ D, H D = none → Pv D 0 0 (upd H D (.lst [])))
    (hs : ∀ D i H', H D = none → i < n → Pv D i 0 H' → g (.int (0 + (i : Int))) (wipe σ vs) H' fun σ2 H2 => wipe σ2 vs = wipe σ vs ∧ tt σ2 H2 fun b H3 => b = true ∧ wi1 σ2 H3 fun J1 H4 => J1 = Itr 0 m ∧ Pv D i 0 H4 ∧
      ∀ j H5, j < m → Pv D i j H5 → g1 (.int (0 + (j : Int))) (wipe σ2 vs1) H5 fun σ3 H6 => wipe σ3 vs1 = wipe σ2 vs1 ∧ tt1 σ3 H6 fun b H7 => b = true ∧ te σ3 H7 fun y H8 => ∃ acc, H8 D = some (.lst acc) ∧ acc.length < sizeLine ∧ Pv D i (j + 1) (upd H8 D (.lst (acc ++ [y]))))
    (hrow : ∀ D i H', i < n → Pv D i m H' → Pv D (i + 1) 0 H') (hd : ∀ D H', H D = none → Pv D n 0 H' → Q (.ref D) H')
    (mono : ∀ σ H (R R' : It → Hp → Prop), (∀ J H, R J H → R' J H) → wi1 σ H R → wi1 σ H R')
    (mg : ∀ x σ H (R R' : L2.St → Hp → Prop), (∀ σ H, R σ H → R' σ H) → g x σ H R → g x σ H R') (mg1 : ∀ x σ H (R R' : L2.St → Hp → Prop), (∀ σ H, R σ H → R' σ H) → g1 x σ H R → g1 x σ H R')
    (mt : ∀ σ H (R R' : Bool → Hp → Prop), (∀ b H, R b H → R' b H) → tt σ H R → tt σ H R') (mt1 : ∀ σ H (R R' : Bool → Hp → Prop), (∀ b H, R b H → R' b H) → tt1 σ H R → tt1 σ H R') :
    tLc2 wi g tt wi1 g1 tt1 te vs vs1 σ H Q := by
  refine hi _ fun D nD => ⟨fun i k H' => k = n - i ∧ i ≤ n ∧ Pv D i 0 H', ⟨n, by simp, Nat.zero_le _, h0 D nD⟩, ?_⟩
  rintro i k H' ⟨rfl, hin, p⟩
  by_cases hlt : i < n
  · refine .inr ⟨hlt, Pv D (i + 1) 0, fun H2 p' => ⟨n - (i + 1), by omega, rfl, hlt, p'⟩, fun x H2 y => ?_⟩
    obtain ⟨e, y⟩ := y
    subst e y
    refine mg _ _ _ _ _ (fun σ2 H3 h => ⟨h.1, mt _ _ _ _ (fun b H4 h => ?_) h.2⟩) (hs D i _ nD hlt p)
    obtain ⟨rfl, h⟩ := h
    rw [if_pos rfl]
    refine mono _ _ _ _ (fun J H5 h => ?_) h
    obtain ⟨rfl, q0, h⟩ := h
    refine ⟨fun j k H6 => k = m - j ∧ j ≤ m ∧ Pv D i j H6, ⟨m, by simp, Nat.zero_le _, q0⟩, ?_⟩
    rintro j k H6 ⟨rfl, hjm, p2⟩
    by_cases hj : j < m
    · refine .inr ⟨hj, Pv D i (j + 1), fun H7 p' => ⟨m - (j + 1), by omega, rfl, hj, p'⟩, fun x H7 y => ?_⟩
      obtain ⟨e, y⟩ := y
      subst e y
      refine mg1 _ _ _ _ _ (fun σ3 H8 h => ⟨h.1, mt1 _ _ _ _ (fun b H9 h => ?_) h.2⟩) (h j _ hj p2)
      obtain ⟨rfl, h⟩ := h
      rw [if_pos rfl]
      exact h
    · have e : j = m := by omega
      subst e
      exact .inl ⟨Nat.le_refl _, hrow D i _ hlt p2⟩
  · have e : i = n := by omega
    subst e
    exact .inl ⟨Nat.le_refl _, hd D _ nD p⟩
theorem asg_next {i : Nat} {x : V} {t : TE} {g : TG} {rest : TS} {D : Ends} {σ : L2.St} {H : Hp} (h : t (σ.set i (some x)) H fun y H2 => g y (σ.set i (some x)) H2 (rest D)) : gName i x σ H (tSeq (tAsg t g) rest D) := h
section
variable {P : Program} {w : World} {K : PySem.W.Frag} {mg : Str → Option Value} {base : Heap}
end
end K02
set_option Elab.async false
set_option linter.all false
set_option maxRecDepth 100000
set_option maxHeartbeats 4000000
set_option exponentiation.threshold 5000
namespace K02
open PySem PySem.Spec PyProof.Rows L2 TkS
/-! the hand -/
structure Hand (H : Hp) (h : Addr) : Prop where
  ex : ∃ (c : Addr) (cells : List Int) (p r t : Int), H h = some (.lst [.ref c, .int p, .int r, .int t]) ∧ H c = some (.lst (cells.map V.int)) ∧ c ≠ h ∧ 0 ≤ p ∧ 0 ≤ r ∧ ∀ z ∈ cells, (0 : Int) ≤ z
structure Keep (h : Addr) (H H' : Hp) : Prop where
  kp : ∀ b o, b ≠ h → H b = some o → H' b = some o
  cc : ∀ (c : Addr) (p r t : Int), H h = some (.lst [.ref c, .int p, .int r, .int t]) → ∃ p' r' t' : Int, H' h = some (.lst [.ref c, .int p', .int r', .int t'])
instance {h : Addr} {H H' : Hp} : CoeFun (Keep h H H') (fun _ => ∀ b o, b ≠ h → H b = some o → H' b = some o) := ⟨Keep.kp⟩
theorem Keep.trans {h : Addr} {H H1 H2 : Hp} (a : Keep h H H1) (b : Keep h H1 H2) : Keep h H H2 := ⟨fun c o n e => b c o n (a c o n e), fun c p r t e => by
  obtain ⟨p', r', t', e'⟩ := a.cc c p r t e
  exact b.cc c p' r' t' e'⟩
theorem Keep.refl {h : Addr} {H : Hp} : Keep h H H := ⟨fun _ _ _ e => e, fun c p r t e => ⟨p, r, t, e⟩⟩
theorem Keep.of {h : Addr} {H H' : Hp} (s : Same H H') : Keep h H H' := ⟨fun b o _ e => s b o e, fun c p r t e => ⟨p, r, t, s _ _ e⟩⟩
theorem keep_put {h : Addr} {H : Hp} {c : Addr} {p r t p' r' t' : Int} (e : H h = some (.lst [.ref c, .int p, .int r, .int t])) : Keep h H (upd H h (.lst [.ref c, .int p', .int r', .int t'])) :=
  ⟨fun b u n e => by rw [upd_ne n]; exact e, fun c2 p2 r2 t2 e2 => by
    rw [e] at e2
    cases e2
    exact ⟨p', r', t', upd_same⟩⟩
theorem Hand.same {H H' : Hp} {h : Addr} (e : Same H H') (x : Hand H h) : Hand H' h := by
  obtain ⟨c, cells, p, r, t, h1, h2, q⟩ := x.ex
  exact ⟨c, cells, p, r, t, e _ _ h1, e _ _ h2, q⟩
def sp_law_hand (K : PySem.W.Frag) : Sp := fun vs H Q _ => ∃ (a : Addr) (ns : List Int), vs = [.ref a] ∧ SqL K H a (ns.map V.int) ∧ ns.length ≤ 63 ∧ ∀ H' h, Same H H' → H h = none → Hand H' h → Q (.ref h) H'
def sp_law_mixed (K : PySem.W.Frag) : Sp := fun vs H Q _ => ∃ a b : Int, vs = [.int a, .int b] ∧ ∀ r : Int, 0 ≤ r → Q (.int r) H
def sp_law_take (K : PySem.W.Frag) : Sp := fun vs H Q _ => ∃ (h : Addr) (m : Int), vs = [.ref h, .int m] ∧ Hand H h ∧ 0 < m ∧ m.natAbs < 2 ^ 100 ∧ ∀ H' r, Keep h H H' → Hand H' h → 0 ≤ r → r < m → Q (.int r) H'
section
variable {P : Program} {w : World} {K : PySem.W.Frag} {mg : Str → Option Value} {base : Heap}
theorem ok_law_mixed (T : Txt K mg) : FnOk P w K mg base CX0 1 T.f_law_mixed T.d_law_mixed ["_law_number", "_law_turn"] (sp_law_mixed K) := by
  refine T.F_law_mixed.ok sc_law_mixed (fun vs H Q E h => ?_) (fun cdv A outer s H vs Q E hr h => ?_)
  · obtain ⟨a, b, rfl, _⟩ := h
    rfl
  · obtain ⟨a, b, rfl, q⟩ := h
    refine ⟨_, (pss_cons (ps_set (i := 2) sc_law_mixed.nd rfl (.inl rfl) (pe_op op_mod (pe_callTy call_int1 (by rfl) T.m_int (by decide +kernel) (pa_cons (pe_op op_add (pe_op op_add (pe_op op_mul (pv 0) pe_int) (pe_op op_mul (pv 1) pe_int)) pe_int) pa_nil)) pe_int))
      (pss_cons (ps_set (i := 3) sc_law_mixed.nd rfl (.inl rfl) (pe_op op_mod (pe_callTy call_int1 (by rfl) T.m_int (by decide +kernel) (pa_cons (pe_op op_add (pe_op op_add (pe_op op_mul (pv 2) (pv 2)) (pe_op op_mul (pv 1) pe_int)) (pe_op op_fdiv (pv 2) pe_int)) pa_nil)) pe_int))
      (pss_one (ps_ret (pe_op op_fdiv (pe_callTy call_int1 (by rfl) T.m_int (by decide +kernel) (pa_cons (pe_op op_mod (pe_callTy call_int1 (by rfl) T.m_int (by decide +kernel) (pa_cons (pe_op op_add (pe_op op_mul (pv 3) pe_int) (pe_op op_fdiv (pv 2) pe_int)) pa_nil)) pe_int) pa_nil)) pe_int))))), ?_⟩
    refine ⟨_, rfl, a, 40692, rfl, rfl, .inr (by decide), _, rfl, b, 7177, rfl, rfl, .inr (by decide), _, _, rfl, rfl, _, _, rfl, rfl, .inl ⟨_, rfl, _, _, rfl, rfl, (by show (0 : Int) < _; decide), ?_⟩⟩
    generalize (a * 40692 + b * 7177 + 60013 : Int) = z
    have z0 : (0 : Int) ≤ z % 2147483399 := Int.emod_nonneg _ (by decide)
    have z1 : z % 2147483399 < 2147483399 := Int.emod_lt_of_pos _ (by decide)
    refine ⟨_, rfl, _, rfl, z % 2147483399, z % 2147483399, rfl, rfl, .inl ⟨by omega, by omega⟩, _, rfl, b, 90523, rfl, rfl, .inr (by decide), _, _, rfl, rfl, _, rfl, z % 2147483399, 149, rfl, rfl, ⟨by decide, by decide⟩, _, _, rfl, rfl, .inl ⟨_, rfl, _, _, rfl, rfl, (by show (0 : Int) < _; decide), ?_⟩⟩
    generalize (z % 2147483399 * (z % 2147483399) + b * 90523 + z % 2147483399 / 149 : Int) = y
    have y0 : (0 : Int) ≤ y % 2147483629 := Int.emod_nonneg _ (by decide)
    have y1 : y % 2147483629 < 2147483629 := Int.emod_lt_of_pos _ (by decide)
    refine ⟨_, rfl, y % 2147483629, 52774, rfl, rfl, .inl ⟨by omega, by omega⟩, _, rfl, z % 2147483399, 13, rfl, rfl, ⟨by decide, by decide⟩, _, _, rfl, rfl, .inl ⟨_, rfl, _, _, rfl, rfl, (by show (0 : Int) < _; decide), .inl ⟨_, rfl, _, _, rfl, rfl, ⟨by decide, by decide⟩, q _ ?_⟩⟩⟩
    have x0 : (0 : Int) ≤ (y % 2147483629 * 52774 + z % 2147483399 / 13) % 2147483587 := Int.emod_nonneg _ (by decide)
    exact Int.ediv_nonneg x0 (by decide)
theorem all_push {cells : List Int} {z : Int} (h : ∀ x ∈ cells, (0 : Int) ≤ x) (hz : 0 ≤ z) : ∀ x ∈ cells ++ [z], (0 : Int) ≤ x := by
  intro x hx
  rcases List.mem_append.mp hx with e | e
  · exact h x e
  · rw [List.mem_singleton.mp e]
    exact hz
theorem ok_law_hand (T : Txt K mg) : FnOk P w K mg base CX0 1 T.f_law_hand T.d_law_hand ["_law_script"] (sp_law_hand K) := by
  refine T.F_law_hand.ok sc_law_hand (fun vs H Q E h => ?_) (fun cdv A outer s H vs Q E hr h => ?_)
  · obtain ⟨a, b, rfl, _⟩ := h
    rfl
  · obtain ⟨a, ns, rfl, hS, hlen, q⟩ := h
    refine ⟨_, (pss_cons (ps_set (i := 1) sc_law_hand.nd rfl (.inl rfl) (pe_op op_add (pe_callB call_len_seq (by rfl) T.m_len (by decide +kernel) (pa_cons (pv 0) pa_nil)) pe_int))
      (pss_cons (ps_set (i := 2) sc_law_hand.nd rfl (.inl rfl) (pe_lst pa_nil))
      (pss_cons (ps_for PassesOwn.never rfl (pi_list (pv 0)) (pg_name (i := 3) sc_law_hand.nd rfl (.inl rfl))
        (pss_cons (ps_set (i := 1) sc_law_hand.nd rfl (.inl rfl) (pe_op op_mod (pe_callTy call_int1 (by rfl) T.m_int (by decide +kernel) (pa_cons (pe_op op_add (pe_op op_mul (pv 1) pe_int) (pe_callTy call_int1 (by rfl) T.m_int (by decide +kernel) (pa_cons (pv 3) pa_nil))) pa_nil)) pe_int))
        (pss_one (ps_expr (pe_bm PySem.F.plainAttrs_list PySem.F.slot_list_append PySem.F.type_list_append mt_append (pv 2) (pa_cons (pe_callB call_abs (by rfl) T.m_abs (by decide +kernel) (pa_cons (pe_callTy call_int1 (by rfl) T.m_int (by decide +kernel) (pa_cons (pv 3) pa_nil)) pa_nil)) pa_nil))))))
      (pss_one (ps_ret (pe_lst (pa_cons (pv 2) (pa_cons pe_int (pa_cons pe_int (pa_cons (pv 1) pa_nil)))))))))), ?_⟩
    refine ⟨_, rfl, a, _, rfl, .inl hS, _, _, rfl, rfl, Nat.zero_le _, fun c nc => ?_⟩
    have s1 : Same H (upd H c (.lst [])) := fun b x e => by
      rw [upd_ne (ne_of_none e nc)]
      exact e
    refine ⟨_, rfl, a, rfl, ⟨_, s1.seq hS⟩, for_list (xs := ns.map V.int) (fun i σ H' => ∃ (t : Int) (y : Option V) (cells : List Int), σ = [some (.ref a), some (.int t), some (.ref c), y] ∧ Same H H' ∧ H' c = some (.lst (cells.map V.int)) ∧ cells.length = i ∧ ∀ z ∈ cells, (0 : Int) ≤ z)
      ⟨_, none, [], rfl, s1, upd_same, rfl, fun z hz => by cases hz⟩ (fun i σ H' _ hP => by obtain ⟨_, _, _, _, sm, _⟩ := hP; exact sm.seq hS) (fun i x σ H' hx hP => ?_) (fun σ H' hP => ?_)⟩
    · obtain ⟨t, y, cells, rfl, sm, ec, el, hz⟩ := hP
      obtain ⟨n, hn, rfl⟩ : ∃ n, ns[i]? = some n ∧ V.int n = x := by
        rw [List.getElem?_map] at hx
        exact Option.map_eq_some_iff.mp hx
      have hi : i < ns.length := (List.getElem?_eq_some_iff.mp hn).1
      have nca : c ≠ a → True := fun _ => trivial
      refine ⟨_, rfl, t, 2011, rfl, rfl, .inr (by decide), _, rfl, .inl ⟨_, rfl, _, _, rfl, rfl, .inl ⟨_, rfl, _, _, rfl, rfl, (by show (0 : Int) < _; decide), ?_⟩⟩⟩
      refine ⟨_, rfl, .inl ⟨rfl, _, .inl (.inl ec)⟩, _, rfl, .inl ⟨_, rfl, _, rfl, c, _, _, rfl, rfl, ec, ?_, ?_⟩⟩
      · rw [List.length_map, el]
        exact small1000 (by omega)
      · refine ⟨_, _, cells ++ [(if n < 0 then -n else n)], rfl, fun b u e => ?_, ?_, ?_, all_push hz (by split <;> omega)⟩
        · rw [upd_ne (ne_of_none e nc)]
          exact sm _ _ e
        · rw [upd_same, List.map_append]
          rfl
        · rw [List.length_append, el]
          rfl
    · obtain ⟨t, y, cells, rfl, sm, ec, el, hz⟩ := hP
      refine ⟨_, rfl, _, rfl, (by show 4 ≤ sizeLine; decide), fun h nh => ?_⟩
      have nch : c ≠ h := ne_of_none ec nh
      refine q _ h (fun b u e => ?_) (sm.free nh) ⟨c, cells, 0, 0, t, upd_same, ?_, nch, Int.le_refl _, Int.le_refl _, hz⟩
      · rw [upd_ne (ne_of_none (sm _ _ e) nh)]
        exact sm _ _ e
      · rw [upd_ne nch]
        exact ec
theorem cells_at {cells : List Int} {p : Int} (h0 : 0 ≤ p) (h : p < ((cells.map V.int).length : Int)) : ∃ z, z ∈ cells ∧ atI (cells.map V.int) p = some (.int z) := by
  rw [List.length_map] at h
  have hp : p.toNat < cells.length := by omega
  refine ⟨cells[p.toNat], List.getElem_mem hp, at_of (j := p.toNat) (by omega) ?_⟩
  rw [List.getElem?_map, List.getElem?_eq_getElem hp]
  rfl
theorem ok_law_take (T : Txt K mg) : FnOk P w K mg base CX0 2 T.f_law_take T.d_law_take ["_law_hand_here", "_law_many"] (sp_law_take K) := by
  refine T.F_law_take.ok sc_law_take (fun vs H Q E h => ?_) (fun cdv A outer s H vs Q E hr h => ?_)
  · obtain ⟨a, b, rfl, _⟩ := h
    rfl
  · obtain ⟨h, m, rfl, ⟨c, cells, p, r, t, hh, hc, nch, hp, hr0, hz⟩, hm, hmb, q⟩ := h
    refine ⟨_, (Evl.pss_cut (ps_if (PW.pt (pw_and (pt_cmpR op_eq (pe_ix ix_list (pv 0) pe_int (fun _ _ => rfl)) pe_int (nomark _)) (pw_and1 (pt_cmpR op_lt (pe_ix ix_list (pv 0) pe_int (fun _ _ => rfl)) (pe_callB call_len_seq (by rfl) T.m_len (by decide +kernel) (pa_cons (pe_ix ix_list (pv 0) pe_int (fun _ _ => rfl)) pa_nil)) (nomark _)))))
        (pss_cons (ps_set (i := 2) sc_law_take.nd rfl (.inl rfl) (pe_ix ix_list (pe_ix ix_list (pv 0) pe_int (fun _ _ => rfl)) (pe_ix ix_list (pv 0) pe_int (fun _ _ => rfl)) (fun _ _ => rfl)))
        (pss_cons (ps_asg (pe_op op_add (pe_ix ix_list (pv 0) pe_int (fun _ _ => rfl)) pe_int) (pg_sub (pv 0) pe_int set_list))
        (pss_cons (ps_if (pt_cmpR op_lt (pv 2) (pe_op op_pow pe_int pe_int) (nomark _))
          (pss_one (ps_ret (pe_op op_mod (pe_callTy call_int1 (by rfl) T.m_int (by decide +kernel) (pa_cons (pe_call (ok_law_mixed T) (hr.mono (by decide)) (by rfl) T.g_law_mixed T.F_law_mixed.kp T.b_law_mixed .nil pass0 (pa_cons (pe_op op_mod (pe_callTy call_int1 (by rfl) T.m_int (by decide +kernel) (pa_cons (pv 2) pa_nil)) pe_int) (pa_cons (pe_ix ix_list (pv 0) pe_int (fun _ _ => rfl)) pa_nil))) pa_nil)) (pv 1))))
          pss_nil)
        (pss_one (ps_asg (pv 2) (pg_sub (pv 0) pe_int set_list))))))
        pss_nil)
      (pss_cons (ps_if (pt_cmpR op_gt (pe_ix ix_list (pv 0) pe_int (fun _ _ => rfl)) pe_int (nomark _))
        (pss_cons (ps_set (i := 3) sc_law_take.nd rfl (.inl rfl) (pe_ix ix_list (pv 0) pe_int (fun _ _ => rfl)))
        (pss_cons (ps_asg (pe_op op_fdivW (pe_callTy call_int1 (by rfl) T.m_int (by decide +kernel) (pa_cons (pv 3) pa_nil)) (pv 1)) (pg_sub (pv 0) pe_int set_list))
        (pss_one (ps_ret (pe_op op_mod (pe_callTy call_int1 (by rfl) T.m_int (by decide +kernel) (pa_cons (pv 3) pa_nil)) (pv 1))))))
        pss_nil)
      (pss_cons (ps_asg (pe_op op_mod (pe_callTy call_int1 (by rfl) T.m_int (by decide +kernel) (pa_cons (pe_op op_add (pe_ix ix_list (pv 0) pe_int (fun _ _ => rfl)) pe_int) pa_nil)) pe_int) (pg_sub (pv 0) pe_int set_list))
      (pss_one (ps_ret (pe_op op_mod (pe_callTy call_int1 (by rfl) T.m_int (by decide +kernel) (pa_cons (pe_call (ok_law_mixed T) (hr.mono (by decide)) (by rfl) T.g_law_mixed T.F_law_mixed.kp T.b_law_mixed .nil pass0 (pa_cons (pe_ix ix_list (pv 0) pe_int (fun _ _ => rfl)) (pa_cons (pe_ix ix_list (pv 0) pe_int (fun _ _ => rfl)) pa_nil))) pa_nil)) (pv 1))))))), ?_⟩
    refine ⟨fun σ' H' => ∃ (y : Option V) (p r t : Int), σ' = [some (.ref h), some (.int m), y, none] ∧ Keep h H H' ∧ H' h = some (.lst [.ref c, .int p, .int r, .int t]) ∧ 0 ≤ p ∧ 0 ≤ r, ?_, fun σ' H' hM => ?_⟩
    · -- the first if
      refine ⟨_, rfl, h, _, 2, .int r, rfl, rfl, SqL.of hh, rfl, rfl, _, rfl, ite2 (fun c1 => ?_) (fun c1 => ?_)⟩
      · refine ⟨_, rfl, h, _, 1, .int p, rfl, rfl, SqL.of hh, rfl, _, rfl, h, _, 0, .ref c, rfl, rfl, SqL.of hh, rfl, c, _, rfl, .inl (SqL.of hc), p, _, rfl, rfl, _, rfl, ite2 (fun c2 => ?_) (fun c2 => ?_)⟩
        · obtain ⟨z, hzm, hza⟩ := cells_at hp (of_decide_eq_true c2)
          refine ⟨_, rfl, h, _, 0, .ref c, rfl, rfl, SqL.of hh, rfl, _, rfl, h, _, 1, .int p, rfl, rfl, SqL.of hh, rfl, c, _, p, .int z, rfl, rfl, SqL.of hc, hza, ?_⟩
          refine ⟨_, rfl, h, _, 1, .int p, rfl, rfl, SqL.of hh, rfl, p, 1, rfl, rfl, _, rfl, h, _, 1, 1, rfl, rfl, hh, rfl, ?_⟩
          have e1 : (upd H h (.lst ([V.ref c, .int p, .int r, .int t].set 1 (.int (p + 1))))) h = some (.lst [.ref c, .int (p + 1), .int r, .int t]) := upd_same
          refine ⟨_, rfl, 10, 18, rfl, rfl, ⟨by decide, by decide, by decide⟩, _, _, rfl, rfl, _, rfl, ite2 (fun c3 => ?_) (fun c3 => ?_)⟩
          · refine ⟨_, rfl, .inl ⟨_, rfl, z, 2147483399, rfl, rfl, (by show (0 : Int) < _; decide), _, rfl, h, _, 1, .int (p + 1), rfl, rfl, SqL.of e1, rfl, _, _, rfl, fun x hx => .inl ⟨x, rfl, _, rfl, x, m, rfl, rfl, hm, ?_⟩⟩⟩
            refine q _ _ (keep_put hh) ⟨c, cells, p + 1, r, t, e1, ?_, nch, by omega, hr0, hz⟩ (Int.emod_nonneg _ (by omega)) (Int.emod_lt_of_pos _ hm)
            rw [upd_ne nch]
            exact hc
          · refine ⟨_, rfl, _, rfl, h, _, 2, 2, rfl, rfl, e1, rfl, some (.int z), p + 1, z, t, rfl, ?_, upd_same, by omega, hz z hzm⟩
            rw [upd_upd]
            exact (keep_put hh)
        · exact ⟨none, p, r, t, rfl, Keep.refl, hh, hp, hr0⟩
      · exact ⟨none, p, r, t, rfl, Keep.refl, hh, hp, hr0⟩
    · -- what follows it
      obtain ⟨y, p, r, t, rfl, kp, hh, hp, hr0⟩ := hM
      have hc' : H' c = some (.lst (cells.map V.int)) := kp _ _ nch hc
      have hcu : ∀ o, (upd H' h o) c = some (.lst (cells.map V.int)) := fun o => by
        rw [upd_ne nch]
        exact hc'
      refine ⟨_, rfl, h, _, 2, .int r, rfl, rfl, SqL.of hh, rfl, r, 0, rfl, rfl, _, rfl, ite2 (fun c1 => ?_) (fun c1 => ?_)⟩
      · have hrp : 0 < r := of_decide_eq_true c1
        refine ⟨_, rfl, h, _, 2, .int r, rfl, rfl, SqL.of hh, rfl, ?_⟩
        refine ⟨_, rfl, .inl ⟨_, rfl, _, rfl, r, m, rfl, rfl, wide_div hm hmb (by decide) (by decide), _, rfl, h, _, 2, 2, rfl, rfl, hh, rfl, ?_⟩⟩
        refine ⟨_, rfl, .inl ⟨_, rfl, _, rfl, r, m, rfl, rfl, hm, ?_⟩⟩
        exact q _ _ (kp.trans (keep_put hh)) ⟨c, cells, p, r / m, t, upd_same, hcu _, nch, hp, Int.ediv_nonneg hr0 (by omega), hz⟩ (Int.emod_nonneg _ (by omega)) (Int.emod_lt_of_pos _ hm)
      · refine ⟨_, rfl, h, _, 3, .int t, rfl, rfl, SqL.of hh, rfl, t, 1, rfl, rfl, .inl ⟨_, rfl, _, _, rfl, rfl, (by show (0 : Int) < _; decide), _, rfl, h, _, 3, 3, rfl, rfl, hh, rfl, ?_⟩⟩
        have e1 : (upd H' h (.lst ([V.ref c, .int p, .int r, .int t].set 3 (.int ((t + 1) % 2147483549))))) h = some (.lst [.ref c, .int p, .int r, .int ((t + 1) % 2147483549)]) := upd_same
        refine ⟨_, rfl, h, _, 3, _, rfl, rfl, SqL.of e1, rfl, _, rfl, h, _, 1, _, rfl, rfl, SqL.of e1, rfl, _, _, rfl, fun x hx => .inl ⟨x, rfl, _, rfl, x, m, rfl, rfl, hm, ?_⟩⟩
        exact q _ _ (kp.trans (keep_put hh)) ⟨c, cells, p, r, _, e1, hcu _, nch, hp, hr0, hz⟩ (Int.emod_nonneg _ (by omega)) (Int.emod_lt_of_pos _ hm)
end
end K02
set_option Elab.async false
set_option linter.all false
set_option maxRecDepth 100000
set_option maxHeartbeats 4000000
set_option exponentiation.threshold 5000
namespace K02
open PySem PySem.Spec PyProof.Rows L2 TkS
def isIntD : PyData → Bool
  | .int _ => true
  | _ => false
def sp_law_whole : Sp := fun vs H Q _ => ∃ x d, vs = [x] ∧ Dq H x d ∧ Q (.bl (isIntD d)) H
def sp_law_full : Sp := fun vs H Q _ => ∃ (p s : Int), vs = [.int p, .int s] ∧ 0 ≤ p ∧ p ≤ 5 ∧ 0 ≤ s ∧ s ≤ 5 ∧ ∀ l H', Same H H' → H l = none → Dq H' (.ref l) (.list ((fullPs p.toNat s.toNat).map prD)) → Q (.ref l) H'
def sp_law_couple : Sp := fun vs H Q _ => ∃ (P W : Int) (x : V) (d : PyData), vs = [.int P, .int W, x] ∧ Dq H x d ∧ ∀ H', Same H H' → Q (.bl (isPair P W d)) H'
theorem noList_pr (p : Int × Int) : noList (prD p) = true := rfl
theorem range_full (n : Nat) : (List.range n).filter (fun _ => true) = List.range n := List.filter_eq_self.mpr fun _ _ => rfl
section
variable {P : Program} {w : World} {K : PySem.W.Frag} {mg : Str → Option Value} {base : Heap}
theorem ok_law_whole (T : Txt K mg) : FnOk P w K mg base CX0 1 T.f_law_whole T.d_law_whole ["_law_thing"] sp_law_whole := by
  refine T.F_law_whole.ok sc_law_whole (fun vs H Q E h => ?_) (fun cdv A outer s H vs Q E hr h => ?_)
  · obtain ⟨x, d, rfl, _⟩ := h
    rfl
  · obtain ⟨x, d, rfl, hk, q⟩ := h
    obtain ⟨t, ty, k1, k2, _⟩ := dq_ty (K := K) hk
    refine ⟨_, (pss_one (ps_ret (pe_and (pe_callB call_isi (by rfl) T.m_isinstance (by decide +kernel) (pa_cons (pv 0) (pa_cons (pe_bltn (v := .ty "int") (u := .type "int") (by rfl) T.m_int (by decide +kernel) rfl) pa_nil))) (pe_one (pe_not (pe_callB call_isi (by rfl) T.m_isinstance (by decide +kernel) (pa_cons (pv 0) (pa_cons (pe_bltn (v := .ty "bool") (u := .type "bool") (by rfl) T.m_bool (by decide +kernel) rfl) pa_nil)))))))), ?_⟩
    refine ⟨x, rfl, x, .ty "int", t, _, isNumV x, rfl, .ty _, ty, k2, _, rfl, ?_⟩
    have two : Q (.bl (!isBlV x)) H → tNotV (tCB (rIsi K) (tCons (tVar 0) (tCons (tC (.ty "bool")) tNil))) (L2.start ["_law_thing"] [x]) H Q := fun z => ⟨x, rfl, x, .ty "bool", t, _, isBlV x, rfl, .ty _, ty, k1, _, rfl, z⟩
    cases hk with
    | non => exact iteF q
    | bl b => exact iteT (two q)
    | int i => exact iteT (two q)
    | str z => exact iteF q
    | lst z y => exact iteF q
    | tup z y => exact iteF q
theorem ok_law_full (T : Txt K mg) : FnOk P w K mg base CX0 1 T.f_law_full T.d_law_full ["_law_points", "_law_shuts"] sp_law_full := by
  refine T.F_law_full.ok sc_law_full (fun vs H Q E h => ?_) (fun cdv A outer s H vs Q E hr h => ?_)
  · obtain ⟨p, s, rfl, _⟩ := h
    rfl
  · obtain ⟨p, s', rfl, p0, p1, s0, s1, q⟩ := h
    refine ⟨_, (pss_cons (ps_set (i := 2) sc_law_full.nd rfl (.inl rfl) (pe_lst pa_nil))
      (pss_cons (ps_for PassesOwn.never rfl (pi_range1 (by rfl) T.m_range (pa_cons (pv 0) pa_nil)) (pg_name (i := 3) sc_law_full.nd rfl (.inr rfl))
        (pss_one (ps_set (i := 2) sc_law_full.nd rfl (.inl rfl) (pe_op op_catDL (pv 2) (pe_lc rfl sc_law_full.nd (pi_range1 (by rfl) T.m_range (pa_cons (pv 1) pa_nil)) (blkOk_by (own := [("_law_shut_here", 4)]) (N := ["_law_points", "_law_shuts", "_law_told", "_law_point", "_law_shut_here"]) (sc := defScope s_law_full) (by decide +kernel)) (fun _ _ _ _ _ => (pg_name (i := 4) sc_law_full.nd rfl (.inl rfl))) (fun _ _ _ _ _ => pts_nil) (fun _ _ _ _ _ => (pe_tup (pa_cons (pv 3) (pa_cons (pv 4) pa_nil)))))))))
      (pss_one (ps_ret (pv 2))))), ?_⟩
    refine ⟨Nat.zero_le _, fun t0 n0 => ⟨_, rfl, p, rfl, by omega, by omega, for_range (n := p.toNat) (fun i σ H' => ∃ (t : Addr) (y3 : Option V), σ = [some (.int p), some (.int s'), some (.ref t), y3, none] ∧ Same H H' ∧ H t = none ∧ Dq H' (.ref t) (.list ((fullPs i s'.toNat).map prD)))
      ⟨t0, none, rfl, same_new n0, n0, .lst upd_same .nil⟩ (fun i σ H' hi hP => ?_) (fun σ H' hP => ?_)⟩⟩
    · obtain ⟨t, y3, rfl, sm, nt, kt⟩ := hP
      refine ⟨_, rfl, _, rfl, s', rfl, by omega, by omega, fun D nD => ?_⟩
      refine lc_rngD (fun _ => true) (fun j => prD ((i : Int), (j : Int))) nD (by omega) (fun _ => rfl) (fun j H2 Q2 hj s2 q2 => q2 _ (fun _ _ z => z)) (fun j H2 Q2 hj _ s2 hD q2 => ?_) (fun H2 s2 kD => ?_)
      · refine ⟨_, rfl, _, rfl, (by show 2 ≤ sizeLine; decide), fun u nu => q2 _ _ (same_new nu) ?_⟩
        obtain ⟨acc, hD⟩ := hD
        rw [Int.zero_add, Int.zero_add]
        exact .tup (off_at (ne_of_none hD nu).symm upd_same) (.cons (.int _) (.cons (.int _) .nil))
      · rw [range_full] at kD
        have kD' : Dq H2 (.ref D) (.list ((rowPs i s'.toNat).map prD)) := by
          unfold rowPs
          rw [List.map_map]
          exact kD
        have hsz : i * s'.toNat ≤ 5 * 5 := Nat.mul_le_mul (by omega) (by omega)
        refine ⟨_, _, kt.same s2, kD', ?_, fun l H3 s3 nl kl => ⟨l, _, rfl, (sm.trans s2).trans s3, (sm.trans s2).free nl, ?_⟩⟩
        · rw [List.length_map, List.length_map, fullPs_len]
          have : (rowPs i s'.toNat).length = s'.toNat := by
            unfold rowPs
            simp
          omega
        · rw [fullPs_succ, List.map_append]
          exact kl
    · obtain ⟨t, y3, rfl, sm, nt, kt⟩ := hP
      exact ⟨_, rfl, q t H' sm nt kt⟩
end
end K02
set_option Elab.async false
set_option linter.all false
set_option maxRecDepth 100000
set_option maxHeartbeats 4000000
set_option exponentiation.threshold 5000
namespace K02
open PySem PySem.Spec PyProof.Rows L2 TkS
/-! sums -/
def S {α : Type} (l : List α) (f : α → Int) : Int := l.foldr (fun x a => f x + a) 0
theorem S_nil {α : Type} (f : α → Int) : S [] f = 0 := rfl
theorem S_cons {α : Type} (x : α) (l : List α) (f : α → Int) : S (x :: l) f = f x + S l f := rfl
theorem S_append {α : Type} (f : α → Int) : ∀ l m : List α, S (l ++ m) f = S l f + S m f
  | [], m => by rw [List.nil_append, S_nil, Int.zero_add]
  | x :: l, m => by
    rw [List.cons_append, S_cons, S_cons, S_append f l m, Int.add_assoc]
theorem S_add {α : Type} (f g : α → Int) : ∀ l : List α, S l (fun x => f x + g x) = S l f + S l g
  | [] => rfl
  | x :: l => by
    rw [S_cons, S_cons, S_cons, S_add f g l]
    omega
theorem S_mul {α : Type} (c : Int) (f : α → Int) : ∀ l : List α, S l (fun x => c * f x) = c * S l f
  | [] => by rw [S_nil, S_nil, Int.mul_zero]
  | x :: l => by
    rw [S_cons, S_cons, S_mul c f l, Int.mul_add]
theorem S_congr {α : Type} {f g : α → Int} : ∀ {l : List α}, (∀ x ∈ l, f x = g x) → S l f = S l g
  | [], _ => rfl
  | x :: l, h => by
    rw [S_cons, S_cons, h x List.mem_cons_self, S_congr fun y hy => h y (List.mem_cons_of_mem _ hy)]
theorem S_zero {α : Type} {f : α → Int} : ∀ {l : List α}, (∀ x ∈ l, f x = 0) → S l f = 0
  | [], _ => rfl
  | x :: l, h => by
    rw [S_cons, h x List.mem_cons_self, S_zero fun y hy => h y (List.mem_cons_of_mem _ hy)]
    rfl
theorem S_comm {α β : Type} (f : α → β → Int) : ∀ (l : List α) (m : List β), S l (fun x => S m (fun y => f x y)) = S m (fun y => S l (fun x => f x y))
  | [], m => (S_zero fun _ _ => rfl).symm
  | x :: l, m => by
    rw [S_cons, S_comm f l m]
    exact (S_add (fun y => f x y) (fun y => S l fun x => f x y) m).symm
theorem S_map {α β : Type} (g : α → β) (f : β → Int) : ∀ l : List α, S (l.map g) f = S l fun x => f (g x)
  | [] => rfl
  | x :: l => by rw [List.map_cons, S_cons, S_cons, S_map g f l]
/-- all but one are 0 -/
theorem S_one {α : Type} {f : α → Int} {k : α} : ∀ {l : List α}, l.Nodup → k ∈ l → (∀ x ∈ l, x ≠ k → f x = 0) → S l f = f k
  | x :: l, n, h, z => by
    rw [S_cons]
    obtain ⟨n1, n2⟩ := List.nodup_cons.mp n
    by_cases e : x = k
    · subst e
      rw [S_zero fun y hy => z y (List.mem_cons_of_mem _ hy) fun e => n1 (e ▸ hy), Int.add_zero]
    · have h2 : k ∈ l := by
        rcases List.mem_cons.mp h with h | h
        · exact absurd h.symm e
        · exact h
      rw [z x List.mem_cons_self e, S_one n2 h2 fun y hy => z y (List.mem_cons_of_mem _ hy), Int.zero_add]
/-! labels -/
def eu (p : Int × Int) : Nat := p.1.toNat
def ev (P : Int) (p : Int × Int) : Nat := (P + p.2).toNat
theorem getD_map0 {α : Type} {f : α → Int} {l : List α} {i : Nat} {d : α} (h : i < l.length) : (l.map f).getD i 0 = f (l.getD i d) := by
  rw [List.getD_eq_getElem?_getD, List.getElem?_map, List.getD_eq_getElem?_getD, List.getElem?_eq_getElem h]
  rfl
theorem mrg_at {ls : List Int} {a b : Int} {k : Nat} (h : k < ls.length) : (mrg ls a b).getD k 0 = if ls.getD k 0 = a ∨ ls.getD k 0 = b then (if b < a then b else a) else ls.getD k 0 := by
  unfold mrg
  rw [getD_map0 (d := 0) h]
theorem min_or (a b : Int) : (if b < a then b else a) = a ∨ (if b < a then b else a) = b := by
  by_cases h : b < a
  · rw [if_pos h]
    exact .inr rfl
  · rw [if_neg h]
    exact .inl rfl
/-- two labels that a merging makes alike -/
theorem mrg_alike {ls : List Int} {a b : Int} {i j : Nat} (hi : i < ls.length) (hj : j < ls.length) (e : (mrg ls a b).getD i 0 = (mrg ls a b).getD j 0) :
    ls.getD i 0 = ls.getD j 0 ∨ ((ls.getD i 0 = a ∨ ls.getD i 0 = b) ∧ (ls.getD j 0 = a ∨ ls.getD j 0 = b)) := by
  rw [mrg_at hi, mrg_at hj] at e
  by_cases ci : ls.getD i 0 = a ∨ ls.getD i 0 = b
  · by_cases cj : ls.getD j 0 = a ∨ ls.getD j 0 = b
    · exact .inr ⟨ci, cj⟩
    · rw [if_pos ci, if_neg cj] at e
      rcases min_or a b with m | m
      · exact absurd (.inl (e.symm.trans m)) cj
      · exact absurd (.inr (e.symm.trans m)) cj
  · by_cases cj : ls.getD j 0 = a ∨ ls.getD j 0 = b
    · rw [if_neg ci, if_pos cj] at e
      rcases min_or a b with m | m
      · exact absurd (.inl (e.trans m)) ci
      · exact absurd (.inr (e.trans m)) ci
    · rw [if_neg ci, if_neg cj] at e
      exact .inl e
theorem step_len {P : Int} {ls : List Int} {p : Int × Int} : (stepM P ls p).length = ls.length := mrg_len _ _ _
theorem step_eq {P : Int} {ls : List Int} {p : Int × Int} {i j : Nat} (hi : i < ls.length) (hj : j < ls.length) (e : ls.getD i 0 = ls.getD j 0) : (stepM P ls p).getD i 0 = (stepM P ls p).getD j 0 := by
  unfold stepM
  rw [mrg_at hi, mrg_at hj, e]
theorem step_ends {P : Int} {ls : List Int} {p : Int × Int} (hi : eu p < ls.length) (hj : ev P p < ls.length) : (stepM P ls p).getD (eu p) 0 = (stepM P ls p).getD (ev P p) 0 := by
  show (mrg ls (ls.getD (eu p) 0) (ls.getD (ev P p) 0)).getD (eu p) 0 = (mrg ls (ls.getD (eu p) 0) (ls.getD (ev P p) 0)).getD (ev P p) 0
  rw [mrg_at hi, mrg_at hj]
  exact (if_pos (Or.inl rfl)).trans (if_pos (Or.inr rfl)).symm
theorem fold_eq {P : Int} : ∀ {ps : List (Int × Int)} {ls : List Int} {i j : Nat}, i < ls.length → j < ls.length → ls.getD i 0 = ls.getD j 0 → (ps.foldl (stepM P) ls).getD i 0 = (ps.foldl (stepM P) ls).getD j 0
  | [], _, _, _, _, _, e => e
  | p :: ps, ls, i, j, hi, hj, e => fold_eq (ps := ps) (ls := stepM P ls p) (by rw [step_len]; exact hi) (by rw [step_len]; exact hj) (step_eq hi hj e)
theorem fold_const {P : Int} : ∀ {ps : List (Int × Int)} {ls : List Int}, (∀ p ∈ ps, eu p < ls.length ∧ ev P p < ls.length) → ∀ p ∈ ps, (ps.foldl (stepM P) ls).getD (eu p) 0 = (ps.foldl (stepM P) ls).getD (ev P p) 0
  | q :: ps, ls, h, p, hp => by
    have hq := h q List.mem_cons_self
    rcases List.mem_cons.mp hp with e | e
    · subst e
      exact fold_eq (ls := stepM P ls p) (by rw [step_len]; exact hq.1) (by rw [step_len]; exact hq.2) (step_ends hq.1 hq.2)
    · exact fold_const (ls := stepM P ls q) (fun r hr => by rw [step_len]; exact h r (List.mem_cons_of_mem _ hr)) p e
theorem fold_conn {P : Int} {α : Type} {h : Nat → α} : ∀ {ps : List (Int × Int)} {ls : List Int}, (∀ p ∈ ps, eu p < ls.length ∧ ev P p < ls.length) → (∀ p ∈ ps, h (eu p) = h (ev P p)) →
    (∀ i j, i < ls.length → j < ls.length → ls.getD i 0 = ls.getD j 0 → h i = h j) → ∀ i j, i < ls.length → j < ls.length → (ps.foldl (stepM P) ls).getD i 0 = (ps.foldl (stepM P) ls).getD j 0 → h i = h j
  | [], _, _, _, k => k
  | p :: ps, ls, hl, hc, k => fun i j hi hj e => by
    have hp := hl p List.mem_cons_self
    have cp := hc p List.mem_cons_self
    refine fold_conn (ps := ps) (ls := stepM P ls p) (fun r hr => by rw [step_len]; exact hl r (List.mem_cons_of_mem _ hr)) (fun r hr => hc r (List.mem_cons_of_mem _ hr)) (fun a b ha hb e => ?_) i j (by rw [step_len]; exact hi) (by rw [step_len]; exact hj) e
    rw [step_len] at ha hb
    have to : ∀ c, c < ls.length → (ls.getD c 0 = ls.getD (eu p) 0 ∨ ls.getD c 0 = ls.getD (ev P p) 0) → h c = h (eu p) := fun c hc' z => by
      rcases z with z | z
      · exact k _ _ hc' hp.1 z
      · exact (k _ _ hc' hp.2 z).trans cp.symm
    rcases mrg_alike ha hb e with e | ⟨ea, eb⟩
    · exact k _ _ ha hb e
    · exact (to _ ha ea).trans (to _ hb eb).symm
theorem row0_at {n i : Nat} (h : i < n) : (row0 n).getD i 0 = (i : Int) := by
  unfold row0
  rw [getD_map0 (d := 0) (by rw [List.length_range]; exact h)]
  rw [List.getD_eq_getElem?_getD, List.getElem?_range h]
  rfl
theorem ins_ends {P W : Int} {ps : List (Int × Int)} (h : Ins P W ps) : ∀ p ∈ ps, eu p < (P + W).toNat ∧ ev P p < (P + W).toNat := fun p hp => by
  obtain ⟨a, b, c, d⟩ := h p hp
  unfold eu ev
  omega
theorem marks_const {P W : Int} {ps : List (Int × Int)} (h : Ins P W ps) : ∀ p ∈ ps, (marks P W ps).getD (eu p) 0 = (marks P W ps).getD (ev P p) 0 :=
  fold_const fun p hp => by rw [row0_len]; exact ins_ends h p hp
theorem marks_conn {P W : Int} {ps : List (Int × Int)} {α : Type} {f : Nat → α} (h : Ins P W ps) (hc : ∀ p ∈ ps, f (eu p) = f (ev P p)) {i j : Nat} (hi : i < (P + W).toNat) (hj : j < (P + W).toNat) (e : (marks P W ps).getD i 0 = (marks P W ps).getD j 0) : f i = f j := by
  refine fold_conn (h := f) (ls := row0 (P + W).toNat) (fun p hp => by rw [row0_len]; exact ins_ends h p hp) hc (fun a b ha hb e => ?_) i j (by rw [row0_len]; exact hi) (by rw [row0_len]; exact hj) e
  rw [row0_len] at ha hb
  rw [row0_at ha, row0_at hb] at e
  have : a = b := by omega
  rw [this]
theorem marks_snoc (P W : Int) (ps : List (Int × Int)) (p : Int × Int) : marks P W (ps ++ [p]) = stepM P (marks P W ps) p := by
  unfold marks
  rw [List.foldl_append]
  rfl
/-! trees -/
def Diff (P W : Int) (ps : List (Int × Int)) (p : Int × Int) : Prop := (marks P W ps).getD (eu p) 0 ≠ (marks P W ps).getD (ev P p) 0
theorem bridge {P W : Int} {T : List (Int × Int)} (ins : Ins P W T) (h : ∀ (i : Nat) (e : Int × Int), T[i]? = some e → Diff P W (T.take i) e) :
    ∀ m, m ≤ T.length → ∀ (i : Nat) (e : Int × Int), i < m → T[i]? = some e → Diff P W ((T.take m).eraseIdx i) e
  | 0, _, i, _, hi, _ => absurd hi (Nat.not_lt_zero _)
  | m + 1, hm, i, e, hi, he => by
    have hm' : m < T.length := by omega
    have tk : T.take (m + 1) = T.take m ++ [T[m]] := by
      rw [List.take_add_one, List.getElem?_eq_getElem hm']
      rfl
    have lm : (T.take m).length = m := by rw [List.length_take]; omega
    rw [tk]
    rcases Nat.lt_or_ge i m with c | c
    · have ih := bridge ins h m (by omega) i e c he
      rw [List.eraseIdx_append_of_lt_length (by rw [lm]; exact c)]
      have hx := h m T[m] (List.getElem?_eq_getElem hm')
      generalize hL : (T.take m).eraseIdx i = L at ih
      have insM : Ins P W (T.take m) := fun p hp => ins p (List.mem_of_mem_take hp)
      have subL : ∀ p ∈ L, p ∈ T.take m := fun p hp => by
        rw [← hL] at hp
        exact List.mem_of_mem_eraseIdx hp
      have insL : Ins P W L := fun p hp => insM p (subL p hp)
      have eM : e ∈ T.take m := by
        refine List.mem_of_getElem? (i := i) ?_
        rw [List.getElem?_take, if_pos c]
        exact he
      have bx := ins_ends ins T[m] (List.getElem_mem hm')
      have be := ins_ends insM e eM
      intro z
      rw [marks_snoc] at z
      have ll : (marks P W L).length = (P + W).toNat := marks_len _ _ _
      have cn : ∀ {a b : Nat}, a < (P + W).toNat → b < (P + W).toNat → (marks P W L).getD a 0 = (marks P W L).getD b 0 → (marks P W (T.take m)).getD a 0 = (marks P W (T.take m)).getD b 0 := fun {a b} ha hb q =>
        marks_conn (f := fun k => (marks P W (T.take m)).getD k 0) insL (fun p hp => marks_const insM p (subL p hp)) ha hb q
      have ee := marks_const insM e eM
      rcases mrg_alike (by rw [ll]; exact be.1) (by rw [ll]; exact be.2) z with z | ⟨z1, z2⟩
      · exact ih z
      · refine hx ?_
        rcases z1 with z1 | z1
        · rcases z2 with z2 | z2
          · exact absurd (z1.trans z2.symm) ih
          · exact (cn be.1 bx.1 z1).symm.trans (ee.trans (cn be.2 bx.2 z2))
        · rcases z2 with z2 | z2
          · exact (cn be.2 bx.1 z2).symm.trans (ee.symm.trans (cn be.1 bx.2 z1))
          · exact absurd (z1.trans z2.symm) ih
    · have : i = m := by omega
      subst this
      rw [List.eraseIdx_append_of_length_le (by rw [lm]; omega), lm, Nat.sub_self]
      show Diff P W (T.take i ++ []) e
      rw [List.append_nil]
      exact h i e he
/-- tree places and other places among the first -/
def trees (P W : Int) (ps : List (Int × Int)) : Nat → List Nat × List Nat
  | 0 => ([], [])
  | i + 1 => if (marks P W ((trees P W ps i).1.map fun k => ps.getD k (0, 0))).getD (eu (ps.getD i (0, 0))) 0 = (marks P W ((trees P W ps i).1.map fun k => ps.getD k (0, 0))).getD (ev P (ps.getD i (0, 0))) 0
      then ((trees P W ps i).1, (trees P W ps i).2 ++ [i]) else ((trees P W ps i).1 ++ [i], (trees P W ps i).2)
def pe (ps : List (Int × Int)) (k : Nat) : Int × Int := ps.getD k (0, 0)
theorem pe_mem {ps : List (Int × Int)} {k : Nat} (h : k < ps.length) : pe ps k ∈ ps := by
  unfold pe
  rw [List.getD_eq_getElem?_getD, List.getElem?_eq_getElem h]
  exact List.getElem_mem h
structure TreeInv (P W : Int) (ps : List (Int × Int)) (n : Nat) (T R : List Nat) : Prop where
  lt : ∀ k ∈ T, k < n
  ltR : ∀ k ∈ R, k < n
  nd : T.Nodup
  ndR : R.Nodup
  dj : ∀ k ∈ T, k ∉ R
  sum : ∀ f : Nat → Int, S T f + S R f = S (List.range n) f
  df : ∀ (a k : Nat), T[a]? = some k → Diff P W ((T.map (pe ps)).take a) (pe ps k)
  al : ∀ r ∈ R, ∃ a, ¬ Diff P W ((T.map (pe ps)).take a) (pe ps r)
theorem nodup_snoc {l : List Nat} {n : Nat} (h : l.Nodup) (hl : ∀ k ∈ l, k < n) : (l ++ [n]).Nodup := by
  rw [List.nodup_append]
  refine ⟨h, List.nodup_cons.mpr ⟨by simp, List.nodup_nil⟩, fun a ha b hb e => ?_⟩
  rw [List.mem_singleton] at hb
  subst hb
  have := hl a ha
  omega
theorem mem_snoc {l : List Nat} {n k : Nat} (h : k ∈ l ++ [n]) : k ∈ l ∨ k = n := by
  rcases List.mem_append.mp h with h | h
  · exact .inl h
  · exact .inr (List.mem_singleton.mp h)
theorem trees_inv (P W : Int) (ps : List (Int × Int)) : ∀ n, TreeInv P W ps n (trees P W ps n).1 (trees P W ps n).2
  | 0 => ⟨(fun _ h => nomatch h), (fun _ h => nomatch h), List.nodup_nil, List.nodup_nil, (fun _ h => nomatch h), (fun f => rfl), (fun a k h => nomatch h), (fun r h => nomatch h)⟩
  | n + 1 => by
    have I := trees_inv P W ps n
    unfold trees
    generalize (trees P W ps n).1 = T at I
    generalize (trees P W ps n).2 = R at I
    have rs : ∀ f : Nat → Int, S (List.range (n + 1)) f = S (List.range n) f + f n := fun f => by
      rw [List.range_succ, S_append, S_cons, S_nil, Int.add_zero]
    by_cases c : (marks P W (T.map fun k => ps.getD k (0, 0))).getD (eu (ps.getD n (0, 0))) 0 = (marks P W (T.map fun k => ps.getD k (0, 0))).getD (ev P (ps.getD n (0, 0))) 0
    · rw [if_pos c]
      refine ⟨fun k h => Nat.lt_succ_of_lt (I.lt k h), fun k h => ?_, I.nd, nodup_snoc I.ndR I.ltR, fun k h h2 => ?_, fun f => ?_, I.df, fun r hr => ?_⟩
      · rcases mem_snoc h with h | h
        · exact Nat.lt_succ_of_lt (I.ltR k h)
        · omega
      · rcases mem_snoc h2 with h2 | h2
        · exact I.dj k h h2
        · have := I.lt k h
          omega
      · show S T f + S (R ++ [n]) f = _
        rw [S_append, S_cons, S_nil, Int.add_zero, rs, ← I.sum f]
        omega
      · rcases mem_snoc hr with hr | hr
        · exact I.al r hr
        · subst hr
          refine ⟨T.length, fun z => z ?_⟩
          rw [List.take_of_length_le (by rw [List.length_map]; exact Nat.le_refl _)]
          exact c
    · rw [if_neg c]
      have len : (T.map (pe ps)).length = T.length := List.length_map _
      have take_le : ∀ a, a ≤ T.length → ((T ++ [n]).map (pe ps)).take a = (T.map (pe ps)).take a := fun a ha => by
        rw [List.map_append, List.take_append_of_le_length (by rw [len]; exact ha)]
      refine ⟨fun k h => ?_, fun k h => Nat.lt_succ_of_lt (I.ltR k h), nodup_snoc I.nd I.lt, I.ndR, fun k h h2 => ?_, fun f => ?_, fun a k hk => ?_, fun r hr => ?_⟩
      · rcases mem_snoc h with h | h
        · exact Nat.lt_succ_of_lt (I.lt k h)
        · omega
      · rcases mem_snoc h with h | h
        · exact I.dj k h h2
        · have := I.ltR k h2
          omega
      · show S (T ++ [n]) f + S R f = _
        rw [S_append, S_cons, S_nil, Int.add_zero, rs, ← I.sum f]
        omega
      · have ha : a < (T ++ [n]).length := (List.getElem?_eq_some_iff.mp hk).1
        rw [List.length_append, List.length_singleton] at ha
        show Diff P W (((T ++ [n]).map (pe ps)).take a) (pe ps k)
        rw [take_le a (by omega)]
        rcases Nat.lt_or_ge a T.length with l | l
        · rw [List.getElem?_append_left l] at hk
          exact I.df a k hk
        · have : a = T.length := by omega
          subst this
          rw [List.getElem?_append_right (Nat.le_refl _), Nat.sub_self] at hk
          cases hk
          rw [List.take_of_length_le (by rw [len]; exact Nat.le_refl _)]
          exact c
      · obtain ⟨a, ha⟩ := I.al r hr
        refine ⟨min a T.length, ?_⟩
        show ¬ Diff P W (((T ++ [n]).map (pe ps)).take (min a T.length)) (pe ps r)
        rw [take_le _ (Nat.min_le_right _ _)]
        rcases Nat.le_total a T.length with l | l
        · rw [Nat.min_eq_left l]
          exact ha
        · rw [Nat.min_eq_right l]
          rw [List.take_of_length_le (by rw [len]; exact l)] at ha
          rw [List.take_of_length_le (by rw [len]; exact Nat.le_refl _)]
          exact ha
theorem erase_filter : ∀ {l : List Nat} {a k : Nat}, l.Nodup → l[a]? = some k → l.eraseIdx a = l.filter fun j => decide (j ≠ k)
  | x :: l, 0, k, n, h => by
    cases h
    obtain ⟨n1, _⟩ := List.nodup_cons.mp n
    have e1 : l.filter (fun j => decide (j ≠ x)) = l := List.filter_eq_self.mpr fun y hy => decide_eq_true (p := y ≠ x) fun e => n1 (e ▸ hy)
    show l = _
    rw [List.filter_cons, if_neg (by simp), e1]
  | x :: l, a + 1, k, n, h => by
    obtain ⟨n1, n2⟩ := List.nodup_cons.mp n
    have h' : l[a]? = some k := h
    have hx : x ≠ k := fun e => n1 (e ▸ List.mem_of_getElem? h')
    show x :: l.eraseIdx a = _
    rw [List.filter_cons, if_pos (decide_eq_true hx), erase_filter n2 h']
theorem map_erase {α β : Type} (f : α → β) : ∀ (l : List α) (a : Nat), (l.map f).eraseIdx a = (l.eraseIdx a).map f
  | [], _ => rfl
  | _ :: _, 0 => rfl
  | x :: l, a + 1 => congrArg (f x :: ·) (map_erase f l a)
/-- the side of a tree place's point when it is taken away -/
def sideM (P W : Int) (ps : List (Int × Int)) (T : List Nat) (k : Nat) : List Int := marks P W ((T.filter fun j => decide (j ≠ k)).map (pe ps))
def inSide (P W : Int) (ps : List (Int × Int)) (T : List Nat) (k v : Nat) : Bool := decide ((sideM P W ps T k).getD v 0 = (sideM P W ps T k).getD (eu (pe ps k)) 0)
def cut (P W : Int) (ps : List (Int × Int)) (T : List Nat) (k j : Nat) : Int :=
  (if inSide P W ps T k (eu (pe ps j)) = true then 1 else 0) - (if inSide P W ps T k (ev P (pe ps j)) = true then 1 else 0)
theorem closed {P W : Int} {ps : List (Int × Int)} {n : Nat} {T R : List Nat} (I : TreeInv P W ps n T R) (ins : Ins P W ps) (hn : n ≤ ps.length) {due : Nat → Int} (hT : ∀ k ∈ T, due k = - S R fun j => due j * cut P W ps T k j) (f : Nat → Int) :
    S (List.range n) (fun i => due i * (f (eu (pe ps i)) - f (ev P (pe ps i)))) = 0 := by
  have mT : ∀ k ∈ T, pe ps k ∈ ps := fun k h => pe_mem (Nat.lt_of_lt_of_le (I.lt k h) hn)
  have mR : ∀ k ∈ R, pe ps k ∈ ps := fun k h => pe_mem (Nat.lt_of_lt_of_le (I.ltR k h) hn)
  have insT : Ins P W (T.map (pe ps)) := fun p hp => by
    obtain ⟨k, hk, rfl⟩ := List.mem_map.mp hp
    exact ins _ (mT k hk)
  -- the cut of one tree place at another
  have ct : ∀ k ∈ T, ∀ e ∈ T, cut P W ps T k e = if e = k then 1 else 0 := fun k hk e he => by
    have insK : Ins P W ((T.filter fun j => decide (j ≠ k)).map (pe ps)) := fun p hp => by
      obtain ⟨j, hj, rfl⟩ := List.mem_map.mp hp
      exact ins _ (mT j (List.mem_filter.mp hj).1)
    by_cases c : e = k
    · subst e
      rw [if_pos rfl]
      unfold cut
      have d : Diff P W ((T.filter fun j => decide (j ≠ k)).map (pe ps)) (pe ps k) := by
        obtain ⟨a, ha⟩ := List.getElem?_of_mem hk
        have al : a < T.length := (List.getElem?_eq_some_iff.mp ha).1
        have b := bridge insT (fun i e he => by
          rw [List.getElem?_map] at he
          obtain ⟨k', hk', rfl⟩ := Option.map_eq_some_iff.mp he
          exact I.df i k' hk') T.length (by rw [List.length_map]; exact Nat.le_refl _) a (pe ps k) al (by rw [List.getElem?_map, ha]; rfl)
        rw [List.take_of_length_le (by rw [List.length_map]; exact Nat.le_refl _), map_erase, erase_filter I.nd ha] at b
        exact b
      have e1 : inSide P W ps T k (eu (pe ps k)) = true := decide_eq_true rfl
      have e2 : inSide P W ps T k (ev P (pe ps k)) = false := decide_eq_false fun z => d z.symm
      rw [e1, e2, if_pos rfl, if_neg Bool.false_ne_true]
      rfl
    · rw [if_neg c]
      have z := marks_const insK (pe ps e) (List.mem_map.mpr ⟨e, List.mem_filter.mpr ⟨he, decide_eq_true c⟩, rfl⟩)
      unfold cut inSide sideM
      rw [z]
      omega
  -- g of every place by g of the tree places
  have gR : ∀ j ∈ R, f (eu (pe ps j)) - f (ev P (pe ps j)) = S T fun k => (f (eu (pe ps k)) - f (ev P (pe ps k))) * cut P W ps T k j := fun j hj => by
    obtain ⟨a, ha⟩ := I.al j hj
    have ha : (marks P W ((T.map (pe ps)).take a)).getD (eu (pe ps j)) 0 = (marks P W ((T.map (pe ps)).take a)).getD (ev P (pe ps j)) 0 := Decidable.not_not.mp ha
    have bj := ins_ends ins _ (mR j hj)
    have q := marks_conn (f := fun v => f v - S T fun k => (f (eu (pe ps k)) - f (ev P (pe ps k))) * (if inSide P W ps T k v = true then 1 else 0)) (fun p hp => insT p (List.mem_of_mem_take hp)) (fun p hp => ?_) bj.1 bj.2 ha
    · have q' : f (eu (pe ps j)) - f (ev P (pe ps j)) = (S T fun k => (f (eu (pe ps k)) - f (ev P (pe ps k))) * (if inSide P W ps T k (eu (pe ps j)) = true then 1 else 0)) - (S T fun k => (f (eu (pe ps k)) - f (ev P (pe ps k))) * (if inSide P W ps T k (ev P (pe ps j)) = true then 1 else 0)) := by
        have q2 : f (eu (pe ps j)) - (S T fun k => (f (eu (pe ps k)) - f (ev P (pe ps k))) * (if inSide P W ps T k (eu (pe ps j)) = true then 1 else 0)) = f (ev P (pe ps j)) - (S T fun k => (f (eu (pe ps k)) - f (ev P (pe ps k))) * (if inSide P W ps T k (ev P (pe ps j)) = true then 1 else 0)) := q
        omega
      rw [q']
      have ad := S_add (fun k => (f (eu (pe ps k)) - f (ev P (pe ps k))) * cut P W ps T k j) (fun k => (f (eu (pe ps k)) - f (ev P (pe ps k))) * (if inSide P W ps T k (ev P (pe ps j)) = true then 1 else 0)) T
      have eq : (S T fun k => (f (eu (pe ps k)) - f (ev P (pe ps k))) * cut P W ps T k j + (f (eu (pe ps k)) - f (ev P (pe ps k))) * (if inSide P W ps T k (ev P (pe ps j)) = true then 1 else 0)) = S T fun k => (f (eu (pe ps k)) - f (ev P (pe ps k))) * (if inSide P W ps T k (eu (pe ps j)) = true then 1 else 0) := S_congr fun k _ => by
        rw [← Int.mul_add]
        unfold cut
        rw [Int.sub_add_cancel]
      rw [eq] at ad
      omega
    · have hp2 := List.mem_of_mem_take hp
      obtain ⟨e, he, rfl⟩ := List.mem_map.mp hp2
      show f (eu (pe ps e)) - _ = f (ev P (pe ps e)) - _
      have ad := S_add (fun k => (f (eu (pe ps k)) - f (ev P (pe ps k))) * cut P W ps T k e) (fun k => (f (eu (pe ps k)) - f (ev P (pe ps k))) * (if inSide P W ps T k (ev P (pe ps e)) = true then 1 else 0)) T
      have eq : (S T fun k => (f (eu (pe ps k)) - f (ev P (pe ps k))) * cut P W ps T k e + (f (eu (pe ps k)) - f (ev P (pe ps k))) * (if inSide P W ps T k (ev P (pe ps e)) = true then 1 else 0)) = S T fun k => (f (eu (pe ps k)) - f (ev P (pe ps k))) * (if inSide P W ps T k (eu (pe ps e)) = true then 1 else 0) := S_congr fun k _ => by
        rw [← Int.mul_add]
        unfold cut
        rw [Int.sub_add_cancel]
      have on : (S T fun k => (f (eu (pe ps k)) - f (ev P (pe ps k))) * cut P W ps T k e) = f (eu (pe ps e)) - f (ev P (pe ps e)) := by
        rw [S_one (k := e) I.nd he fun k hk ne => by
          rw [ct k hk e he, if_neg fun z => ne z.symm, Int.mul_zero]]
        rw [ct e he e he, if_pos rfl, Int.mul_one]
      rw [eq, on] at ad
      omega
  rw [← I.sum]
  have sR : (S R fun i => due i * (f (eu (pe ps i)) - f (ev P (pe ps i)))) = S T fun k => S R fun j => due j * ((f (eu (pe ps k)) - f (ev P (pe ps k))) * cut P W ps T k j) := by
    rw [← S_comm]
    refine S_congr fun j hj => ?_
    rw [gR j hj]
    exact (S_mul _ _ _).symm
  have sT : (S T fun i => due i * (f (eu (pe ps i)) - f (ev P (pe ps i)))) = S T fun k => - (S R fun j => due j * ((f (eu (pe ps k)) - f (ev P (pe ps k))) * cut P W ps T k j)) := S_congr fun k hk => by
    rw [hT k hk]
    have : (S R fun j => due j * ((f (eu (pe ps k)) - f (ev P (pe ps k))) * cut P W ps T k j)) = (f (eu (pe ps k)) - f (ev P (pe ps k))) * S R fun j => due j * cut P W ps T k j := by
      rw [← S_mul]
      exact S_congr fun j _ => by rw [Int.mul_left_comm]
    rw [this, Int.neg_mul, Int.mul_comm]
  rw [sR, sT, ← S_add]
  exact S_zero fun k _ => Int.add_left_neg _
/-! the tour by its numbers at the other places -/
def puts (l : List Int) : List (Nat × Int) → List Int := fun q => q.foldl (fun l p => l.set p.1 p.2) l
theorem puts_len : ∀ (q : List (Nat × Int)) (l : List Int), (puts l q).length = l.length
  | [], _ => rfl
  | p :: q, l => by
    show (puts (l.set p.1 p.2) q).length = _
    rw [puts_len q, List.length_set]
theorem puts_off : ∀ {q : List (Nat × Int)} {l : List Int} {j : Nat}, (∀ p ∈ q, p.1 ≠ j) → (puts l q).getD j 0 = l.getD j 0
  | [], _, _, _ => rfl
  | p :: q, l, j, h => by
    show (puts (l.set p.1 p.2) q).getD j 0 = _
    rw [puts_off fun r hr => h r (List.mem_cons_of_mem _ hr), List.getD_eq_getElem?_getD, List.getElem?_set_ne (h p List.mem_cons_self), ← List.getD_eq_getElem?_getD]
theorem puts_at {v : Nat → Int} : ∀ {T : List Nat} {l : List Int} {k : Nat}, T.Nodup → k ∈ T → (∀ j ∈ T, j < l.length) → (puts l (T.map fun k => (k, v k))).getD k 0 = v k
  | x :: T, l, k, n, h, hl => by
    obtain ⟨n1, n2⟩ := List.nodup_cons.mp n
    show (puts (l.set x (v x)) (T.map fun k => (k, v k))).getD k 0 = _
    by_cases e : k = x
    · subst e
      rw [puts_off fun p hp => by
        obtain ⟨j, hj, rfl⟩ := List.mem_map.mp hp
        exact fun (e : j = k) => n1 (e ▸ hj)]
      rw [List.getD_eq_getElem?_getD, List.getElem?_set_self (hl k List.mem_cons_self)]
      rfl
    · have h2 : k ∈ T := by
        rcases List.mem_cons.mp h with h | h
        · exact absurd h e
        · exact h
      exact puts_at n2 h2 fun j hj => by
        rw [List.length_set]
        exact hl j (List.mem_cons_of_mem _ hj)
def toldL (n : Nat) (R : List Nat) (row : List Int) : List Int := puts (List.replicate n 0) (R.zip row)
def totalI (P W : Int) (ps : List (Int × Int)) (T R : List Nat) (told : List Int) (k : Nat) : Int := S R fun j => told.getD j 0 * cut P W ps T k j
def dueL (P W : Int) (ps : List (Int × Int)) (T R : List Nat) (told : List Int) : List Int := puts told (T.map fun k => (k, 0 - totalI P W ps T R told k))
def tourOf (P W : Int) (ps : List (Int × Int)) (row : List Int) : List Int :=
  dueL P W ps (trees P W ps ps.length).1 (trees P W ps ps.length).2 (toldL ps.length (trees P W ps ps.length).2 row)
theorem told_len {n : Nat} {R : List Nat} {row : List Int} : (toldL n R row).length = n := by
  unfold toldL
  rw [puts_len, List.length_replicate]
theorem tourOf_len {P W : Int} {ps : List (Int × Int)} {row : List Int} : (tourOf P W ps row).length = ps.length := by
  unfold tourOf dueL
  rw [puts_len, told_len]
/-- S over the places -/
theorem S_range_succ (n : Nat) (f : Nat → Int) : S (List.range (n + 1)) f = f 0 + S (List.range n) fun i => f (i + 1) := by
  rw [List.range_succ_eq_map, S_cons, S_map]
theorem S_zip {F : Int × Int → Int → Int} : ∀ {ps : List (Int × Int)} {ns : List Int}, ns.length = ps.length → S (ps.zip ns) (fun q => F q.1 q.2) = S (List.range ps.length) fun i => F (pe ps i) (ns.getD i 0)
  | [], [], _ => rfl
  | p :: ps, x :: ns, h => by
    rw [List.zip_cons_cons, S_cons, S_zip (ps := ps) (ns := ns) (Nat.succ.inj h), List.length_cons, S_range_succ]
    rfl
def ptSum (ps : List (Int × Int)) (ns : List Int) (x : Int) : Int := S (ps.zip ns) fun q => if q.1.1 = x then q.2 else 0
def wlSum (ps : List (Int × Int)) (ns : List Int) (y : Int) : Int := S (ps.zip ns) fun q => if q.1.2 = y then q.2 else 0
structure Tour (P W : Int) (ps : List (Int × Int)) (ns : List Int) : Prop where
  len : ns.length = ps.length
  pt : ∀ x : Int, 0 ≤ x → x < P → ptSum ps ns x = 0
  wl : ∀ y : Int, 0 ≤ y → y < W → wlSum ps ns y = 0
theorem pe_at {ps : List (Int × Int)} {i : Nat} (h : i < ps.length) : ps[i]? = some (pe ps i) := by
  unfold pe
  rw [List.getD_eq_getElem?_getD, List.getElem?_eq_getElem h]
  rfl
theorem tour_by {P W : Int} {ps : List (Int × Int)} {ns : List Int} (ins : Ins P W ps) (hl : ns.length = ps.length)
    (h : ∀ f : Nat → Int, S (List.range ps.length) (fun i => ns.getD i 0 * (f (eu (pe ps i)) - f (ev P (pe ps i)))) = 0) : Tour P W ps ns := by
  refine ⟨hl, fun x x0 x1 => ?_, fun y y0 y1 => ?_⟩
  · refine (S_zip (F := fun p n => if p.1 = x then n else 0) hl).trans ?_
    refine Eq.trans ?_ (h fun v => if v = x.toNat then 1 else 0)
    refine S_congr fun i hi => ?_
    obtain ⟨a, b, c, d⟩ := ins _ (pe_mem (List.mem_range.mp hi))
    rw [if_neg (show ¬ ev P (pe ps i) = x.toNat from by unfold ev; omega)]
    by_cases e : (pe ps i).1 = x
    · rw [if_pos e, if_pos (show eu (pe ps i) = x.toNat from by unfold eu; rw [e])]
      omega
    · rw [if_neg e, if_neg (show ¬ eu (pe ps i) = x.toNat from by unfold eu; omega)]
      omega
  · refine (S_zip (F := fun p n => if p.2 = y then n else 0) hl).trans ?_
    refine Eq.trans ?_ (h fun v => if v = (P + y).toNat then -1 else 0)
    refine S_congr fun i hi => ?_
    obtain ⟨a, b, c, d⟩ := ins _ (pe_mem (List.mem_range.mp hi))
    rw [if_neg (show ¬ eu (pe ps i) = (P + y).toNat from by unfold eu; omega)]
    by_cases e : (pe ps i).2 = y
    · rw [if_pos e, if_pos (show ev P (pe ps i) = (P + y).toNat from by unfold ev; rw [e])]
      omega
    · rw [if_neg e, if_neg (show ¬ ev P (pe ps i) = (P + y).toNat from by unfold ev; omega)]
      omega
theorem tourOf_tour {P W : Int} {ps : List (Int × Int)} {row : List Int} (ins : Ins P W ps) : Tour P W ps (tourOf P W ps row) := by
  refine tour_by ins tourOf_len fun f => ?_
  have I := trees_inv P W ps ps.length
  unfold tourOf
  generalize (trees P W ps ps.length).1 = T at I
  generalize (trees P W ps ps.length).2 = R at I
  have lt : (toldL ps.length R row).length = ps.length := told_len
  generalize toldL ps.length R row = told at lt
  have onR : ∀ j ∈ R, (dueL P W ps T R told).getD j 0 = told.getD j 0 := fun j hj => puts_off fun p hp => by
    obtain ⟨k, hk, rfl⟩ := List.mem_map.mp hp
    exact fun (e : k = j) => I.dj k hk (e ▸ hj)
  have onT : ∀ k ∈ T, (dueL P W ps T R told).getD k 0 = 0 - totalI P W ps T R told k := fun k hk => puts_at I.nd hk fun j hj => by
    rw [lt]
    exact I.lt j hj
  refine closed (due := fun i => (dueL P W ps T R told).getD i 0) I ins (Nat.le_refl _) (fun k hk => ?_) f
  rw [onT k hk, Int.zero_sub]
  refine congrArg _ (S_congr fun j hj => ?_)
  rw [onR j hj]
/-! sizes -/
def Bnd (B : Int) (l : List Int) : Prop := ∀ x ∈ l, -B ≤ x ∧ x ≤ B
theorem bnd_at {B : Int} (hB : 0 ≤ B) {l : List Int} (h : Bnd B l) (i : Nat) : -B ≤ l.getD i 0 ∧ l.getD i 0 ≤ B := by
  rw [List.getD_eq_getElem?_getD]
  cases e : l[i]? with
  | none => exact ⟨by show -B ≤ 0; omega, by show (0 : Int) ≤ B; omega⟩
  | some x => exact h x (List.mem_of_getElem? e)
theorem puts_bnd {B : Int} : ∀ {q : List (Nat × Int)} {l : List Int}, Bnd B l → (∀ p ∈ q, -B ≤ p.2 ∧ p.2 ≤ B) → Bnd B (puts l q)
  | [], _, h, _ => h
  | p :: q, l, h, hq => puts_bnd (q := q) (l := l.set p.1 p.2) (fun x hx => by
      rcases List.mem_or_eq_of_mem_set hx with e | e
      · exact h x e
      · rw [e]
        exact hq p List.mem_cons_self) fun r hr => hq r (List.mem_cons_of_mem _ hr)
theorem S_bnd {α : Type} {f : α → Int} {B : Int} : ∀ {l : List α}, (∀ x ∈ l, -B ≤ f x ∧ f x ≤ B) → -(l.length * B) ≤ S l f ∧ S l f ≤ l.length * B
  | [], _ => by
    rw [S_nil, List.length_nil]
    simp
  | x :: l, h => by
    obtain ⟨a, b⟩ := h x List.mem_cons_self
    obtain ⟨c, d⟩ := S_bnd (l := l) fun y hy => h y (List.mem_cons_of_mem _ hy)
    rw [S_cons, List.length_cons]
    have e : ((l.length + 1 : Nat) : Int) * B = l.length * B + B := by
      rw [Int.natCast_add, Int.add_mul]
      show _ + 1 * B = _
      rw [Int.one_mul]
    rw [e]
    omega
theorem cut_range {P W : Int} {ps : List (Int × Int)} {T : List Nat} {k j : Nat} : cut P W ps T k j = 0 ∨ cut P W ps T k j = 1 ∨ cut P W ps T k j = -1 := by
  unfold cut
  cases inSide P W ps T k (eu (pe ps j)) <;> cases inSide P W ps T k (ev P (pe ps j)) <;> simp
theorem tourOf_bnd {P W : Int} {ps : List (Int × Int)} {row : List Int} {B : Int} (hB : 0 ≤ B) (h : Bnd B row) (hn : ps.length ≤ 25) : Bnd (25 * B) (tourOf P W ps row) := by
  have I := trees_inv P W ps ps.length
  unfold tourOf
  generalize (trees P W ps ps.length).1 = T at I
  generalize (trees P W ps ps.length).2 = R at I
  have z : Bnd B (toldL ps.length R row) := puts_bnd (fun x hx => by
    rw [List.eq_of_mem_replicate hx]
    omega) fun p hp => h _ (List.of_mem_zip hp).2
  have lR : R.length ≤ 25 := by
    have hs := I.sum fun _ => 1
    have cnt : ∀ l : List Nat, S l (fun _ => 1) = (l.length : Int) := fun l => by
      induction l with
      | nil => rfl
      | cons x l ih =>
        rw [S_cons, ih, List.length_cons]
        omega
    rw [cnt, cnt, cnt, List.length_range] at hs
    omega
  generalize toldL ps.length R row = told at z
  refine puts_bnd (fun x hx => ?_) fun p hp => ?_
  · have := z x hx
    omega
  · obtain ⟨k, _, rfl⟩ := List.mem_map.mp hp
    have b := S_bnd (l := R) (f := fun j => told.getD j 0 * cut P W ps T k j) (B := B) fun j _ => by
      obtain ⟨a, b⟩ := bnd_at hB z j
      rcases cut_range (P := P) (W := W) (ps := ps) (T := T) (k := k) (j := j) with e | e | e
      · rw [e, Int.mul_zero]; omega
      · rw [e, Int.mul_one]; omega
      · rw [e, Int.mul_neg, Int.mul_one]; omega
    have m : (R.length : Int) * B ≤ 25 * B := Int.mul_le_mul_of_nonneg_right (by omega) hB
    dsimp only [totalI]
    omega
/-! spoiled tours -/
theorem tour_set {P W : Int} {ps : List (Int × Int)} {ns ms : List Int} {i : Nat} (ins : Ins P W ps) (t : Tour P W ps ns) (hi : i < ps.length) (off : ∀ j, j ≠ i → ms.getD j 0 = ns.getD j 0) (at_ : ms.getD i 0 ≠ ns.getD i 0) : ¬ Tour P W ps ms := fun z => by
  obtain ⟨a, b, c, d⟩ := ins _ (pe_mem hi)
  have h1 := t.pt _ a b
  have h2 := z.pt _ a b
  have e1 := (S_zip (F := fun p n => if p.1 = (pe ps i).1 then n else 0) t.len).symm.trans h1
  have e2 := (S_zip (F := fun p n => if p.1 = (pe ps i).1 then n else 0) z.len).symm.trans h2
  have e3 := S_add (fun j => if (pe ps j).1 = (pe ps i).1 then ns.getD j 0 else 0) (fun j => if (pe ps j).1 = (pe ps i).1 then ms.getD j 0 - ns.getD j 0 else 0) (List.range ps.length)
  have e4 : S (List.range ps.length) (fun j => (if (pe ps j).1 = (pe ps i).1 then ns.getD j 0 else 0) + (if (pe ps j).1 = (pe ps i).1 then ms.getD j 0 - ns.getD j 0 else 0)) = S (List.range ps.length) fun j => if (pe ps j).1 = (pe ps i).1 then ms.getD j 0 else 0 := S_congr fun j _ => by
    by_cases e : (pe ps j).1 = (pe ps i).1
    · rw [if_pos e, if_pos e, if_pos e]; omega
    · rw [if_neg e, if_neg e, if_neg e]; rfl
  have e5 := S_one (f := fun j => if (pe ps j).1 = (pe ps i).1 then ms.getD j 0 - ns.getD j 0 else 0) (k := i) List.nodup_range (List.mem_range.mpr hi) fun j _ ne => by
    rw [off j ne, Int.sub_self]
    exact ite_self _
  rw [e4, e5] at e3
  rw [if_pos rfl] at e3
  have e1' : S (List.range ps.length) (fun j => if (pe ps j).1 = (pe ps i).1 then ns.getD j 0 else 0) = 0 := e1
  have e2' : S (List.range ps.length) (fun j => if (pe ps j).1 = (pe ps i).1 then ms.getD j 0 else 0) = 0 := e2
  omega
theorem tour_mate {P W : Int} {ps : List (Int × Int)} {ns ms : List Int} {i m : Nat} {s : Int} (ins : Ins P W ps) (nd : ps.Nodup) (t : Tour P W ps ns) (hi : i < ps.length) (hm : m < ps.length) (ne : m ≠ i) (row : (pe ps m).1 = (pe ps i).1) (hs : s ≠ 0)
    (val : ∀ j, j < ps.length → ms.getD j 0 = ns.getD j 0 + (if j = i then s else 0) - (if j = m then s else 0)) : ¬ Tour P W ps ms := fun z => by
  obtain ⟨a, b, c, d⟩ := ins _ (pe_mem hi)
  have col : (pe ps m).2 ≠ (pe ps i).2 := fun e => by
    have : pe ps m = pe ps i := Prod.ext row e
    have h1 := pe_at hm
    have h2 := pe_at hi
    rw [this, ← h2] at h1
    exact ne ((List.getElem?_inj hm nd).mp h1)
  have h1 := t.wl _ c d
  have h2 := z.wl _ c d
  have e1 := (S_zip (F := fun p n => if p.2 = (pe ps i).2 then n else 0) t.len).symm.trans h1
  have e2 := (S_zip (F := fun p n => if p.2 = (pe ps i).2 then n else 0) z.len).symm.trans h2
  have e3 := S_add (fun j => if (pe ps j).2 = (pe ps i).2 then ns.getD j 0 else 0) (fun j => if (pe ps j).2 = (pe ps i).2 then (if j = i then s else 0) - (if j = m then s else 0) else 0) (List.range ps.length)
  have e4 : S (List.range ps.length) (fun j => (if (pe ps j).2 = (pe ps i).2 then ns.getD j 0 else 0) + (if (pe ps j).2 = (pe ps i).2 then (if j = i then s else 0) - (if j = m then s else 0) else 0)) = S (List.range ps.length) fun j => if (pe ps j).2 = (pe ps i).2 then ms.getD j 0 else 0 := S_congr fun j hj => by
    rw [val j (List.mem_range.mp hj)]
    by_cases e : (pe ps j).2 = (pe ps i).2
    · rw [if_pos e, if_pos e, if_pos e]; omega
    · rw [if_neg e, if_neg e, if_neg e]; rfl
  have e5 := S_one (f := fun j => if (pe ps j).2 = (pe ps i).2 then (if j = i then s else 0) - (if j = m then s else 0) else 0) (k := i) List.nodup_range (List.mem_range.mpr hi) fun j _ nj => by
    by_cases e : (pe ps j).2 = (pe ps i).2
    · rw [if_pos e, if_neg nj, if_neg fun (q : j = m) => col (q ▸ e)]
      rfl
    · rw [if_neg e]
  rw [e4, e5] at e3
  rw [if_pos rfl, if_pos rfl, if_neg fun q => ne q.symm] at e3
  have e1' : S (List.range ps.length) (fun j => if (pe ps j).2 = (pe ps i).2 then ns.getD j 0 else 0) = 0 := e1
  have e2' : S (List.range ps.length) (fun j => if (pe ps j).2 = (pe ps i).2 then ms.getD j 0 else 0) = 0 := e2
  omega
end K02
set_option Elab.async false
set_option linter.all false
set_option maxRecDepth 100000
set_option maxHeartbeats 4000000
set_option exponentiation.threshold 5000
namespace K02
open PySem PySem.Spec PyProof.Rows L2 TkS
theorem asg_last {i : Nat} {x : V} {t : TE} {g : TG} {D : Ends} {σ : L2.St} {H : Hp} (h : t (σ.set i (some x)) H fun y H2 => g y (σ.set i (some x)) H2 D.nx) : gName i x σ H (tAsg t g D) := h
theorem dq_intl {H : Hp} : ∀ ls : List Int, DqAll H (ls.map V.int) (ls.map PyData.int)
  | [] => .nil
  | _ :: ls => .cons (.int _) (dq_intl ls)
theorem intl_dq {H : Hp} : ∀ {ls : List Int} {xs : List V}, DqAll H xs (ls.map PyData.int) → xs = ls.map V.int
  | [], _, .nil => rfl
  | _ :: ls, _, .cons k t => by
    cases k
    rw [intl_dq t]
    rfl
/-! the law's pictures -/
theorem dq_kp {H H' : Hp} {h : Addr} {v : V} {d : PyData} (hd : Hand H h) (k : Keep h H H') (n : noHd d = true) (q : Dq H v d) : Dq H' v d := by
  obtain ⟨c, cells, p, r, t, e, ec, _⟩ := hd.ex
  exact dq_hd e ec k.kp _ n q
theorem dqs_kp {H H' : Hp} {h : Addr} {v : List V} {d : List PyData} (hd : Hand H h) (k : Keep h H H') (n : noHds d = true) (q : DqAll H v d) : DqAll H' v d := by
  obtain ⟨c, cells, p, r, t, e, ec, _⟩ := hd.ex
  exact dqs_hd e ec k.kp _ n q
structure Wd (P W : Int) (ps : List (Int × Int)) : Prop where
  p0 : 2 ≤ P
  p1 : P ≤ 4
  w0 : 2 ≤ W
  w1 : W ≤ 4
  ins : Ins P W ps
  asc : Asc ps
  len : 4 ≤ ps.length
theorem Wd.len25 {P W : Int} {ps : List (Int × Int)} (h : Wd P W ps) : ps.length ≤ 16 := by
  have n := asc_nodup h.asc
  have l := nd_le n (B := fullPs P.toNat W.toNat) (fun p hp => mem_fullPs.mpr (by have := h.ins p hp; omega))
  rw [fullPs_len] at l
  have p1 := h.p1
  have w1 := h.w1
  have : P.toNat * W.toNat ≤ 4 * 4 := Nat.mul_le_mul (by omega) (by omega)
  omega
theorem noHd_prs (ps : List (Int × Int)) : noHd (.list (ps.map prD)) = true := noHd_list (fun d m => by
  obtain ⟨p, _, rfl⟩ := List.mem_map.mp m
  rfl) (.inr fun d m es e => by
  obtain ⟨p, _, rfl⟩ := List.mem_map.mp m
  cases e)
theorem wd_full {P W : Int} (p0 : 2 ≤ P) (p1 : P ≤ 4) (w0 : 2 ≤ W) (w1 : W ≤ 4) : Wd P W (fullPs P.toNat W.toNat) := ⟨p0, p1, w0, w1, fullPs_ins (by omega) (by omega), fullPs_asc _ _, by
  rw [fullPs_len]
  have : 2 * 2 ≤ P.toNat * W.toNat := Nat.mul_le_mul (by omega) (by omega)
  exact this⟩
theorem wd_sub {P W : Int} {ps qs : List (Int × Int)} (h : Wd P W ps) (s : qs.Sublist ps) (l : 4 ≤ qs.length) : Wd P W qs := ⟨h.p0, h.p1, h.w0, h.w1, fun p m => h.ins p (s.subset m), List.Pairwise.sublist s h.asc, l⟩
theorem hand_ne {H : Hp} {h D : Addr} (hd : Hand H h) (nD : H D = none) : D ≠ h := fun z => by
  obtain ⟨c, cells, p, r, t, e1, _⟩ := hd.ex
  rw [z, e1] at nD
  cases nD
theorem Hand.putD {H0 G : Hp} {D h : Addr} {o : HO} (hd0 : Hand H0 h) (nD : H0 D = none) (k : Keep h H0 G) (hd : Hand G h) : Hand (upd G D o) h := by
  have nh := hand_ne hd0 nD
  obtain ⟨c0, cells0, p0, r0, t0, e1, e2, _⟩ := hd0.ex
  obtain ⟨c, cells, p, r, t, f1, f2, f3⟩ := hd.ex
  obtain ⟨p', r', t', g⟩ := k.cc _ _ _ _ e1
  rw [f1] at g
  cases g
  have nc : c0 ≠ D := ne_of_none e2 nD
  exact ⟨c0, cells, _, _, _, by rw [upd_ne (Ne.symm nh)]; exact f1, by rw [upd_ne nc]; exact f2, f3⟩
theorem Keep.putD {H0 G : Hp} {D h : Addr} {o : HO} (hd0 : Hand H0 h) (nD : H0 D = none) (k : Keep h H0 G) : Keep h H0 (upd G D o) :=
  ⟨fun b u n e => by rw [upd_ne (ne_of_none e nD)]; exact k b u n e, fun c p r t e => by
    obtain ⟨p', r', t', g⟩ := k.cc _ _ _ _ e
    exact ⟨p', r', t', by rw [upd_ne (Ne.symm (hand_ne hd0 nD))]; exact g⟩⟩
theorem filt_pr (ps : List (Int × Int)) (g : Int × Int → Bool) : ((ps.map prD).filter fun d => g (prOf d)).map id = (ps.filter g).map prD := by
  rw [List.map_id, List.filter_map]
  rfl
theorem rng_pe (ps : List (Int × Int)) : (List.range ps.length).map (pe ps) = ps := by
  refine List.ext_getElem? fun j => ?_
  rw [List.getElem?_map]
  by_cases c : j < ps.length
  · rw [List.getElem?_range c, pe_at c]
    rfl
  · rw [List.getElem?_eq_none (by rw [List.length_range]; omega), List.getElem?_eq_none (by omega)]
    rfl
theorem rng_sub (ps : List (Int × Int)) (f : Nat → Bool) : (((List.range ps.length).filter f).map (pe ps)).Sublist ps := by
  have h : (((List.range ps.length).filter f).map (pe ps)).Sublist ((List.range ps.length).map (pe ps)) := List.Sublist.map _ List.filter_sublist
  rwa [rng_pe] at h
theorem shut_len (n : Nat) (zs : List Int) : n ≤ ((List.range n).filter fun (k : Nat) => !inV (.int (k : Int)) (zs.map V.int)).length + zs.length := by
  have l := nd_le (A := List.range n) (B := ((List.range n).filter fun (k : Nat) => !inV (.int (k : Int)) (zs.map V.int)) ++ zs.map Int.toNat) List.nodup_range (fun k hk => ?_)
  · rw [List.length_range, List.length_append, List.length_map] at l
    exact l
  · rw [List.mem_append]
    cases c : inV (.int (k : Int)) (zs.map V.int) with
    | false => exact .inl (List.mem_filter.mpr ⟨hk, by rw [c]; rfl⟩)
    | true =>
      refine .inr ?_
      unfold inV at c
      obtain ⟨y, hy, e⟩ := List.any_eq_true.mp c
      obtain ⟨z, hz, rfl⟩ := List.mem_map.mp hy
      have e2 : (z == (k : Int)) = true := e
      have e3 := beq_iff_eq.mp e2
      exact List.mem_map.mpr ⟨z, hz, by rw [e3]; rfl⟩
def sp_law_picture : Sp := fun vs H Q _ => ∃ h : Addr, vs = [.ref h] ∧ Hand H h ∧ ∀ H' t l P W ps, Keep h H H' → Hand H' h → Wd P W ps → H' t = some (.tup [.int P, .int W, .ref l]) → Dq H' (.ref l) (.list (ps.map prD)) → Q (.ref t) H'
section
variable {P : Program} {w : World} {K : PySem.W.Frag} {mg : Str → Option Value} {base : Heap}
theorem ok_law_picture (T : Txt K mg) : FnOk P w K mg base CX0 3 T.f_law_picture T.d_law_picture ["_law_hand_here"] sp_law_picture := by
  refine T.F_law_picture.ok sc_law_picture (fun vs H Q E h => ?_) (fun cdv A outer s H vs Q E hr h => ?_)
  · obtain ⟨h, rfl, _⟩ := h
    rfl
  · obtain ⟨h, rfl, hd, q⟩ := h
    refine ⟨_, (pss_cons (ps_set (i := 1) sc_law_picture.nd rfl (.inl rfl) (pe_call (ok_law_take T) (hr.mono (by decide)) (by rfl) T.g_law_take T.F_law_take.kp T.b_law_take .nil pass0 (pa_cons (pv 0) (pa_cons pe_int pa_nil))))
      (pss_cons (ps_if (pt_cmpR op_eq (pv 1) pe_int (nomark _))
        (pss_one (ps_ret (pe_tup (pa_cons pe_int (pa_cons pe_int (pa_cons (pe_call (ok_law_full T) (hr.mono (by decide)) (by rfl) T.g_law_full T.F_law_full.kp T.b_law_full .nil pass0 (pa_cons pe_int (pa_cons pe_int pa_nil))) pa_nil))))))
        pss_nil)
      (pss_cons (ps_if (pt_cmpR op_eq (pv 1) pe_int (nomark _))
        (pss_one (ps_ret (pe_tup (pa_cons pe_int (pa_cons pe_int (pa_cons (pe_call (ok_law_full T) (hr.mono (by decide)) (by rfl) T.g_law_full T.F_law_full.kp T.b_law_full .nil pass0 (pa_cons pe_int (pa_cons pe_int pa_nil))) pa_nil))))))
        pss_nil)
      (pss_cons (ps_if (pt_cmpR op_eq (pv 1) pe_int (nomark _))
        (pss_one (ps_ret (pe_tup (pa_cons pe_int (pa_cons pe_int (pa_cons (pe_call (ok_law_full T) (hr.mono (by decide)) (by rfl) T.g_law_full T.F_law_full.kp T.b_law_full .nil pass0 (pa_cons pe_int (pa_cons pe_int pa_nil))) pa_nil))))))
        pss_nil)
      (pss_cons (ps_if (pt_cmpR op_le (pv 1) pe_int (nomark _))
        (pss_one (ps_ret (pe_tup (pa_cons pe_int (pa_cons pe_int (pa_cons (pe_call (ok_law_full T) (hr.mono (by decide)) (by rfl) T.g_law_full T.F_law_full.kp T.b_law_full .nil pass0 (pa_cons pe_int (pa_cons pe_int pa_nil))) pa_nil))))))
        pss_nil)
      (pss_cons (ps_if (pt_cmpR op_eq (pv 1) pe_int (nomark _))
        (pss_one (ps_ret (pe_tup (pa_cons pe_int (pa_cons pe_int (pa_cons (pe_lc rfl sc_law_picture.nd (pi_list (pe_call (ok_law_full T) (hr.mono (by decide)) (by rfl) T.g_law_full T.F_law_full.kp T.b_law_full .nil pass0 (pa_cons pe_int (pa_cons pe_int pa_nil)))) (blkOk_by (own := [("_law_pair", 6)]) (N := ["_law_hand_here", "_law_pick", "_law_shut", "_law_shuts", "_law_pairs", "_law_k", "_law_pair"]) (sc := defScope s_law_picture) (by decide +kernel)) (fun _ _ _ _ _ => (pg_name (i := 6) sc_law_picture.nd rfl (.inl rfl))) (fun _ _ _ _ _ => (pts_one (pt_cmpR op_ne (pe_ix (show IxR _ (rIx K) from ix_seq) (pv 6) pe_int (fun _ _ => rfl)) (pe_ix (show IxR _ (rIx K) from ix_seq) (pv 6) pe_int (fun _ _ => rfl)) (nomark _)))) (fun _ _ _ _ _ => (pv 6))) pa_nil))))))
        pss_nil)
      (pss_cons (ps_if (pt_cmpR op_eq (pv 1) pe_int (nomark _))
        (pss_one (ps_ret (pe_tup (pa_cons pe_int (pa_cons pe_int (pa_cons (pe_lc rfl sc_law_picture.nd (pi_list (pe_call (ok_law_full T) (hr.mono (by decide)) (by rfl) T.g_law_full T.F_law_full.kp T.b_law_full .nil pass0 (pa_cons pe_int (pa_cons pe_int pa_nil)))) (blkOk_by (own := [("_law_pair", 6)]) (N := ["_law_hand_here", "_law_pick", "_law_shut", "_law_shuts", "_law_pairs", "_law_k", "_law_pair"]) (sc := defScope s_law_picture) (by decide +kernel)) (fun _ _ _ _ _ => (pg_name (i := 6) sc_law_picture.nd rfl (.inl rfl))) (fun _ _ _ _ _ => (pts_one (pt_cmpR (show OpR _ (compareOp .NotEq) (rNeD K) from op_neD hr.units) (pv 6) (pe_tup (pa_cons pe_int (pa_cons pe_int pa_nil))) (nomark _)))) (fun _ _ _ _ _ => (pv 6))) pa_nil))))))
        pss_nil)
      (pss_cons (ps_set (i := 2) sc_law_picture.nd rfl (.inr rfl) (pe_lc rfl sc_law_picture.nd (pi_range1 (by rfl) T.m_range (pa_cons pe_int pa_nil)) (blkOk_by (own := [("_law_k", 5)]) (N := ["_law_hand_here", "_law_pick", "_law_shut", "_law_shuts", "_law_pairs", "_law_k", "_law_pair"]) (sc := defScope s_law_picture) (by decide +kernel)) (fun _ _ _ _ _ => (pg_name (i := 5) sc_law_picture.nd rfl (.inl rfl))) (fun _ _ _ _ _ => pts_nil) (fun _ _ _ _ _ => (pe_call (ok_law_take T) (hr.mono (by decide)) (by rfl) T.g_law_take T.F_law_take.kp T.b_law_take .nil pass0 (pa_cons (pv 0) (pa_cons pe_int pa_nil))))))
      (pss_cons (ps_set (i := 3) sc_law_picture.nd rfl (.inl rfl) (pe_op op_add pe_int (pe_op op_mod (pe_callTy call_int1 (by rfl) T.m_int (by decide +kernel) (pa_cons (pv 1) pa_nil)) pe_int)))
      (pss_cons (ps_set (i := 4) sc_law_picture.nd rfl (.inr rfl) (pe_call (ok_law_full T) (hr.mono (by decide)) (by rfl) T.g_law_full T.F_law_full.kp T.b_law_full .nil pass0 (pa_cons pe_int (pa_cons (pv 3) pa_nil))))
      (pss_one (ps_ret (pe_tup (pa_cons pe_int (pa_cons (pv 3) (pa_cons (pe_lc rfl sc_law_picture.nd (pi_range1 (by rfl) T.m_range (pa_cons (pe_callB call_len_seq (by rfl) T.m_len (by decide +kernel) (pa_cons (pv 4) pa_nil)) pa_nil)) (blkOk_by (own := [("_law_k", 5)]) (N := ["_law_hand_here", "_law_pick", "_law_shut", "_law_shuts", "_law_pairs", "_law_k", "_law_pair"]) (sc := defScope s_law_picture) (by decide +kernel)) (fun _ _ _ _ _ => (pg_name (i := 5) sc_law_picture.nd rfl (.inl rfl))) (fun _ _ _ _ _ => (pts_one (pt_cmpR (show OpR _ (compareOp .NotIn) (rIn K true) from op_notIn_seq) (pv 5) (pv 2) rfl))) (fun _ _ _ _ _ => (pe_ix (show IxR _ (rIxL K) from ix_list) (pv 4) (pv 5) (fun _ _ => rfl)))) pa_nil)))))))))))))))), ?_⟩
    have fin : ∀ {P W : Int} {ps : List (Int × Int)} {H1 : Hp} {l : Addr}, Keep h H H1 → Hand H1 h → Wd P W ps → Dq H1 (.ref l) (.list (ps.map prD)) → [V.int P, V.int W, V.ref l].length ≤ sizeLine ∧ ∀ u, H1 u = none → Q (.ref u) (upd H1 u (.tup [.int P, .int W, .ref l])) := fun {P W ps H1 l} kp hd1 wd kl =>
      ⟨(by show 3 ≤ sizeLine; decide), fun u nu => q _ u l P W ps (kp.trans (Keep.of (same_new nu))) (hd1.same (same_new nu)) wd upd_same (kl.same (same_new nu))⟩
    refine ⟨_, rfl, h, 9, rfl, hd, by decide, by decide, fun H1 r k1 hd1 r0 r1 => ?_⟩
    refine ⟨_, rfl, rfl, _, rfl, ?_⟩
    rw [int_dec]
    by_cases c0 : r = 0
    · rw [decide_eq_true c0]
      exact iteT ⟨2, 2, rfl, by decide, by decide, by decide, by decide, fun l H2 s2 nl kl => fin (k1.trans (Keep.of s2)) (hd1.same s2) (wd_full (P := 2) (W := 2) (by decide) (by decide) (by decide) (by decide)) kl⟩
    rw [decide_eq_false c0]
    refine iteF ⟨_, rfl, rfl, _, rfl, ?_⟩
    rw [int_dec]
    by_cases c1 : r = 1
    · rw [decide_eq_true c1]
      exact iteT ⟨2, 3, rfl, by decide, by decide, by decide, by decide, fun l H2 s2 nl kl => fin (k1.trans (Keep.of s2)) (hd1.same s2) (wd_full (P := 2) (W := 3) (by decide) (by decide) (by decide) (by decide)) kl⟩
    rw [decide_eq_false c1]
    refine iteF ⟨_, rfl, rfl, _, rfl, ?_⟩
    rw [int_dec]
    by_cases c2 : r = 2
    · rw [decide_eq_true c2]
      exact iteT ⟨3, 2, rfl, by decide, by decide, by decide, by decide, fun l H2 s2 nl kl => fin (k1.trans (Keep.of s2)) (hd1.same s2) (wd_full (P := 3) (W := 2) (by decide) (by decide) (by decide) (by decide)) kl⟩
    rw [decide_eq_false c2]
    refine iteF ⟨_, rfl, _, _, rfl, rfl, _, rfl, ite2 (fun c3 => ?_) (fun c3 => ?_)⟩
    · exact ⟨3, 3, rfl, by decide, by decide, by decide, by decide, fun l H2 s2 nl kl => fin (k1.trans (Keep.of s2)) (hd1.same s2) (wd_full (P := 3) (W := 3) (by decide) (by decide) (by decide) (by decide)) kl⟩
    refine ⟨_, rfl, rfl, _, rfl, ?_⟩
    rw [int_dec]
    by_cases c5 : r = 5
    · rw [decide_eq_true c5]
      refine iteT ⟨4, 4, rfl, by decide, by decide, by decide, by decide, fun l H2 s2 nl kl => ?_⟩
      cases kl with
      | lst e t =>
        refine ⟨l, rfl, ⟨_, SqL.of e⟩, fun D nD => lc_listD (fun d => decide ((prOf d).1 ≠ (prOf d).2)) id (SqL.of e) t nD (by rw [List.length_map, fullPs_len]; decide) (fun _ => rfl) (fun i x d H' Q' hd' s' k' q' => ?_) (fun i x d H' Q' hd' _ s' k' acc q' => ?_) (fun H' s' kD => ?_)⟩
        · rw [List.getElem?_map] at hd'
          obtain ⟨p, _, rfl⟩ := Option.map_eq_some_iff.mp hd'
          obtain ⟨_, tt, rfl, ht⟩ := prV_of k'
          refine ⟨_, rfl, .inr (.inl ⟨tt, _, 0, .int p.1, rfl, rfl, SqT.of ht, rfl, _, rfl, .inr (.inl ⟨tt, _, 1, .int p.2, rfl, rfl, SqT.of ht, rfl, rfl, _, rfl, ?_⟩)⟩)⟩
          rw [int_dec]
          have := q' _ (fun _ _ z => z)
          rw [show (decide ((prOf (prD p)).1 ≠ (prOf (prD p)).2)) = !decide (p.1 = p.2) from decide_not] at this
          exact this
        · rw [List.getElem?_map] at hd'
          obtain ⟨p, _, rfl⟩ := Option.map_eq_some_iff.mp hd'
          obtain ⟨acc, ha⟩ := acc
          exact ⟨_, rfl, q' _ _ (fun _ _ z => z) (dq_noL ha _ rfl k')⟩
        · have kD' : Dq H' (.ref D) (.list (((fullPs (Int.toNat 4) (Int.toNat 4)).filter fun p => decide (p.1 ≠ p.2)).map prD)) := by
            rw [← filt_pr]
            exact kD
          refine fin (k1.trans (Keep.of (s2.trans s'))) (hd1.same (s2.trans s')) (wd_sub (wd_full (P := 4) (W := 4) (by decide) (by decide) (by decide) (by decide)) List.filter_sublist ?_) kD'
          decide
    rw [decide_eq_false c5]
    refine iteF ⟨_, rfl, rfl, _, rfl, ?_⟩
    rw [int_dec]
    by_cases c6 : r = 6
    · rw [decide_eq_true c6]
      refine iteT ⟨3, 3, rfl, by decide, by decide, by decide, by decide, fun l H2 s2 nl kl => ?_⟩
      cases kl with
      | lst e t =>
        refine ⟨l, rfl, ⟨_, SqL.of e⟩, fun D nD => lc_listD (fun d => decide (prOf d ≠ (2, 2))) id (SqL.of e) t nD (by rw [List.length_map, fullPs_len]; decide) (fun _ => rfl) (fun i x d H' Q' hd' s' k' q' => ?_) (fun i x d H' Q' hd' _ s' k' acc q' => ?_) (fun H' s' kD => ?_)⟩
        · rw [List.getElem?_map] at hd'
          obtain ⟨p, _, rfl⟩ := Option.map_eq_some_iff.mp hd'
          refine ⟨_, rfl, (by show 2 ≤ sizeLine; decide), fun u nu => ⟨_, prD (2, 2), (k'.same (same_new nu)).dp, (Dq.tup upd_same (.cons (.int _) (.cons (.int _) .nil))).dp, shaped_pr p, shaped_pr _, _, rfl, ?_⟩⟩
          rw [eqv_pr]
          have := q' _ (same_new (o := .tup [.int 2, .int 2]) nu)
          rw [show (decide (prOf (prD p) ≠ (2, 2))) = !decide (p = (2, 2)) from decide_not] at this
          exact this
        · rw [List.getElem?_map] at hd'
          obtain ⟨p, _, rfl⟩ := Option.map_eq_some_iff.mp hd'
          obtain ⟨acc, ha⟩ := acc
          exact ⟨_, rfl, q' _ _ (fun _ _ z => z) (dq_noL ha _ rfl k')⟩
        · have kD' : Dq H' (.ref D) (.list (((fullPs (Int.toNat 3) (Int.toNat 3)).filter fun p => decide (p ≠ (2, 2))).map prD)) := by
            rw [← filt_pr]
            exact kD
          refine fin (k1.trans (Keep.of (s2.trans s'))) (hd1.same (s2.trans s')) (wd_sub (wd_full (P := 3) (W := 3) (by decide) (by decide) (by decide) (by decide)) List.filter_sublist ?_) kD'
          decide
    rw [decide_eq_false c6]
    refine iteF ?_
    refine ⟨3, rfl, by decide, by decide, fun D nD => ?_⟩
    refine lc_range (n := 3) (fun i H' => ∃ zs : List Int, zs.length = i ∧ Keep h H1 H' ∧ Hand H' h ∧ H' D = some (.lst (zs.map V.int))) ⟨[], rfl, Keep.putD hd1 nD Keep.refl, Hand.putD hd1 nD Keep.refl hd1, upd_same⟩ (fun i H' hi hP => ?_) (fun H' hP => ?_)
    · obtain ⟨zs, lz, k', hd', hD⟩ := hP
      refine ⟨rfl, _, rfl, h, 12, rfl, hd', by decide, by decide, fun H2 z k2 hd2 z0 z1 => ?_⟩
      have nh := hand_ne hd1 nD
      have hD2 := k2 _ _ nh hD
      refine ⟨_, hD2, by rw [List.length_map]; exact small1000 (by omega), zs ++ [z], by rw [List.length_append, lz]; rfl, Keep.putD hd1 nD (k'.trans k2), Hand.putD hd1 nD (k'.trans k2) hd2, ?_⟩
      rw [upd_same, List.map_append]
      rfl
    · obtain ⟨zs, lz, k', hd', hD⟩ := hP
      have c3' : ¬ r ≤ 4 := fun z => c3 (decide_eq_true z)
      refine ⟨_, rfl, .inl ⟨_, rfl, _, _, rfl, rfl, (by show (0 : Int) < _; decide), _, _, rfl, rfl, ?_⟩⟩
      refine ⟨_, rfl, 3, 3 + r % 2, rfl, by decide, by decide, by omega, by omega, fun l H2 s2 nl kl => ?_⟩
      have hD2 := s2 _ _ hD
      have wd : Wd 3 (3 + r % 2) (fullPs (Int.toNat 3) (3 + r % 2).toNat) := wd_full (by decide) (by decide) (by omega) (by omega)
      have ln : (fullPs (Int.toNat 3) (3 + r % 2).toNat).length = 3 * (3 + r % 2).toNat := fullPs_len _ _
      generalize fullPs (Int.toNat 3) (3 + r % 2).toNat = fs at kl wd ln
      have kk := k'.trans (Keep.of s2)
      have hd2 := hd'.same s2
      cases kl with
      | lst e t =>
        rename_i fx
        have lx : fx.length = fs.length := by rw [t.len, List.length_map]
        refine ⟨_, rfl, _, rfl, l, fx, rfl, .inl (SqL.of e), _, rfl, by omega, by omega, fun D2 nD2 => ?_⟩
        refine lc_rngD (fun k => !inV (.int (k : Int)) (zs.map V.int)) (fun k => prD (pe fs k)) nD2 (by omega) (fun _ => rfl) (fun k H3 Q3 hk s3 q3 => ?_) (fun k H3 Q3 hk _ s3 acc q3 => ?_) (fun H3 s3 kD => ?_)
        · refine ⟨_, rfl, _, rfl, D, _, rfl, .inl (SqL.of (s3 _ _ hD2)), rfl, ?_, _, rfl, ?_⟩
          · rw [List.all_eq_true]
            intro y hy
            obtain ⟨z, _, rfl⟩ := List.mem_map.mp hy
            rfl
          · rw [Int.zero_add]
            exact q3 _ fun _ _ z => z
        · have hk' : k < fs.length := by omega
          obtain ⟨y, hy⟩ : ∃ y, fx[k]? = some y := ⟨_, List.getElem?_eq_getElem (by omega)⟩
          obtain ⟨d, h1, h2⟩ := t.get hy
          rw [List.getElem?_map, pe_at hk'] at h1
          cases h1
          obtain ⟨acc, ha⟩ := acc
          refine ⟨_, rfl, _, rfl, l, fx, (k : Int), y, rfl, by rw [Int.zero_add], SqL.of (s3 _ _ e), at_of (j := k) (by omega) hy, ?_⟩
          exact q3 _ _ (fun _ _ z => z) (dq_noL ha _ rfl (h2.same s3))
        · have ej : ((fx.length : Int)).toNat = fs.length := by omega
          rw [ej] at kD
          have kD' : Dq H3 (.ref D2) (.list ((((List.range fs.length).filter fun (k : Nat) => !inV (.int (k : Int)) (zs.map V.int)).map (pe fs)).map prD)) := by
            rw [List.map_map]
            exact kD
          refine fin ((k1.trans kk).trans (Keep.of s3)) (hd2.same s3) (wd_sub wd (rng_sub _ _) ?_) kD'
          have := shut_len fs.length zs
          rw [List.length_map]
          omega
end
end K02
set_option Elab.async false
set_option linter.all false
set_option maxRecDepth 100000
set_option maxHeartbeats 4000000
set_option exponentiation.threshold 5000
set_option pp.maxSteps 600
namespace K02
open PySem PySem.Spec PyProof.Rows L2 TkS
/-! the sides of a ring -/
def cAt (cs : List Int) (k : Nat) : Int := cs.getD (k % cs.length) 0
def sideP (cs : List Int) (k : Nat) : Int × Int := if k % 2 = 0 then (cAt cs k, cAt cs (k + 1)) else (cAt cs (k + 1), cAt cs k)
def sideS (k : Nat) : Int := if k % 2 = 0 then 1 else -1
def sideD (cs : List Int) (k : Nat) : PyData := .tuple [prD (sideP cs k), .int (sideS k)]
def sidesL (cs : List Int) (n : Nat) : List PyData := (List.range n).map (sideD cs)
theorem sidesL_succ (cs : List Int) (n : Nat) : sidesL cs (n + 1) = sidesL cs n ++ [sideD cs n] := by
  unfold sidesL
  rw [List.range_succ, List.map_append]
  rfl
theorem sidesL_len (cs : List Int) (n : Nat) : (sidesL cs n).length = n := by
  unfold sidesL
  rw [List.length_map, List.length_range]
theorem at_int {cs : List Int} {k : Nat} (h : k < cs.length) : atI (cs.map V.int) (k : Int) = some (.int (cs.getD k 0)) := by
  unfold atI ixN
  rw [if_pos (by omega), List.length_map, if_pos (by omega)]
  show (cs.map V.int)[k]? = _
  rw [List.getElem?_map, List.getD_eq_getElem?_getD, List.getElem?_eq_getElem h]
  rfl
def sp_ring_sides : Sp := fun vs H Q _ => ∃ (x : V) (d : PyData) (cs : List Int), vs = [x] ∧ Dq H x d ∧ itemsD d = some (cs.map PyData.int) ∧ cs.length ≤ 60 ∧ ∀ l H', Same H H' → Dq H' (.ref l) (.tuple (sidesL cs cs.length)) → Q (.ref l) H'
section
variable {P : Program} {w : World} {K : PySem.W.Frag} {mg : Str → Option Value} {base : Heap}
theorem ok_ring_sides (T : Txt K mg) : FnOk P w K mg base CX0 1 T.f_ring_sides T.d_ring_sides ["corners"] sp_ring_sides := by
  refine T.F_ring_sides.ok sc_ring_sides (fun vs H Q E h => ?_) (fun cdv A outer s H vs Q E hr h => ?_)
  · obtain ⟨x, d, cs, rfl, _⟩ := h
    rfl
  · obtain ⟨x, d, cs, rfl, kx, it, l60, q⟩ := h
    refine ⟨_, (pss_cons (ps_set (i := 1) sc_ring_sides.nd rfl (.inl rfl) (pe_lst pa_nil))
      (pss_cons (ps_for PassesOwn.never rfl (pi_range1 (by rfl) T.m_range (pa_cons (pe_callB call_len_seq (by rfl) T.m_len (by decide +kernel) (pa_cons (pv 0) pa_nil)) pa_nil)) (pg_name (i := 2) sc_ring_sides.nd rfl (.inl rfl))
        (pss_cons (ps_set (i := 3) sc_ring_sides.nd rfl (.inl rfl) (pe_ix ix_seq (pv 0) (pv 2) (fun _ _ => rfl)))
        (pss_cons (ps_set (i := 4) sc_ring_sides.nd rfl (.inl rfl) (pe_ix ix_seq (pv 0) (pe_op op_mod (pe_op op_add (pv 2) pe_int) (pe_callB call_len_seq (by rfl) T.m_len (by decide +kernel) (pa_cons (pv 0) pa_nil))) (fun _ _ => rfl)))
        (pss_one (ps_if (pt_cmpR op_eq (pe_op op_mod (pv 2) pe_int) pe_int (nomark _))
          (pss_one (ps_expr (pe_bm PySem.F.plainAttrs_list PySem.F.slot_list_append PySem.F.type_list_append mt_append (pv 1) (pa_cons (pe_tup (pa_cons (pe_tup (pa_cons (pv 3) (pa_cons (pv 4) pa_nil))) (pa_cons pe_int pa_nil))) pa_nil))))
          (pss_one (ps_expr (pe_bm PySem.F.plainAttrs_list PySem.F.slot_list_append PySem.F.type_list_append mt_append (pv 1) (pa_cons (pe_tup (pa_cons (pe_tup (pa_cons (pv 4) (pa_cons (pv 3) pa_nil))) (pa_cons (pe_un un_neg pe_int) pa_nil))) pa_nil)))))))))
      (pss_one (ps_ret (pe_callTy call_tuple_of (by rfl) T.m_tuple (by decide +kernel) (pa_cons (pv 1) pa_nil)))))), ?_⟩
    obtain ⟨p, xs, rfl, hxs, hsq⟩ := sq_of (K := K) kx it
    rw [intl_dq hxs] at hsq
    clear hxs
    refine ⟨Nat.zero_le _, fun L nL => ⟨_, rfl, p, _, rfl, (hsq.same (same_new nL)), (cs.length : Int), by rw [List.length_map], by omega, by omega, for_range (n := (cs.length : Int).toNat) (fun i σ H' => ∃ y2 y3 y4, σ = [some (.ref p), some (.ref L), y2, y3, y4] ∧ Acc H L (sidesL cs i) H')
      ⟨_, _, _, rfl, Acc.nil nL⟩ (fun i σ H' hi hP => ?_) (fun σ H' hP => ?_)⟩⟩
    · obtain ⟨y2, y3, y4, rfl, ac⟩ := hP
      have hi' : i < cs.length := by omega
      have hm : (i + 1) % cs.length < cs.length := Nat.mod_lt _ (by omega)
      have rix : ∀ {G : Hp} {Q' : VK} {k : Nat}, k < cs.length → Same H G → Q' (.int (cs.getD k 0)) G → rIx K (.ref p) (.int (k : Int)) G Q' := fun {G Q' k} hk s q => (hsq.same s).elim (fun z => .inl ⟨p, _, _, _, rfl, rfl, z, at_int hk, q⟩) (fun z => .inr (.inl ⟨p, _, _, _, rfl, rfl, z, at_int hk, q⟩))
      rw [Int.zero_add]
      have e0 : cAt cs i = cs.getD i 0 := by
        unfold cAt
        rw [Nat.mod_eq_of_lt hi']
      have e1 : (((i : Int) + 1) % (cs.length : Int)) = (((i + 1) % cs.length : Nat) : Int) := by
        exact (Int.natCast_emod (i + 1) cs.length).symm
      refine ⟨_, rfl, _, rfl, rix hi' ac.1 ⟨_, rfl, _, rfl, _, _, rfl, rfl, _, rfl, p, _, rfl, hsq.same ac.1, _, _, rfl, rfl, ?_, ?_⟩⟩
      · rw [List.length_map]
        omega
      rw [List.length_map]
      show rIx K (.ref p) (.int (((i : Int) + 1) % (cs.length : Int))) _ _
      rw [e1]
      refine rix hm ac.1 ?_
      have a900 : (sidesL cs i).length ≤ 900 := by
        rw [sidesL_len]
        omega
      refine ⟨_, rfl, _, _, rfl, rfl, (by show (0 : Int) < _; decide), rfl, _, rfl, ?_⟩
      rw [int_dec]
      obtain ⟨ys0, eL0, _⟩ := id ac.2
      have fin : ∀ (a b z : Int) (u1 u2 : Addr), sideD cs i = .tuple [.tuple [.int a, .int b], .int z] → H' u1 = none → (upd H' u1 (.tup [.int a, .int b])) u2 = none →
          ∃ acc, (upd (upd H' u1 (.tup [.int a, .int b])) u2 (.tup [.ref u1, .int z])) L = some (.lst acc) ∧ acc.length < sizeLine ∧ Acc H L (sidesL cs (i + 1)) (upd (upd (upd H' u1 (.tup [.int a, .int b])) u2 (.tup [.ref u1, .int z])) L (.lst (acc ++ [.ref u2]))) := fun a b z u1 u2 e n1 n2 => by
        have s1 := same_new (o := .tup [.int a, .int b]) n1
        have s2 := same_new (o := .tup [.ref u1, .int z]) n2
        have l1 : u1 ≠ L := (ne_of_none eL0 n1).symm
        have l2 : u2 ≠ L := (ne_of_none (s1 _ _ eL0) n2).symm
        rw [sidesL_succ]
        refine ac.put nL a900 (s1.trans s2) ?_
        rw [e]
        exact .tup (off_at l2 upd_same) (.cons (.tup (off_at l1 (s2 _ _ upd_same)) (.cons (.int _) (.cons (.int _) .nil))) (.cons (.int _) .nil))
      have e2 : cAt cs (i + 1) = cs.getD ((i + 1) % cs.length) 0 := rfl
      by_cases c : i % 2 = 0
      · have c' : (i : Int) % 2 = 0 := by omega
        rw [decide_eq_true c']
        refine iteT ⟨_, rfl, .inl ⟨rfl, _, SqL.of eL0⟩, _, rfl, _, rfl, (by show 2 ≤ sizeLine; decide), fun u1 n1 => ⟨(by show 2 ≤ sizeLine; decide), fun u2 n2 => ?_⟩⟩
        obtain ⟨acc, g1, g2, g3⟩ := fin _ _ 1 u1 u2 (by unfold sideD sideP sideS prD; rw [if_pos c, if_pos c, e0, e2]) n1 n2
        exact ⟨L, acc, _, rfl, rfl, g1, g2, _, _, _, rfl, g3⟩
      · have c' : ¬ (i : Int) % 2 = 0 := by omega
        rw [decide_eq_false c']
        refine iteF ⟨_, rfl, .inl ⟨rfl, _, SqL.of eL0⟩, _, rfl, _, rfl, (by show 2 ≤ sizeLine; decide), fun u1 n1 => ⟨_, rfl, (by show 2 ≤ sizeLine; decide), fun u2 n2 => ?_⟩⟩
        obtain ⟨acc, g1, g2, g3⟩ := fin _ _ (-1) u1 u2 (by unfold sideD sideP sideS prD; rw [if_neg c, if_neg c, e0, e2]) n1 n2
        exact ⟨L, acc, _, rfl, rfl, g1, g2, _, _, _, rfl, g3⟩
    · obtain ⟨y2, y3, y4, rfl, ac⟩ := hP
      obtain ⟨ys, eL, dL⟩ := ac.2
      refine ⟨_, rfl, L, ys, rfl, .inl ⟨SqL.of eL, fun l nl => ?_⟩⟩
      have s2 := same_new (o := .tup ys) nl
      exact q l _ (ac.1.trans s2) (.tup upd_same (DqAll.same s2 _ (DqAll.same off_same _ dL)))
end
end K02
set_option Elab.async false
set_option linter.all false
set_option maxRecDepth 100000
set_option maxHeartbeats 4000000
set_option exponentiation.threshold 5000
set_option pp.maxSteps 600
namespace K02
open PySem PySem.Spec PyProof.Rows L2 TkS
/-! the turned ring -/
def turnL (cs : List Int) : List Int := (List.range cs.length).map fun k => cs.getD ((cs.length - k) % cs.length) 0
theorem turnL_len (cs : List Int) : (turnL cs).length = cs.length := by
  unfold turnL
  rw [List.length_map, List.length_range]
theorem at_back {cs : List Int} {k : Nat} (h : k < cs.length) : atI (cs.map V.int) (-(k : Int)) = some (.int (cs.getD ((cs.length - k) % cs.length) 0)) := by
  by_cases z : k = 0
  · subst z
    rw [Nat.sub_zero, Nat.mod_self]
    exact at_int h
  · rw [Nat.mod_eq_of_lt (by omega)]
    unfold atI ixN
    rw [if_neg (by omega), List.length_map, if_pos (by omega)]
    show (cs.map V.int)[(-(k : Int) + (cs.length : Int)).toNat]? = _
    rw [show (-(k : Int) + (cs.length : Int)).toNat = cs.length - k by omega, List.getElem?_map, List.getD_eq_getElem?_getD, List.getElem?_eq_getElem (by omega)]
    rfl
def sp_turned_ring : Sp := fun vs H Q _ => ∃ (x : V) (d : PyData) (cs : List Int), vs = [x] ∧ Dq H x d ∧ itemsD d = some (cs.map PyData.int) ∧ cs.length ≤ 60 ∧ ∀ l H', Same H H' → Dq H' (.ref l) (.tuple ((turnL cs).map PyData.int)) → Q (.ref l) H'
section
variable {P : Program} {w : World} {K : PySem.W.Frag} {mg : Str → Option Value} {base : Heap}
theorem ok_turned_ring (T : Txt K mg) : FnOk P w K mg base CX0 1 T.f_turned_ring T.d_turned_ring ["corners"] sp_turned_ring := by
  refine T.F_turned_ring.ok sc_turned_ring (fun vs H Q E h => ?_) (fun cdv A outer s H vs Q E hr h => ?_)
  · obtain ⟨x, d, cs, rfl, _⟩ := h
    rfl
  · obtain ⟨x, d, cs, rfl, kx, it, l60, q⟩ := h
    refine ⟨_, (pss_one (ps_ret (pe_callTy call_tuple_of (by rfl) T.m_tuple (by decide +kernel) (pa_cons (pe_lc rfl sc_turned_ring.nd (pi_range1 (by rfl) T.m_range (pa_cons (pe_callB call_len_seq (by rfl) T.m_len (by decide +kernel) (pa_cons (pv 0) pa_nil)) pa_nil)) (blkOk_by (own := [("at", 1)]) (N := ["corners", "at"]) (sc := defScope s_turned_ring) (by decide +kernel)) (fun _ _ _ _ _ => (pg_name (i := 1) sc_turned_ring.nd rfl (.inl rfl))) (fun _ _ _ _ _ => pts_nil) (fun _ _ _ _ _ => (pe_ix (show IxR _ (rIx K) from ix_seq) (pv 0) (pe_un un_neg (pv 1)) (fun _ _ => rfl)))) pa_nil)))), ?_⟩
    obtain ⟨p, xs, rfl, hxs, hsq⟩ := sq_of (K := K) kx it
    rw [intl_dq hxs] at hsq
    clear hxs
    refine ret_cb_lc ?_
    refine ⟨_, rfl, p, _, rfl, hsq, (cs.length : Int), by rw [List.length_map], by omega, by omega, fun D nD => ?_⟩
    refine lc_rngD (fun _ => true) (fun k => .int (cs.getD ((cs.length - k) % cs.length) 0)) nD (by omega) (fun _ => rfl) (fun j H2 Q2 hj s2 q2 => q2 _ (fun _ _ z => z)) (fun j H2 Q2 hj _ s2 hD q2 => ?_) (fun H2 s2 kD => ?_)
    · have hj' : j < cs.length := by omega
      rw [Int.zero_add]
      refine ⟨_, rfl, _, rfl, _, rfl, ?_⟩
      exact (hsq.same s2).elim (fun z => .inl ⟨p, _, _, _, rfl, rfl, z, at_back hj', q2 _ _ (fun _ _ z => z) (.int _)⟩) (fun z => .inr (.inl ⟨p, _, _, _, rfl, rfl, z, at_back hj', q2 _ _ (fun _ _ z => z) (.int _)⟩))
    · obtain ⟨ys, eL, dL⟩ := (show ∃ ys, H2 D = some (.lst ys) ∧ DqAll H2 ys _ from by
        cases kD with
        | lst e t => exact ⟨_, e, t⟩)
      refine ⟨D, ys, rfl, .inl ⟨SqL.of eL, fun l nl => ?_⟩⟩
      have s3 := same_new (o := .tup ys) nl
      refine q l _ (s2.trans s3) ?_
      have e : (turnL cs).map PyData.int = ((List.range cs.length).filter fun _ => true).map fun k => PyData.int (cs.getD ((cs.length - k) % cs.length) 0) := by
        rw [List.filter_eq_self.mpr fun _ _ => rfl]
        unfold turnL
        rw [List.map_map]
        rfl
      rw [e]
      exact .tup upd_same (DqAll.same s3 _ dL)
end
end K02
set_option Elab.async false
set_option linter.all false
set_option maxRecDepth 100000
set_option maxHeartbeats 4000000
set_option exponentiation.threshold 5000
namespace TkS
open PySem PySem.Spec PyProof.Rows L2
theorem call_isE2 {X : Cx} {a D : Addr} {oe : Obj} {cls : Value} {d : Option Addr} {pn : List (Addr × Obj)} (C : ExcC X.K D) (hz : Zc cls d oe) (hf : ∃ vs, oe.data = .fields vs) : CallR (X.suite a ((a, oe) :: pn)) (.builtin "isinstance") (fun xs H Q => cls = .ref D ∧ d = none ∧ rIsE X.K D a xs H Q) := by
  intro pins s σ H xs us Q I r h
  obtain ⟨rfl, rfl, h⟩ := h
  exact call_isE C hz hf pins s σ H xs us Q I r h
theorem op_lc {r : R2} {wi : TI} {g : TG} {tt : TT} {te tb : TE} {vs : List Nat} {σ : L2.St} {H : Hp} {Q : VK} (h : tLc wi g tt te vs σ H fun x H1 => tb σ H1 fun y H2 => r x y H2 Q) : tOp r (tLc wi g tt te vs) tb σ H Q := h
end TkS
namespace K02
open PySem PySem.Spec PyProof.Rows L2 TkS
theorem dq_tupI {H : Hp} {v : V} {ns : List Int} (k : Dq H v (.tuple (ns.map PyData.int))) : ∃ a, v = .ref a ∧ H a = some (.tup (ns.map V.int)) := by
  cases k with
  | tup e t =>
    rw [intl_dq t] at e
    exact ⟨_, rfl, e⟩
theorem tupI {H : Hp} {a : Addr} {ns : List Int} (h : H a = some (.tup (ns.map V.int))) : Dq H (.ref a) (.tuple (ns.map PyData.int)) := .tup h (dq_intl ns)
theorem eqv_emptyL (ds : List PyData) : PyData.eqv (.list ds) (.list []) = ds.isEmpty := by
  cases ds <;> simp [PyData.eqv, PyData.eqvAll]
def sp_law_tuple : Sp := fun vs H Q _ => ∃ (x y : V) (d : PyData) (ns : List Int), vs = [x, y] ∧ Dq H x (.tuple (ns.map PyData.int)) ∧ Dq H y d ∧ itemsD d = some (ns.map PyData.int) ∧ ns.length ≤ 40 ∧ ∀ H', Same H H' → Q (.bl true) H'
theorem eqv_ints (ns : List Int) : PyData.eqv (.tuple (ns.map PyData.int)) (.tuple (ns.map PyData.int)) = true := by
  have : PyData.eqvAll (ns.map PyData.int) (ns.map PyData.int) = true := by
    induction ns with
    | nil => simp [PyData.eqvAll]
    | cons n ns ih => simp [PyData.eqvAll, PyData.eqv, ih]
  simpa [PyData.eqv] using this
theorem shaped_ints {α : Type} (f : α → Int) (l : List α) : SeqAt.shaped (.tuple (l.map fun x => PyData.int (f x))) = true := by
  have h : PyData.canLayAll0 (l.map fun x => PyData.int (f x)) = true ∧ PyData.depthAll (l.map fun x => PyData.int (f x)) = 0 := by
    induction l with
    | nil => exact ⟨rfl, rfl⟩
    | cons a l ih => simp [PyData.canLayAll0, PyData.depthAll, PyData.canLay0, PyData.depth, ih.1, ih.2]
  simp [SeqAt.shaped, PyData.canLay0, PyData.depth, h.1, h.2]
theorem shp_ints (ns : List Int) : SeqAt.shaped (.tuple (ns.map PyData.int)) = true := shaped_ints id ns
section
variable {P : Program} {w : World} {K : PySem.W.Frag} {mg : Str → Option Value} {base : Heap}
theorem ok_law_tuple (T : Txt K mg) : FnOk P w K mg base CX0 3 T.f_law_tuple T.d_law_tuple ["_law_told", "_law_due"] sp_law_tuple := by
  refine T.F_law_tuple.ok sc_law_tuple (fun vs H Q E h => ?_) (fun cdv A outer s H vs Q E hr h => ?_)
  · obtain ⟨x, y, d, ns, rfl, _⟩ := h
    rfl
  · obtain ⟨x, y, d, ns, rfl, kx, ky, e, l40, q⟩ := h
    refine ⟨_, (pss_one (ps_ret (pe_and (pe_callB call_isi (by rfl) T.m_isinstance (by decide +kernel) (pa_cons (pv 0) (pa_cons (pe_bltn (v := .ty "tuple") (u := .type "tuple") (by rfl) T.m_tuple (by decide +kernel) rfl) pa_nil))) (pe_and (pe_cmpR (op_eqD hr.units) (pv 0) (pe_callTy call_tupD (by rfl) T.m_tuple (by decide +kernel) (pa_cons (pv 1) pa_nil)) (nomark _)) (pe_one (pe_cmpR (op_eqD hr.units) (pe_lc rfl sc_law_tuple.nd (pi_seq (pv 0)) (blkOk_by (own := [("_law_x", 2)]) (N := ["_law_told", "_law_due", "_law_x"]) (sc := defScope s_law_tuple) (by decide +kernel)) (fun _ _ _ _ _ => (pg_name (i := 2) sc_law_tuple.nd rfl (.inl rfl))) (fun _ _ _ _ _ => (pts_one (pt_not (pt_val (pe_call (ok_law_whole T) (hr.mono (by decide)) (by rfl) T.g_law_whole T.F_law_whole.kp T.b_law_whole .nil pass0 (pa_cons (pv 2) pa_nil)))))) (fun _ _ _ _ _ => (pv 2))) (pe_lst pa_nil) (nomark _))))))), ?_⟩
    obtain ⟨t, ty, _, _, _, k4⟩ := dq_ty (K := K) kx
    refine ⟨x, rfl, x, .ty "tuple", t, _, true, rfl, .ty _, ty, k4, _, rfl, iteT ?_⟩
    refine ⟨_, rfl, _, rfl, y, d, _, rfl, ky, e, fun l H1 s1 k1 => ⟨_, _, (kx.same s1).dp, k1.dp, shp_ints ns, shp_ints ns, ?_⟩⟩
    rw [eqv_ints]
    refine ⟨_, rfl, iteT (op_lc ?_)⟩
    obtain ⟨a, rfl, ha⟩ := dq_tupI (kx.same s1)
    refine lc_seqD (a := a) (ds := ns.map PyData.int) (fun d => !isIntD d) id (fun Q h => ⟨_, rfl, h⟩) (.inr (SqT.of ha)) (dq_intl ns) (by rw [List.length_map]; omega) (fun _ => rfl) (fun i x d' H2 Q2 hd' _ kd' q2 => ?_) (fun D i x d' H2 Q2 nD hd' _ s2 kd' hD q2 => ?_) (fun D H2 nD s2 kD => ?_)
    · exact ⟨_, rfl, x, d', rfl, kd', _, rfl, q2 _ fun _ _ z => z⟩
    · obtain ⟨acc, hacc⟩ := hD
      rw [List.getElem?_map] at hd'
      obtain ⟨n, _, rfl⟩ := Option.map_eq_some_iff.mp hd'
      exact ⟨_, rfl, q2 _ _ (fun _ _ z => z) (dq_noL hacc _ rfl kd')⟩
    · have em : (((ns.map PyData.int).filter fun d => !isIntD d).map id) = [] := by
        rw [List.map_id, List.filter_eq_nil_iff]
        intro z hz
        obtain ⟨n, _, rfl⟩ := List.mem_map.mp hz
        exact Bool.false_ne_true
      rw [em] at kD
      refine ⟨Nat.zero_le _, fun D2 nD2 => ?_⟩
      have s3 := same_new (o := .lst []) nD2
      refine ⟨.list [], .list [], (kD.same s3).dp, (Dq.lst upd_same .nil).dp, by decide, by decide, ?_⟩
      rw [eqv_emptyL]
      exact q _ ((s1.trans s2).trans s3)
end
end K02
set_option Elab.async false
set_option linter.all false
set_option maxRecDepth 100000
set_option maxHeartbeats 4000000
set_option exponentiation.threshold 5000
namespace K02
open PySem PySem.Spec PyProof.Rows L2 TkS
/-- a closed way over the pairs -/
structure RingG (ps : List (Int × Int)) (cs : List Int) : Prop where
  even : cs.length % 2 = 0
  four : 4 ≤ cs.length
  side : ∀ k, k < cs.length → sideP cs k ∈ ps
theorem cAt_lt {cs : List Int} {k : Nat} (h : k < cs.length) : cAt cs k = cs.getD k 0 := by
  unfold cAt
  rw [Nat.mod_eq_of_lt h]
theorem cAt_mod (cs : List Int) (k : Nat) : cAt cs (k % cs.length) = cAt cs k := by
  unfold cAt
  rw [Nat.mod_mod]
theorem cAt_len (cs : List Int) : cAt cs cs.length = cAt cs 0 := by
  unfold cAt
  rw [Nat.mod_self, Nat.zero_mod]
theorem cAt_succ_mod (cs : List Int) (k : Nat) : cAt cs (k % cs.length + 1) = cAt cs (k + 1) := by
  unfold cAt
  rw [Nat.add_mod, Nat.mod_mod, ← Nat.add_mod]
theorem par_mod {n k : Nat} (h : n % 2 = 0) : k % n % 2 = k % 2 := by
  have e := Nat.div_add_mod k n
  obtain ⟨m, hm⟩ : ∃ m, n = 2 * m := ⟨n / 2, by omega⟩
  have : n * (k / n) % 2 = 0 := by
    rw [hm, Nat.mul_assoc, Nat.mul_mod_right]
  omega
theorem RingG.all {ps : List (Int × Int)} {cs : List Int} (h : RingG ps cs) (k : Nat) : sideP cs k ∈ ps := by
  have := h.side (k % cs.length) (Nat.mod_lt _ (by have := h.four; omega))
  unfold sideP at this ⊢
  rw [par_mod h.even, cAt_mod, cAt_succ_mod] at this
  exact this
theorem getD_app {a b : List Int} {k : Nat} : (a ++ b).getD k 0 = if k < a.length then a.getD k 0 else b.getD (k - a.length) 0 := by
  rw [List.getD_eq_getElem?_getD, List.getElem?_append]
  by_cases c : k < a.length
  · rw [if_pos c, if_pos c, List.getD_eq_getElem?_getD]
  · rw [if_neg c, if_neg c, List.getD_eq_getElem?_getD]
theorem RingG.cat {ps : List (Int × Int)} {a b : List Int} (ha : RingG ps a) (hb : RingG ps b) (e : a.getD 0 0 = b.getD 0 0) : RingG ps (a ++ b) := by
  have a4 := ha.four
  have b4 := hb.four
  have a2 := ha.even
  have b2 := hb.even
  have L : (a ++ b).length = a.length + b.length := List.length_append
  have at1 : ∀ k, k ≤ a.length → cAt (a ++ b) k = cAt a k := fun k hk => by
    unfold cAt
    rw [L, Nat.mod_eq_of_lt (by omega), getD_app]
    by_cases c : k < a.length
    · rw [if_pos c, Nat.mod_eq_of_lt c]
    · have : k = a.length := by omega
      subst this
      rw [if_neg c, Nat.sub_self, Nat.mod_self, e]
  have at2 : ∀ k, k ≤ b.length → cAt (a ++ b) (a.length + k) = cAt b k := fun k hk => by
    unfold cAt
    rw [L]
    by_cases c : k < b.length
    · rw [Nat.mod_eq_of_lt (by omega), getD_app, if_neg (by omega), Nat.add_sub_cancel_left, Nat.mod_eq_of_lt c]
    · have : k = b.length := by omega
      subst this
      rw [Nat.mod_self, Nat.mod_self, getD_app, if_pos (by omega), e]
  refine ⟨by rw [L]; omega, by rw [L]; omega, fun k hk => ?_⟩
  rw [L] at hk
  by_cases c : k < a.length
  · have := ha.side k c
    unfold sideP at this ⊢
    rw [at1 k (by omega), at1 (k + 1) (by omega)]
    exact this
  · obtain ⟨j, rfl⟩ : ∃ j, k = a.length + j := ⟨k - a.length, by omega⟩
    have := hb.side j (by omega)
    unfold sideP at this ⊢
    rw [at2 j (by omega), Nat.add_assoc, at2 (j + 1) (by omega), show (a.length + j) % 2 = j % 2 by omega]
    exact this
def repL (m : Nat) (a : List Int) : List Int := (List.replicate m a).flatten
theorem repL_succ (m : Nat) (a : List Int) : repL (m + 1) a = a ++ repL m a := by
  unfold repL
  rw [List.replicate_succ, List.flatten_cons]
theorem repL_one (a : List Int) : repL 1 a = a := by
  rw [repL_succ]
  exact List.append_nil a
theorem repL_head {m : Nat} {a : List Int} (h : 0 < a.length) (hm : 1 ≤ m) : (repL m a).getD 0 0 = a.getD 0 0 := by
  cases m with
  | zero => omega
  | succ m =>
    rw [repL_succ, getD_app, if_pos h]
theorem repL_len (m : Nat) (a : List Int) : (repL m a).length = m * a.length := by
  induction m with
  | zero =>
    rw [Nat.zero_mul]
    rfl
  | succ m ih => rw [repL_succ, List.length_append, ih, Nat.succ_mul, Nat.add_comm]
theorem RingG.rep {ps : List (Int × Int)} {a : List Int} (h : RingG ps a) : ∀ m, 1 ≤ m → RingG ps (repL m a)
  | 1, _ => by rw [repL_one]; exact h
  | m + 2, _ => by
    rw [repL_succ]
    exact h.cat (h.rep (m + 1) (by omega)) (repL_head (by have := h.four; omega) (by omega)).symm
theorem RingG.rot {ps : List (Int × Int)} {a : List Int} {t : Nat} (h : RingG ps a) (ht : t < a.length) (t2 : t % 2 = 0) : RingG ps (a.drop t ++ a.take t) := by
  have L : (a.drop t ++ a.take t).length = a.length := by
    rw [List.length_append, List.length_drop, List.length_take]
    omega
  have a4 := h.four
  have at1 : ∀ k, k ≤ a.length → cAt (a.drop t ++ a.take t) k = cAt a (k + t) := fun k hk => by
    unfold cAt
    rw [L]
    by_cases e : k = a.length
    · subst e
      rw [Nat.mod_self, Nat.add_mod_left, Nat.mod_eq_of_lt ht, getD_app, List.length_drop, if_pos (by omega), List.getD_eq_getElem?_getD, List.getElem?_drop, List.getD_eq_getElem?_getD, Nat.add_zero]
    · have hk' : k < a.length := by omega
      rw [Nat.mod_eq_of_lt hk', getD_app, List.length_drop]
      by_cases c : k < a.length - t
      · rw [if_pos c, Nat.mod_eq_of_lt (by omega), List.getD_eq_getElem?_getD, List.getElem?_drop, List.getD_eq_getElem?_getD, Nat.add_comm]
      · have m : (k + t) % a.length = k + t - a.length := by
          rw [Nat.mod_eq_sub_mod (by omega), Nat.mod_eq_of_lt (by omega)]
        have q : k - (a.length - t) = k + t - a.length := by omega
        rw [if_neg c, m, q, List.getD_eq_getElem?_getD, List.getElem?_take, if_pos (by omega), List.getD_eq_getElem?_getD]
  refine ⟨by rw [L]; exact h.even, by rw [L]; exact a4, fun k hk => ?_⟩
  rw [L] at hk
  have := h.all (k + t)
  unfold sideP at this ⊢
  rw [at1 k (by omega), at1 (k + 1) (by omega), show (k + 1 + t) = k + t + 1 by omega, show k % 2 = (k + t) % 2 by omega]
  exact this
theorem rot_len {a : List Int} {t : Nat} (ht : t ≤ a.length) : (a.drop t ++ a.take t).length = a.length := by
  rw [List.length_append, List.length_drop, List.length_take]
  omega
/-- a list of pairs one beside the other: consecutive corners of a way -/
def Steps (ps : List (Int × Int)) (l : List Int) : Prop := ∀ k, k + 1 < l.length → (if k % 2 = 0 then (l.getD k 0, l.getD (k + 1) 0) else (l.getD (k + 1) 0, l.getD k 0)) ∈ ps
theorem ringG_of {ps : List (Int × Int)} {l : List Int} (e : l.length % 2 = 0) (f : 4 ≤ l.length) (s : Steps ps l) (z : (l.getD 0 0, l.getD (l.length - 1) 0) ∈ ps) : RingG ps l := by
  refine ⟨e, f, fun k hk => ?_⟩
  unfold sideP
  by_cases c : k + 1 < l.length
  · have := s k c
    rw [cAt_lt hk, cAt_lt c]
    exact this
  · have : k + 1 = l.length := by omega
    rw [this, cAt_len, cAt_lt hk, cAt_lt (by omega), if_neg (by omega), show k = l.length - 1 by omega]
    exact z
/-- there and back -/
theorem way_back {ps : List (Int × Int)} {l : List Int} (h2 : 2 ≤ l.length) (h5 : l.length ≤ 5) (s : Steps ps l) :
    RingG ps (if (l ++ ((l.drop 1).take (l.length - 2)).reverse).length > 3 then l ++ ((l.drop 1).take (l.length - 2)).reverse else l ++ l) := by
  match l, h2, h5 with
  | [a, b], _, _ =>
    have s0 := s 0 (by simp)
    simp at s0
    refine ringG_of (by simp) (by simp) (fun k hk => ?_) (by simpa using s0)
    simp at hk
    match k, hk with
    | 0, _ => simpa using s0
    | 1, _ => simpa using s0
    | 2, _ => simpa using s0
  | [a, b, c], _, _ =>
    have s0 := s 0 (by simp)
    have s1 := s 1 (by simp)
    simp at s0 s1
    refine ringG_of (by simp) (by simp) (fun k hk => ?_) (by simpa using s0)
    simp at hk
    match k, hk with
    | 0, _ => simpa using s0
    | 1, _ => simpa using s1
    | 2, _ => simpa using s1
  | [a, b, c, d], _, _ =>
    have s0 := s 0 (by simp)
    have s1 := s 1 (by simp)
    have s2 := s 2 (by simp)
    simp at s0 s1 s2
    refine ringG_of (by simp) (by simp) (fun k hk => ?_) (by simpa using s0)
    simp at hk
    match k, hk with
    | 0, _ => simpa using s0
    | 1, _ => simpa using s1
    | 2, _ => simpa using s2
    | 3, _ => simpa using s2
    | 4, _ => simpa using s1
  | [a, b, c, d, e], _, _ =>
    have s0 := s 0 (by simp)
    have s1 := s 1 (by simp)
    have s2 := s 2 (by simp)
    have s3 := s 3 (by simp)
    simp at s0 s1 s2 s3
    refine ringG_of (by simp) (by simp) (fun k hk => ?_) (by simpa using s0)
    simp at hk
    match k, hk with
    | 0, _ => simpa using s0
    | 1, _ => simpa using s1
    | 2, _ => simpa using s2
    | 3, _ => simpa using s3
    | 4, _ => simpa using s3
    | 5, _ => simpa using s2
    | 6, _ => simpa using s1
/-! turned -/
theorem turnL_at {cs : List Int} {k : Nat} (h : k ≤ cs.length) (h0 : 0 < cs.length) : cAt (turnL cs) k = cAt cs (cs.length - k) := by
  unfold cAt
  rw [turnL_len]
  by_cases e : k = cs.length
  · subst e
    rw [Nat.mod_self, Nat.sub_self, Nat.zero_mod]
    unfold turnL
    rw [List.getD_eq_getElem?_getD, List.getElem?_map, List.getElem?_range h0]
    simp
  · have hk : k < cs.length := by omega
    rw [Nat.mod_eq_of_lt hk]
    unfold turnL
    rw [List.getD_eq_getElem?_getD, List.getElem?_map, List.getElem?_range hk]
    rfl
theorem turn_side {cs : List Int} {k : Nat} (h2 : cs.length % 2 = 0) (h : k < cs.length) : sideP (turnL cs) (cs.length - 1 - k) = sideP cs k ∧ sideS (cs.length - 1 - k) = 0 - sideS k := by
  unfold sideP sideS
  rw [show cs.length - 1 - k + 1 = cs.length - k by omega, turnL_at (by omega) (by omega), turnL_at (by omega) (by omega), show cs.length - (cs.length - 1 - k) = k + 1 by omega, show cs.length - (cs.length - k) = k by omega]
  by_cases c : k % 2 = 0
  · rw [if_pos c, if_pos c, if_neg (by omega), if_neg (by omega)]
    exact ⟨rfl, rfl⟩
  · rw [if_neg c, if_neg c, if_pos (by omega), if_pos (by omega)]
    exact ⟨rfl, rfl⟩
theorem RingG.turn {ps : List (Int × Int)} {cs : List Int} (h : RingG ps cs) : RingG ps (turnL cs) := by
  have f := h.four
  refine ⟨by rw [turnL_len]; exact h.even, by rw [turnL_len]; exact f, fun k hk => ?_⟩
  rw [turnL_len] at hk
  have := (turn_side h.even (k := cs.length - 1 - k) (by omega)).1
  rw [show cs.length - 1 - (cs.length - 1 - k) = k by omega] at this
  rw [this]
  exact h.side _ (by omega)
theorem turn_turn {cs : List Int} (h0 : 0 < cs.length) : turnL (turnL cs) = cs := by
  refine List.ext_getElem? fun k => ?_
  by_cases hk : k < cs.length
  · have e : (turnL (turnL cs)).getD k 0 = cs.getD k 0 := by
      have := turnL_at (cs := turnL cs) (k := k) (by rw [turnL_len]; omega) (by rw [turnL_len]; exact h0)
      rw [turnL_len, turnL_at (by omega) h0, show cs.length - (cs.length - k) = k by omega, cAt_lt hk, cAt_lt (by rw [turnL_len, turnL_len]; exact hk)] at this
      exact this
    rw [List.getD_eq_getElem?_getD, List.getD_eq_getElem?_getD, List.getElem?_eq_getElem (by rw [turnL_len, turnL_len]; exact hk), List.getElem?_eq_getElem hk] at e
    rw [List.getElem?_eq_getElem (by rw [turnL_len, turnL_len]; exact hk), List.getElem?_eq_getElem hk]
    exact congrArg some e
  · rw [List.getElem?_eq_none (by rw [turnL_len, turnL_len]; omega), List.getElem?_eq_none (by omega)]
theorem turn_head {cs : List Int} (h0 : 0 < cs.length) : (turnL cs).getD 0 0 = cs.getD 0 0 := by
  have := turnL_at (cs := cs) (k := 0) (by omega) h0
  rw [cAt_lt (by rw [turnL_len]; exact h0), Nat.sub_zero, cAt_len, cAt_lt h0] at this
  exact this
/-! the tour of a ring -/
def rtAt (cs : List Int) (n : Nat) (p : Int × Int) : Int := S (List.range n) fun k => if sideP cs k = p then sideS k else 0
def rtL (ps : List (Int × Int)) (cs : List Int) (n : Nat) : List Int := ps.map (rtAt cs n)
theorem rtL_len (ps : List (Int × Int)) (cs : List Int) (n : Nat) : (rtL ps cs n).length = ps.length := List.length_map _
theorem S_succ (n : Nat) (f : Nat → Int) : S (List.range (n + 1)) f = S (List.range n) f + f n := by
  rw [List.range_succ, S_append, S_cons, S_nil, Int.add_zero]
theorem rtL_zero (ps : List (Int × Int)) (cs : List Int) : rtL ps cs 0 = List.replicate ps.length 0 := by
  unfold rtL
  induction ps with
  | nil => rfl
  | cons p ps ih =>
    rw [List.map_cons, ih]
    rfl
theorem nd_at {ps : List (Int × Int)} (h : ps.Nodup) {i j : Nat} {p : Int × Int} (hi : ps[i]? = some p) (hj : ps[j]? = some p) : i = j := by
  obtain ⟨li, ei⟩ := List.getElem?_eq_some_iff.mp hi
  obtain ⟨lj, ej⟩ := List.getElem?_eq_some_iff.mp hj
  exact (List.getElem_inj h).mp (ei.trans ej.symm)
theorem rtL_step {ps : List (Int × Int)} {cs : List Int} {n j : Nat} (nd : ps.Nodup) (hj : ps[j]? = some (sideP cs n)) : rtL ps cs (n + 1) = (rtL ps cs n).set j ((rtL ps cs n).getD j 0 + sideS n) := by
  have lj := (List.getElem?_eq_some_iff.mp hj).1
  refine List.ext_getElem? fun i => ?_
  rw [List.getElem?_set, rtL_len]
  unfold rtL
  rw [List.getElem?_map, List.getElem?_map, List.getD_eq_getElem?_getD, List.getElem?_map, hj]
  by_cases e : j = i
  · subst e
    rw [if_pos rfl, if_pos lj, hj]
    show some (rtAt cs (n + 1) (sideP cs n)) = some (rtAt cs n (sideP cs n) + sideS n)
    unfold rtAt
    rw [S_succ, if_pos rfl]
  · rw [if_neg e]
    cases hp : ps[i]? with
    | none => rfl
    | some p =>
      show some (rtAt cs (n + 1) p) = some (rtAt cs n p)
      unfold rtAt
      rw [S_succ, if_neg (show ¬ sideP cs n = p from fun z => e (nd_at nd hj (by rw [z]; exact hp))), Int.add_zero]
theorem S_back (n : Nat) (f : Nat → Int) : S (List.range n) (fun k => f (n - 1 - k)) = S (List.range n) f := by
  induction n with
  | zero => rfl
  | succ n ih =>
    rw [S_succ n f, List.range_succ_eq_map, S_cons, S_map, ← ih]
    have : ∀ k ∈ List.range n, f (n + 1 - 1 - (k + 1)) = f (n - 1 - k) := fun k hk => by
      rw [show n + 1 - 1 - (k + 1) = n - 1 - k by omega]
    rw [S_congr (g := fun k => f (n - 1 - k)) this]
    show f (n + 1 - 1 - 0) + _ = _
    rw [show n + 1 - 1 - 0 = n by omega]
    omega
theorem rt_turn {ps : List (Int × Int)} {cs : List Int} (h2 : cs.length % 2 = 0) : rtL ps (turnL cs) cs.length = (rtL ps cs cs.length).map fun z => 0 - z := by
  unfold rtL
  rw [List.map_map]
  refine List.map_congr_left fun p _ => ?_
  show rtAt (turnL cs) cs.length p = 0 - rtAt cs cs.length p
  unfold rtAt
  rw [← S_back]
  have : ∀ k ∈ List.range cs.length, (if sideP (turnL cs) (cs.length - 1 - k) = p then sideS (cs.length - 1 - k) else 0) = -1 * (if sideP cs k = p then sideS k else 0) := fun k hk => by
    obtain ⟨e1, e2⟩ := turn_side h2 (List.mem_range.mp hk)
    rw [e1, e2]
    by_cases c : sideP cs k = p
    · rw [if_pos c, if_pos c]
      omega
    · rw [if_neg c, if_neg c]
      rfl
  rw [S_congr this, S_mul]
  omega
/-! the law's rings -/
def bothL (W : Nat) (ps : List (Int × Int)) (p q : Int) : List Int := ((List.range W).filter fun (u : Nat) => decide ((p, (u : Int)) ∈ ps) && decide ((q, (u : Int)) ∈ ps)).map fun (u : Nat) => (u : Int)
def foursL (W : Nat) (ps : List (Int × Int)) (p q : Int) : List (List Int) := (bothL W ps p q).flatMap fun u => ((bothL W ps p q).filter fun v => decide (u < v)).map fun v => [p, u, q, v]
def sixRow (W : Nat) (ps : List (Int × Int)) (p q r u v : Int) : List (List Int) := if v = u then [] else ((bothL W ps r p).filter fun w => !(w == u || w == v)).map fun w => [p, u, q, v, r, w]
def sixesL (W : Nat) (ps : List (Int × Int)) (p q r : Int) : List (List Int) := (bothL W ps p q).flatMap fun u => (bothL W ps q r).flatMap fun v => sixRow W ps p q r u v
def rRow (P W : Nat) (ps : List (Int × Int)) (p q : Nat) : List (List Int) := foursL W ps p q ++ ((List.range (P - (p + 1))).flatMap fun k => if p + 1 + k = q then [] else sixesL W ps p q (p + 1 + k : Nat))
def ringsL (P W : Nat) (ps : List (Int × Int)) : List (List Int) := (List.range P).flatMap fun p => (List.range (P - (p + 1))).flatMap fun k => rRow P W ps p (p + 1 + k)
theorem mem_both {W : Nat} {ps : List (Int × Int)} {p q u : Int} (h : u ∈ bothL W ps p q) : (p, u) ∈ ps ∧ (q, u) ∈ ps := by
  obtain ⟨k, hk, rfl⟩ := List.mem_map.mp h
  have := (List.mem_filter.mp hk).2
  simpa using this
theorem both_iff {P W : Int} {ps : List (Int × Int)} (ins : ∀ p ∈ ps, 0 ≤ p.1 ∧ p.1 < P ∧ 0 ≤ p.2 ∧ p.2 < W) {p q u : Int} : u ∈ bothL W.toNat ps p q ↔ (p, u) ∈ ps ∧ (q, u) ∈ ps := by
  refine ⟨mem_both, fun ⟨h1, h2⟩ => ?_⟩
  obtain ⟨_, _, a, b⟩ := ins _ h1
  dsimp only at a b
  refine List.mem_map.mpr ⟨u.toNat, List.mem_filter.mpr ⟨List.mem_range.mpr (by omega), ?_⟩, by omega⟩
  rw [Int.toNat_of_nonneg a]
  simp [h1, h2]
theorem ring4 {ps : List (Int × Int)} {p u q v : Int} (h1 : (p, u) ∈ ps) (h2 : (q, u) ∈ ps) (h3 : (q, v) ∈ ps) (h4 : (p, v) ∈ ps) : RingG ps [p, u, q, v] := by
  refine ringG_of (by simp) (by simp) (fun k hk => ?_) (by simpa using h4)
  simp at hk
  match k, hk with
  | 0, _ => simpa using h1
  | 1, _ => simpa using h2
  | 2, _ => simpa using h3
theorem ring6 {ps : List (Int × Int)} {p u q v r w : Int} (h1 : (p, u) ∈ ps) (h2 : (q, u) ∈ ps) (h3 : (q, v) ∈ ps) (h4 : (r, v) ∈ ps) (h5 : (r, w) ∈ ps) (h6 : (p, w) ∈ ps) : RingG ps [p, u, q, v, r, w] := by
  refine ringG_of (by simp) (by simp) (fun k hk => ?_) (by simpa using h6)
  simp at hk
  match k, hk with
  | 0, _ => simpa using h1
  | 1, _ => simpa using h2
  | 2, _ => simpa using h3
  | 3, _ => simpa using h4
  | 4, _ => simpa using h5
theorem mem_fours {W : Nat} {ps : List (Int × Int)} {p q : Int} {r : List Int} (h : r ∈ foursL W ps p q) : ∃ u v, r = [p, u, q, v] ∧ u ∈ bothL W ps p q ∧ v ∈ bothL W ps p q ∧ u < v := by
  obtain ⟨u, hu, h⟩ := List.mem_flatMap.mp h
  obtain ⟨v, hv, rfl⟩ := List.mem_map.mp h
  obtain ⟨hv, c⟩ := List.mem_filter.mp hv
  exact ⟨u, v, rfl, hu, hv, of_decide_eq_true c⟩
theorem mem_sixes {W : Nat} {ps : List (Int × Int)} {p q s : Int} {r : List Int} (h : r ∈ sixesL W ps p q s) : RingG ps r ∧ r.length = 6 := by
  obtain ⟨u, hu, h⟩ := List.mem_flatMap.mp h
  obtain ⟨v, hv, h⟩ := List.mem_flatMap.mp h
  unfold sixRow at h
  by_cases c : v = u
  · rw [if_pos c] at h
    exact absurd h List.not_mem_nil
  · rw [if_neg c] at h
    obtain ⟨w, hw, rfl⟩ := List.mem_map.mp h
    have h1 := mem_both hu
    have h2 := mem_both hv
    have h3 := mem_both (List.mem_filter.mp hw).1
    exact ⟨ring6 h1.1 h1.2 h2.1 h2.2 h3.1 h3.2, rfl⟩
theorem mem_row {P W : Nat} {ps : List (Int × Int)} {p q : Nat} {r : List Int} (h : r ∈ rRow P W ps p q) : (∃ u v : Int, r = [(p : Int), u, (q : Int), v] ∧ u ∈ bothL W ps p q ∧ v ∈ bothL W ps p q ∧ u < v) ∨ (RingG ps r ∧ r.length = 6) := by
  rcases List.mem_append.mp h with h | h
  · exact .inl (mem_fours h)
  · obtain ⟨k, hk, h⟩ := List.mem_flatMap.mp h
    by_cases c : p + 1 + k = q
    · rw [if_pos c] at h
      exact absurd h List.not_mem_nil
    · rw [if_neg c] at h
      exact .inr (mem_sixes h)
theorem mem_rings {P W : Nat} {ps : List (Int × Int)} {r : List Int} (h : r ∈ ringsL P W ps) : (∃ (p q : Nat) (u v : Int), p < q ∧ q < P ∧ r = [(p : Int), u, (q : Int), v] ∧ u ∈ bothL W ps p q ∧ v ∈ bothL W ps p q ∧ u < v) ∨ (RingG ps r ∧ r.length = 6) := by
  obtain ⟨p, hp, h⟩ := List.mem_flatMap.mp h
  obtain ⟨k, hk, h⟩ := List.mem_flatMap.mp h
  rcases mem_row h with ⟨u, v, e, h1, h2, h3⟩ | h
  · have := List.mem_range.mp hk
    exact .inl ⟨p, p + 1 + k, u, v, by omega, by omega, e, h1, h2, h3⟩
  · exact .inr h
theorem rings_good {P W : Nat} {ps : List (Int × Int)} {r : List Int} (h : r ∈ ringsL P W ps) : RingG ps r ∧ r.length ≤ 6 := by
  rcases mem_rings h with ⟨p, q, u, v, _, _, rfl, h1, h2, _⟩ | ⟨h, l⟩
  · have a := mem_both h1
    have b := mem_both h2
    exact ⟨ring4 a.1 a.2 b.2 b.1, by simp⟩
  · exact ⟨h, by omega⟩
/-- the tiles of a picture -/
def tileB (ps : List (Int × Int)) (a b : Int × Int) : Bool := decide (a.1 < b.1) && (decide (a.2 < b.2) && (decide ((a.1, b.2) ∈ ps) && decide ((b.1, a.2) ∈ ps)))
def tileRow (ps : List (Int × Int)) (a : Int × Int) (l : List (Int × Int)) : List (List Int) := (l.filter (tileB ps a)).map fun b => [a.1, a.2, b.1, b.2]
def tilesL (ps : List (Int × Int)) : List (List Int) := ps.flatMap fun a => tileRow ps a ps
theorem mem_tiles {ps : List (Int × Int)} {r : List Int} : r ∈ tilesL ps ↔ ∃ p u q v : Int, r = [p, u, q, v] ∧ (p, u) ∈ ps ∧ (q, v) ∈ ps ∧ p < q ∧ u < v ∧ (p, v) ∈ ps ∧ (q, u) ∈ ps := by
  unfold tilesL tileRow tileB
  simp only [List.mem_flatMap, List.mem_map, List.mem_filter, Bool.and_eq_true, decide_eq_true_eq]
  constructor
  · rintro ⟨a, ha, b, ⟨hb, h1, h2, h3, h4⟩, rfl⟩
    exact ⟨_, _, _, _, rfl, ha, hb, h1, h2, h3, h4⟩
  · rintro ⟨p, u, q, v, rfl, h1, h2, h3, h4, h5, h6⟩
    exact ⟨(p, u), h1, (q, v), ⟨h2, h3, h4, h5, h6⟩, rfl⟩
def four (l : List (List Int)) : List (List Int) := l.filter fun r => decide (r.length = 4)
theorem mem_four {P W : Int} {ps : List (Int × Int)} (ins : ∀ p ∈ ps, 0 ≤ p.1 ∧ p.1 < P ∧ 0 ≤ p.2 ∧ p.2 < W) {r : List Int} : r ∈ four (ringsL P.toNat W.toNat ps) ↔ r ∈ tilesL ps := by
  rw [mem_tiles]
  constructor
  · intro h
    obtain ⟨h, l⟩ := List.mem_filter.mp h
    rcases mem_rings h with ⟨p, q, u, v, h1, h2, rfl, hu, hv, h3⟩ | ⟨_, l6⟩
    · have a := mem_both hu
      have b := mem_both hv
      exact ⟨p, u, q, v, rfl, a.1, b.2, by omega, h3, b.1, a.2⟩
    · have := of_decide_eq_true l
      omega
  · rintro ⟨p, u, q, v, rfl, h1, h2, h3, h4, h5, h6⟩
    obtain ⟨a1, a2, _, _⟩ := ins _ h1
    obtain ⟨b1, b2, _, _⟩ := ins _ h2
    dsimp only at a1 a2 b1 b2
    refine List.mem_filter.mpr ⟨List.mem_flatMap.mpr ⟨p.toNat, List.mem_range.mpr (by omega), List.mem_flatMap.mpr ⟨q.toNat - (p.toNat + 1), List.mem_range.mpr (by omega), List.mem_append_left _ ?_⟩⟩, by simp⟩
    have e1 : ((p.toNat : Nat) : Int) = p := Int.toNat_of_nonneg a1
    have e2 : ((p.toNat + 1 + (q.toNat - (p.toNat + 1)) : Nat) : Int) = q := by omega
    rw [e1, e2]
    refine List.mem_flatMap.mpr ⟨u, (both_iff ins).mpr ⟨h1, h6⟩, List.mem_map.mpr ⟨v, List.mem_filter.mpr ⟨(both_iff ins).mpr ⟨h5, h2⟩, by simpa using h4⟩, rfl⟩⟩
theorem both_asc {W : Nat} {ps : List (Int × Int)} {p q : Int} : (bothL W ps p q).Pairwise (· < ·) := by
  unfold bothL
  rw [List.pairwise_map]
  exact (List.pairwise_lt_range.filter _).imp fun h => by omega
theorem four_nd {P W : Nat} {ps : List (Int × Int)} : (four (ringsL P W ps)).Nodup := by
  unfold four ringsL
  rw [List.filter_flatMap]
  unfold List.Nodup
  have key : ∀ p q : Nat, (List.filter (fun r => decide (r.length = 4)) (rRow P W ps p q)) = foursL W ps p q := fun p q => by
    unfold rRow
    rw [List.filter_append, List.filter_eq_self.mpr, List.filter_eq_nil_iff.mpr, List.append_nil]
    · intro r h
      obtain ⟨k, hk, h⟩ := List.mem_flatMap.mp h
      by_cases c : p + 1 + k = q
      · rw [if_pos c] at h
        exact absurd h List.not_mem_nil
      · rw [if_neg c] at h
        have := (mem_sixes h).2
        simp [this]
    · intro r h
      obtain ⟨u, v, rfl, _⟩ := mem_fours h
      simp
  rw [List.pairwise_flatMap]
  refine ⟨fun p _ => ?_, ?_⟩
  · rw [List.filter_flatMap, List.pairwise_flatMap]
    refine ⟨fun k _ => ?_, ?_⟩
    · rw [key]
      unfold foursL
      rw [List.pairwise_flatMap]
      refine ⟨fun u _ => ?_, ?_⟩
      · rw [List.pairwise_map]
        refine (both_asc.filter _).imp fun {a b} h z => ?_
        simp at z
        omega
      · refine both_asc.imp fun {a b} h x hx y hy z => ?_
        obtain ⟨_, _, rfl⟩ := List.mem_map.mp hx
        obtain ⟨_, _, rfl⟩ := List.mem_map.mp hy
        simp at z
        omega
    · refine List.pairwise_lt_range.imp fun {a b} h x hx y hy z => ?_
      rw [key] at hx hy
      obtain ⟨_, _, rfl, _⟩ := mem_fours hx
      obtain ⟨_, _, rfl, _⟩ := mem_fours hy
      simp at z
      omega
  · refine List.pairwise_lt_range.imp fun {a b} h x hx y hy z => ?_
    rw [List.filter_flatMap] at hx hy
    obtain ⟨_, _, hx⟩ := List.mem_flatMap.mp hx
    obtain ⟨_, _, hy⟩ := List.mem_flatMap.mp hy
    rw [key] at hx hy
    obtain ⟨_, _, rfl, _⟩ := mem_fours hx
    obtain ⟨_, _, rfl, _⟩ := mem_fours hy
    simp at z
    omega
end K02
set_option Elab.async false
set_option linter.all false
set_option maxRecDepth 100000
set_option maxHeartbeats 4000000
set_option exponentiation.threshold 5000
set_option pp.maxSteps 600
namespace K02
open PySem PySem.Spec PyProof.Rows L2 TkS
/-! the word due of a ring -/
def cornD (P W : Int) (i : Nat) (d : PyData) : Bool := wholeD d 0 ((if i % 2 = 0 then P else W) - 1)
def cornsD (P W : Int) (ds : List PyData) : Bool := (List.range ds.length).all fun i => cornD P W i (ds.getD i .none)
def sidesOk (ps : List (Int × Int)) (cs : List Int) : Bool := (List.range cs.length).all fun k => decide (sideP cs k ∈ ps)
def intD : PyData → Int
  | .int i => i
  | _ => 0
def ringW (P W : Int) (ps : List (Int × Int)) (d : PyData) : Option Str :=
  match itemsD d with
  | none => some "length"
  | some ds =>
    if ds.length % 2 = 1 ∨ ds.length < 4 ∨ 60 < ds.length then some "length"
    else if cornsD P W ds = true then (if sidesOk ps (ds.map intD) = true then none else some "pair")
    else some "corner"
def Told (C : Addr) (e : Str) (H : Hp) (E : XK) : Prop := ∀ b H', Same H H' → H' b = some (.xd [("what", .str e)]) → E (.ref C) (some b) H'
theorem Told.same {C : Addr} {e : Str} {H H1 : Hp} {E : XK} (h : Told C e H E) (s : Same H H1) : Told C e H1 E := fun b H' s' hb => h b H' (s.trans s') hb
theorem corn_all {P W : Int} {ds : List PyData} (h : ∀ i, i < ds.length → cornD P W i (ds.getD i .none) = true) : cornsD P W ds = true :=
  List.all_eq_true.mpr fun i hi => h i (List.mem_range.mp hi)
theorem corn_at {P W : Int} {ds : List PyData} (h : cornsD P W ds = true) {i : Nat} (hi : i < ds.length) : cornD P W i (ds.getD i .none) = true :=
  List.all_eq_true.mp h i (List.mem_range.mpr hi)
theorem corn_not {P W : Int} {ds : List PyData} {i : Nat} (hi : i < ds.length) (h : cornD P W i (ds.getD i .none) = false) : cornsD P W ds = false := by
  cases c : cornsD P W ds with
  | false => rfl
  | true => rw [corn_at c hi] at h; cases h
theorem ints_of {ds : List PyData} (h : ∀ d ∈ ds, isIntD d = true) : ds = (ds.map intD).map PyData.int := by
  induction ds with
  | nil => rfl
  | cons d ds ih =>
    rw [List.map_cons, List.map_cons, ← ih fun e he => h e (List.mem_cons_of_mem _ he)]
    have hd := h d List.mem_cons_self
    cases d with
    | int i => rfl
    | _ => cases hd
theorem corn_int {P W : Int} {i : Nat} {d : PyData} (h : cornD P W i d = true) : isIntD d = true := by
  unfold cornD wholeD at h
  cases d with
  | int i => rfl
  | _ => cases h
theorem corns_ints {P W : Int} {ds : List PyData} (h : cornsD P W ds = true) : ds = (ds.map intD).map PyData.int := by
  refine ints_of fun d hd => ?_
  obtain ⟨i, hi, e⟩ := List.mem_iff_getElem.mp hd
  have := corn_at h hi
  rw [List.getD_eq_getElem?_getD, List.getElem?_eq_getElem hi, e] at this
  exact corn_int this
def sp_check_corners (C CB : Addr) : Sp := fun vs H Q E => ∃ (a : Addr) (x : V) (d : PyData) (ds : List PyData) (P W : Int) (ps : List (Int × Int)), vs = [.ref a, x] ∧ Pic C H a P W ps ∧ Dq H x d ∧ itemsD d = some ds ∧
  (cornsD P W ds = false → Told CB "corner" H E) ∧ (cornsD P W ds = true → ∀ H', Same H H' → Q .non H')
section
variable {P : Program} {w : World} {K : PySem.W.Frag} {mg : Str → Option Value} {base : Heap}
theorem ok_check_corners (T : Txt K mg) : FnOk P w K mg base (L2.CX P w) 3 T.f_check_corners T.d_check_corners ["picture", "corners"] (sp_check_corners T.C_Picture T.C_BadRing) := by
  refine T.F_check_corners.okX sc_check_corners (fun vs H Q E h => ?_) (fun cdv A outer s H vs Q E hr h => ?_)
  · obtain ⟨a, x, d, ds, P', W, ps, rfl, _⟩ := h
    rfl
  · obtain ⟨a, x, d, ds, P', W, ps, rfl, hp, hk, e, hE, hQ⟩ := h
    refine ⟨_, (pss_one (ps_for (by exact passes_of rfl) rfl (pi_enumS (by rfl) T.m_enumerate (pa_cons (pv 1) pa_nil)) (pg_tup rfl (pgs_cons (pg_name (i := 2) sc_check_corners.nd rfl (.inl rfl)) (pgs_cons (pg_name (i := 3) sc_check_corners.nd rfl (.inl rfl)) pgs_nil)))
        (pss_cons (ps_set (i := 4) sc_check_corners.nd rfl (.inl rfl) (pe_ifExp (pt_cmpR op_eq (pe_op op_mod (pv 2) pe_int) pe_int (nomark _)) (pe_fld (pv 0) rfl) (pe_fld (pv 0) rfl)))
        (pss_one (ps_if (pt_not (pt_val (pe_call (ok_is_whole T) (hr.mono (by decide)) (by rfl) T.g_is_whole T.F_is_whole.kp T.b_is_whole .nil pass0 (pa_cons (pv 3) (pa_cons pe_int (pa_cons (pe_op op_sub (pv 4) pe_int) pa_nil))))))
          (pss_one (ps_raise (W := fun cls d _ H => E cls d H) rfl (takes_of rfl rfl rfl rfl) (pmk_oex T.o_BadRing T.i_BadRing T.t_BadRing (ok_BadRing_init T) (hr.mono (by decide)) T.b_BadRing_init .nil pass0 (by rfl) T.g_BadRing (pa_cons pe_str pa_nil))))
          pss_nil))))), ?_⟩
    obtain ⟨dx, tp, pv_, pxs, ha, _⟩ := id hp.at_
    obtain ⟨p, xs, rfl, hxs, hsq⟩ := sq_of (K := K) hk e
    have lx := hxs.len
    refine for_enumS (xs := xs) (a := p) (fun i σ H' => ∃ y2 y3 y4, σ = [some (.ref a), some (.ref p), y2, y3, y4] ∧ Same H H' ∧ ∀ j, j < i → cornD P' W j (ds.getD j .none) = true) (fun Q h => ⟨_, rfl, h⟩) hsq
      ⟨_, _, _, rfl, fun _ _ z => z, fun j hj => absurd hj (Nat.not_lt_zero j)⟩ (fun i σ H' hP => by obtain ⟨_, _, _, _, sm, _⟩ := hP; exact sm) (fun i x T' σ H' hx hP nT => ?_) (fun σ H' hP => ?_)
    · obtain ⟨y2, y3, y4, rfl, s1, hall⟩ := hP
      have s2 : Same H' (upd H' T' (.tup [.int (i : Nat), x])) := same_new nT
      have s12 := s1.trans s2
      obtain ⟨dv, hdv, kdv⟩ := hxs.get hx
      have kdv2 := kdv.same s12
      have gd : ds.getD i .none = dv := by rw [List.getD_eq_getElem?_getD, hdv]; rfl
      have li : i < ds.length := (List.getElem?_eq_some_iff.mp hdv).1
      refine ⟨T', _, rfl, SqT.of upd_same, rfl, _, _, rfl, _, _, rfl, ?_⟩
      have key : ∀ m : Int, m = (if i % 2 = 0 then P' else W) →
          (wholeIn x (.int 0) (.int (m - 1)) = cornD P' W i dv) := fun m em => by
        subst em
        rw [wi_dq kdv2]
        rfl
      have ha2 := s12 _ _ ha
      refine ⟨rfl, _, rfl, _, _, rfl, rfl, (by show (0 : Int) < _; decide), rfl, _, rfl, ?_⟩
      rw [int_dec]
      by_cases c : i % 2 = 0
      · have c' : (i : Int) % 2 = 0 := by omega
        rw [decide_eq_true c']
        refine iteT ⟨_, rfl, a, T.C_Picture, dx, _, _, rfl, ha2, T.cl_Picture, T.na_points, rfl, _, rfl, _, rfl, _, _, rfl, rfl, x, .int 0, .int (P' - 1), dv, rfl, kdv2, .inr ⟨_, rfl⟩, .inr ⟨_, rfl⟩, _, rfl, ?_⟩
        rw [key P' (by rw [if_pos c])]
        cases hb : cornD P' W i dv with
        | false => exact iteT (mk_exc fun b H3 s3 nb hb3 => hE (corn_not li (by rw [gd]; exact hb)) b H3 (s12.trans s3) hb3)
        | true => exact iteF ⟨_, _, _, rfl, s12, fun j hj => by
            rcases Nat.lt_succ_iff_lt_or_eq.mp hj with h | h
            · exact hall j h
            · subst h
              rw [gd]
              exact hb⟩
      · have c' : ¬ (i : Int) % 2 = 0 := by omega
        rw [decide_eq_false c']
        refine iteF ⟨_, rfl, a, T.C_Picture, dx, _, _, rfl, ha2, T.cl_Picture, T.na_walls, rfl, _, rfl, _, rfl, _, _, rfl, rfl, x, .int 0, .int (W - 1), dv, rfl, kdv2, .inr ⟨_, rfl⟩, .inr ⟨_, rfl⟩, _, rfl, ?_⟩
        rw [key W (by rw [if_neg c])]
        cases hb : cornD P' W i dv with
        | false => exact iteT (mk_exc fun b H3 s3 nb hb3 => hE (corn_not li (by rw [gd]; exact hb)) b H3 (s12.trans s3) hb3)
        | true => exact iteF ⟨_, _, _, rfl, s12, fun j hj => by
            rcases Nat.lt_succ_iff_lt_or_eq.mp hj with h | h
            · exact hall j h
            · subst h
              rw [gd]
              exact hb⟩
    · obtain ⟨y2, y3, y4, rfl, s1, hall⟩ := hP
      exact hQ (corn_all fun i hi => hall i (by rw [lx]; exact hi)) H' s1
end
end K02
set_option Elab.async false
set_option linter.all false
set_option maxRecDepth 100000
set_option maxHeartbeats 4000000
set_option exponentiation.threshold 5000
set_option pp.maxSteps 600
namespace K02
open PySem PySem.Spec PyProof.Rows L2 TkS
theorem isOpen_prD {P W : Int} {ps : List (Int × Int)} (ins : Ins P W ps) (p : Int × Int) : isOpen P W ps (prD p) = decide (p ∈ ps) := by
  have e : prOf (prD p) = p := rfl
  unfold isOpen
  rw [e]
  by_cases h : p ∈ ps
  · obtain ⟨h1, h2, h3, h4⟩ := ins p h
    have : isPair P W (prD p) = true := by
      show (wholeD (.int p.1) 0 (P - 1) && wholeD (.int p.2) 0 (W - 1)) = true
      unfold wholeD
      simp
      omega
    rw [this, decide_eq_true h]
    rfl
  · rw [decide_eq_false h, Bool.and_false]
theorem sides_not {ps : List (Int × Int)} {cs : List Int} {k : Nat} (hk : k < cs.length) (h : ¬ sideP cs k ∈ ps) : sidesOk ps cs = false := by
  cases c : sidesOk ps cs with
  | false => rfl
  | true => exact absurd (of_decide_eq_true (List.all_eq_true.mp c k (List.mem_range.mpr hk))) h
theorem sides_all {ps : List (Int × Int)} {cs : List Int} (h : ∀ k, k < cs.length → sideP cs k ∈ ps) : sidesOk ps cs = true :=
  List.all_eq_true.mpr fun k hk => decide_eq_true (h k (List.mem_range.mp hk))
theorem sides_at {ps : List (Int × Int)} {cs : List Int} (h : sidesOk ps cs = true) {k : Nat} (hk : k < cs.length) : sideP cs k ∈ ps :=
  of_decide_eq_true (List.all_eq_true.mp h k (List.mem_range.mpr hk))
/-- the side of a ring, as it lies in the heap -/
theorem side_get {H : Hp} {xs : List V} {cs : List Int} {k : Nat} {x : V} (h : DqAll H xs (sidesL cs cs.length)) (hx : xs[k]? = some x) :
    ∃ t u : Addr, x = .ref t ∧ k < cs.length ∧ H t = some (.tup [.ref u, .int (sideS k)]) ∧ H u = some (.tup [.int (sideP cs k).1, .int (sideP cs k).2]) := by
  obtain ⟨d, hd, kd⟩ := h.get hx
  have lk := (List.getElem?_eq_some_iff.mp hd).1
  rw [sidesL_len] at lk
  unfold sidesL at hd
  rw [List.getElem?_map, List.getElem?_range lk] at hd
  cases hd
  cases kd with
  | tup e t =>
    cases t with
    | cons a b =>
      cases b with
      | cons b c =>
        cases c
        cases b
        obtain ⟨_, u, rfl, hu⟩ := prV_of a
        exact ⟨_, u, rfl, lk, e, hu⟩
def sp_is_sign : Sp := fun vs H Q _ => ∃ x d, vs = [x] ∧ Dq H x d ∧ Q (.bl (wholeD d 0 1)) H
def sp_check_sides (C CB : Addr) : Sp := fun vs H Q E => ∃ (a : Addr) (x : V) (d : PyData) (cs : List Int) (P W : Int) (ps : List (Int × Int)), vs = [.ref a, x] ∧ Pic C H a P W ps ∧ Dq H x d ∧ itemsD d = some (cs.map PyData.int) ∧ cs.length ≤ 60 ∧
  (sidesOk ps cs = false → Told CB "pair" H E) ∧ (sidesOk ps cs = true → ∀ H', Same H H' → Q .non H')
def sp_check_ring (C CB : Addr) : Sp := fun vs H Q E => ∃ (a : Addr) (x : V) (d : PyData) (P W : Int) (ps : List (Int × Int)), vs = [.ref a, x] ∧ Pic C H a P W ps ∧ Dq H x d ∧
  (∀ e, ringW P W ps d = some e → Told CB e H E) ∧ (∀ cs : List Int, itemsD d = some (cs.map PyData.int) → ringW P W ps d = none → ∀ l H', Same H H' → Dq H' (.ref l) (.tuple (cs.map PyData.int)) → Q (.ref l) H')
section
variable {P : Program} {w : World} {K : PySem.W.Frag} {mg : Str → Option Value} {base : Heap}
theorem ok_is_sign (T : Txt K mg) : FnOk P w K mg base CX0 2 T.f_is_sign T.d_is_sign ["thing"] sp_is_sign := by
  refine T.F_is_sign.ok sc_is_sign (fun vs H Q E h => ?_) (fun cdv A outer s H vs Q E hr h => ?_)
  · obtain ⟨x, d, rfl, _⟩ := h
    rfl
  · obtain ⟨x, d, rfl, kx, hq⟩ := h
    refine ⟨_, (pss_one (ps_ret (pe_call (ok_is_whole T) (hr.mono (by decide)) (by rfl) T.g_is_whole T.F_is_whole.kp T.b_is_whole .nil pass0 (pa_cons (pv 0) (pa_cons pe_int (pa_cons pe_int pa_nil)))))), ?_⟩
    refine ⟨_, rfl, x, .int 0, .int 1, d, rfl, kx, .inr ⟨_, rfl⟩, .inr ⟨_, rfl⟩, ?_⟩
    rw [wi_dq kx]
    exact hq
theorem ok_check_sides (T : Txt K mg) : FnOk P w K mg base (L2.CX P w) 6 T.f_check_sides T.d_check_sides ["picture", "corners"] (sp_check_sides T.C_Picture T.C_BadRing) := by
  refine T.F_check_sides.okX sc_check_sides (fun vs H Q E h => ?_) (fun cdv A outer s H vs Q E hr h => ?_)
  · obtain ⟨a, x, d, cs, P', W, ps, rfl, _⟩ := h
    rfl
  · obtain ⟨a, x, d, cs, P', W, ps, rfl, hp, hk, e, l60, hE, hQ⟩ := h
    refine ⟨_, (pss_one (ps_for (by exact passes_of rfl) rfl (pi_seq (pe_call (ok_ring_sides T) (hr.mono (by decide)) (by rfl) T.g_ring_sides T.F_ring_sides.kp T.b_ring_sides .nil pass0 (pa_cons (pv 1) pa_nil))) (pg_tup rfl (pgs_cons (pg_name (i := 2) sc_check_sides.nd rfl (.inl rfl)) (pgs_cons (pg_name (i := 3) sc_check_sides.nd rfl (.inl rfl)) pgs_nil)))
        (pss_one (ps_if (pt_not (pt_val (pe_meth (pv 0) T.cl_Picture T.M_is_open (ok_Picture_is_open T) (hr.mono (by decide)) T.b_Picture_is_open .nil pass0 (pa_cons (pv 2) pa_nil))))
          (pss_one (ps_raise (W := fun cls d _ H => E cls d H) rfl (takes_of rfl rfl rfl rfl) (pmk_oex T.o_BadRing T.i_BadRing T.t_BadRing (ok_BadRing_init T) (hr.mono (by decide)) T.b_BadRing_init .nil pass0 (by rfl) T.g_BadRing (pa_cons pe_str pa_nil))))
          pss_nil)))), ?_⟩
    obtain ⟨dx, tp, pv_, pxs, ha, _⟩ := id hp.at_
    refine .inr ⟨_, rfl, x, d, cs, rfl, hk, e, l60, fun l H1 s1 k1 => ?_⟩
    cases k1 with
    | tup hl hxs =>
      rename_i xs
      have lx := hxs.len
      rw [sidesL_len] at lx
      refine ⟨l, rfl, ⟨xs, SqT.of hl⟩, for_tup (xs := xs) (fun i σ H' => ∃ y2 y3, σ = [some (.ref a), some x, y2, y3] ∧ Same H1 H' ∧ ∀ j, j < i → sideP cs j ∈ ps)
        ⟨_, _, rfl, fun _ _ z => z, fun j hj => absurd hj (Nat.not_lt_zero j)⟩ (fun i σ H' hi hP => by obtain ⟨_, _, _, sm, _⟩ := hP; exact SqT.of (sm _ _ hl)) (fun i y σ H' hy hP => ?_) (fun σ H' hP => ?_)⟩
      · obtain ⟨y2, y3, rfl, s2, hall⟩ := hP
        obtain ⟨t, u, rfl, li, ht, hu⟩ := side_get hxs hy
        have ht2 := s2 _ _ ht
        have hu2 := s2 _ _ hu
        have s12 := s1.trans s2
        have kd : Dq H' (.ref u) (prD (sideP cs i)) := .tup hu2 (.cons (.int _) (.cons (.int _) .nil))
        refine ⟨t, _, rfl, SqT.of ht2, rfl, _, _, rfl, _, _, rfl, rfl, ?_⟩
        refine ⟨_, rfl, a, dx, _, rfl, s12 _ _ ha, rfl, _, rfl, a, .ref u, prD (sideP cs i), P', W, ps, rfl, hp.same s12, kd, fun H3 s3 => ⟨_, rfl, ?_⟩⟩
        rw [isOpen_prD hp.ins]
        by_cases c : sideP cs i ∈ ps
        · rw [decide_eq_true c]
          refine iteF ⟨_, _, rfl, s2.trans s3, fun j hj => ?_⟩
          rcases Nat.lt_succ_iff_lt_or_eq.mp hj with h | h
          · exact hall j h
          · subst h
            exact c
        · rw [decide_eq_false c]
          exact iteT (mk_exc fun b H4 s4 nb hb => hE (sides_not li c) b H4 ((s12.trans s3).trans s4) hb)
      · obtain ⟨y2, y3, rfl, s2, hall⟩ := hP
        exact hQ (sides_all fun k hk => hall k (by omega)) H' (s1.trans s2)
theorem ok_check_ring (T : Txt K mg) : FnOk P w K mg base (L2.CX P w) 7 T.f_check_ring T.d_check_ring ["picture", "corners"] (sp_check_ring T.C_Picture T.C_BadRing) := by
  refine T.F_check_ring.okX sc_check_ring (fun vs H Q E h => ?_) (fun cdv A outer s H vs Q E hr h => ?_)
  · obtain ⟨a, x, d, P', W, ps, rfl, _⟩ := h
    rfl
  · obtain ⟨a, x, d, P', W, ps, rfl, hp, hk, hE, hQ⟩ := h
    refine ⟨_, (pss_cons (ps_if (PW.pt (pw_or (pt_not (pt_val (pe_call (ok_is_sequence T) (hr.mono (by decide)) (by rfl) T.g_is_sequence T.F_is_sequence.kp T.b1_is_sequence (show L2.Vals [.non] [.none] from .cons rfl .nil) pass0 (pa_cons (pv 1) pa_nil)))) (pw_or1 (pt_cmpR op_eq (pe_op op_mod (pe_callB call_len_seq (by rfl) T.m_len (by decide +kernel) (pa_cons (pv 1) pa_nil)) pe_int) pe_int (nomark _)))))
        (pss_one (ps_raise (W := fun cls d _ H => E cls d H) rfl (takes_of rfl rfl rfl rfl) (pmk_oex T.o_BadRing T.i_BadRing T.t_BadRing (ok_BadRing_init T) (hr.mono (by decide)) T.b_BadRing_init .nil pass0 (by rfl) T.g_BadRing (pa_cons pe_str pa_nil))))
        pss_nil)
      (pss_cons (ps_if (PW.pt (pw_or (pt_cmpR op_lt (pe_callB call_len_seq (by rfl) T.m_len (by decide +kernel) (pa_cons (pv 1) pa_nil)) (pe_glob (v := .int 4) rfl T.c_FEWEST_CORNERS ⟨_, rfl⟩) (nomark _)) (pw_or1 (pt_cmpR op_gt (pe_callB call_len_seq (by rfl) T.m_len (by decide +kernel) (pa_cons (pv 1) pa_nil)) (pe_glob (v := .int 60) rfl T.c_MOST_CORNERS_rings ⟨_, rfl⟩) (nomark _)))))
        (pss_one (ps_raise (W := fun cls d _ H => E cls d H) rfl (takes_of rfl rfl rfl rfl) (pmk_oex T.o_BadRing T.i_BadRing T.t_BadRing (ok_BadRing_init T) (hr.mono (by decide)) T.b_BadRing_init .nil pass0 (by rfl) T.g_BadRing (pa_cons pe_str pa_nil))))
        pss_nil)
      (pss_cons (ps_expr (pe_call (ok_check_corners T) (hr.mono (by decide)) (by rfl) T.g_check_corners T.F_check_corners.kp T.b_check_corners .nil (passes_call (W := fun cls d _ H => E cls d H) (takes_of rfl rfl rfl rfl) (fun _ _ _ _ h => h)) (pa_cons (pv 0) (pa_cons (pv 1) pa_nil))))
      (pss_cons (ps_expr (pe_call (ok_check_sides T) (hr.mono (by decide)) (by rfl) T.g_check_sides T.F_check_sides.kp T.b_check_sides .nil (passes_call (W := fun cls d _ H => E cls d H) (takes_of rfl rfl rfl rfl) (fun _ _ _ _ h => h)) (pa_cons (pv 0) (pa_cons (pv 1) pa_nil))))
      (pss_one (ps_ret (pe_callTy call_tupD (by rfl) T.m_tuple (by decide +kernel) (pa_cons (pv 1) pa_nil)))))))), ?_⟩
    refine ⟨_, rfl, x, .non, d, rfl, hk, .inl rfl, fun H1 s1 => ⟨_, rfl, ?_⟩⟩
    have hk1 := hk.same s1
    cases e : itemsD d with
    | none =>
      have z : seqIs d .non = false := by unfold seqIs; rw [e]
      rw [z]
      exact iteT (iteT (mk_exc fun b H' s nb hb => hE "length" (by unfold ringW; rw [e]) b H' (s1.trans s) hb))
    | some ds =>
      have z : seqIs d .non = true := by unfold seqIs; rw [e]
      rw [z]
      obtain ⟨p, xs, rfl, hxs, hsq⟩ := sq_of (K := K) hk1 e
      have lx := hxs.len
      refine iteF ⟨_, rfl, p, _, rfl, hsq, _, _, rfl, rfl, (by show (0 : Int) < _; decide), rfl, _, rfl, ?_⟩
      rw [int_dec, lx]
      have bad : (ds.length % 2 = 1 ∨ ds.length < 4 ∨ 60 < ds.length) → ringW P' W ps d = some ("length" : Str) := fun h => by
        unfold ringW
        rw [e]
        dsimp only
        rw [if_pos h]
      by_cases c1 : ds.length % 2 = 1
      · rw [decide_eq_true (show (ds.length : Int) % 2 = 1 by omega)]
        exact iteT (mk_exc fun b H' s nb hb => hE "length" (bad (.inl c1)) b H' (s1.trans s) hb)
      rw [decide_eq_false (show ¬ (ds.length : Int) % 2 = 1 by omega)]
      refine iteF ⟨_, rfl, p, _, rfl, hsq, _, _, rfl, rfl, _, rfl, ?_⟩
      rw [lx]
      by_cases c2 : ds.length < 4
      · rw [decide_eq_true (show (ds.length : Int) < 4 by omega)]
        exact iteT (iteT (mk_exc fun b H' s nb hb => hE "length" (bad (.inr (.inl c2))) b H' (s1.trans s) hb))
      rw [decide_eq_false (show ¬ (ds.length : Int) < 4 by omega)]
      refine iteF ⟨_, rfl, p, _, rfl, hsq, _, _, rfl, rfl, _, rfl, ?_⟩
      rw [lx]
      by_cases c3 : 60 < ds.length
      · rw [decide_eq_true (show (60 : Int) < (ds.length : Int) by omega)]
        exact iteT (mk_exc fun b H' s nb hb => hE "length" (bad (.inr (.inr c3))) b H' (s1.trans s) hb)
      rw [decide_eq_false (show ¬ (60 : Int) < (ds.length : Int) by omega)]
      have hW : ringW P' W ps d = if cornsD P' W ds = true then (if sidesOk ps (ds.map intD) = true then none else some ("pair" : Str)) else some ("corner" : Str) := by
        unfold ringW
        rw [e]
        dsimp only
        rw [if_neg (by omega)]
      refine iteF ⟨_, rfl, _, rfl, a, .ref p, d, ds, P', W, ps, rfl, hp.same s1, hk1, e, fun hb => ?_, fun hb H2 s2 => ?_⟩
      · rw [if_neg (by rw [hb]; exact Bool.false_ne_true)] at hW
        exact (fun b H' s' hh => hE "corner" hW b H' (s1.trans s') hh)
      · have ei := corns_ints hb
        rw [if_pos hb] at hW
        have s12 := s1.trans s2
        refine ⟨_, rfl, _, rfl, a, .ref p, d, ds.map intD, P', W, ps, rfl, hp.same s12, hk.same s12, by rw [← ei]; exact e, by rw [List.length_map]; omega, fun hs => ?_, fun hs H3 s3 => ?_⟩
        · rw [if_neg (by rw [hs]; exact Bool.false_ne_true)] at hW
          exact (fun b H' s' hh => hE "pair" hW b H' (s12.trans s') hh)
        · rw [if_pos hs] at hW
          refine ⟨_, rfl, .ref p, d, ds, rfl, hk.same (s12.trans s3), e, fun l H4 s4 k4 => ?_⟩
          exact hQ (ds.map intD) (by rw [← ei]; exact e) hW l H4 ((s12.trans s3).trans s4) (by rw [← ei]; exact k4)
end
end K02
set_option Elab.async false
set_option linter.all false
set_option maxRecDepth 100000
set_option maxHeartbeats 4000000
set_option exponentiation.threshold 5000
set_option pp.maxSteps 600
namespace K02
open PySem PySem.Spec PyProof.Rows L2 TkS
theorem intl_inj {a b : List Int} (h : a.map PyData.int = b.map PyData.int) : a = b := by
  have := congrArg (List.map intD) h
  rw [List.map_map, List.map_map, show (intD ∘ PyData.int) = id from rfl, List.map_id, List.map_id] at this
  exact this
theorem map_intD (ns : List Int) : (ns.map PyData.int).map intD = ns := by
  rw [List.map_map, show (intD ∘ PyData.int) = id from rfl, List.map_id]
theorem int_of {H : Hp} {x : V} {d : PyData} (h : isIntD d = true) (k : Dq H x d) : ∃ i : Int, x = .int i ∧ d = .int i := by
  cases k with
  | int i => exact ⟨i, rfl, rfl⟩
  | _ => cases h
/-- just the rings have no word -/
theorem ringW_none {P W : Int} {ps : List (Int × Int)} {d : PyData} (h : ringW P W ps d = none) : ∃ cs : List Int, itemsD d = some (cs.map PyData.int) ∧ RingG ps cs ∧ cs.length ≤ 60 := by
  unfold ringW at h
  cases e : itemsD d with
  | none =>
    rw [e] at h
    cases h
  | some ds =>
    rw [e] at h
    dsimp only at h
    by_cases c : ds.length % 2 = 1 ∨ ds.length < 4 ∨ 60 < ds.length
    · rw [if_pos c] at h
      cases h
    · rw [if_neg c] at h
      cases c1 : cornsD P W ds with
      | false =>
        rw [c1, if_neg Bool.false_ne_true] at h
        cases h
      | true =>
        rw [c1, if_pos rfl] at h
        cases c2 : sidesOk ps (ds.map intD) with
        | false =>
          rw [c2, if_neg Bool.false_ne_true] at h
          cases h
        | true =>
          refine ⟨ds.map intD, congrArg some (corns_ints c1), ⟨by rw [List.length_map]; omega, by rw [List.length_map]; omega, fun k hk => sides_at c2 hk⟩, by rw [List.length_map]; omega⟩
theorem ringW_good {P W : Int} {ps : List (Int × Int)} {d : PyData} {cs : List Int} (ins : Ins P W ps) (e : itemsD d = some (cs.map PyData.int)) (g : RingG ps cs) (l60 : cs.length ≤ 60) : ringW P W ps d = none := by
  have f4 := g.four
  have f2 := g.even
  unfold ringW
  rw [e]
  dsimp only
  rw [if_neg (by rw [List.length_map]; omega), map_intD, if_pos, if_pos (sides_all g.side)]
  refine corn_all fun i hi => ?_
  rw [List.length_map] at hi
  have gi : (cs.map PyData.int).getD i .none = .int (cs.getD i 0) := by
    rw [List.getD_eq_getElem?_getD, List.getElem?_map, List.getD_eq_getElem?_getD, List.getElem?_eq_getElem hi]
    rfl
  rw [gi]
  obtain ⟨b1, b2, b3, b4⟩ := ins _ (g.side i hi)
  unfold sideP at b1 b2 b3 b4
  unfold cornD wholeD
  by_cases c : i % 2 = 0
  · rw [if_pos c] at b1 b2 b3 b4
    rw [if_pos c]
    rw [cAt_lt hi] at b1 b2
    simp
    simp at b1 b2
    omega
  · rw [if_neg c] at b1 b2 b3 b4
    rw [if_neg c]
    rw [cAt_lt hi] at b3 b4
    simp
    simp at b3 b4
    omega
theorem ixN_of {n : Nat} {k : Int} (h0 : 0 ≤ k) (h1 : k < n) : ixN n k = some k.toNat := by
  unfold ixN
  rw [if_pos h0, if_pos h1]
theorem pic_len {C a : Addr} {H : Hp} {P W : Int} {ps : List (Int × Int)} (h : Pic C H a P W ps) : ps.length ≤ 25 := by
  obtain ⟨h1, h2, h3, h4⟩ := h.ok
  have n := asc_nodup h.asc
  have l := nd_le n (B := fullPs P.toNat W.toNat) (fun p hp => mem_fullPs.mpr (by have := h.ins p hp; omega))
  rw [fullPs_len] at l
  have : P.toNat * W.toNat ≤ 5 * 5 := Nat.mul_le_mul (by omega) (by omega)
  omega
def Rt (ps : List (Int × Int)) (cs : List Int) : PyData := .tuple ((rtL ps cs cs.length).map PyData.int)
def sp_ring_tour (C CB : Addr) : Sp := fun vs H Q E => ∃ (a : Addr) (x : V) (d : PyData) (P W : Int) (ps : List (Int × Int)), vs = [.ref a, x] ∧ Pic C H a P W ps ∧ Dq H x d ∧
  (∀ e, ringW P W ps d = some e → Told CB e H E) ∧ (∀ cs : List Int, itemsD d = some (cs.map PyData.int) → RingG ps cs → cs.length ≤ 60 → ∀ l H', Same H H' → Dq H' (.ref l) (Rt ps cs) → Q (.ref l) H')
def sp_ring_saying (C CB CS : Addr) : Sp := fun vs H Q E => ∃ (a : Addr) (x y : V) (d d' : PyData) (P W : Int) (ps : List (Int × Int)), vs = [.ref a, x, y] ∧ Pic C H a P W ps ∧ Dq H x d ∧ Dq H y d' ∧
  (∀ e, ringW P W ps d = some e → Told CB e H E) ∧ (ringW P W ps d = none → wholeD d' 0 1 = false → ∀ H', Same H H' → E (.ref CS) none H') ∧
  (∀ cs : List Int, itemsD d = some (cs.map PyData.int) → RingG ps cs → cs.length ≤ 60 → wholeD d' 0 1 = true → ∀ l H', Same H H' → Dq H' (.ref l) (.tuple [Rt ps cs, d']) → Q (.ref l) H')
def tileW (P W : Int) (ps : List (Int × Int)) (ds : List PyData) : Option Str :=
  if cornsD P W ds = true then
    if (ds.map intD).getD 0 0 = (ds.map intD).getD 2 0 ∨ (ds.map intD).getD 1 0 = (ds.map intD).getD 3 0 then some "corner"
    else if sidesOk ps (ds.map intD) = true then none else some "pair"
  else some "corner"
def sp_tile_ring (C CB : Addr) : Sp := fun vs H Q E => ∃ (a : Addr) (p u q v : V) (dp du dq dv : PyData) (P W : Int) (ps : List (Int × Int)), vs = [.ref a, p, u, q, v] ∧ Pic C H a P W ps ∧ Dq H p dp ∧ Dq H u du ∧ Dq H q dq ∧ Dq H v dv ∧
  (∀ e, tileW P W ps [dp, du, dq, dv] = some e → Told CB e H E) ∧ (tileW P W ps [dp, du, dq, dv] = none → ∀ l H', Same H H' → Dq H' (.ref l) (.tuple [dp, du, dq, dv]) → Q (.ref l) H')
section
variable {P : Program} {w : World} {K : PySem.W.Frag} {mg : Str → Option Value} {base : Heap}
theorem ok_ring_tour (T : Txt K mg) : FnOk P w K mg base (L2.CX P w) 8 T.f_ring_tour T.d_ring_tour ["picture", "corners"] (sp_ring_tour T.C_Picture T.C_BadRing) := by
  refine T.F_ring_tour.okX sc_ring_tour (fun vs H Q E h => ?_) (fun cdv A outer s H vs Q E hr h => ?_)
  · obtain ⟨a, x, d, P', W, ps, rfl, _⟩ := h
    rfl
  · obtain ⟨a, x, d, P', W, ps, rfl, hp, hk, hE, hQ⟩ := h
    refine ⟨_, (pss_cons (ps_set (i := 2) sc_ring_tour.nd rfl (.inl rfl) (pe_op op_rep (pe_lst (pa_cons pe_int pa_nil)) (pe_callB (call_lenOwn (ok_Picture_len T) (hr.mono (by decide)) T.len_at T.len_fn T.b_Picture_len pass0) (by rfl) T.m_len (by decide +kernel) (pa_cons (pv 0) pa_nil))))
      (pss_cons (ps_for (by exact passes_of rfl) rfl (pi_seq (pe_call (ok_ring_sides T) (hr.mono (by decide)) (by rfl) T.g_ring_sides T.F_ring_sides.kp T.b_ring_sides .nil pass0 (pa_cons (pe_call (ok_check_ring T) (hr.mono (by decide)) (by rfl) T.g_check_ring T.F_check_ring.kp T.b_check_ring .nil (passes_call (W := fun cls d _ H => E cls d H) (takes_of rfl rfl rfl rfl) (fun _ _ _ _ h => h)) (pa_cons (pv 0) (pa_cons (pv 1) pa_nil))) pa_nil))) (pg_tup rfl (pgs_cons (pg_name (i := 3) sc_ring_tour.nd rfl (.inl rfl)) (pgs_cons (pg_name (i := 4) sc_ring_tour.nd rfl (.inl rfl)) pgs_nil)))
        (pss_cons (ps_set (i := 5) sc_ring_tour.nd rfl (.inl rfl) (pe_meth (pv 0) T.cl_Picture T.M_place_of (ok_Picture_place_of T) (hr.mono (by decide)) T.b_Picture_place_of .nil (passes_call (W := fun cls d _ H => E cls d H) (takes_of rfl rfl rfl rfl) (fun _ _ _ _ h => h)) (pa_cons (pv 3) pa_nil)))
        (pss_one (ps_asg (pe_op op_add (pe_ix ix_list (pv 2) (pv 5) (fun _ _ => rfl)) (pv 4)) (pg_sub (pv 2) (pv 5) set_list)))))
      (pss_one (ps_ret (pe_callTy call_tuple_of (by rfl) T.m_tuple (by decide +kernel) (pa_cons (pv 2) pa_nil)))))), ?_⟩
    obtain ⟨dx, tp, pv_, pxs, ha, hfr, hps, _⟩ := id hp.at_
    have l25 := pic_len hp
    refine ⟨(by show 1 ≤ sizeLine; decide), fun l0 n0 => ?_⟩
    have s0 : Same H (upd H l0 (.lst [.int 0])) := same_new n0
    refine ⟨_, rfl, a, dx, _, ps.length, rfl, s0 _ _ ha, by omega, a, P', W, ps, rfl, hp.same s0, fun H1 s1 => ⟨rfl, l0, _, [.int 0], rfl, rfl, s1 _ _ upd_same, by omega, by omega, (by show 1 * (ps.length : Int).toNat ≤ sizeLine; exact Nat.le_of_lt (small1000 (by omega))), fun L nL => ?_⟩⟩
    have s01 := s0.trans s1
    have HL : H L = none := s01.free nL
    have s2 := s01.trans (same_new (o := .lst (List.replicate (ps.length : Int).toNat [V.int 0]).flatten) nL)
    have hL : (upd H1 L (.lst (List.replicate (ps.length : Int).toNat [V.int 0]).flatten)) L = some (.lst ((rtL ps [] 0).map V.int)) := by
      rw [upd_same, List.flatten_replicate_singleton, rtL_zero, List.map_replicate]
      rfl
    generalize upd H1 L (.lst (List.replicate (ps.length : Int).toNat [V.int 0]).flatten) = H2 at s2 hL
    refine .inr ⟨_, rfl, _, rfl, a, x, d, P', W, ps, rfl, hp.same s2, hk.same s2, fun e he => (hE e he).same s2, fun cs ec hw l3 H3 s3 k3 => ?_⟩
    obtain ⟨cs', ec', g, l60⟩ := ringW_none hw
    have ee : cs' = cs := by
      rw [ec] at ec'
      exact (intl_inj (Option.some.inj ec')).symm
    subst ee
    refine ⟨_, _, cs', rfl, k3, rfl, l60, fun l4 H4 s4 k4 => ?_⟩
    have s34 := s3.trans s4
    have s24 := s2.trans s34
    have hL4 : H4 L = some (.lst ((rtL ps cs' 0).map V.int)) := by
      rw [rtL_zero]
      rw [rtL_zero] at hL
      exact s34 _ _ hL
    cases k4 with
    | tup hl hxs =>
      rename_i xs
      have lx := hxs.len
      rw [sidesL_len] at lx
      have sm : ∀ {H' : Hp}, (∀ b o, b ≠ L → H4 b = some o → H' b = some o) → Same H H' := fun k b o e => k b o (ne_of_none e HL) (s24 _ _ e)
      refine ⟨l4, rfl, ⟨xs, SqT.of hl⟩, for_tup (xs := xs) (fun i σ H' => ∃ y3 y4 y5, σ = [some (.ref a), some x, some (.ref L), y3, y4, y5] ∧ (∀ b o, b ≠ L → H4 b = some o → H' b = some o) ∧ H' L = some (.lst ((rtL ps cs' i).map V.int)))
        ⟨_, _, _, rfl, fun _ _ _ z => z, hL4⟩ (fun i σ H' hi hP => by
          obtain ⟨_, _, _, _, k, _⟩ := hP
          exact SqT.of (k _ _ (fun z => by rw [z, hL4] at hl; cases hl) hl)) (fun i y σ H' hy hP => ?_) (fun σ H' hP => ?_)⟩
      · obtain ⟨y3, y4, y5, rfl, k, hLi⟩ := hP
        obtain ⟨t, u, rfl, li, ht, hu⟩ := side_get hxs hy
        have ht2 := k _ _ (fun z => by rw [z, hL4] at ht; cases ht) ht
        have hu2 := k _ _ (fun z => by rw [z, hL4] at hu; cases hu) hu
        have s5 := sm k
        have kd : Dq H' (.ref u) (prD (sideP cs' i)) := .tup hu2 (.cons (.int _) (.cons (.int _) .nil))
        refine ⟨t, _, rfl, SqT.of ht2, rfl, _, _, rfl, _, _, rfl, rfl, ?_⟩
        refine ⟨_, rfl, a, dx, _, rfl, s5 _ _ ha, rfl, _, rfl, a, .ref u, prD (sideP cs' i), P', W, ps, rfl, hp.same s5, kd, fun z => ?_, fun _ j H6 hj s6 => ?_⟩
        · rw [isOpen_prD hp.ins, decide_eq_true (g.side i li)] at z
          cases z
        · have hj' : ps[j]? = some (sideP cs' i) := hj
          have lj := (List.getElem?_eq_some_iff.mp hj').1
          have hL6 := s6 _ _ hLi
          refine ⟨_, rfl, _, rfl, L, _, (j : Int), _, rfl, rfl, SqL.of hL6, at_int (by rw [rtL_len]; exact lj), _, rfl, _, sideS i, rfl, rfl, _, rfl, _, rfl, L, _, (j : Int), j, rfl, rfl, hL6, ixN_of (by omega) (by rw [List.length_map, rtL_len]; omega), ?_⟩
          refine ⟨_, _, _, rfl, fun b o n e => ?_, ?_⟩
          · rw [upd_ne n]
            exact s6 _ _ (k b o n e)
          · rw [upd_same, rtL_step (asc_nodup hp.asc) hj', List.map_set]
      · obtain ⟨y3, y4, y5, rfl, k, hLi⟩ := hP
        rw [lx] at hLi
        refine ⟨_, rfl, L, _, rfl, .inl ⟨SqL.of hLi, fun l nl => ?_⟩⟩
        exact hQ cs' ec g l60 l _ ((sm k).trans (same_new nl)) (tupI upd_same)
theorem ok_ring_saying (T : Txt K mg) : FnOk P w K mg base (L2.CX P w) 9 T.f_ring_saying T.d_ring_saying ["picture", "corners", "sign"] (sp_ring_saying T.C_Picture T.C_BadRing T.C_BadSign) := by
  refine T.F_ring_saying.okX sc_ring_saying (fun vs H Q E h => ?_) (fun cdv A outer s H vs Q E hr h => ?_)
  · obtain ⟨a, x, y, d, d', P', W, ps, rfl, _⟩ := h
    rfl
  · obtain ⟨a, x, y, d, d', P', W, ps, rfl, hp, kx, ky, hE1, hE2, hQ⟩ := h
    refine ⟨_, (pss_cons (ps_set (i := 3) sc_ring_saying.nd rfl (.inl rfl) (pe_call (ok_ring_tour T) (hr.mono (by decide)) (by rfl) T.g_ring_tour T.F_ring_tour.kp T.b_ring_tour .nil (passes_call (W := fun cls d _ H => E cls d H) (takes_of rfl rfl rfl rfl) (fun _ _ _ _ h => h)) (pa_cons (pv 0) (pa_cons (pv 1) pa_nil))))
      (pss_cons (ps_if (pt_not (pt_val (pe_call (ok_is_sign T) (hr.mono (by decide)) (by rfl) T.g_is_sign T.F_is_sign.kp T.b_is_sign .nil pass0 (pa_cons (pv 2) pa_nil))))
        (pss_one (ps_raise (W := fun cls d _ H => E cls d H) rfl (takes_of rfl rfl rfl rfl) (pmk_own0 PySem.F.excBase_ValueError T.q_BadSign T.g_BadSign T.k_BadSign (raises_own T.b_BadSign T.ty_BadSign) (by rfl))))
        pss_nil)
      (pss_one (ps_ret (pe_tup (pa_cons (pv 3) (pa_cons (pv 2) pa_nil))))))), ?_⟩
    refine ⟨_, rfl, _, rfl, a, x, d, P', W, ps, rfl, hp, kx, hE1, fun cs ec g l60 l1 H1 s1 k1 => ?_⟩
    have ky1 := ky.same s1
    refine ⟨_, rfl, y, d', rfl, ky1, _, rfl, ?_⟩
    cases hb : wholeD d' 0 1 with
    | false => exact iteT (hE2 (ringW_good hp.ins ec g l60) hb _ s1)
    | true =>
      refine iteF ⟨_, rfl, _, rfl, (by show 2 ≤ sizeLine; decide), fun u nu => ?_⟩
      have s2 := same_new (o := .tup [.ref l1, y]) nu
      exact hQ cs ec g l60 hb u _ (s1.trans s2) (.tup upd_same (.cons (k1.same s2) (.cons (ky1.same s2) .nil)))
theorem ok_tile_ring (T : Txt K mg) : FnOk P w K mg base (L2.CX P w) 7 T.f_tile_ring T.d_tile_ring ["picture", "p", "u", "q", "v"] (sp_tile_ring T.C_Picture T.C_BadRing) := by
  refine T.F_tile_ring.okX sc_tile_ring (fun vs H Q E h => ?_) (fun cdv A outer s H vs Q E hr h => ?_)
  · obtain ⟨a, p, u, q, v, dp, du, dq, dv, P', W, ps, rfl, _⟩ := h
    rfl
  · obtain ⟨a, p, u, q, v, dp, du, dq, dv, P', W, ps, rfl, hp, kp, ku, kq, kv, hE, hQ⟩ := h
    refine ⟨_, (pss_cons (ps_set (i := 5) sc_tile_ring.nd rfl (.inl rfl) (pe_tup (pa_cons (pv 1) (pa_cons (pv 2) (pa_cons (pv 3) (pa_cons (pv 4) pa_nil))))))
      (pss_cons (ps_expr (pe_call (ok_check_corners T) (hr.mono (by decide)) (by rfl) T.g_check_corners T.F_check_corners.kp T.b_check_corners .nil (passes_call (W := fun cls d _ H => E cls d H) (takes_of rfl rfl rfl rfl) (fun _ _ _ _ h => h)) (pa_cons (pv 0) (pa_cons (pv 5) pa_nil))))
      (pss_cons (ps_if (PW.pt (pw_or (pt_cmpR op_eq (pv 1) (pv 3) (nomark _)) (pw_or1 (pt_cmpR op_eq (pv 2) (pv 4) (nomark _)))))
        (pss_one (ps_raise (W := fun cls d _ H => E cls d H) rfl (takes_of rfl rfl rfl rfl) (pmk_oex T.o_BadRing T.i_BadRing T.t_BadRing (ok_BadRing_init T) (hr.mono (by decide)) T.b_BadRing_init .nil pass0 (by rfl) T.g_BadRing (pa_cons pe_str pa_nil))))
        pss_nil)
      (pss_cons (ps_expr (pe_call (ok_check_sides T) (hr.mono (by decide)) (by rfl) T.g_check_sides T.F_check_sides.kp T.b_check_sides .nil (passes_call (W := fun cls d _ H => E cls d H) (takes_of rfl rfl rfl rfl) (fun _ _ _ _ h => h)) (pa_cons (pv 0) (pa_cons (pv 5) pa_nil))))
      (pss_one (ps_ret (pv 5))))))), ?_⟩
    refine ⟨_, rfl, _, rfl, _, rfl, _, rfl, (by show 4 ≤ sizeLine; decide), fun l nl => ?_⟩
    have s1 : Same H (upd H l (.tup [p, u, q, v])) := same_new nl
    have kl : Dq (upd H l (.tup [p, u, q, v])) (.ref l) (.tuple [dp, du, dq, dv]) := .tup upd_same (.cons (kp.same s1) (.cons (ku.same s1) (.cons (kq.same s1) (.cons (kv.same s1) .nil))))
    generalize upd H l (.tup [p, u, q, v]) = H1 at s1 kl
    refine ⟨_, rfl, _, rfl, a, .ref l, _, [dp, du, dq, dv], P', W, ps, rfl, hp.same s1, kl, rfl, fun hb => ?_, fun hb H2 s2 => ?_⟩
    · exact (hE "corner" (by unfold tileW; rw [hb]; rfl)).same s1
    · have ei := corns_ints hb
      have s12 := s1.trans s2
      have q0 := corn_int (corn_at hb (i := 0) (by simp))
      have q1 := corn_int (corn_at hb (i := 1) (by simp))
      have q2 := corn_int (corn_at hb (i := 2) (by simp))
      have q3 := corn_int (corn_at hb (i := 3) (by simp))
      obtain ⟨ip, rfl, rfl⟩ := int_of q0 kp
      obtain ⟨iu, rfl, rfl⟩ := int_of q1 ku
      obtain ⟨iq, rfl, rfl⟩ := int_of q2 kq
      obtain ⟨iv, rfl, rfl⟩ := int_of q3 kv
      have hW : tileW P' W ps [.int ip, .int iu, .int iq, .int iv] = if ip = iq ∨ iu = iv then some ("corner" : Str) else if sidesOk ps [ip, iu, iq, iv] = true then none else some ("pair" : Str) := by
        unfold tileW
        rw [if_pos hb]
        rfl
      refine ⟨_, rfl, _, rfl, rfl, _, rfl, ?_⟩
      rw [int_dec]
      by_cases c1 : ip = iq
      · rw [decide_eq_true c1]
        exact iteT (iteT (mk_exc fun b H' s nb hb => hE "corner" (by rw [hW, if_pos (.inl c1)]) b H' (s12.trans s) hb))
      rw [decide_eq_false c1]
      refine iteF ⟨_, rfl, _, rfl, rfl, _, rfl, ?_⟩
      rw [int_dec]
      by_cases c2 : iu = iv
      · rw [decide_eq_true c2]
        exact iteT (mk_exc fun b H' s nb hb => hE "corner" (by rw [hW, if_pos (.inr c2)]) b H' (s12.trans s) hb)
      rw [decide_eq_false c2]
      rw [if_neg (fun z => z.elim c1 c2)] at hW
      refine iteF ⟨_, rfl, _, rfl, a, .ref l, _, [ip, iu, iq, iv], P', W, ps, rfl, hp.same s12, kl.same s2, rfl, by simp, fun hs => ?_, fun hs H3 s3 => ?_⟩
      · exact (hE "pair" (by rw [hW, hs]; rfl)).same s12
      · exact ⟨_, rfl, hQ (by rw [hW, hs]; rfl) l H3 (s12.trans s3) (kl.same (s2.trans s3))⟩
end
end K02
set_option Elab.async false
set_option linter.all false
set_option maxRecDepth 100000
set_option maxHeartbeats 4000000
set_option exponentiation.threshold 5000
set_option pp.maxSteps 600
namespace K02
open PySem PySem.Spec PyProof.Rows L2 TkS
/-! tiles_of, the law's tour of a ring -/
def rowD (r : List Int) : PyData := .tuple (r.map PyData.int)
def sp_tiles_of (C : Addr) : Sp := fun vs H Q _ => ∃ (a : Addr) (P W : Int) (ps : List (Int × Int)), vs = [.ref a] ∧ Pic C H a P W ps ∧ ∀ l H', Same H H' → Dq H' (.ref l) (.tuple ((tilesL ps).map rowD)) → Q (.ref l) H'
def sp_law_ring_tour : Sp := fun vs H Q _ => ∃ (l : Addr) (x : V) (d : PyData) (ps : List (Int × Int)) (cs : List Int), vs = [.ref l, x] ∧ Dq H (.ref l) (.list (ps.map prD)) ∧ ps.Nodup ∧ ps.length ≤ 25 ∧ Dq H x d ∧ itemsD d = some (cs.map PyData.int) ∧ RingG ps cs ∧ cs.length ≤ 60 ∧
  ∀ l' H', Same H H' → Dq H' (.ref l') (Rt ps cs) → Q (.ref l') H'
def tilesTo (ps : List (Int × Int)) (i : Nat) : List (List Int) := (ps.take i).flatMap fun a => tileRow ps a ps
theorem tileRow_len (ps : List (Int × Int)) (a : Int × Int) (l : List (Int × Int)) : (tileRow ps a l).length ≤ l.length := by
  unfold tileRow
  rw [List.length_map]
  exact List.length_filter_le _ _
theorem tilesTo_succ {ps : List (Int × Int)} {i : Nat} {p : Int × Int} (h : ps[i]? = some p) : tilesTo ps (i + 1) = tilesTo ps i ++ tileRow ps p ps := by
  unfold tilesTo
  rw [List.take_add_one, h, List.flatMap_append]
  simp
theorem tilesTo_len {ps : List (Int × Int)} : ∀ i, i ≤ ps.length → (tilesTo ps i).length ≤ i * ps.length
  | 0, _ => by simp [tilesTo]
  | i + 1, h => by
    rw [tilesTo_succ (List.getElem?_eq_getElem h), List.length_append, Nat.succ_mul]
    exact Nat.add_le_add (tilesTo_len i (by omega)) (tileRow_len _ _ _)
theorem tilesTo_all (ps : List (Int × Int)) : tilesTo ps ps.length = tilesL ps := by
  unfold tilesTo tilesL
  rw [List.take_length]
theorem tileRow_yes {ps l : List (Int × Int)} {a b : Int × Int} {i : Nat} (h : l[i]? = some b) (c : tileB ps a b = true) : tileRow ps a (l.take (i + 1)) = tileRow ps a (l.take i) ++ [[a.1, a.2, b.1, b.2]] := by
  unfold tileRow
  rw [List.take_add_one, h, List.filter_append, List.map_append]
  simp [c]
theorem tileRow_no {ps l : List (Int × Int)} {a b : Int × Int} {i : Nat} (h : l[i]? = some b) (c : tileB ps a b = false) : tileRow ps a (l.take (i + 1)) = tileRow ps a (l.take i) := by
  unfold tileRow
  rw [List.take_add_one, h, List.filter_append, List.map_append]
  simp [c]
section
variable {P : Program} {w : World} {K : PySem.W.Frag} {mg : Str → Option Value} {base : Heap}
theorem ok_tiles_of (T : Txt K mg) : FnOk P w K mg base CX0 6 T.f_tiles_of T.d_tiles_of ["picture"] (sp_tiles_of T.C_Picture) := by
  refine T.F_tiles_of.ok sc_tiles_of (fun vs H Q E h => ?_) (fun cdv A outer s H vs Q E hr h => ?_)
  · obtain ⟨a, P', W, ps, rfl, _⟩ := h
    rfl
  · obtain ⟨a, P', W, ps, rfl, hp, hQ⟩ := h
    refine ⟨_, (pss_cons (ps_set (i := 1) sc_tiles_of.nd rfl (.inl rfl) (pe_lst pa_nil))
      (pss_cons (ps_for PassesOwn.never rfl (pi_tup (pe_fld (pv 0) rfl)) (pg_tup rfl (pgs_cons (pg_name (i := 2) sc_tiles_of.nd rfl (.inl rfl)) (pgs_cons (pg_name (i := 3) sc_tiles_of.nd rfl (.inl rfl)) pgs_nil)))
        (pss_one (ps_for PassesOwn.never rfl (pi_tup (pe_fld (pv 0) rfl)) (pg_tup rfl (pgs_cons (pg_name (i := 4) sc_tiles_of.nd rfl (.inl rfl)) (pgs_cons (pg_name (i := 5) sc_tiles_of.nd rfl (.inl rfl)) pgs_nil)))
          (pss_one (ps_if (PW.pt (pw_and (pt_cmpR op_lt (pv 2) (pv 4) (nomark _)) (pw_and (pt_cmpR op_lt (pv 3) (pv 5) (nomark _)) (pw_and (pt_val (pe_meth (pv 0) T.cl_Picture T.M_is_open (ok_Picture_is_open T) (hr.mono (by decide)) T.b_Picture_is_open .nil pass0 (pa_cons (pe_tup (pa_cons (pv 2) (pa_cons (pv 5) pa_nil))) pa_nil))) (pw_and1 (pt_val (pe_meth (pv 0) T.cl_Picture T.M_is_open (ok_Picture_is_open T) (hr.mono (by decide)) T.b_Picture_is_open .nil pass0 (pa_cons (pe_tup (pa_cons (pv 4) (pa_cons (pv 3) pa_nil))) pa_nil))))))))
            (pss_one (ps_expr (pe_bm PySem.F.plainAttrs_list PySem.F.slot_list_append PySem.F.type_list_append mt_append (pv 1) (pa_cons (pe_tup (pa_cons (pv 2) (pa_cons (pv 3) (pa_cons (pv 4) (pa_cons (pv 5) pa_nil))))) pa_nil))))
            pss_nil)))))
      (pss_one (ps_ret (pe_callTy call_tupD (by rfl) T.m_tuple (by decide +kernel) (pa_cons (pv 1) pa_nil)))))), ?_⟩
    obtain ⟨dx, tp, pv_, pxs, ha, hfr, hps, _⟩ := id hp.at_
    have l25 := pic_len hp
    have lps : pxs.length = ps.length := by rw [hps.len, List.length_map]
    refine ⟨Nat.zero_le _, fun L nL => ?_⟩
    have rdp : ∀ {H' : Hp}, Same H H' → H' a = some (.ins T.C_Picture dx [("points", .int P'), ("walls", .int W), ("pairs", .ref tp), ("_pieces", pv_)]) := fun s => s _ _ ha
    refine ⟨_, rfl, a, T.C_Picture, dx, _, _, rfl, rdp (same_new nL), T.cl_Picture, T.na_pairs, rfl, tp, rfl, ⟨pxs, (hfr.same (same_new nL)).seq⟩, for_tup (xs := pxs) (fun i σ H' => ∃ y2 y3 y4 y5, σ = [some (.ref a), some (.ref L), y2, y3, y4, y5] ∧ Acc H L ((tilesTo ps i).map rowD) H')
      ⟨_, _, _, _, rfl, Acc.nil nL⟩ (fun i σ H' hi hP => by obtain ⟨_, _, _, _, _, ac⟩ := hP; exact (hfr.same ac.1).seq) (fun i x σ H' hx hP => ?_) (fun σ H' hP => ?_)⟩
    · obtain ⟨y2, y3, y4, y5, rfl, ac⟩ := hP
      obtain ⟨t, p, rfl, hpi, ht⟩ := pr_items hps hx
      have li := (List.getElem?_eq_some_iff.mp hpi).1
      refine ⟨t, _, rfl, SqT.of (ac.1 _ _ ht), rfl, _, _, rfl, _, _, rfl, rfl, ?_⟩
      refine ⟨_, rfl, a, T.C_Picture, dx, _, _, rfl, rdp ac.1, T.cl_Picture, T.na_pairs, rfl, tp, rfl, ⟨pxs, (hfr.same ac.1).seq⟩, for_tup (xs := pxs) (fun j σ H' => ∃ y4 y5, σ = [some (.ref a), some (.ref L), some (.int p.1), some (.int p.2), y4, y5] ∧ Acc H L ((tilesTo ps i ++ tileRow ps p (ps.take j)).map rowD) H')
        ⟨_, _, rfl, by
          rw [List.take_zero, show tileRow ps p [] = [] from rfl, List.append_nil]
          exact ac⟩ (fun j σ H' hj hP => by obtain ⟨_, _, _, ac⟩ := hP; exact (hfr.same ac.1).seq) (fun j x σ H' hx hP => ?_) (fun σ H' hP => ?_)⟩
      · obtain ⟨z4, z5, rfl, ac2⟩ := hP
        obtain ⟨t2, q, rfl, hqj, ht2⟩ := pr_items hps hx
        have lj := (List.getElem?_eq_some_iff.mp hqj).1
        have no : tileB ps p q = false → ∀ {H9 : Hp}, Same H' H9 → Acc H L ((tilesTo ps i ++ tileRow ps p (ps.take (j + 1))).map rowD) H9 := fun c _ s9 => by
          rw [tileRow_no hqj c]
          exact ac2.mv s9
        refine ⟨t2, _, rfl, SqT.of (ac2.1 _ _ ht2), rfl, _, _, rfl, _, _, rfl, rfl, ?_⟩
        refine ⟨_, rfl, _, rfl, _, _, rfl, rfl, _, rfl, ?_⟩
        by_cases c1 : p.1 < q.1
        case neg =>
          rw [decide_eq_false c1]
          exact iteF (iteF ⟨_, _, rfl, no (by unfold tileB; rw [decide_eq_false c1]; rfl) fun _ _ z => z⟩)
        rw [decide_eq_true c1]
        refine iteT ⟨_, rfl, _, rfl, _, _, rfl, rfl, _, rfl, ?_⟩
        by_cases c2 : p.2 < q.2
        case neg =>
          rw [decide_eq_false c2]
          exact iteF (iteF ⟨_, _, rfl, no (by unfold tileB; rw [decide_eq_false c2, Bool.false_and, Bool.and_false]) fun _ _ z => z⟩)
        rw [decide_eq_true c2]
        refine iteT ⟨_, rfl, a, dx, _, rfl, rdp ac2.1, rfl, _, rfl, _, rfl, (by show 2 ≤ sizeLine; decide), fun u1 n1 => ?_⟩
        have s1 : Same H' (upd H' u1 (.tup [.int p.1, .int q.2])) := same_new n1
        have k1 : Dq (upd H' u1 (.tup [.int p.1, .int q.2])) (.ref u1) (prD (p.1, q.2)) := .tup upd_same (.cons (.int _) (.cons (.int _) .nil))
        generalize upd H' u1 (.tup [.int p.1, .int q.2]) = H5 at s1 k1
        refine ⟨a, .ref u1, prD (p.1, q.2), P', W, ps, rfl, hp.same (ac2.1.trans s1), k1, fun H6 s6 => ⟨_, rfl, ?_⟩⟩
        rw [isOpen_prD hp.ins]
        have s16 := s1.trans s6
        by_cases c3 : (p.1, q.2) ∈ ps
        case neg =>
          rw [decide_eq_false c3]
          exact iteF (iteF ⟨_, _, rfl, no (by unfold tileB; rw [decide_eq_false c3, Bool.false_and, Bool.and_false, Bool.and_false]) s16⟩)
        rw [decide_eq_true c3]
        refine iteT ⟨_, rfl, a, dx, _, rfl, rdp (ac2.1.trans s16), rfl, _, rfl, _, rfl, (by show 2 ≤ sizeLine; decide), fun u2 n2 => ?_⟩
        have s2 : Same H6 (upd H6 u2 (.tup [.int q.1, .int p.2])) := same_new n2
        have k2 : Dq (upd H6 u2 (.tup [.int q.1, .int p.2])) (.ref u2) (prD (q.1, p.2)) := .tup upd_same (.cons (.int _) (.cons (.int _) .nil))
        generalize upd H6 u2 (.tup [.int q.1, .int p.2]) = H7 at s2 k2
        refine ⟨a, .ref u2, prD (q.1, p.2), P', W, ps, rfl, hp.same (ac2.1.trans (s16.trans s2)), k2, fun H8 s8 => ⟨_, rfl, ?_⟩⟩
        rw [isOpen_prD hp.ins]
        have s18 := (s16.trans s2).trans s8
        by_cases c4 : (q.1, p.2) ∈ ps
        case neg =>
          rw [decide_eq_false c4]
          exact iteF ⟨_, _, rfl, no (by unfold tileB; rw [decide_eq_false c4, Bool.and_false, Bool.and_false, Bool.and_false]) s18⟩
        rw [decide_eq_true c4]
        have yes : tileB ps p q = true := by
          unfold tileB
          rw [decide_eq_true c1, decide_eq_true c2, decide_eq_true c3, decide_eq_true c4]
          rfl
        have ac8 := ac2.mv s18
        obtain ⟨ys0, eL0, _⟩ := id ac8.2
        refine iteT ⟨_, rfl, .inl ⟨rfl, _, SqL.of eL0⟩, _, rfl, _, rfl, _, rfl, _, rfl, (by show 4 ≤ sizeLine; decide), fun u nu => ?_⟩
        have nul : u ≠ L := (ne_of_none eL0 nu).symm
        obtain ⟨acc, g1, g2, g3⟩ := ac8.put nL (by
            rw [List.length_map, List.length_append]
            have h1 := tilesTo_len (ps := ps) i (by omega)
            have h2 := tileRow_len ps p (ps.take j)
            rw [List.length_take] at h2
            have h3 : i * ps.length ≤ 24 * 25 := Nat.mul_le_mul (by omega) (by omega)
            omega) (same_new nu) (y := .ref u) (d := rowD [p.1, p.2, q.1, q.2]) (.tup (off_at nul upd_same) (.cons (.int _) (.cons (.int _) (.cons (.int _) (.cons (.int _) .nil)))))
        refine ⟨L, acc, _, rfl, rfl, g1, g2, _, _, rfl, ?_⟩
        rw [tileRow_yes hqj yes, ← List.append_assoc, List.map_append]
        exact g3
      · obtain ⟨z4, z5, rfl, ac2⟩ := hP
        rw [lps, List.take_length, ← tilesTo_succ hpi] at ac2
        exact ⟨_, _, _, _, rfl, ac2⟩
    · obtain ⟨y2, y3, y4, y5, rfl, ac⟩ := hP
      rw [lps, tilesTo_all] at ac
      exact ⟨_, rfl, .ref L, _, _, rfl, ac.dq, rfl, fun l H9 s9 k9 => hQ l H9 (ac.1.trans s9) k9⟩
end
end K02
set_option Elab.async false
set_option linter.all false
set_option maxRecDepth 100000
set_option maxHeartbeats 4000000
set_option exponentiation.threshold 5000
set_option pp.maxSteps 600
namespace K02
open PySem PySem.Spec PyProof.Rows L2 TkS
section
variable {P : Program} {w : World} {K : PySem.W.Frag} {mg : Str → Option Value} {base : Heap}
theorem ok_law_ring_tour (T : Txt K mg) : FnOk P w K mg base CX0 1 T.f_law_ring_tour T.d_law_ring_tour ["_law_pairs", "_law_corners"] sp_law_ring_tour := by
  refine T.F_law_ring_tour.ok sc_law_ring_tour (fun vs H Q E h => ?_) (fun cdv A outer s H vs Q E hr h => ?_)
  · obtain ⟨l, x, d, ps, cs, rfl, _⟩ := h
    rfl
  · obtain ⟨l, x, d, ps, cs, rfl, kl, nd, l25, kx, it, g, l60, hQ⟩ := h
    refine ⟨_, (pss_cons (ps_set (i := 2) sc_law_ring_tour.nd rfl (.inl rfl) (pe_op op_rep (pe_lst (pa_cons pe_int pa_nil)) (pe_callB call_len_seq (by rfl) T.m_len (by decide +kernel) (pa_cons (pv 0) pa_nil))))
      (pss_cons (ps_set (i := 3) sc_law_ring_tour.nd rfl (.inl rfl) (pe_callB call_len_seq (by rfl) T.m_len (by decide +kernel) (pa_cons (pv 1) pa_nil)))
      (pss_cons (ps_for PassesOwn.never rfl (pi_range1 (by rfl) T.m_range (pa_cons (pv 3) pa_nil)) (pg_name (i := 4) sc_law_ring_tour.nd rfl (.inl rfl))
        (pss_one (ps_if (pt_cmpR op_eq (pe_op op_mod (pe_callTy call_int1 (by rfl) T.m_int (by decide +kernel) (pa_cons (pv 4) pa_nil)) pe_int) pe_int (nomark _))
          (pss_cons (ps_set (i := 5) sc_law_ring_tour.nd rfl (.inl rfl) (pe_bm PySem.F.plainAttrs_list PySem.F.slot_list_index PySem.F.type_list_index (mt_indexD (hu65 hr)) (pv 0) (pa_cons (pe_tup (pa_cons (pe_ix ix_seq (pv 1) (pv 4) (fun _ _ => rfl)) (pa_cons (pe_ix ix_seq (pv 1) (pe_op op_mod (pe_callTy call_int1 (by rfl) T.m_int (by decide +kernel) (pa_cons (pe_op op_add (pv 4) pe_int) pa_nil)) (pv 3)) (fun _ _ => rfl)) pa_nil))) pa_nil)))
          (pss_one (ps_asg (pe_op op_add (pe_ix ix_list (pv 2) (pv 5) (fun _ _ => rfl)) pe_int) (pg_sub (pv 2) (pv 5) set_list))))
          (pss_cons (ps_set (i := 5) sc_law_ring_tour.nd rfl (.inl rfl) (pe_bm PySem.F.plainAttrs_list PySem.F.slot_list_index PySem.F.type_list_index (mt_indexD (hu65 hr)) (pv 0) (pa_cons (pe_tup (pa_cons (pe_ix ix_seq (pv 1) (pe_op op_mod (pe_callTy call_int1 (by rfl) T.m_int (by decide +kernel) (pa_cons (pe_op op_add (pv 4) pe_int) pa_nil)) (pv 3)) (fun _ _ => rfl)) (pa_cons (pe_ix ix_seq (pv 1) (pv 4) (fun _ _ => rfl)) pa_nil))) pa_nil)))
          (pss_one (ps_asg (pe_op op_sub (pe_ix ix_list (pv 2) (pv 5) (fun _ _ => rfl)) pe_int) (pg_sub (pv 2) (pv 5) set_list)))))))
      (pss_one (ps_ret (pe_callTy call_tuple_of (by rfl) T.m_tuple (by decide +kernel) (pa_cons (pv 2) pa_nil))))))), ?_⟩
    obtain ⟨p, xs, rfl, hxs, hsq⟩ := sq_of (K := K) kx it
    rw [intl_dq hxs] at hsq
    clear hxs
    obtain ⟨ls, hl, kls⟩ : ∃ ls, H l = some (.lst ls) ∧ DqAll H ls (ps.map prD) := by
      cases kl with
      | lst e t => exact ⟨_, e, t⟩
    have lls : ls.length = ps.length := by rw [kls.len, List.length_map]
    refine ⟨(by show 1 ≤ sizeLine; decide), fun l0 n0 => ?_⟩
    have s0 : Same H (upd H l0 (.lst [.int 0])) := same_new n0
    refine ⟨_, rfl, l, ls, rfl, .inl (SqL.of (s0 _ _ hl)), l0, _, [.int 0], rfl, rfl, upd_same, by omega, by omega, (by show 1 * (ls.length : Int).toNat ≤ sizeLine; exact Nat.le_of_lt (small1000 (by omega))), fun L nL => ?_⟩
    have HL : H L = none := s0.free nL
    have s2 := s0.trans (same_new (o := .lst (List.replicate (ls.length : Int).toNat [V.int 0]).flatten) nL)
    have hL : (upd (upd H l0 (.lst [.int 0])) L (.lst (List.replicate (ls.length : Int).toNat [V.int 0]).flatten)) L = some (.lst ((rtL ps cs 0).map V.int)) := by
      rw [upd_same, List.flatten_replicate_singleton, rtL_zero, List.map_replicate, lls]
      rfl
    generalize upd (upd H l0 (.lst [.int 0])) L (.lst (List.replicate (ls.length : Int).toNat [V.int 0]).flatten) = H2 at s2 hL
    have lc : (cs.map V.int).length = cs.length := List.length_map _
    refine ⟨_, rfl, p, _, rfl, hsq.same s2, _, rfl, (cs.length : Int), by rw [lc], by omega, by omega, for_range (n := (cs.length : Int).toNat) (fun i σ H' => ∃ y4 y5, σ = [some (.ref l), some (.ref p), some (.ref L), some (.int ((cs.map V.int).length : Nat)), y4, y5] ∧ (∀ b o, H b = some o → H' b = some o) ∧ H' L = some (.lst ((rtL ps cs i).map V.int)))
      ⟨_, _, rfl, s2, hL⟩ (fun i σ H' hi hP => ?_) (fun σ H' hP => ?_)⟩
    · obtain ⟨y4, y5, rfl, k, hLi⟩ := hP
      have hi' : i < cs.length := by omega
      have hm : (i + 1) % cs.length < cs.length := Nat.mod_lt _ (by omega)
      have rix : ∀ {G : Hp} {Q' : VK} {k : Nat}, k < cs.length → Same H G → Q' (.int (cs.getD k 0)) G → rIx K (.ref p) (.int (k : Int)) G Q' := fun {G Q' k} hk s q => (hsq.same s).elim (fun z => .inl ⟨p, _, _, _, rfl, rfl, z, at_int hk, q⟩) (fun z => .inr (.inl ⟨p, _, _, _, rfl, rfl, z, at_int hk, q⟩))
      have e0 : cAt cs i = cs.getD i 0 := cAt_lt hi'
      have e1 : (((i : Int) + 1) % (cs.length : Int)) = (((i + 1) % cs.length : Nat) : Int) := (Int.natCast_emod (i + 1) cs.length).symm
      have e1' : (((i : Int) + 1) % (((cs.map V.int).length : Nat) : Int)) = (((i + 1) % cs.length : Nat) : Int) := by rw [lc]; exact e1
      obtain ⟨j, hj, hno⟩ := at_of_mem (g.side i hi')
      have lj := (List.getElem?_eq_some_iff.mp hj).1
      have fin : ∀ {G : Hp} (z : Int), Same H' G → z = sideS i → (∃ y4 y5, [some (V.ref l), some (.ref p), some (.ref L), some (.int ((cs.map V.int).length : Nat)), some (.int ((0 : Int) + (i : Int))), some (.int (j : Int))] = [some (.ref l), some (.ref p), some (.ref L), some (.int ((cs.map V.int).length : Nat)), y4, y5] ∧ (∀ b o, H b = some o → (upd G L (.lst (((rtL ps cs i).map V.int).set j (.int ((rtL ps cs i).getD j 0 + z))))) b = some o) ∧ (upd G L (.lst (((rtL ps cs i).map V.int).set j (.int ((rtL ps cs i).getD j 0 + z))))) L = some (.lst ((rtL ps cs (i + 1)).map V.int))) := fun {G} z s e => by
        subst e
        refine ⟨_, _, rfl, fun b o e => ?_, ?_⟩
        · rw [upd_ne (ne_of_none e HL)]
          exact s _ _ (k _ _ e)
        · rw [upd_same, rtL_step nd hj, List.map_set]
      rw [Int.zero_add] at *
      have kS : Same H H' := k
      have cl : (0 : Int) < ((cs.map V.int).length : Nat) := by rw [lc]; omega
      have ixD : ∀ {G : Hp} {u : Addr} {Q' : VK}, Same H G → Dq G (.ref u) (prD (sideP cs i)) → Q' (.int (j : Int)) G → rIndexD K (.ref l) [.ref u] G Q' := fun {G u Q'} s ku q => by
        refine ⟨l, .ref u, prD (sideP cs i), ps.map prD, j, prD (sideP cs i), rfl, rfl, (kl.same s).dp, ku.dp, shaped_prs_l _, shaped_pr _, by rw [List.getElem?_map, hj]; rfl, by rw [eqv_pr, decide_eq_true rfl], fun m z hm hz => ?_, q⟩
        rw [List.getElem?_map] at hz
        obtain ⟨q', hq', rfl⟩ := Option.map_eq_some_iff.mp hz
        rw [eqv_pr]
        refine decide_eq_false fun z => ?_
        subst z
        exact hno m hm hq'
      refine ⟨_, rfl, .inl ⟨_, rfl, _, _, rfl, rfl, (by show (0 : Int) < 2; decide), rfl, _, rfl, ?_⟩⟩
      rw [int_dec]
      by_cases c : i % 2 = 0
      · have c' : (i : Int) % 2 = 0 := by omega
        rw [decide_eq_true c']
        refine iteT ⟨_, rfl, .inl ⟨rfl, _, SqL.of (kS _ _ hl)⟩, _, rfl, _, rfl, rix hi' kS ⟨_, rfl, _, rfl, _, _, rfl, rfl, .inl ⟨_, rfl, _, rfl, _, _, rfl, rfl, cl, ?_⟩⟩⟩
        show rIx K (.ref p) (.int (((i : Int) + 1) % (((cs.map V.int).length : Nat) : Int))) _ _
        rw [e1']
        refine rix hm kS ⟨(by show 2 ≤ sizeLine; decide), fun u nu => ?_⟩
        have s5 : Same H' (upd H' u (.tup [.int (cs.getD i 0), .int (cs.getD ((i + 1) % cs.length) 0)])) := same_new nu
        dsimp only [tNil]
        refine ixD (kS.trans s5) ?_ ?_
        · refine .tup upd_same ?_
          show DqAll _ _ [.int (sideP cs i).1, .int (sideP cs i).2]
          unfold sideP
          rw [if_pos c, e0]
          exact .cons (.int _) (.cons (.int _) .nil)
        · have hL5 := s5 _ _ hLi
          refine ⟨_, rfl, _, rfl, L, _, (j : Int), _, rfl, rfl, SqL.of hL5, at_int (by rw [rtL_len]; exact lj), _, _, rfl, rfl, _, rfl, _, rfl, L, _, (j : Int), j, rfl, rfl, hL5, ixN_of (by omega) (by rw [List.length_map, rtL_len]; omega), ?_⟩
          exact fin 1 s5 (by unfold sideS; rw [if_pos c])
      · have c' : ¬ (i : Int) % 2 = 0 := by omega
        rw [decide_eq_false c']
        refine iteF ⟨_, rfl, .inl ⟨rfl, _, SqL.of (kS _ _ hl)⟩, _, rfl, _, rfl, _, _, rfl, rfl, .inl ⟨_, rfl, _, rfl, _, _, rfl, rfl, cl, ?_⟩⟩
        show rIx K (.ref p) (.int (((i : Int) + 1) % (((cs.map V.int).length : Nat) : Int))) _ _
        rw [e1']
        refine rix hm kS ⟨_, rfl, _, rfl, rix hi' kS ⟨(by show 2 ≤ sizeLine; decide), fun u nu => ?_⟩⟩
        have s5 : Same H' (upd H' u (.tup [.int (cs.getD ((i + 1) % cs.length) 0), .int (cs.getD i 0)])) := same_new nu
        dsimp only [tNil]
        refine ixD (kS.trans s5) ?_ ?_
        · refine .tup upd_same ?_
          show DqAll _ _ [.int (sideP cs i).1, .int (sideP cs i).2]
          unfold sideP
          rw [if_neg c, e0]
          exact .cons (.int _) (.cons (.int _) .nil)
        · have hL5 := s5 _ _ hLi
          refine ⟨_, rfl, _, rfl, L, _, (j : Int), _, rfl, rfl, SqL.of hL5, at_int (by rw [rtL_len]; exact lj), _, _, rfl, rfl, _, rfl, _, rfl, L, _, (j : Int), j, rfl, rfl, hL5, ixN_of (by omega) (by rw [List.length_map, rtL_len]; omega), ?_⟩
          exact fin (-1) s5 (by unfold sideS; rw [if_neg c])
    · obtain ⟨y4, y5, rfl, k, hLi⟩ := hP
      refine ⟨_, rfl, L, _, rfl, .inl ⟨SqL.of hLi, fun l' nl => ?_⟩⟩
      exact hQ l' _ (Same.trans k (same_new nl)) (tupI upd_same)
end
end K02
set_option Elab.async false
set_option linter.all false
set_option maxRecDepth 100000
set_option maxHeartbeats 4000000
set_option exponentiation.threshold 5000
set_option pp.maxSteps 600
namespace K02
open PySem PySem.Spec PyProof.Rows L2 TkS
/-! the law's rings -/
def sp_law_sixes : Sp := fun vs H Q _ => ∃ (s : Int) (l : Addr) (p q r : Int) (ps : List (Int × Int)), vs = [.int s, .ref l, .int p, .int q, .int r] ∧ 0 ≤ s ∧ s ≤ 4 ∧ Dq H (.ref l) (.list (ps.map prD)) ∧
  ∀ l' H', Same H H' → H l' = none → Dq H' (.ref l') (.list ((sixesL s.toNat ps p q r).map rowD)) → Q (.ref l') H'
theorem in_prs {K : PySem.W.Frag} {σ : L2.St} {H : Hp} {Q : VK} {i j l : Nat} {L : Addr} {ps : List (Int × Int)} {p u : Int} (hi : σ[i]? = some (some (.int p))) (hj : σ[j]? = some (some (.int u))) (hl : σ[l]? = some (some (.ref L))) (kl : Dq H (.ref L) (.list (ps.map prD)))
    (q : ∀ H', Same H H' → Q (.bl (decide ((p, u) ∈ ps))) H') : tOp (rInD K) (tTup (tCons (tVar i) (tCons (tVar j) tNil))) (tVar l) σ H Q := by
  refine ⟨_, hi, _, hj, (by show 2 ≤ sizeLine; decide), fun a na => ⟨_, hl, prD (p, u), ps.map prD, ?_, (kl.same (same_new na)).dp, shaped_pr _, shaped_prs_l _, ?_⟩⟩
  · exact (show Dq _ (.ref a) (prD (p, u)) from .tup upd_same (.cons (.int _) (.cons (.int _) .nil))).dp
  · rw [any_pr]
    exact q _ (same_new na)
theorem beq_sym (a b : Int) : (a == b) = (b == a) := by
  by_cases h : a = b
  · subst h
    rfl
  · rw [beq_eq_false_iff_ne.mpr h, beq_eq_false_iff_ne.mpr fun z => h z.symm]
theorem inV_two (w u v : Int) : (!inV (.int w) [.int u, .int v]) = !(w == u || w == v) := by
  show (!((u == w) || ((v == w) || false))) = _
  rw [Bool.or_false, beq_sym u w, beq_sym v w]
theorem both_map (W : Nat) (ps : List (Int × Int)) (p q : Int) : ((List.range W).filter fun (u : Nat) => decide ((p, (u : Int)) ∈ ps) && decide ((q, (u : Int)) ∈ ps)).map (fun (u : Nat) => PyData.int (u : Int)) = (bothL W ps p q).map PyData.int := by
  unfold bothL
  rw [List.map_map]
  rfl
theorem dq_intsL {H : Hp} {D : Addr} {ns : List Int} (k : Dq H (.ref D) (.list (ns.map PyData.int))) : H D = some (.lst (ns.map V.int)) := by
  cases k with
  | lst e t =>
    rw [intl_dq t] at e
    exact e
theorem both_len (W : Nat) (ps : List (Int × Int)) (p q : Int) : (bothL W ps p q).length ≤ W := by
  unfold bothL
  rw [List.length_map]
  exact Nat.le_trans (List.length_filter_le _ _) (by rw [List.length_range]; exact Nat.le_refl _)
theorem flatMap_len {α β : Type} (f : α → List β) (n : Nat) : ∀ l : List α, (∀ x ∈ l, (f x).length ≤ n) → (l.flatMap f).length ≤ l.length * n
  | [], _ => by simp
  | x :: l, h => by
    rw [List.flatMap_cons, List.length_append, List.length_cons, Nat.succ_mul, Nat.add_comm]
    exact Nat.add_le_add (flatMap_len f n l fun y hy => h y (List.mem_cons_of_mem _ hy)) (h x List.mem_cons_self)
theorem sixRow_len (W : Nat) (ps : List (Int × Int)) (p q r u v : Int) : (sixRow W ps p q r u v).length ≤ W := by
  unfold sixRow
  by_cases c : v = u
  · rw [if_pos c]
    exact Nat.zero_le _
  · rw [if_neg c, List.length_map]
    exact Nat.le_trans (List.length_filter_le _ _) (both_len _ _ _ _)
def sixU (W : Nat) (ps : List (Int × Int)) (p q r : Int) (us : List Int) : List (List Int) := us.flatMap fun u => (bothL W ps q r).flatMap fun v => sixRow W ps p q r u v
def sixV (W : Nat) (ps : List (Int × Int)) (p q r u : Int) (vs : List Int) : List (List Int) := vs.flatMap fun v => sixRow W ps p q r u v
theorem sixV_len {W : Nat} {ps : List (Int × Int)} {p q r u : Int} {vs : List Int} (w4 : W ≤ 4) (h : vs.length ≤ W) : (sixV W ps p q r u vs).length ≤ 16 := by
  have h1 := flatMap_len (fun v => sixRow W ps p q r u v) W vs fun v _ => sixRow_len _ _ _ _ _ _ _
  have h2 : vs.length * W ≤ 4 * 4 := Nat.mul_le_mul (by omega) (by omega)
  exact Nat.le_trans h1 (by omega)
theorem sixU_len {W : Nat} {ps : List (Int × Int)} {p q r : Int} {us : List Int} (w4 : W ≤ 4) (h : us.length ≤ W) : (sixU W ps p q r us).length ≤ 64 := by
  have h1 := flatMap_len (fun u => (bothL W ps q r).flatMap fun v => sixRow W ps p q r u v) 16 us fun u _ => sixV_len w4 (both_len _ _ _ _)
  exact Nat.le_trans h1 (by omega)
theorem both_tt {K : PySem.W.Frag} {σ : L2.St} {H : Hp} {Q : Bool → Hp → Prop} {i i' j l : Nat} {L : Addr} {ps : List (Int × Int)} {p q u : Int} (hi : σ[i]? = some (some (.int p))) (hi' : σ[i']? = some (some (.int q))) (hj : σ[j]? = some (some (.int u))) (hl : σ[l]? = some (some (.ref L))) (kl : Dq H (.ref L) (.list (ps.map prD)))
    (h : ∀ H', Same H H' → Q (decide ((p, u) ∈ ps) && decide ((q, u) ∈ ps)) H') : tAnd (tTest (tOp (rInD K) (tTup (tCons (tVar i) (tCons (tVar j) tNil))) (tVar l))) (tTest (tOp (rInD K) (tTup (tCons (tVar i') (tCons (tVar j) tNil))) (tVar l))) σ H Q := by
  refine in_prs hi hj hl kl fun H1 s1 => ⟨_, rfl, ?_⟩
  by_cases c : (p, u) ∈ ps
  · rw [decide_eq_true c] at h ⊢
    refine iteT (in_prs hi' hj hl (kl.same s1) fun H2 s2 => ⟨_, rfl, ?_⟩)
    have := h H2 (s1.trans s2)
    rw [Bool.true_and] at this
    exact this
  · rw [decide_eq_false c] at h ⊢
    refine iteF ?_
    have := h H1 s1
    rw [Bool.false_and] at this
    exact this
theorem six_map {W : Nat} {ps : List (Int × Int)} {p q r u v : Int} (c : ¬ v = u) : ((((bothL W ps r p).map PyData.int).filter fun d => !(intD d == u || intD d == v)).map fun d => PyData.tuple [.int p, .int u, .int q, .int v, .int r, d]) = (sixRow W ps p q r u v).map rowD := by
  unfold sixRow
  rw [if_neg c, List.filter_map, List.map_map, List.map_map]
  rfl
theorem take_flat {α β : Type} {l : List α} {i : Nat} {x : α} (f : α → List β) (h : l[i]? = some x) : (l.take (i + 1)).flatMap f = (l.take i).flatMap f ++ f x := by
  rw [List.take_add_one, h, List.flatMap_append]
  simp
section
variable {P : Program} {w : World} {K : PySem.W.Frag} {mg : Str → Option Value} {base : Heap}
theorem ok_law_sixes (T : Txt K mg) : FnOk P w K mg base CX0 1 T.f_law_sixes T.d_law_sixes ["_law_shuts", "_law_pairs", "_law_p", "_law_q", "_law_r"] sp_law_sixes := by
  refine T.F_law_sixes.ok sc_law_sixes (fun vs H Q E h => ?_) (fun cdv A outer s H vs Q E hr h => ?_)
  · obtain ⟨s, l, p, q, r, ps, rfl, _⟩ := h
    rfl
  · obtain ⟨s', l, p, q, r, ps, rfl, s0, s1, kl, hQ⟩ := h
    refine ⟨_, (pss_cons (ps_setLc (i := 6) rfl sc_law_sixes.nd rfl rfl (sw_true rfl rfl rfl (by decide +kernel)) (pi_range1 (by rfl) T.m_range (pa_cons (pv 0) pa_nil)) (blkOk_by (own := [("_law_u", 5)]) (N := ["_law_shuts", "_law_pairs", "_law_p", "_law_q", "_law_r", "_law_u", "_law_one", "_law_v", "_law_two", "_law_three", "_law_told", "_law_w"]) (sc := defScope s_law_sixes) (by decide +kernel)) (fun _ _ _ _ _ => (pg_name (i := 5) sc_law_sixes.nd rfl (.inl rfl))) (fun _ _ _ _ _ => (pts_one (PW.pt (pw_and (pt_cmpR (show OpR _ (compareOp .In) (rInD K) from op_inD (hu65 hr)) (pe_tup (pa_cons (pv 2) (pa_cons (pv 5) pa_nil))) (pv 1) rfl) (pw_and1 (pt_cmpR (show OpR _ (compareOp .In) (rInD K) from op_inD (hu65 hr)) (pe_tup (pa_cons (pv 3) (pa_cons (pv 5) pa_nil))) (pv 1) rfl)))))) (fun _ _ _ _ _ => (pv 5)))
      (pss_cons (ps_setLc (i := 8) rfl sc_law_sixes.nd rfl rfl (sw_true rfl rfl rfl (by decide +kernel)) (pi_range1 (by rfl) T.m_range (pa_cons (pv 0) pa_nil)) (blkOk_by (own := [("_law_v", 7)]) (N := ["_law_shuts", "_law_pairs", "_law_p", "_law_q", "_law_r", "_law_u", "_law_one", "_law_v", "_law_two", "_law_three", "_law_told", "_law_w"]) (sc := defScope s_law_sixes) (by decide +kernel)) (fun _ _ _ _ _ => (pg_name (i := 7) sc_law_sixes.nd rfl (.inl rfl))) (fun _ _ _ _ _ => (pts_one (PW.pt (pw_and (pt_cmpR (show OpR _ (compareOp .In) (rInD K) from op_inD (hu65 hr)) (pe_tup (pa_cons (pv 3) (pa_cons (pv 7) pa_nil))) (pv 1) rfl) (pw_and1 (pt_cmpR (show OpR _ (compareOp .In) (rInD K) from op_inD (hu65 hr)) (pe_tup (pa_cons (pv 4) (pa_cons (pv 7) pa_nil))) (pv 1) rfl)))))) (fun _ _ _ _ _ => (pv 7)))
      (pss_cons (ps_setLc (i := 9) rfl sc_law_sixes.nd rfl rfl (sw_true rfl rfl rfl (by decide +kernel)) (pi_range1 (by rfl) T.m_range (pa_cons (pv 0) pa_nil)) (blkOk_by (own := [("_law_w", 11)]) (N := ["_law_shuts", "_law_pairs", "_law_p", "_law_q", "_law_r", "_law_u", "_law_one", "_law_v", "_law_two", "_law_three", "_law_told", "_law_w"]) (sc := defScope s_law_sixes) (by decide +kernel)) (fun _ _ _ _ _ => (pg_name (i := 11) sc_law_sixes.nd rfl (.inl rfl))) (fun _ _ _ _ _ => (pts_one (PW.pt (pw_and (pt_cmpR (show OpR _ (compareOp .In) (rInD K) from op_inD (hu65 hr)) (pe_tup (pa_cons (pv 4) (pa_cons (pv 11) pa_nil))) (pv 1) rfl) (pw_and1 (pt_cmpR (show OpR _ (compareOp .In) (rInD K) from op_inD (hu65 hr)) (pe_tup (pa_cons (pv 2) (pa_cons (pv 11) pa_nil))) (pv 1) rfl)))))) (fun _ _ _ _ _ => (pv 11)))
      (pss_cons (ps_set (i := 10) sc_law_sixes.nd rfl (.inl rfl) (pe_lst pa_nil))
      (pss_cons (ps_for PassesOwn.never rfl (pi_list (pv 6)) (pg_name (i := 5) sc_law_sixes.nd rfl (.inr rfl))
        (pss_one (ps_for PassesOwn.never rfl (pi_list (pv 8)) (pg_name (i := 7) sc_law_sixes.nd rfl (.inr rfl))
          (pss_one (ps_if (pt_cmpR op_ne (pv 7) (pv 5) (nomark _))
            (pss_one (ps_set (i := 10) sc_law_sixes.nd rfl (.inl rfl) (pe_op op_catDL (pv 10) (pe_lc rfl sc_law_sixes.nd (pi_list (pv 9)) (blkOk_by (own := [("_law_w", 11)]) (N := ["_law_shuts", "_law_pairs", "_law_p", "_law_q", "_law_r", "_law_u", "_law_one", "_law_v", "_law_two", "_law_three", "_law_told", "_law_w"]) (sc := defScope s_law_sixes) (by decide +kernel)) (fun _ _ _ _ _ => (pg_name (i := 11) sc_law_sixes.nd rfl (.inl rfl))) (fun _ _ _ _ _ => (pts_one (pt_cmpR (show OpR _ (compareOp .NotIn) (rIn K true) from op_notIn_seq) (pv 11) (pe_tup (pa_cons (pv 5) (pa_cons (pv 7) pa_nil))) rfl))) (fun _ _ _ _ _ => (pe_tup (pa_cons (pv 2) (pa_cons (pv 5) (pa_cons (pv 3) (pa_cons (pv 7) (pa_cons (pv 4) (pa_cons (pv 11) pa_nil))))))))))))
            pss_nil)))))
      (pss_one (ps_ret (pv 10)))))))), ?_⟩
    refine ⟨_, rfl, s', rfl, by omega, by omega, fun D1 nD1 => ?_⟩
    refine lc_rngD (fun (u : Nat) => decide ((p, (u : Int)) ∈ ps) && decide ((q, (u : Int)) ∈ ps)) (fun (u : Nat) => .int (u : Int)) nD1 (by omega) (fun _ => rfl) (fun j H2 Q2 hj s2 q2 => ?_) (fun j H2 Q2 hj _ s2 hD q2 => ?_) (fun H2 s2 k1 => ?_)
    · rw [Int.zero_add]
      exact both_tt rfl rfl rfl rfl (kl.same s2) q2
    · rw [Int.zero_add]
      exact ⟨_, rfl, q2 _ _ (fun _ _ z => z) (.int _)⟩
    rw [both_map] at k1
    have h1 := dq_intsL k1
    refine ⟨_, rfl, s', rfl, by omega, by omega, fun D2 nD2 => ?_⟩
    refine lc_rngD (fun (u : Nat) => decide ((q, (u : Int)) ∈ ps) && decide ((r, (u : Int)) ∈ ps)) (fun (u : Nat) => .int (u : Int)) nD2 (by omega) (fun _ => rfl) (fun j H3 Q2 hj s3 q2 => ?_) (fun j H3 Q2 hj _ s3 hD q2 => ?_) (fun H3 s3 k2 => ?_)
    · rw [Int.zero_add]
      exact both_tt rfl rfl rfl rfl (kl.same (s2.trans s3)) q2
    · rw [Int.zero_add]
      exact ⟨_, rfl, q2 _ _ (fun _ _ z => z) (.int _)⟩
    rw [both_map] at k2
    have h2 := dq_intsL k2
    refine ⟨_, rfl, s', rfl, by omega, by omega, fun D3 nD3 => ?_⟩
    refine lc_rngD (fun (u : Nat) => decide ((r, (u : Int)) ∈ ps) && decide ((p, (u : Int)) ∈ ps)) (fun (u : Nat) => .int (u : Int)) nD3 (by omega) (fun _ => rfl) (fun j H4 Q2 hj s4 q2 => ?_) (fun j H4 Q2 hj _ s4 hD q2 => ?_) (fun H4 s4 k3 => ?_)
    · rw [Int.zero_add]
      exact both_tt rfl rfl rfl rfl (kl.same ((s2.trans s3).trans s4)) q2
    · rw [Int.zero_add]
      exact ⟨_, rfl, q2 _ _ (fun _ _ z => z) (.int _)⟩
    rw [both_map] at k3
    have s24 := (s2.trans s3).trans s4
    have w4 : s'.toNat ≤ 4 := by omega
    have h14 := (s3.trans s4) _ _ h1
    have h24 := s4 _ _ h2
    have l1 := both_len s'.toNat ps p q
    have l2 := both_len s'.toNat ps q r
    have l3 := both_len s'.toNat ps r p
    refine ⟨Nat.zero_le _, fun t0 n0 => ?_⟩
    have s5 : Same H (upd H4 t0 (.lst [])) := s24.trans (same_new n0)
    have nt0 : H t0 = none := s24.free n0
    have kt0 : Dq (upd H4 t0 (.lst [])) (.ref t0) (.list []) := .lst upd_same .nil
    have s45 : Same H4 (upd H4 t0 (.lst [])) := same_new n0
    generalize upd H4 t0 (.lst []) = H5 at s5 kt0 s45
    refine ⟨_, rfl, D1, rfl, ⟨_, SqL.of (s45 _ _ h14)⟩, for_list (xs := (bothL s'.toNat ps p q).map V.int) (fun i σ H' => ∃ (t : Addr) (y5 y7 : Option V), σ = [some (.int s'), some (.ref l), some (.int p), some (.int q), some (.int r), y5, some (.ref D1), y7, some (.ref D2), some (.ref D3), some (.ref t), none] ∧ Same H4 H' ∧ H t = none ∧ Dq H' (.ref t) (.list ((sixU s'.toNat ps p q r ((bothL s'.toNat ps p q).take i)).map rowD)))
      ⟨t0, _, _, rfl, s45, nt0, kt0⟩ (fun i σ H' hi hP => by obtain ⟨_, _, _, _, sm, _⟩ := hP; exact SqL.of (sm _ _ h14)) (fun i x σ H' hx hP => ?_) (fun σ H' hP => ?_)⟩
    · obtain ⟨t, y5, y7, rfl, sm, nt, kt⟩ := hP
      obtain ⟨u, hu, rfl⟩ := map_at hx
      refine ⟨_, rfl, D2, rfl, ⟨_, SqL.of (sm _ _ h24)⟩, for_list (xs := (bothL s'.toNat ps q r).map V.int) (fun j σ H' => ∃ (t : Addr) (y7 : Option V), σ = [some (.int s'), some (.ref l), some (.int p), some (.int q), some (.int r), some (.int u), some (.ref D1), y7, some (.ref D2), some (.ref D3), some (.ref t), none] ∧ Same H4 H' ∧ H t = none ∧ Dq H' (.ref t) (.list ((sixU s'.toNat ps p q r ((bothL s'.toNat ps p q).take i) ++ sixV s'.toNat ps p q r u ((bothL s'.toNat ps q r).take j)).map rowD)))
        ⟨t, _, rfl, sm, nt, by
          rw [List.take_zero, show sixV s'.toNat ps p q r u [] = [] from rfl, List.append_nil]
          exact kt⟩ (fun i σ H' hi hP => by obtain ⟨_, _, _, sm, _⟩ := hP; exact SqL.of (sm _ _ h24)) (fun j x σ H' hx hP => ?_) (fun σ H' hP => ?_)⟩
      · obtain ⟨t, y7, rfl, sm, nt, kt⟩ := hP
        obtain ⟨v, hv, rfl⟩ := map_at hx
        have step : sixV s'.toNat ps p q r u ((bothL s'.toNat ps q r).take (j + 1)) = sixV s'.toNat ps p q r u ((bothL s'.toNat ps q r).take j) ++ sixRow s'.toNat ps p q r u v := take_flat _ hv
        refine ⟨_, rfl, _, rfl, rfl, _, rfl, ?_⟩
        by_cases c : v = u
        · subst c
          rw [decide_eq_true rfl]
          refine iteF ⟨t, _, rfl, sm, nt, ?_⟩
          rw [step, show sixRow s'.toNat ps p q r v v = [] from if_pos rfl, List.append_nil]
          exact kt
        rw [decide_eq_false (fun z => c (V.int.inj z))]
        obtain ⟨xs3, e3, d3⟩ : ∃ xs, H' D3 = some (.lst xs) ∧ DqAll H' xs ((bothL s'.toNat ps r p).map PyData.int) := by
          have := k3.same sm
          cases this with
          | lst e t => exact ⟨_, e, t⟩
        refine iteT ⟨_, rfl, _, rfl, D3, rfl, ⟨_, SqL.of e3⟩, fun D nD => ?_⟩
        refine lc_listD (ds := (bothL s'.toNat ps r p).map PyData.int) (fun d => !(intD d == u || intD d == v)) (fun d => .tuple [.int p, .int u, .int q, .int v, .int r, d]) (SqL.of e3) d3 nD (by rw [List.length_map]; omega) (fun _ => rfl) (fun k x d H6 Q2 hd s6 kd q2 => ?_) (fun k x d H6 Q2 hd _ s6 kd hD q2 => ?_) (fun H6 s6 kD => ?_)
        · rw [List.getElem?_map] at hd
          obtain ⟨ww, _, rfl⟩ := Option.map_eq_some_iff.mp hd
          cases kd
          refine ⟨_, rfl, _, rfl, _, rfl, (by show 2 ≤ sizeLine; decide), fun a na => ⟨a, [.int u, .int v], rfl, .inr (SqT.of upd_same), rfl, rfl, _, rfl, ?_⟩⟩
          rw [if_pos rfl, inV_two]
          exact q2 _ (same_new na)
        · rw [List.getElem?_map] at hd
          obtain ⟨ww, _, rfl⟩ := Option.map_eq_some_iff.mp hd
          cases kd
          obtain ⟨acc, hD⟩ := hD
          refine ⟨_, rfl, _, rfl, _, rfl, _, rfl, _, rfl, _, rfl, (by show 6 ≤ sizeLine; decide), fun a na => q2 _ _ (same_new na) ?_⟩
          exact .tup (off_at (ne_of_none hD na).symm upd_same) (.cons (.int _) (.cons (.int _) (.cons (.int _) (.cons (.int _) (.cons (.int _) (.cons (.int _) .nil))))))
        · rw [six_map c] at kD
          refine ⟨_, _, kt.same s6, kD, ?_, fun l9 H9 s9 n9 k9 => ⟨l9, _, rfl, (sm.trans s6).trans s9, s24.free ((sm.trans s6).free n9), ?_⟩⟩
          · rw [List.length_map, List.length_map, List.length_append]
            have a1 := sixU_len (W := s'.toNat) (ps := ps) (p := p) (q := q) (r := r) w4 (us := (bothL s'.toNat ps p q).take i) (by rw [List.length_take]; omega)
            have a2 := sixV_len (W := s'.toNat) (ps := ps) (p := p) (q := q) (r := r) (u := u) w4 (vs := (bothL s'.toNat ps q r).take j) (by rw [List.length_take]; omega)
            have a3 := sixRow_len s'.toNat ps p q r u v
            omega
          · rw [step, ← List.append_assoc, List.map_append]
            exact k9
      · obtain ⟨t, y7, rfl, sm, nt, kt⟩ := hP
        refine ⟨t, _, _, rfl, sm, nt, ?_⟩
        rw [List.length_map, List.take_length] at kt
        have e : sixU s'.toNat ps p q r ((bothL s'.toNat ps p q).take (i + 1)) = sixU s'.toNat ps p q r ((bothL s'.toNat ps p q).take i) ++ sixV s'.toNat ps p q r u (bothL s'.toNat ps q r) := take_flat _ hu
        rw [e]
        exact kt
    · obtain ⟨t, y5, y7, rfl, sm, nt, kt⟩ := hP
      rw [List.length_map, List.take_length] at kt
      exact ⟨_, rfl, hQ t H' (s24.trans sm) nt kt⟩
end
end K02
set_option Elab.async false
set_option linter.all false
set_option maxRecDepth 100000
set_option maxHeartbeats 4000000
set_option exponentiation.threshold 5000
set_option pp.maxSteps 600
namespace K02
open PySem PySem.Spec PyProof.Rows L2 TkS
def sp_law_rings : Sp := fun vs H Q _ => ∃ (P W : Int) (l : Addr) (ps : List (Int × Int)), vs = [.int P, .int W, .ref l] ∧ 2 ≤ P ∧ P ≤ 4 ∧ 2 ≤ W ∧ W ≤ 4 ∧ Dq H (.ref l) (.list (ps.map prD)) ∧
  ∀ l' H', Same H H' → H l' = none → Dq H' (.ref l') (.list ((ringsL P.toNat W.toNat ps).map rowD)) → Q (.ref l') H'
def rowsP (P W : Nat) (ps : List (Int × Int)) (p : Nat) : List (List Int) := (List.range (P - (p + 1))).flatMap fun k => rRow P W ps p (p + 1 + k)
def ringsTo (P W : Nat) (ps : List (Int × Int)) (i : Nat) : List (List Int) := (List.range i).flatMap (rowsP P W ps)
def rowsTo (P W : Nat) (ps : List (Int × Int)) (p k : Nat) : List (List Int) := (List.range k).flatMap fun k => rRow P W ps p (p + 1 + k)
def fourU (W : Nat) (ps : List (Int × Int)) (p q : Int) (us : List Int) : List (List Int) := us.flatMap fun u => ((bothL W ps p q).filter fun v => decide (u < v)).map fun v => [p, u, q, v]
def sixTo (W : Nat) (ps : List (Int × Int)) (p q m : Nat) : List (List Int) := (List.range m).flatMap fun k => if p + 1 + k = q then [] else sixesL W ps p q (p + 1 + k : Nat)
theorem rng_flat {β : Type} (f : Nat → List β) (n : Nat) : (List.range (n + 1)).flatMap f = (List.range n).flatMap f ++ f n := by
  rw [List.range_succ, List.flatMap_append]
  simp
theorem fourU_len {W : Nat} {ps : List (Int × Int)} {p q : Int} {us : List Int} (w4 : W ≤ 4) (h : us.length ≤ W) : (fourU W ps p q us).length ≤ 16 := by
  have h1 := flatMap_len (fun u => ((bothL W ps p q).filter fun v => decide (u < v)).map fun v => [p, u, q, v]) 4 us fun u _ => by
    rw [List.length_map]
    exact Nat.le_trans (List.length_filter_le _ _) (Nat.le_trans (both_len _ _ _ _) w4)
  exact Nat.le_trans h1 (by omega)
theorem sixes_len {W : Nat} {ps : List (Int × Int)} {p q r : Int} (w4 : W ≤ 4) : (sixesL W ps p q r).length ≤ 64 := sixU_len w4 (both_len _ _ _ _)
theorem sixTo_len {W : Nat} {ps : List (Int × Int)} {p q m : Nat} (w4 : W ≤ 4) : (sixTo W ps p q m).length ≤ m * 64 := by
  have h1 := flatMap_len (fun k => if p + 1 + k = q then [] else sixesL W ps p q (p + 1 + k : Nat)) 64 (List.range m) fun k _ => by
    by_cases c : p + 1 + k = q
    · rw [if_pos c]
      exact Nat.zero_le _
    · rw [if_neg c]
      exact sixes_len w4
  rw [List.length_range] at h1
  exact h1
theorem rRow_len {P W : Nat} {ps : List (Int × Int)} {p q : Nat} (w4 : W ≤ 4) : (rRow P W ps p q).length ≤ 16 + (P - (p + 1)) * 64 := by
  have h1 := fourU_len (W := W) (ps := ps) (p := p) (q := q) (us := bothL W ps p q) w4 (both_len _ _ _ _)
  have h2 := sixTo_len (W := W) (ps := ps) (p := p) (q := q) (m := P - (p + 1)) w4
  unfold rRow
  rw [List.length_append]
  exact Nat.add_le_add h1 h2
theorem rowsTo_len {P W : Nat} {ps : List (Int × Int)} {p k : Nat} (w4 : W ≤ 4) : (rowsTo P W ps p k).length ≤ k * (16 + (P - (p + 1)) * 64) := by
  have h1 := flatMap_len (fun k => rRow P W ps p (p + 1 + k)) (16 + (P - (p + 1)) * 64) (List.range k) fun k _ => rRow_len w4
  rw [List.length_range] at h1
  exact h1
def T9 (i : Nat) : Nat := if i = 0 then 0 else if i = 1 then 624 else if i = 2 then 912 else 992
theorem rowsP_len {P W : Nat} {ps : List (Int × Int)} {p : Nat} (w4 : W ≤ 4) : (rowsP P W ps p).length ≤ (P - (p + 1)) * (16 + (P - (p + 1)) * 64) := rowsTo_len (P := P) (k := P - (p + 1)) w4
theorem ringsTo_len {P W : Nat} {ps : List (Int × Int)} (p4 : P ≤ 4) (w4 : W ≤ 4) : ∀ i, i ≤ P → (ringsTo P W ps i).length ≤ T9 i
  | 0, _ => Nat.zero_le _
  | i + 1, h => by
    have ih := ringsTo_len (ps := ps) p4 w4 i (by omega)
    have r := rowsP_len (P := P) (ps := ps) (p := i) w4
    unfold ringsTo at ih ⊢
    rw [rng_flat, List.length_append]
    obtain ⟨d, hd⟩ : ∃ d, P - (i + 1) = d := ⟨_, rfl⟩
    rw [hd] at r
    have t0 : T9 0 = 0 := rfl
    have t1 : T9 1 = 624 := rfl
    have t2 : T9 2 = 912 := rfl
    have t3 : T9 3 = 992 := rfl
    have t4 : T9 (3 + 1) = 992 := rfl
    have t1' : T9 (0 + 1) = 624 := rfl
    have t2' : T9 (1 + 1) = 912 := rfl
    have t3' : T9 (2 + 1) = 992 := rfl
    obtain c | c | c | c : i = 0 ∨ i = 1 ∨ i = 2 ∨ i = 3 := by omega
    · subst c
      have : d * (16 + d * 64) ≤ 3 * (16 + 3 * 64) := Nat.mul_le_mul (by omega) (by omega)
      omega
    · subst c
      have : d * (16 + d * 64) ≤ 2 * (16 + 2 * 64) := Nat.mul_le_mul (by omega) (by omega)
      omega
    · subst c
      have : d * (16 + d * 64) ≤ 1 * (16 + 1 * 64) := Nat.mul_le_mul (by omega) (by omega)
      omega
    · subst c
      have : d = 0 := by omega
      subst this
      omega
theorem T9_room {P i k d : Nat} (p4 : P ≤ 4) (hi : i < P) (hd : P - (i + 1) = d) (hk : k < d) : T9 i + k * (16 + d * 64) + (16 + d * 64) ≤ 992 := by
  have e : k * (16 + d * 64) + (16 + d * 64) = (k + 1) * (16 + d * 64) := by rw [Nat.succ_mul]
  have d3 : d ≤ 3 - i := by omega
  have m : (k + 1) * (16 + d * 64) ≤ d * (16 + d * 64) := Nat.mul_le_mul (by omega) (Nat.le_refl _)
  have t0 : T9 0 = 0 := rfl
  have t1 : T9 1 = 624 := rfl
  have t2 : T9 2 = 912 := rfl
  obtain c | c | c | c : i = 0 ∨ i = 1 ∨ i = 2 ∨ i = 3 := by omega
  · subst c
    have : d * (16 + d * 64) ≤ 3 * (16 + 3 * 64) := Nat.mul_le_mul (by omega) (by omega)
    omega
  · subst c
    have : d * (16 + d * 64) ≤ 2 * (16 + 2 * 64) := Nat.mul_le_mul (by omega) (by omega)
    omega
  · subst c
    have : d * (16 + d * 64) ≤ 1 * (16 + 1 * 64) := Nat.mul_le_mul (by omega) (by omega)
    omega
  · subst c
    omega
theorem four_map {W : Nat} {ps : List (Int × Int)} {p q u : Int} : ((((bothL W ps p q).map PyData.int).filter fun d => decide (u < intD d)).map fun d => PyData.tuple [.int p, .int u, .int q, d]) = (((bothL W ps p q).filter fun v => decide (u < v)).map fun v => [p, u, q, v]).map rowD := by
  rw [List.filter_map, List.map_map, List.map_map]
  rfl
section
variable {P : Program} {w : World} {K : PySem.W.Frag} {mg : Str → Option Value} {base : Heap}
theorem ok_law_rings (T : Txt K mg) : FnOk P w K mg base CX0 2 T.f_law_rings T.d_law_rings ["_law_points", "_law_shuts", "_law_pairs"] sp_law_rings := by
  refine T.F_law_rings.ok sc_law_rings (fun vs H Q E h => ?_) (fun cdv A outer s H vs Q E hr h => ?_)
  · obtain ⟨P', W, l, ps, rfl, _⟩ := h
    rfl
  · obtain ⟨P', W, l, ps, rfl, p2, p4, w2, w4, kl, hQ⟩ := h
    refine ⟨_, (pss_cons (ps_set (i := 3) sc_law_rings.nd rfl (.inl rfl) (pe_lst pa_nil))
      (pss_cons (ps_for PassesOwn.never rfl (pi_range1 (by rfl) T.m_range (pa_cons (pv 0) pa_nil)) (pg_name (i := 4) sc_law_rings.nd rfl (.inr rfl))
        (pss_one (ps_for PassesOwn.never rfl (pi_range2 (by rfl) T.m_range (pa_cons (pe_op op_add (pv 4) pe_int) (pa_cons (pv 0) pa_nil))) (pg_name (i := 5) sc_law_rings.nd rfl (.inr rfl))
          (pss_cons (ps_setLc (i := 7) rfl sc_law_rings.nd rfl rfl (sw_true rfl rfl rfl (by decide +kernel)) (pi_range1 (by rfl) T.m_range (pa_cons (pv 1) pa_nil)) (blkOk_by (own := [("_law_u", 6)]) (N := ["_law_points", "_law_shuts", "_law_pairs", "_law_told", "_law_p", "_law_q", "_law_u", "_law_both", "_law_r", "_law_v"]) (sc := defScope s_law_rings) (by decide +kernel)) (fun _ _ _ _ _ => (pg_name (i := 6) sc_law_rings.nd rfl (.inl rfl))) (fun _ _ _ _ _ => (pts_one (PW.pt (pw_and (pt_cmpR (show OpR _ (compareOp .In) (rInD K) from op_inD (hu65 hr)) (pe_tup (pa_cons (pv 4) (pa_cons (pv 6) pa_nil))) (pv 2) rfl) (pw_and1 (pt_cmpR (show OpR _ (compareOp .In) (rInD K) from op_inD (hu65 hr)) (pe_tup (pa_cons (pv 5) (pa_cons (pv 6) pa_nil))) (pv 2) rfl)))))) (fun _ _ _ _ _ => (pv 6)))
          (pss_cons (ps_for PassesOwn.never rfl (pi_list (pv 7)) (pg_name (i := 6) sc_law_rings.nd rfl (.inr rfl))
            (pss_one (ps_set (i := 3) sc_law_rings.nd rfl (.inl rfl) (pe_op op_catDL (pv 3) (pe_lc rfl sc_law_rings.nd (pi_list (pv 7)) (blkOk_by (own := [("_law_v", 9)]) (N := ["_law_points", "_law_shuts", "_law_pairs", "_law_told", "_law_p", "_law_q", "_law_u", "_law_both", "_law_r", "_law_v"]) (sc := defScope s_law_rings) (by decide +kernel)) (fun _ _ _ _ _ => (pg_name (i := 9) sc_law_rings.nd rfl (.inl rfl))) (fun _ _ _ _ _ => (pts_one (pt_cmpR op_lt (pv 6) (pv 9) (nomark _)))) (fun _ _ _ _ _ => (pe_tup (pa_cons (pv 4) (pa_cons (pv 6) (pa_cons (pv 5) (pa_cons (pv 9) pa_nil)))))))))))
          (pss_one (ps_for PassesOwn.never rfl (pi_range2 (by rfl) T.m_range (pa_cons (pe_op op_add (pv 4) pe_int) (pa_cons (pv 0) pa_nil))) (pg_name (i := 8) sc_law_rings.nd rfl (.inl rfl))
            (pss_one (ps_if (pt_cmpR op_ne (pv 8) (pv 5) (nomark _))
              (pss_one (ps_set (i := 3) sc_law_rings.nd rfl (.inl rfl) (pe_op op_catDL (pv 3) (pe_call (ok_law_sixes T) (hr.mono (by decide)) (by rfl) T.g_law_sixes T.F_law_sixes.kp T.b_law_sixes .nil pass0 (pa_cons (pv 1) (pa_cons (pv 2) (pa_cons (pv 4) (pa_cons (pv 5) (pa_cons (pv 8) pa_nil)))))))))
              pss_nil)))))))))
      (pss_one (ps_ret (pv 3))))), ?_⟩
    obtain ⟨PN, rfl⟩ : ∃ n : Nat, P' = (n : Int) := ⟨P'.toNat, by omega⟩
    obtain ⟨WN, rfl⟩ : ∃ n : Nat, W = (n : Int) := ⟨W.toNat, by omega⟩
    rw [Int.toNat_natCast, Int.toNat_natCast] at hQ
    have p4' : PN ≤ 4 := by omega
    have w4' : WN ≤ 4 := by omega
    refine ⟨Nat.zero_le _, fun t0 n0 => ⟨_, rfl, (PN : Int), rfl, by omega, by omega, for_range (lo := 0) (n := (PN : Int).toNat) (fun i σ H' => ∃ (t : Addr) (y4 y5 y6 y7 y8 : Option V), σ = [some (.int (PN : Int)), some (.int (WN : Int)), some (.ref l), some (.ref t), y4, y5, y6, y7, y8, none] ∧ Same H H' ∧ H t = none ∧ Dq H' (.ref t) (.list ((ringsTo PN WN ps i).map rowD)))
      ⟨t0, _, _, _, _, _, rfl, same_new n0, n0, .lst upd_same .nil⟩ (fun i σ H' hi hP => ?_) (fun σ H' hP => ?_)⟩⟩
    · obtain ⟨t, y4, y5, y6, y7, y8, rfl, sm, nt, kt⟩ := hP
      rw [Int.zero_add]
      have hi' : i < PN := by omega
      have A9 := ringsTo_len (ps := ps) p4' w4' i (by omega)
      refine ⟨_, rfl, _, _, rfl, rfl, _, rfl, (i : Int) + 1, (PN : Int), rfl, ⟨by omega, by omega, by omega, by omega⟩, for_range (lo := (i : Int) + 1) (n := ((PN : Int) - ((i : Int) + 1)).toNat) (fun k σ H' => ∃ (t : Addr) (y5 y6 y7 y8 : Option V), σ = [some (.int (PN : Int)), some (.int (WN : Int)), some (.ref l), some (.ref t), some (.int (i : Int)), y5, y6, y7, y8, none] ∧ Same H H' ∧ H t = none ∧ Dq H' (.ref t) (.list ((ringsTo PN WN ps i ++ rowsTo PN WN ps i k).map rowD)))
        ⟨t, _, _, _, _, rfl, sm, nt, by
          rw [show rowsTo PN WN ps i 0 = [] from rfl, List.append_nil]
          exact kt⟩ (fun k σ H' hk hP => ?_) (fun σ H' hP => ?_)⟩
      · obtain ⟨t, y5, y6, y7, y8, rfl, sm, nt, kt⟩ := hP
        have eq : ((i : Int) + 1 + (k : Int)) = ((i + 1 + k : Nat) : Int) := by omega
        rw [eq]
        have hkd : k < PN - (i + 1) := by omega
        have B9 := rowsTo_len (P := PN) (ps := ps) (p := i) (k := k) w4'
        obtain ⟨d, hd⟩ : ∃ d, PN - (i + 1) = d := ⟨_, rfl⟩
        have R9 := T9_room p4' hi' hd (hd ▸ hkd)
        rw [hd] at B9
        obtain ⟨q, hq⟩ : ∃ q, i + 1 + k = q := ⟨_, rfl⟩
        rw [hq]
        refine ⟨_, rfl, (WN : Int), rfl, by omega, by omega, fun D1 nD1 => ?_⟩
        refine lc_rngD (fun (u : Nat) => decide (((i : Int), (u : Int)) ∈ ps) && decide (((q : Int), (u : Int)) ∈ ps)) (fun (u : Nat) => .int (u : Int)) nD1 (by omega) (fun _ => rfl) (fun j H2 Q2 hj s2 q2 => ?_) (fun j H2 Q2 hj _ s2 hD q2 => ?_) (fun H2 s2 k1 => ?_)
        · rw [Int.zero_add]
          exact both_tt rfl rfl rfl rfl (kl.same (sm.trans s2)) q2
        · rw [Int.zero_add]
          exact ⟨_, rfl, q2 _ _ (fun _ _ z => z) (.int _)⟩
        rw [both_map, Int.toNat_natCast] at k1
        have h1 := dq_intsL k1
        have l1 := both_len WN ps i q
        have sm2 := sm.trans s2
        have kt2 := kt.same s2
        obtain ⟨X, hX⟩ : ∃ X, ringsTo PN WN ps i ++ rowsTo PN WN ps i k = X := ⟨_, rfl⟩
        have X9 : X.length + (16 + d * 64) ≤ 992 := by
          rw [← hX, List.length_append]
          omega
        rw [hX] at kt kt2
        refine ⟨_, rfl, D1, rfl, ⟨_, SqL.of h1⟩, for_list (xs := (bothL WN ps i q).map V.int) (fun j σ H' => ∃ (t : Addr) (y6 y8 : Option V), σ = [some (.int (PN : Int)), some (.int (WN : Int)), some (.ref l), some (.ref t), some (.int (i : Int)), some (.int (q : Int)), y6, some (.ref D1), y8, none] ∧ Same H2 H' ∧ H t = none ∧ Dq H' (.ref t) (.list ((X ++ fourU WN ps i q ((bothL WN ps i q).take j)).map rowD)))
          ⟨t, _, _, rfl, fun _ _ z => z, nt, by
            rw [List.take_zero, show fourU WN ps i q [] = [] from rfl, List.append_nil]
            exact kt2⟩ (fun j σ H' hj hP => by obtain ⟨_, _, _, _, s3, _⟩ := hP; exact SqL.of (s3 _ _ h1)) (fun j x σ H' hx hP => ?_) (fun σ H' hP => ?_)⟩
        · obtain ⟨t, y6, y8, rfl, s3, nt, kt⟩ := hP
          obtain ⟨u, hu, rfl⟩ := map_at hx
          have step : fourU WN ps i q ((bothL WN ps i q).take (j + 1)) = fourU WN ps i q ((bothL WN ps i q).take j) ++ ((bothL WN ps i q).filter fun v => decide (u < v)).map fun v => [(i : Int), u, (q : Int), v] := take_flat _ hu
          obtain ⟨xs3, e3, d3⟩ : ∃ xs, H' D1 = some (.lst xs) ∧ DqAll H' xs ((bothL WN ps i q).map PyData.int) := by
            have := k1.same s3
            cases this with
            | lst e t => exact ⟨_, e, t⟩
          refine ⟨_, rfl, _, rfl, D1, rfl, ⟨_, SqL.of e3⟩, fun D nD => ?_⟩
          refine lc_listD (ds := (bothL WN ps i q).map PyData.int) (fun d => decide (u < intD d)) (fun d => .tuple [.int (i : Int), .int u, .int (q : Int), d]) (SqL.of e3) d3 nD (by rw [List.length_map]; omega) (fun _ => rfl) (fun k x d H6 Q2 hd s6 kd q2 => ?_) (fun k x d H6 Q2 hd _ s6 kd hD q2 => ?_) (fun H6 s6 kD => ?_)
          · rw [List.getElem?_map] at hd
            obtain ⟨ww, _, rfl⟩ := Option.map_eq_some_iff.mp hd
            cases kd
            exact ⟨_, rfl, _, rfl, _, _, rfl, rfl, _, rfl, q2 _ fun _ _ z => z⟩
          · rw [List.getElem?_map] at hd
            obtain ⟨ww, _, rfl⟩ := Option.map_eq_some_iff.mp hd
            cases kd
            obtain ⟨acc, hD⟩ := hD
            refine ⟨_, rfl, _, rfl, _, rfl, _, rfl, (by show 4 ≤ sizeLine; decide), fun a na => q2 _ _ (same_new na) ?_⟩
            exact .tup (off_at (ne_of_none hD na).symm upd_same) (.cons (.int _) (.cons (.int _) (.cons (.int _) (.cons (.int _) .nil))))
          · rw [four_map] at kD
            refine ⟨_, _, kt.same s6, kD, ?_, fun l9 H9 s9 n9 k9 => ⟨l9, _, _, rfl, (s3.trans s6).trans s9, sm2.free ((s3.trans s6).free n9), ?_⟩⟩
            · rw [List.length_map, List.length_map, ← List.length_append, List.append_assoc, ← step, List.length_append]
              have a1 := fourU_len (W := WN) (ps := ps) (p := i) (q := q) w4' (us := (bothL WN ps i q).take (j + 1)) (by rw [List.length_take]; omega)
              omega
            · rw [step, ← List.append_assoc, List.map_append]
              exact k9
        · obtain ⟨t, y6, y8, rfl, s3, nt, kt⟩ := hP
          rw [List.length_map, List.take_length] at kt
          have F9 : (X ++ fourU WN ps i q (bothL WN ps i q)).length + d * 64 ≤ 992 := by
            rw [List.length_append]
            have a1 := fourU_len (W := WN) (ps := ps) (p := i) (q := q) (us := bothL WN ps i q) w4' l1
            omega
          have sm3 := sm2.trans s3
          refine ⟨_, rfl, _, _, rfl, rfl, _, rfl, (i : Int) + 1, (PN : Int), rfl, ⟨by omega, by omega, by omega, by omega⟩, for_range (lo := (i : Int) + 1) (n := ((PN : Int) - ((i : Int) + 1)).toNat) (fun m σ H' => ∃ (t : Addr) (y6 y8 : Option V), σ = [some (.int (PN : Int)), some (.int (WN : Int)), some (.ref l), some (.ref t), some (.int (i : Int)), some (.int (q : Int)), y6, some (.ref D1), y8, none] ∧ Same H H' ∧ H t = none ∧ Dq H' (.ref t) (.list (((X ++ fourU WN ps i q (bothL WN ps i q)) ++ sixTo WN ps i q m).map rowD)))
            ⟨t, _, _, rfl, sm3, nt, by
              rw [show sixTo WN ps i q 0 = [] from rfl, List.append_nil]
              exact kt⟩ (fun m σ H' hm hP => ?_) (fun σ H' hP => ?_)⟩
          · obtain ⟨t, y6, y8, rfl, sm4, nt, kt⟩ := hP
            have er : ((i : Int) + 1 + (m : Int)) = ((i + 1 + m : Nat) : Int) := by omega
            rw [er]
            have step : sixTo WN ps i q (m + 1) = sixTo WN ps i q m ++ (if i + 1 + m = q then [] else sixesL WN ps i q (i + 1 + m : Nat)) := rng_flat _ _
            refine ⟨_, rfl, _, rfl, rfl, _, rfl, ?_⟩
            by_cases c : i + 1 + m = q
            · rw [decide_eq_true (by rw [c])]
              refine iteF ⟨t, _, _, rfl, sm4, nt, ?_⟩
              rw [step, if_pos c, List.append_nil]
              exact kt
            rw [decide_eq_false (fun z => c (Int.ofNat_inj.mp (V.int.inj z)))]
            rw [if_neg c] at step
            refine iteT ⟨_, rfl, _, rfl, _, rfl, _, rfl, _, rfl, _, rfl, (WN : Int), l, (i : Int), (q : Int), ((i + 1 + m : Nat) : Int), ps, rfl, by omega, by omega, kl.same sm4, fun l5 H5 s5 n5 k5 => ?_⟩
            rw [Int.toNat_natCast] at k5
            refine ⟨_, _, kt.same s5, k5, ?_, fun l9 H9 s9 n9 k9 => ⟨l9, _, _, rfl, (sm4.trans s5).trans s9, (sm4.trans s5).free n9, ?_⟩⟩
            · rw [List.length_map, List.length_map, List.length_append]
              have a1 := sixTo_len (W := WN) (ps := ps) (p := i) (q := q) (m := m) w4'
              have a2 := sixes_len (W := WN) (ps := ps) (p := i) (q := q) (r := (i + 1 + m : Nat)) w4'
              have a3 : m + 1 ≤ d := by omega
              omega
            · rw [step, ← List.append_assoc, List.map_append]
              exact k9
          · obtain ⟨t, y6, y8, rfl, sm4, nt, kt⟩ := hP
            refine ⟨t, _, _, _, _, rfl, sm4, nt, ?_⟩
            have e1 : rowsTo PN WN ps i (k + 1) = rowsTo PN WN ps i k ++ rRow PN WN ps i q := by
              unfold rowsTo
              rw [rng_flat, hq]
            have e2 : rRow PN WN ps i q = fourU WN ps i q (bothL WN ps i q) ++ sixTo WN ps i q ((PN : Int) - ((i : Int) + 1)).toNat := by
              rw [show ((PN : Int) - ((i : Int) + 1)).toNat = PN - (i + 1) by omega]
              rfl
            rw [e1, e2, ← List.append_assoc, hX, ← List.append_assoc]
            exact kt
      · obtain ⟨t, y5, y6, y7, y8, rfl, sm, nt, kt⟩ := hP
        refine ⟨t, _, _, _, _, _, rfl, sm, nt, ?_⟩
        have e : ringsTo PN WN ps (i + 1) = ringsTo PN WN ps i ++ rowsTo PN WN ps i ((PN : Int) - ((i : Int) + 1)).toNat := by
          unfold ringsTo
          rw [rng_flat, show ((PN : Int) - ((i : Int) + 1)).toNat = PN - (i + 1) by omega]
          rfl
        rw [e]
        exact kt
    · obtain ⟨t, y4, y5, y6, y7, y8, rfl, sm, nt, kt⟩ := hP
      rw [Int.toNat_natCast] at kt
      exact ⟨_, rfl, hQ t H' sm nt kt⟩
end
end K02
set_option Elab.async false
set_option linter.all false
set_option maxRecDepth 100000
set_option maxHeartbeats 4000000
set_option exponentiation.threshold 5000
set_option pp.maxSteps 600
namespace K02
open PySem PySem.Spec PyProof.Rows L2 TkS
def wordV : Option Str → V
  | none => .non
  | some e => .str e
def sp_law_ring_due : Sp := fun vs H Q _ => ∃ (P W : Int) (l : Addr) (x : V) (d : PyData) (ps : List (Int × Int)), vs = [.int P, .int W, .ref l, x] ∧ Dq H (.ref l) (.list (ps.map prD)) ∧ Dq H x d ∧ ∀ H', Same H H' → Q (wordV (ringW P W ps d)) H'
theorem corn_no {P W : Int} {i : Nat} {d : PyData} (h : isIntD d = false) : cornD P W i d = false := by
  unfold cornD wholeD
  cases d with
  | int i => cases h
  | _ => rfl
theorem corn_dec {P W : Int} {i : Nat} {n : Int} : cornD P W i (.int n) = (!(decide (n < 0)) && !(decide ((if i % 2 = 1 then W else P) ≤ n))) := by
  show (decide (0 ≤ n) && decide (n ≤ (if i % 2 = 0 then P else W) - 1)) = _
  have e : (if i % 2 = 1 then W else P) = (if i % 2 = 0 then P else W) := by
    by_cases c : i % 2 = 0
    · rw [if_pos c, if_neg (by omega)]
    · rw [if_neg c, if_pos (by omega)]
  rw [e]
  generalize (if i % 2 = 0 then P else W) = m
  rw [Bool.eq_iff_iff]
  simp
  omega
section
variable {P : Program} {w : World} {K : PySem.W.Frag} {mg : Str → Option Value} {base : Heap}
theorem ok_law_ring_due (T : Txt K mg) : FnOk P w K mg base CX0 2 T.f_law_ring_due T.d_law_ring_due ["_law_points", "_law_shuts", "_law_pairs", "_law_corners"] sp_law_ring_due := by
  refine T.F_law_ring_due.ok sc_law_ring_due (fun vs H Q E h => ?_) (fun cdv A outer s H vs Q E hr h => ?_)
  · obtain ⟨P', W, l, x, d, ps, rfl, _⟩ := h
    rfl
  · obtain ⟨P', W, l, x, d, ps, rfl, kl, hk, hQ⟩ := h
    refine ⟨_, (pss_cons (ps_if (PW.pt (pw_or (pt_not (pt_val (pe_callB call_isiT (by rfl) T.m_isinstance (by decide +kernel) (pa_cons (pv 3) (pa_cons (pe_tup (pa_cons (pe_bltn (v := .ty "list") (u := .type "list") (by rfl) T.m_list (by decide +kernel) rfl) (pa_cons (pe_bltn (v := .ty "tuple") (u := .type "tuple") (by rfl) T.m_tuple (by decide +kernel) rfl) pa_nil))) pa_nil))))) (pw_or (pt_cmpR op_lt (pe_callB call_len_seq (by rfl) T.m_len (by decide +kernel) (pa_cons (pv 3) pa_nil)) pe_int (nomark _)) (pw_or (pt_cmpR op_gt (pe_callB call_len_seq (by rfl) T.m_len (by decide +kernel) (pa_cons (pv 3) pa_nil)) pe_int (nomark _)) (pw_or1 (pt_cmpR op_eq (pe_op op_mod (pe_callTy call_int1 (by rfl) T.m_int (by decide +kernel) (pa_cons (pe_callB call_len_seq (by rfl) T.m_len (by decide +kernel) (pa_cons (pv 3) pa_nil)) pa_nil)) pe_int) pe_int (nomark _)))))))
        (pss_one (ps_ret pe_str))
        pss_nil)
      (pss_cons (ps_for PassesOwn.never rfl (pi_range1 (by rfl) T.m_range (pa_cons (pe_callB call_len_seq (by rfl) T.m_len (by decide +kernel) (pa_cons (pv 3) pa_nil)) pa_nil)) (pg_name (i := 4) sc_law_ring_due.nd rfl (.inl rfl))
        (pss_one (ps_if (PW.pt (pw_or (pt_not (pt_val (pe_call (ok_law_whole T) (hr.mono (by decide)) (by rfl) T.g_law_whole T.F_law_whole.kp T.b_law_whole .nil pass0 (pa_cons (pe_ix ix_seq (pv 3) (pv 4) (fun _ _ => rfl)) pa_nil)))) (pw_or (pt_cmpR op_lt (pe_ix ix_seq (pv 3) (pv 4) (fun _ _ => rfl)) pe_int (nomark _)) (pw_or1 (pt_cmpR op_ge (pe_ix ix_seq (pv 3) (pv 4) (fun _ _ => rfl)) (pe_ifExp (pt_cmpR op_eq (pe_op op_mod (pe_callTy call_int1 (by rfl) T.m_int (by decide +kernel) (pa_cons (pv 4) pa_nil)) pe_int) pe_int (nomark _)) (pv 1) (pv 0)) (nomark _))))))
          (pss_one (ps_ret pe_str))
          pss_nil)))
      (pss_cons (ps_for PassesOwn.never rfl (pi_range1 (by rfl) T.m_range (pa_cons (pe_callB call_len_seq (by rfl) T.m_len (by decide +kernel) (pa_cons (pv 3) pa_nil)) pa_nil)) (pg_name (i := 4) sc_law_ring_due.nd rfl (.inl rfl))
        (pss_cons (ps_set (i := 5) sc_law_ring_due.nd rfl (.inl rfl) (pe_ix ix_seq (pv 3) (pv 4) (fun _ _ => rfl)))
        (pss_cons (ps_set (i := 6) sc_law_ring_due.nd rfl (.inl rfl) (pe_ix ix_seq (pv 3) (pe_op op_mod (pe_callTy call_int1 (by rfl) T.m_int (by decide +kernel) (pa_cons (pe_op op_add (pv 4) pe_int) pa_nil)) (pe_callB call_len_seq (by rfl) T.m_len (by decide +kernel) (pa_cons (pv 3) pa_nil))) (fun _ _ => rfl)))
        (pss_one (ps_if (pt_cmpR (op_notInD (hu65 hr)) (pe_ifExp (pt_cmpR op_eq (pe_op op_mod (pe_callTy call_int1 (by rfl) T.m_int (by decide +kernel) (pa_cons (pv 4) pa_nil)) pe_int) pe_int (nomark _)) (pe_tup (pa_cons (pv 6) (pa_cons (pv 5) pa_nil))) (pe_tup (pa_cons (pv 5) (pa_cons (pv 6) pa_nil)))) (pv 2) rfl)
          (pss_one (ps_ret pe_str))
          pss_nil)))))
      (pss_one (ps_ret pe_non))))), ?_⟩
    refine ⟨x, rfl, (by show 2 ≤ sizeLine; decide), fun u nu => ?_⟩
    have sm : Same H (upd H u (.tup [.ty "list", .ty "tuple"])) := same_new nu
    have uu : (upd H u (.tup [.ty "list", .ty "tuple"])) u = some (.tup [.ty "list", .ty "tuple"]) := upd_same
    generalize upd H u (.tup [.ty "list", .ty "tuple"]) = H1 at sm uu
    have hk1 := hk.same sm
    obtain ⟨t, ty, _, _, k3, _⟩ := dq_ty (K := K) hk1
    refine ⟨x, u, _, t, _, (itemsD d).isSome, rfl, uu, .cons (.ty _) (.cons (.ty _) .nil), ty, k3, _, rfl, ?_⟩
    cases e : itemsD d with
    | none =>
      have q' := hQ H1 sm
      unfold ringW at q'
      rw [e] at q'
      exact iteT (iteT q')
    | some ds =>
      obtain ⟨p, xs, rfl, hxs, hsq⟩ := sq_of (K := K) hk1 e
      have lx := hxs.len
      have bad : (ds.length % 2 = 1 ∨ ds.length < 4 ∨ 60 < ds.length) → ringW P' W ps d = some ("length" : Str) := fun h => by
        unfold ringW
        rw [e]
        dsimp only
        rw [if_pos h]
      have qb : (ds.length % 2 = 1 ∨ ds.length < 4 ∨ 60 < ds.length) → Q (.str "length") H1 := fun h => by
        have := hQ H1 sm
        rw [bad h] at this
        exact this
      refine iteF ⟨_, rfl, p, _, rfl, hsq, _, _, rfl, rfl, _, rfl, ?_⟩
      rw [lx]
      by_cases c2 : ds.length < 4
      · rw [decide_eq_true (show (ds.length : Int) < 4 by omega)]
        exact iteT (iteT (qb (.inr (.inl c2))))
      rw [decide_eq_false (show ¬ (ds.length : Int) < 4 by omega)]
      refine iteF ⟨_, rfl, p, _, rfl, hsq, _, _, rfl, rfl, _, rfl, ?_⟩
      rw [lx]
      by_cases c3 : 60 < ds.length
      · rw [decide_eq_true (show (60 : Int) < (ds.length : Int) by omega)]
        exact iteT (iteT (qb (.inr (.inr c3))))
      rw [decide_eq_false (show ¬ (60 : Int) < (ds.length : Int) by omega)]
      refine iteF ⟨_, rfl, p, _, rfl, hsq, .inl ⟨_, rfl, _, _, rfl, rfl, (by show (0 : Int) < _; decide), rfl, _, rfl, ?_⟩⟩
      rw [int_dec, lx]
      by_cases c1 : ds.length % 2 = 1
      · rw [decide_eq_true (show (ds.length : Int) % 2 = 1 by omega)]
        exact iteT (qb (.inl c1))
      rw [decide_eq_false (show ¬ (ds.length : Int) % 2 = 1 by omega)]
      have hW : ringW P' W ps d = if cornsD P' W ds = true then (if sidesOk ps (ds.map intD) = true then none else some ("pair" : Str)) else some ("corner" : Str) := by
        unfold ringW
        rw [e]
        dsimp only
        rw [if_neg (by omega)]
      have rix : ∀ {G : Hp} {Q' : VK} {k : Nat} {y : V}, xs[k]? = some y → Same H1 G → Q' y G → rIx K (.ref p) (.int (k : Int)) G Q' := fun {G Q' k y} hy s q => (hsq.same s).elim (fun z => .inl ⟨p, _, _, _, rfl, rfl, z, at_of (j := k) rfl hy, q⟩) (fun z => .inr (.inl ⟨p, _, _, _, rfl, rfl, z, at_of (j := k) rfl hy, q⟩))
      refine iteF ⟨_, rfl, p, _, rfl, hsq, (xs.length : Int), rfl, by omega, by omega, for_range (n := (xs.length : Int).toNat) (fun i σ H' => ∃ y4, σ = [some (.int P'), some (.int W), some (.ref l), some (.ref p), y4, none, none] ∧ Same H1 H' ∧ ∀ j, j < i → cornD P' W j (ds.getD j .none) = true)
        ⟨_, rfl, fun _ _ z => z, fun j hj => absurd hj (Nat.not_lt_zero j)⟩ (fun i σ H' hi hP => ?_) (fun σ H' hP => ?_)⟩
      · obtain ⟨y4, rfl, s2, hall⟩ := hP
        rw [Int.zero_add]
        have li : i < xs.length := by omega
        have hy : xs[i]? = some xs[i] := List.getElem?_eq_getElem li
        generalize xs[i] = y at hy
        obtain ⟨dv, hdv, kdv⟩ := hxs.get hy
        have gd : ds.getD i .none = dv := by rw [List.getD_eq_getElem?_getD, hdv]; rfl
        have lid : i < ds.length := by omega
        have qc : ∀ {G : Hp}, Same H1 G → cornD P' W i dv = false → Q (.str "corner") G := fun {G} s h => by
          have := hQ G (sm.trans s)
          rw [hW, corn_not lid (by rw [gd]; exact h), if_neg Bool.false_ne_true] at this
          exact this
        have next : cornD P' W i dv = true → ∀ j, j < i + 1 → cornD P' W j (ds.getD j .none) = true := fun hb j hj => by
          rcases Nat.lt_succ_iff_lt_or_eq.mp hj with h | h
          · exact hall j h
          · subst h
            rw [gd]
            exact hb
        refine ⟨_, rfl, _, rfl, rix hy s2 ⟨y, dv, rfl, kdv.same s2, _, rfl, ?_⟩⟩
        cases hb : isIntD dv with
        | false => exact iteT (iteT (qc s2 (corn_no hb)))
        | true =>
          obtain ⟨n, rfl, rfl⟩ := int_of hb kdv
          refine iteF ⟨_, rfl, _, rfl, rix hy s2 ⟨_, _, rfl, rfl, _, rfl, ?_⟩⟩
          by_cases b1 : n < 0
          · rw [decide_eq_true b1]
            exact iteT (iteT (qc s2 (by rw [corn_dec, decide_eq_true b1]; rfl)))
          rw [decide_eq_false b1]
          refine iteF ⟨_, rfl, _, rfl, rix hy s2 ⟨_, rfl, .inl ⟨_, rfl, _, _, rfl, rfl, (by show (0 : Int) < 2; decide), rfl, _, rfl, ?_⟩⟩⟩
          rw [int_dec]
          by_cases c : i % 2 = 1
          · have cd : cornD P' W i (.int n) = !(decide (W ≤ n)) := by rw [corn_dec, decide_eq_false b1, if_pos c]; rfl
            rw [decide_eq_true (show (i : Int) % 2 = 1 by omega)]
            refine iteT ⟨_, rfl, _, _, rfl, rfl, _, rfl, ?_⟩
            by_cases b2 : W ≤ n
            · rw [decide_eq_true b2]
              exact iteT (qc s2 (by rw [cd, decide_eq_true b2]; rfl))
            · rw [decide_eq_false b2]
              exact iteF ⟨_, rfl, s2, next (by rw [cd, decide_eq_false b2]; rfl)⟩
          · have cd : cornD P' W i (.int n) = !(decide (P' ≤ n)) := by rw [corn_dec, decide_eq_false b1, if_neg c]; rfl
            rw [decide_eq_false (show ¬ (i : Int) % 2 = 1 by omega)]
            refine iteF ⟨_, rfl, _, _, rfl, rfl, _, rfl, ?_⟩
            by_cases b2 : P' ≤ n
            · rw [decide_eq_true b2]
              exact iteT (qc s2 (by rw [cd, decide_eq_true b2]; rfl))
            · rw [decide_eq_false b2]
              exact iteF ⟨_, rfl, s2, next (by rw [cd, decide_eq_false b2]; rfl)⟩
      · obtain ⟨y4, rfl, s2, hall⟩ := hP
        rw [Int.toNat_natCast, lx] at hall
        have hb := corn_all hall
        have ei := corns_ints hb
        rw [if_pos hb] at hW
        generalize en : ds.map intD = cs at *
        subst ei
        have exs : xs = cs.map V.int := intl_dq hxs
        subst exs
        have lc : (cs.map PyData.int).length = cs.length := List.length_map _
        have lv : (cs.map V.int).length = cs.length := List.length_map _
        have rix2 : ∀ {G : Hp} {Q' : VK} {k : Nat}, k < cs.length → Same H1 G → Q' (.int (cs.getD k 0)) G → rIx K (.ref p) (.int (k : Int)) G Q' := fun {G Q' k} hk s q => rix (by
          rw [List.getElem?_map, List.getD_eq_getElem?_getD, List.getElem?_eq_getElem hk]
          rfl) s q
        refine ⟨_, rfl, p, _, rfl, hsq.same s2, ((cs.map V.int).length : Int), rfl, by omega, by omega, for_range (n := ((cs.map V.int).length : Int).toNat) (fun i σ H' => ∃ y4 y5 y6, σ = [some (.int P'), some (.int W), some (.ref l), some (.ref p), y4, y5, y6] ∧ Same H1 H' ∧ ∀ j, j < i → sideP cs j ∈ ps)
          ⟨_, _, _, rfl, s2, fun j hj => absurd hj (Nat.not_lt_zero j)⟩ (fun i σ H' hi hP => ?_) (fun σ H' hP => ?_)⟩
        · obtain ⟨y4, y5, y6, rfl, s3, hside⟩ := hP
          rw [Int.zero_add]
          have hi' : i < cs.length := by omega
          have hm : (i + 1) % cs.length < cs.length := Nat.mod_lt _ (by omega)
          have e0 : cAt cs i = cs.getD i 0 := cAt_lt hi'
          have e1 : (((i : Int) + 1) % (((cs.map V.int).length : Nat) : Int)) = (((i + 1) % cs.length : Nat) : Int) := by
            rw [lv]
            exact (Int.natCast_emod (i + 1) cs.length).symm
          have cl : (0 : Int) < ((cs.map V.int).length : Nat) := by rw [lv]; omega
          have fin : ∀ {G : Hp} {u : Addr} {a b : Int}, Same H1 G → sideP cs i = (a, b) → G u = some (.tup [.int a, .int b]) → Dp K G (.ref u) (prD (sideP cs i)) ∧ Dp K G (.ref l) (.list (ps.map prD)) := fun {G u a b} s ee hu => by
            refine ⟨(show Dq G (.ref u) (prD (sideP cs i)) from ?_).dp, (kl.same (sm.trans s)).dp⟩
            rw [ee]
            exact .tup hu (.cons (.int _) (.cons (.int _) .nil))
          have qp : ∀ {G : Hp}, Same H1 G → ¬ sideP cs i ∈ ps → Q (.str "pair") G := fun {G} s h => by
            have := hQ G (sm.trans s)
            rw [hW, sides_not hi' h, if_neg Bool.false_ne_true] at this
            exact this
          refine ⟨_, rfl, _, rfl, rix2 hi' s3 ⟨_, rfl, _, rfl, _, _, rfl, rfl, .inl ⟨_, rfl, _, rfl, p, _, rfl, hsq.same s3, _, _, rfl, rfl, cl, ?_⟩⟩⟩
          show rIx K (.ref p) (.int (((i : Int) + 1) % (((cs.map V.int).length : Nat) : Int))) _ _
          rw [e1]
          refine rix2 hm s3 ⟨_, rfl, .inl ⟨_, rfl, _, _, rfl, rfl, (by show (0 : Int) < 2; decide), rfl, _, rfl, ?_⟩⟩
          rw [int_dec]
          by_cases c : i % 2 = 1
          · rw [decide_eq_true (show (i : Int) % 2 = 1 by omega)]
            refine iteT ⟨_, rfl, _, rfl, (by show 2 ≤ sizeLine; decide), fun u nu => ?_⟩
            have s4 := s3.trans (same_new (o := .tup [.int (cs.getD ((i + 1) % cs.length) 0), .int (cs.getD i 0)]) nu)
            obtain ⟨f1, f2⟩ := fin s4 (by unfold sideP; rw [if_neg (by omega), e0]; rfl) upd_same
            refine ⟨_, rfl, _, _, f1, f2, shaped_pr _, shaped_prs_l _, _, rfl, ?_⟩
            rw [any_pr]
            by_cases g : sideP cs i ∈ ps
            · rw [decide_eq_true g]
              refine iteF ⟨_, _, _, rfl, s4, fun j hj => ?_⟩
              rcases Nat.lt_succ_iff_lt_or_eq.mp hj with h | h
              · exact hside j h
              · subst h
                exact g
            · rw [decide_eq_false g]
              exact iteT (qp s4 g)
          · rw [decide_eq_false (show ¬ (i : Int) % 2 = 1 by omega)]
            refine iteF ⟨_, rfl, _, rfl, (by show 2 ≤ sizeLine; decide), fun u nu => ?_⟩
            have s4 := s3.trans (same_new (o := .tup [.int (cs.getD i 0), .int (cs.getD ((i + 1) % cs.length) 0)]) nu)
            obtain ⟨f1, f2⟩ := fin s4 (by unfold sideP; rw [if_pos (by omega), e0]; rfl) upd_same
            refine ⟨_, rfl, _, _, f1, f2, shaped_pr _, shaped_prs_l _, _, rfl, ?_⟩
            rw [any_pr]
            by_cases g : sideP cs i ∈ ps
            · rw [decide_eq_true g]
              refine iteF ⟨_, _, _, rfl, s4, fun j hj => ?_⟩
              rcases Nat.lt_succ_iff_lt_or_eq.mp hj with h | h
              · exact hside j h
              · subst h
                exact g
            · rw [decide_eq_false g]
              exact iteT (qp s4 g)
        · obtain ⟨y4, y5, y6, rfl, s3, hside⟩ := hP
          have hs : sidesOk ps cs = true := sides_all fun k hk => hside k (by omega)
          have := hQ H' (sm.trans s3)
          rw [hW, if_pos hs] at this
          exact this
end
end K02
set_option Elab.async false
set_option linter.all false
set_option maxRecDepth 100000
set_option maxHeartbeats 4000000
set_option exponentiation.threshold 5000
set_option pp.maxSteps 600
namespace K02
open PySem PySem.Spec PyProof.Rows L2 TkS
/-! what is asked -/
def tagD (t : Str) (v : PyData) : PyData := .tuple [.str t, v]
def signT : PyData := .tuple [.str "sign"]
def csOf (d : PyData) : List Int := ((itemsD d).getD []).map intD
def ansD (P W : Int) (ps : List (Int × Int)) (d d' : PyData) (way : Int) : PyData :=
  match ringW P W ps d with
  | some e => tagD "ring" (.str e)
  | none => if way = 0 then tagD "let" (rowD (csOf d)) else if way = 1 then tagD "let" (Rt ps (csOf d)) else if wholeD d' 0 1 = true then tagD "let" (.tuple [Rt ps (csOf d), d']) else signT
theorem csOf_is {d : PyData} {cs : List Int} (e : itemsD d = some (cs.map PyData.int)) : csOf d = cs := by
  unfold csOf
  rw [e]
  exact map_intD cs
theorem ansD_sign {P W : Int} {ps : List (Int × Int)} {d d' : PyData} (h1 : ringW P W ps d = none) (h2 : wholeD d' 0 1 = false) : ansD P W ps d d' 2 = signT := by
  unfold ansD
  rw [h1]
  dsimp only
  rw [if_neg (by decide), if_neg (by decide), if_neg (by rw [h2]; exact Bool.false_ne_true)]
theorem ansD_say {P W : Int} {ps : List (Int × Int)} {d d' : PyData} (h1 : ringW P W ps d = none) (h2 : wholeD d' 0 1 = true) : ansD P W ps d d' 2 = tagD "let" (.tuple [Rt ps (csOf d), d']) := by
  unfold ansD
  rw [h1]
  dsimp only
  rw [if_neg (by decide), if_neg (by decide), if_pos h2]
theorem ansD_ring {P W : Int} {ps : List (Int × Int)} {d d' : PyData} {way : Int} {e : Str} (h1 : ringW P W ps d = some e) : ansD P W ps d d' way = tagD "ring" (.str e) := by
  unfold ansD
  rw [h1]
theorem ansD_0 {P W : Int} {ps : List (Int × Int)} {d d' : PyData} (h1 : ringW P W ps d = none) : ansD P W ps d d' 0 = tagD "let" (rowD (csOf d)) := by
  unfold ansD
  rw [h1]
  rfl
theorem ansD_1 {P W : Int} {ps : List (Int × Int)} {d d' : PyData} (h1 : ringW P W ps d = none) : ansD P W ps d d' 1 = tagD "let" (Rt ps (csOf d)) := by
  unfold ansD
  rw [h1]
  rfl
def sp_law_asked (C : Addr) : Sp := fun vs H Q _ => ∃ (way : Int) (a : Addr) (x y : V) (d d' : PyData) (P W : Int) (ps : List (Int × Int)), vs = [.int way, .ref a, x, y] ∧ Pic C H a P W ps ∧ Dq H x d ∧ Dq H y d' ∧ 0 ≤ way ∧ way ≤ 2 ∧
  ∀ H' v, Same H H' → Dq H' v (ansD P W ps d d' way) → Q v H'
theorem way_no {n k : Int} {A B : Prop} (h : n ≠ k) (b : B) : if decide (V.int n = V.int k) = true then A else B := by
  rw [int_dec, decide_eq_false h]
  exact iteF b
theorem way_is {n : Int} {A B : Prop} (a : A) : if decide (V.int n = V.int n) = true then A else B := by
  rw [decide_eq_true rfl]
  exact iteT a
theorem ref_non {u : Addr} {A B : Prop} (b : B) : if decide (V.ref u = V.non) = true then A else B := by
  rw [decide_eq_false (fun z => by cases z)]
  exact iteF b
theorem non_non {A B : Prop} (a : A) : if decide (V.non = V.non) = true then A else B := by
  rw [decide_eq_true rfl]
  exact iteT a
section
variable {P : Program} {w : World} {K : PySem.W.Frag} {mg : Str → Option Value} {base : Heap}
theorem ok_law_asked (T : Txt K mg) : FnOk P w K mg base CX0 10 T.f_law_asked T.d_law_asked ["_law_way_here", "_law_picture_here", "_law_corners", "_law_sign"] (sp_law_asked T.C_Picture) := by
  refine T.F_law_asked.ok sc_law_asked (fun vs H Q E h => ?_) (fun cdv A outer s H vs Q E hr h => ?_)
  · obtain ⟨way, a, x, y, d, d', P', W, ps, rfl, _⟩ := h
    rfl
  · obtain ⟨way, a, x, y, d, d', P', W, ps, rfl, hp, kx, ky, w0, w2, q⟩ := h
    refine' ⟨_, (pss_cons (ps_set (i := 4) sc_law_asked.nd rfl (.inl rfl) pe_non)
      (pss_cons (ps_set (i := 5) sc_law_asked.nd rfl (.inl rfl) pe_non)
      (pss_cons ?tr (pss_one (ps_ret (pe_ifExp (pt_cmpR op_isN (pv 5) pe_non (nomark _)) (pe_tup (pa_cons pe_str (pa_cons (pv 4) pa_nil))) (pv 5))))))), ?_⟩
    case tr =>
      exact ps_try_asM (i := 6) (Wout := fun _ _ _ _ => False) rfl rfl sc_law_asked.nd rfl rfl takes0
        (fun W pn xe tk _ => (pss_cons (ps_if (pt_cmpR op_eq (pv 0) pe_int (nomark _)) (pss_one (ps_set (i := 4) sc_law_asked.nd rfl (.inl rfl) (pe_callSD (ok_check_ring T) (hr.mono (by decide)) (by rfl) T.g_check_ring T.F_check_ring.kp T.b_check_ring .nil (fun σ => passAt tk σ) (pa_cons (pv 1) (pa_cons (pv 2) pa_nil))))) pss_nil)
        (pss_cons (ps_if (pt_cmpR op_eq (pv 0) pe_int (nomark _)) (pss_one (ps_set (i := 4) sc_law_asked.nd rfl (.inl rfl) (pe_callSD (ok_ring_tour T) (hr.mono (by decide)) (by rfl) T.g_ring_tour T.F_ring_tour.kp T.b_ring_tour .nil (fun σ => passAt tk σ) (pa_cons (pv 1) (pa_cons (pv 2) pa_nil))))) pss_nil)
        (pss_one (ps_if (pt_cmpR op_eq (pv 0) pe_int (nomark _)) (pss_one (ps_set (i := 4) sc_law_asked.nd rfl (.inl rfl) (pe_callSD (ok_ring_saying T) (hr.mono (by decide)) (by rfl) T.g_ring_saying T.F_ring_saying.kp T.b_ring_saying .nil (fun σ => passAt tk σ) (pa_cons (pv 1) (pa_cons (pv 2) (pa_cons (pv 3) pa_nil)))))) pss_nil)))))
        (.cons ⟨rfl, by decide, Or.inl T.g_BadRing⟩ (fun a oe cls d pn hz hf => pss_one (ps_set (i := 5) sc_law_asked.nd rfl (.inl rfl) (pe_ifExp (PW.pt (pw_and (pt_val (pe_callB (call_isD T.e_BadRing hz hf) (by rfl) T.m_isinstance (by decide +kernel) (pa_cons (pv 6) (pa_cons (pe_glob (v := .ref T.C_SheetError) rfl T.g_SheetError rfl) pa_nil)))) (pw_and1 (pt_not (pt_val (pe_callB (call_isD T.e_BadRing hz hf) (by rfl) T.m_isinstance (by decide +kernel) (pa_cons (pv 6) (pa_cons (pe_glob (v := .ref T.C_BadSign) rfl T.g_BadSign rfl) pa_nil)))))))) (pe_tup (pa_cons pe_str (pa_cons (pe_xf T.x_BadRing T.n_BadRing hz hf (pv 6)) pa_nil))) (pe_tup (pa_cons pe_str pa_nil)))))
          (.cons ⟨rfl, by decide, Or.inl T.g_BadSign⟩ (fun a oe cls d pn hz hf => pss_one (ps_set (i := 5) sc_law_asked.nd rfl (.inl rfl) (pe_ifExp (pt_val (pe_callB (call_isE2 T.e_BadSign hz hf) (by rfl) T.m_isinstance (by decide +kernel) (pa_cons (pv 6) (pa_cons (pe_glob (v := .ref T.C_SheetError) rfl T.g_SheetError rfl) pa_nil)))) (pe_tup (pa_cons pe_str pa_nil)) (pe_tup (pa_cons pe_str pa_nil))))) .nil))
    obtain rfl | rfl | rfl : way = 0 ∨ way = 1 ∨ way = 2 := by omega
    · refine ⟨_, rfl, rfl, _, rfl, way_is ⟨_, rfl, _, rfl, a, x, d, P', W, ps, rfl, hp, kx, fun e he b H' s' hb => ?_, fun cs ec hw l H' s' k' => ?_⟩⟩
      · exact ⟨true, T.mm_BadRing_BadRing, fun _ a0 _ => ⟨_, rfl, rfl, b, _, _, _, true, rfl, hb, rfl, fun u h => h, T.kit_BadRing_SheetError, _, rfl, iteT ⟨_, rfl, rfl, b, _, _, _, false, rfl, hb, rfl, fun u h => h, T.kit_BadRing_BadSign, _, rfl, iteT ⟨_, rfl, rfl, rfl, b, _, _, rfl, hb, rfl, (by show 2 ≤ sizeLine; decide), fun u nu => ⟨_, rfl, rfl, _, rfl, ref_non ⟨_, rfl, q _ _ (s'.trans (same_new nu)) (by unfold ansD; rw [he]; exact .tup upd_same (.cons (.str _) (.cons (.str _) .nil)))⟩⟩⟩⟩⟩, fun z => Bool.noConfusion z⟩
      · exact ⟨_, rfl, rfl, _, rfl, way_no (by decide) ⟨_, rfl, rfl, _, rfl, way_no (by decide) ⟨_, rfl, rfl, _, rfl, non_non ⟨_, rfl, (by show 2 ≤ sizeLine; decide), fun u nu => q _ _ (s'.trans (same_new nu)) (by
          unfold ansD
          rw [hw, csOf_is ec]
          exact .tup upd_same (.cons (.str _) (.cons (k'.same (same_new nu)) .nil)))⟩⟩⟩⟩
    · refine ⟨_, rfl, rfl, _, rfl, way_no (by decide) ⟨_, rfl, rfl, _, rfl, way_is ⟨_, rfl, _, rfl, a, x, d, P', W, ps, rfl, hp, kx, fun e he b H' s' hb => ?_, fun cs ec g l60 l H' s' k' => ?_⟩⟩⟩
      · exact ⟨true, T.mm_BadRing_BadRing, fun _ a0 _ => ⟨_, rfl, rfl, b, _, _, _, true, rfl, hb, rfl, fun u h => h, T.kit_BadRing_SheetError, _, rfl, iteT ⟨_, rfl, rfl, b, _, _, _, false, rfl, hb, rfl, fun u h => h, T.kit_BadRing_BadSign, _, rfl, iteT ⟨_, rfl, rfl, rfl, b, _, _, rfl, hb, rfl, (by show 2 ≤ sizeLine; decide), fun u nu => ⟨_, rfl, rfl, _, rfl, ref_non ⟨_, rfl, q _ _ (s'.trans (same_new nu)) (by unfold ansD; rw [he]; exact .tup upd_same (.cons (.str _) (.cons (.str _) .nil)))⟩⟩⟩⟩⟩, fun z => Bool.noConfusion z⟩
      · exact ⟨_, rfl, rfl, _, rfl, way_no (by decide) ⟨_, rfl, rfl, _, rfl, non_non ⟨_, rfl, (by show 2 ≤ sizeLine; decide), fun u nu => q _ _ (s'.trans (same_new nu)) (by
          unfold ansD
          rw [ringW_good hp.ins ec g l60, csOf_is ec]
          exact .tup upd_same (.cons (.str _) (.cons (k'.same (same_new nu)) .nil)))⟩⟩⟩
    · refine ⟨_, rfl, rfl, _, rfl, way_no (by decide) ⟨_, rfl, rfl, _, rfl, way_no (by decide) ⟨_, rfl, rfl, _, rfl, way_is ⟨_, rfl, _, rfl, _, rfl, a, x, y, d, d', P', W, ps, rfl, hp, kx, ky, fun e he b H' s' hb => ?_, fun h1 h2 H' s' => ?_, fun cs ec g l60 h2 l H' s' k' => ?_⟩⟩⟩⟩
      · exact ⟨true, T.mm_BadRing_BadRing, fun _ a0 _ => ⟨_, rfl, rfl, b, _, _, _, true, rfl, hb, rfl, fun u h => h, T.kit_BadRing_SheetError, _, rfl, iteT ⟨_, rfl, rfl, b, _, _, _, false, rfl, hb, rfl, fun u h => h, T.kit_BadRing_BadSign, _, rfl, iteT ⟨_, rfl, rfl, rfl, b, _, _, rfl, hb, rfl, (by show 2 ≤ sizeLine; decide), fun u nu => ⟨_, rfl, rfl, _, rfl, ref_non ⟨_, rfl, q _ _ (s'.trans (same_new nu)) (by unfold ansD; rw [he]; exact .tup upd_same (.cons (.str _) (.cons (.str _) .nil)))⟩⟩⟩⟩⟩, fun z => Bool.noConfusion z⟩
      · exact ⟨false, T.mm_BadSign_BadRing, fun z => Bool.noConfusion z, fun _ => ⟨true, T.mm_BadSign_BadSign, fun _ a0 _ => ⟨_, rfl, rfl, rfl, _, _, true, rfl, fun u h => h, T.kit_BadSign_SheetError, _, rfl, iteT ⟨(by show 1 ≤ sizeLine; decide), fun u nu => ⟨_, rfl, rfl, _, rfl, ref_non ⟨_, rfl, q _ _ (s'.trans (same_new nu)) (by
          rw [ansD_sign h1 h2]
          exact .tup upd_same (.cons (.str _) .nil))⟩⟩⟩⟩, fun z => Bool.noConfusion z⟩⟩
      · exact ⟨_, rfl, rfl, _, rfl, non_non ⟨_, rfl, (by show 2 ≤ sizeLine; decide), fun u nu => q _ _ (s'.trans (same_new nu)) (by
          rw [ansD_say (ringW_good hp.ins ec g l60) h2, csOf_is ec]
          exact .tup upd_same (.cons (.str _) (.cons (k'.same (same_new nu)) .nil)))⟩⟩
end
end K02
set_option Elab.async false
set_option linter.all false
set_option maxRecDepth 100000
set_option maxHeartbeats 4000000
set_option exponentiation.threshold 5000
set_option pp.maxSteps 600
namespace K02
open PySem PySem.Spec PyProof.Rows L2 TkS
/-! a way there and back -/
def endP (ps : List (Int × Int)) (w : Int) : List Int := (ps.filter fun p => decide (p.2 = w)).map (·.1)
def endW (ps : List (Int × Int)) (q : Int) : List Int := (ps.filter fun p => decide (p.1 = q)).map (·.2)
theorem endP_mem {ps : List (Int × Int)} {w x : Int} (h : x ∈ endP ps w) : (x, w) ∈ ps := by
  obtain ⟨p, hp, rfl⟩ := List.mem_map.mp h
  obtain ⟨h1, h2⟩ := List.mem_filter.mp hp
  have := of_decide_eq_true h2
  rw [← this]
  exact h1
theorem endW_mem {ps : List (Int × Int)} {q x : Int} (h : x ∈ endW ps q) : (q, x) ∈ ps := by
  obtain ⟨p, hp, rfl⟩ := List.mem_map.mp h
  obtain ⟨h1, h2⟩ := List.mem_filter.mp hp
  have := of_decide_eq_true h2
  rw [← this]
  exact h1
theorem endP_pos {ps : List (Int × Int)} {q w : Int} (h : (q, w) ∈ ps) : 0 < (endP ps w).length :=
  List.length_pos_of_mem (List.mem_map.mpr ⟨(q, w), List.mem_filter.mpr ⟨h, decide_eq_true rfl⟩, rfl⟩)
theorem endW_pos {ps : List (Int × Int)} {q w : Int} (h : (q, w) ∈ ps) : 0 < (endW ps q).length :=
  List.length_pos_of_mem (List.mem_map.mpr ⟨(q, w), List.mem_filter.mpr ⟨h, decide_eq_true rfl⟩, rfl⟩)
theorem endP_len (ps : List (Int × Int)) (w : Int) : (endP ps w).length ≤ ps.length := by
  unfold endP
  rw [List.length_map]
  exact List.length_filter_le _ _
theorem endW_len (ps : List (Int × Int)) (w : Int) : (endW ps w).length ≤ ps.length := by
  unfold endW
  rw [List.length_map]
  exact List.length_filter_le _ _
theorem endP_map (ps : List (Int × Int)) (w : Int) : (((ps.map prD).filter fun d => decide ((prOf d).2 = w)).map fun d => PyData.int (prOf d).1) = (endP ps w).map PyData.int := by
  unfold endP
  rw [List.filter_map, List.map_map, List.map_map]
  rfl
theorem endW_map (ps : List (Int × Int)) (w : Int) : (((ps.map prD).filter fun d => decide ((prOf d).1 = w)).map fun d => PyData.int (prOf d).2) = (endW ps w).map PyData.int := by
  unfold endW
  rw [List.filter_map, List.map_map, List.map_map]
  rfl
theorem steps_snoc {ps : List (Int × Int)} {l : List Int} {x : Int} (s : Steps ps l) (h0 : 0 < l.length) (h : (if (l.length - 1) % 2 = 0 then (l.getD (l.length - 1) 0, x) else (x, l.getD (l.length - 1) 0)) ∈ ps) : Steps ps (l ++ [x]) := fun k hk => by
  rw [List.length_append] at hk
  have hk' : k < l.length := by simp at hk; omega
  by_cases c : k + 1 < l.length
  · have := s k c
    rw [getD_app, getD_app, if_pos hk', if_pos c]
    exact this
  · have e : k = l.length - 1 := by omega
    rw [getD_app, getD_app, if_pos hk', if_neg c]
    rw [← e] at h
    have z : [x].getD (k + 1 - l.length) 0 = x := by
      rw [show k + 1 - l.length = 0 by omega]
      rfl
    rw [z]
    exact h
theorem at_last {l : List Int} (h : 0 < l.length) : atI (l.map V.int) (-1) = some (.int (l.getD (l.length - 1) 0)) := by
  unfold atI ixN
  rw [if_neg (by decide), List.length_map, if_pos (by omega)]
  show (l.map V.int)[((-1 : Int) + (l.length : Int)).toNat]? = _
  rw [show ((-1 : Int) + (l.length : Int)).toNat = l.length - 1 by omega, List.getElem?_map, List.getD_eq_getElem?_getD, List.getElem?_eq_getElem (by omega)]
  rfl
theorem cut_mid {l : List Int} (h : 2 ≤ l.length) : cutV (l.map V.int) (some 1) (some (-1)) = ((l.drop 1).take (l.length - 2)).map V.int := by
  unfold cutV
  have e1 : HT.sIx (l.map V.int).length 0 (some 1) = 1 := by
    rw [List.length_map]
    show min 1 l.length = 1
    omega
  have e2 : HT.sIx (l.map V.int).length (l.map V.int).length (some (-1)) = l.length - 1 := by
    rw [List.length_map]
    show ((-1 : Int) + (l.length : Int)).toNat = _
    omega
  rw [e1, e2, ← List.map_drop, ← List.map_take, show l.length - 1 - 1 = l.length - 2 by omega]
theorem mem_getD {ns : List Int} {i : Nat} (h : i < ns.length) : ns.getD i 0 ∈ ns := by
  rw [List.getD_eq_getElem?_getD, List.getElem?_eq_getElem h]
  exact List.getElem_mem h
theorem keep_free {H H1 : Hp} {h A : Addr} (hd : Hand H h) (hd1 : Hand H1 h) (k : Keep h H H1) (n : H1 A = none) : H A = none := by
  cases e : H A with
  | none => rfl
  | some o =>
    have := k A o (hand_ne hd1 n) e
    rw [n] at this
    cases this
def sp_law_way : Sp := fun vs H Q _ => ∃ (h l : Addr) (ps : List (Int × Int)), vs = [.ref h, .ref l] ∧ Hand H h ∧ Dq H (.ref l) (.list (ps.map prD)) ∧ 0 < ps.length ∧ ps.length ≤ 25 ∧
  ∀ H' v cs, Keep h H H' → Hand H' h → RingG ps cs → cs.length ≤ 8 → Dq H' v (rowD cs) → Q v H'
section
variable {P : Program} {w : World} {K : PySem.W.Frag} {mg : Str → Option Value} {base : Heap}
theorem ok_law_way (T : Txt K mg) : FnOk P w K mg base CX0 3 T.f_law_way T.d_law_way ["_law_hand_here", "_law_pairs"] sp_law_way := by
  refine T.F_law_way.ok sc_law_way (fun vs H Q E h => ?_) (fun cdv A outer s H vs Q E hr h => ?_)
  · obtain ⟨h, l, ps, rfl, _⟩ := h
    rfl
  · obtain ⟨h, l, ps, rfl, hd, kl, p0, p25, hQ⟩ := h
    refine ⟨_, (pss_cons (ps_asg (pe_ix ix_list (pv 1) (pe_call (ok_law_take T) (hr.mono (by decide)) (by rfl) T.g_law_take T.F_law_take.kp T.b_law_take .nil pass0 (pa_cons (pv 0) (pa_cons (pe_callB call_len_seq (by rfl) T.m_len (by decide +kernel) (pa_cons (pv 1) pa_nil)) pa_nil))) (fun _ _ => rfl)) (pg_tup rfl (pgs_cons (pg_name (i := 2) sc_law_way.nd rfl (.inl rfl)) (pgs_cons (pg_name (i := 3) sc_law_way.nd rfl (.inl rfl)) pgs_nil))))
      (pss_cons (ps_set (i := 4) sc_law_way.nd rfl (.inl rfl) (pe_lst (pa_cons (pv 2) (pa_cons (pv 3) pa_nil))))
      (pss_cons (ps_for PassesOwn.never rfl (pi_range1 (by rfl) T.m_range (pa_cons (pe_call (ok_law_take T) (hr.mono (by decide)) (by rfl) T.g_law_take T.F_law_take.kp T.b_law_take .nil pass0 (pa_cons (pv 0) (pa_cons pe_int pa_nil))) pa_nil)) (pg_name (i := 5) sc_law_way.nd rfl (.inl rfl))
        (pss_cons (ps_set (i := 6) sc_law_way.nd rfl (.inr rfl) (pe_ix ix_list (pv 4) (pe_un un_neg pe_int) (fun _ _ => rfl)))
        (pss_cons (ps_if (pt_cmpR op_eq (pe_op op_mod (pe_callTy call_int1 (by rfl) T.m_int (by decide +kernel) (pa_cons (pe_callB call_len_seq (by rfl) T.m_len (by decide +kernel) (pa_cons (pv 4) pa_nil)) pa_nil)) pe_int) pe_int (nomark _))
          (pss_one (ps_setLc (i := 7) rfl sc_law_way.nd rfl rfl (sw_true rfl rfl rfl (by decide +kernel)) (pi_list (pv 1)) (blkOk_by (own := [("_law_pair", 10)]) (N := ["_law_hand_here", "_law_pairs", "_law_point", "_law_shut_here", "_law_way_here", "_law_k", "_law_last", "_law_ends", "_law_back", "_law_told", "_law_pair"]) (sc := defScope s_law_way) (by decide +kernel)) (fun _ _ _ _ _ => (pg_name (i := 10) sc_law_way.nd rfl (.inl rfl))) (fun _ _ _ _ _ => (pts_one (pt_cmpR op_eq (pe_ix (show IxR _ (rIx K) from ix_seq) (pv 10) pe_int (fun _ _ => rfl)) (pv 6) (nomark _)))) (fun _ _ _ _ _ => (pe_ix (show IxR _ (rIx K) from ix_seq) (pv 10) pe_int (fun _ _ => rfl)))))
          (pss_one (ps_setLc (i := 7) rfl sc_law_way.nd rfl rfl (sw_true rfl rfl rfl (by decide +kernel)) (pi_list (pv 1)) (blkOk_by (own := [("_law_pair", 10)]) (N := ["_law_hand_here", "_law_pairs", "_law_point", "_law_shut_here", "_law_way_here", "_law_k", "_law_last", "_law_ends", "_law_back", "_law_told", "_law_pair"]) (sc := defScope s_law_way) (by decide +kernel)) (fun _ _ _ _ _ => (pg_name (i := 10) sc_law_way.nd rfl (.inl rfl))) (fun _ _ _ _ _ => (pts_one (pt_cmpR op_eq (pe_ix (show IxR _ (rIx K) from ix_seq) (pv 10) pe_int (fun _ _ => rfl)) (pv 6) (nomark _)))) (fun _ _ _ _ _ => (pe_ix (show IxR _ (rIx K) from ix_seq) (pv 10) pe_int (fun _ _ => rfl))))))
        (pss_one (ps_expr (pe_bm PySem.F.plainAttrs_list PySem.F.slot_list_append PySem.F.type_list_append mt_append (pv 4) (pa_cons (pe_ix ix_list (pv 7) (pe_call (ok_law_take T) (hr.mono (by decide)) (by rfl) T.g_law_take T.F_law_take.kp T.b_law_take .nil pass0 (pa_cons (pv 0) (pa_cons (pe_callB call_len_seq (by rfl) T.m_len (by decide +kernel) (pa_cons (pv 7) pa_nil)) pa_nil))) (fun _ _ => rfl)) pa_nil)))))))
      (pss_cons (ps_set (i := 8) sc_law_way.nd rfl (.inl rfl) (pe_lstRev rfl (by rfl) T.m_list (by rfl) T.m_reversed (pe_slice sl_list (pv 4) (po_some pe_int) (po_some (pe_un un_neg pe_int)))))
      (pss_cons (ps_set (i := 9) sc_law_way.nd rfl (.inl rfl) (pe_op op_cat (pv 4) (pv 8)))
      (pss_one (ps_ret (pe_ifExp (pt_cmpR op_gt (pe_callB call_len_seq (by rfl) T.m_len (by decide +kernel) (pa_cons (pv 9) pa_nil)) pe_int (nomark _)) (pe_callTy call_tuple_of (by rfl) T.m_tuple (by decide +kernel) (pa_cons (pv 9) pa_nil)) (pe_callTy call_tuple_of (by rfl) T.m_tuple (by decide +kernel) (pa_cons (pe_op op_cat (pv 4) (pv 4)) pa_nil)))))))))), ?_⟩
    have klp : ∀ {G : Hp}, Keep h H G → Dq G (.ref l) (.list (ps.map prD)) := fun k => dq_kp hd k (noHd_prs ps) kl
    have lst_of : ∀ {G : Hp}, Dq G (.ref l) (.list (ps.map prD)) → ∃ ls, G l = some (.lst ls) ∧ DqAll G ls (ps.map prD) ∧ ls.length = ps.length := fun k => by
      cases k with
      | lst e t => exact ⟨_, e, t, by rw [t.len, List.length_map]⟩
    obtain ⟨ls, hl, _, lls⟩ := lst_of kl
    refine ⟨_, rfl, _, rfl, _, rfl, l, ls, rfl, .inl (SqL.of hl), h, _, rfl, hd, by omega, by omega, fun H1 r k1 hd1 r0 r1 => ?_⟩
    have kl1 := klp k1
    obtain ⟨ls1, hl1, dl1, lls1⟩ := lst_of kl1
    have lr : r.toNat < ls1.length := by omega
    have hx1 : ls1[r.toNat]? = some ls1[r.toNat] := List.getElem?_eq_getElem lr
    generalize ls1[r.toNat] = x1 at hx1
    obtain ⟨t0, p1, rfl, hp1, ht1⟩ := pr_items dl1 hx1
    refine ⟨l, ls1, r, _, rfl, rfl, SqL.of hl1, at_of (j := r.toNat) (by omega) hx1, ?_⟩
    refine ⟨t0, _, rfl, SqT.of ht1, rfl, _, _, rfl, _, _, rfl, rfl, ?_⟩
    refine ⟨_, rfl, _, rfl, (by show 2 ≤ sizeLine; decide), fun A nA => ?_⟩
    have Ah := hand_ne hd1 nA
    have HA : H A = none := keep_free hd hd1 k1 nA
    have s2 : Same H1 (upd H1 A (.lst [.int p1.1, .int p1.2])) := same_new nA
    refine ⟨_, rfl, h, 4, rfl, hd1.same s2, by decide, by decide, fun H3 m k3 hd3 m0 m4 => ⟨m, rfl, by omega, by omega, for_range (n := m.toNat) (fun i σ H' => ∃ (y5 y6 y7 : Option V) (ws : List Int), σ = [some (.ref h), some (.ref l), some (.int p1.1), some (.int p1.2), some (.ref A), y5, y6, y7, none, none, none] ∧ Keep h H H' ∧ Hand H' h ∧ H' A = some (.lst (ws.map V.int)) ∧ ws.length = 2 + i ∧ Steps ps ws)
      ⟨_, _, _, [p1.1, p1.2], rfl, (k1.trans (Keep.of s2)).trans k3, hd3, k3 _ _ Ah upd_same, rfl, fun k hk => by
        have : k = 0 := by simp at hk; omega
        subst this
        exact List.mem_of_getElem? hp1⟩ (fun i σ G hi hP => ?_) (fun σ G hP => ?_)⟩⟩
    · obtain ⟨y5, y6, y7, ws, rfl, kG, hdG, hA, lw, st⟩ := hP
      have lw2 : 2 ≤ ws.length := by omega
      obtain ⟨ls3, hl3, dl3, lls3⟩ := lst_of (klp kG)
      obtain ⟨last, elast⟩ : ∃ z, ws.getD (ws.length - 1) 0 = z := ⟨_, rfl⟩
      have stl := st (ws.length - 2) (by omega)
      rw [show ws.length - 2 + 1 = ws.length - 1 by omega, elast] at stl
      have atl := at_last (l := ws) (by omega)
      rw [elast] at atl
      refine ⟨_, rfl, _, rfl, A, _, -1, _, rfl, rfl, SqL.of hA, atl, ?_⟩
      refine ⟨_, rfl, A, _, rfl, .inl (SqL.of hA), .inl ⟨_, rfl, _, _, rfl, rfl, (by show (0 : Int) < 2; decide), rfl, _, rfl, ?_⟩⟩
      rw [int_dec, List.length_map]
      have key : ∀ {D : Addr} {H2 : Hp} (es : List Int), G D = none → Same G H2 → H2 D = some (.lst (es.map V.int)) → es.length ≤ 25 → 0 < es.length → (∀ x ∈ es, Steps ps (ws ++ [x])) →
          Hand H2 h ∧ (0 : Int) < (es.map V.int).length ∧ ((es.map V.int).length : Int).natAbs < 2 ^ 100 ∧ ∀ (H4 : Hp) (r : Int), Keep h H2 H4 → Hand H4 h → 0 ≤ r → r < ((es.map V.int).length : Int) → ∃ x, atI (es.map V.int) r = some (.int x) ∧ H4 D = some (.lst (es.map V.int)) ∧ H4 A = some (.lst (ws.map V.int)) ∧ (ws.map V.int).length < sizeLine ∧
            Keep h H (upd H4 A (.lst (ws.map V.int ++ [.int x]))) ∧ Hand (upd H4 A (.lst (ws.map V.int ++ [.int x]))) h ∧ (upd H4 A (.lst (ws.map V.int ++ [.int x]))) A = some (.lst ((ws ++ [x]).map V.int)) ∧ (ws ++ [x]).length = 2 + (i + 1) ∧ Steps ps (ws ++ [x]) := fun {D H2} es nD s h9 l25 l0 hst => by
        rw [List.length_map]
        refine ⟨hdG.same s, by omega, by omega, fun H4 r k4 hd4 r0 r1 => ?_⟩
        have lr : r.toNat < es.length := by omega
        have nDh := hand_ne hdG nD
        have kk := (kG.trans (Keep.of s)).trans k4
        refine ⟨es.getD r.toNat 0, at_of (j := r.toNat) (by omega) (by
          rw [List.getElem?_map, List.getD_eq_getElem?_getD, List.getElem?_eq_getElem lr]
          rfl), k4 _ _ nDh h9, k4 _ _ Ah (s _ _ hA), by rw [List.length_map]; exact small1000 (by omega), kk.putD hd HA, Hand.putD hd HA kk hd4, ?_, by rw [List.length_append, lw]; rfl, hst _ (mem_getD lr)⟩
        rw [upd_same, List.map_append]
        rfl
      by_cases c : ws.length % 2 = 0
      · rw [decide_eq_true (show (ws.length : Int) % 2 = 0 by omega)]
        refine iteT ⟨_, rfl, l, rfl, ⟨_, SqL.of hl3⟩, fun D nD => ?_⟩
        rw [if_pos (by omega)] at stl
        refine lc_listD (ds := ps.map prD) (fun d => decide ((prOf d).2 = last)) (fun d => .int (prOf d).1) (SqL.of hl3) dl3 nD (by rw [List.length_map]; omega) (fun _ => rfl) (fun k x d H6 Q2 hd' s6 kd q2 => ?_) (fun k x d H6 Q2 hd' _ s6 kd hD q2 => ?_) (fun H2 s6 kD => ?_)
        · rw [List.getElem?_map] at hd'
          obtain ⟨p, _, rfl⟩ := Option.map_eq_some_iff.mp hd'
          obtain ⟨_, tt, rfl, ht⟩ := prV_of kd
          refine ⟨_, rfl, .inr (.inl ⟨tt, _, 1, .int p.2, rfl, rfl, SqT.of ht, rfl, _, rfl, rfl, _, rfl, ?_⟩)⟩
          rw [int_dec]
          exact q2 _ fun _ _ z => z
        · rw [List.getElem?_map] at hd'
          obtain ⟨p, _, rfl⟩ := Option.map_eq_some_iff.mp hd'
          obtain ⟨_, tt, rfl, ht⟩ := prV_of kd
          exact ⟨_, rfl, .inr (.inl ⟨tt, _, 0, .int p.1, rfl, rfl, SqT.of ht, rfl, q2 _ _ (fun _ _ z => z) (.int _)⟩)⟩
        · rw [endP_map] at kD
          obtain ⟨a1, a2, a3, a4⟩ := key (endP ps last) nD s6 (dq_intsL kD) (Nat.le_trans (endP_len _ _) p25) (endP_pos stl) (fun x hx => steps_snoc st (by omega) (by
            rw [if_neg (by omega), elast]
            exact endP_mem hx))
          refine ⟨_, rfl, .inl ⟨rfl, _, SqL.of (s6 _ _ hA)⟩, _, rfl, _, rfl, _, rfl, D, _, rfl, .inl (SqL.of (dq_intsL kD)), h, _, rfl, a1, a2, a3, fun H4 r k4 hd4 r0 r1 => ?_⟩
          obtain ⟨x, b1, b2, b3, b4, b5, b6, b7, b8, b9⟩ := a4 H4 r k4 hd4 r0 r1
          exact ⟨D, _, r, _, rfl, rfl, SqL.of b2, b1, A, _, _, rfl, rfl, b3, b4, _, _, _, ws ++ [x], rfl, b5, b6, b7, b8, b9⟩
      · rw [decide_eq_false (show ¬ (ws.length : Int) % 2 = 0 by omega)]
        refine iteF ⟨_, rfl, l, rfl, ⟨_, SqL.of hl3⟩, fun D nD => ?_⟩
        rw [if_neg (by omega)] at stl
        refine lc_listD (ds := ps.map prD) (fun d => decide ((prOf d).1 = last)) (fun d => .int (prOf d).2) (SqL.of hl3) dl3 nD (by rw [List.length_map]; omega) (fun _ => rfl) (fun k x d H6 Q2 hd' s6 kd q2 => ?_) (fun k x d H6 Q2 hd' _ s6 kd hD q2 => ?_) (fun H2 s6 kD => ?_)
        · rw [List.getElem?_map] at hd'
          obtain ⟨p, _, rfl⟩ := Option.map_eq_some_iff.mp hd'
          obtain ⟨_, tt, rfl, ht⟩ := prV_of kd
          refine ⟨_, rfl, .inr (.inl ⟨tt, _, 0, .int p.1, rfl, rfl, SqT.of ht, rfl, _, rfl, rfl, _, rfl, ?_⟩)⟩
          rw [int_dec]
          exact q2 _ fun _ _ z => z
        · rw [List.getElem?_map] at hd'
          obtain ⟨p, _, rfl⟩ := Option.map_eq_some_iff.mp hd'
          obtain ⟨_, tt, rfl, ht⟩ := prV_of kd
          exact ⟨_, rfl, .inr (.inl ⟨tt, _, 1, .int p.2, rfl, rfl, SqT.of ht, rfl, q2 _ _ (fun _ _ z => z) (.int _)⟩)⟩
        · rw [endW_map] at kD
          obtain ⟨a1, a2, a3, a4⟩ := key (endW ps last) nD s6 (dq_intsL kD) (Nat.le_trans (endW_len _ _) p25) (endW_pos stl) (fun x hx => steps_snoc st (by omega) (by
            rw [if_pos (by omega), elast]
            exact endW_mem hx))
          refine ⟨_, rfl, .inl ⟨rfl, _, SqL.of (s6 _ _ hA)⟩, _, rfl, _, rfl, _, rfl, D, _, rfl, .inl (SqL.of (dq_intsL kD)), h, _, rfl, a1, a2, a3, fun H4 r k4 hd4 r0 r1 => ?_⟩
          obtain ⟨x, b1, b2, b3, b4, b5, b6, b7, b8, b9⟩ := a4 H4 r k4 hd4 r0 r1
          exact ⟨D, _, r, _, rfl, rfl, SqL.of b2, b1, A, _, _, rfl, rfl, b3, b4, _, _, _, ws ++ [x], rfl, b5, b6, b7, b8, b9⟩
    · obtain ⟨y5, y6, y7, ws, rfl, kG, hdG, hA, lw, st⟩ := hP
      have lw2 : 2 ≤ ws.length := by omega
      have lw5 : ws.length ≤ 5 := by omega
      have good := way_back lw2 lw5 st
      obtain ⟨bk, hbk⟩ : ∃ bk, ((ws.drop 1).take (ws.length - 2)).reverse = bk := ⟨_, rfl⟩
      have lb : bk.length = ws.length - 2 := by
        rw [← hbk, List.length_reverse, List.length_take, List.length_drop]
        omega
      rw [hbk] at good
      refine ⟨_, rfl, _, rfl, _, rfl, _, rfl, A, _, rfl, SqL.of hA, fun p np => ⟨p, _, rfl, SqL.of upd_same, fun q nq => ?_⟩⟩
      rw [cut_mid lw2] at nq
      rw [cut_mid lw2, ← List.map_reverse, hbk]
      have s5 := (same_new (o := .lst (((ws.drop 1).take (ws.length - 2)).map V.int)) np).trans (same_new (o := .lst (bk.map V.int)) nq)
      have hq : (upd (upd G p (.lst (((ws.drop 1).take (ws.length - 2)).map V.int))) q (.lst (bk.map V.int))) q = some (.lst (bk.map V.int)) := upd_same
      generalize upd (upd G p (.lst (((ws.drop 1).take (ws.length - 2)).map V.int))) q (.lst (bk.map V.int)) = H5 at s5 hq
      have hA5 := s5 _ _ hA
      refine ⟨_, rfl, _, rfl, A, q, _, _, rfl, rfl, hA5, hq, (by rw [List.length_map, List.length_map]; exact Nat.le_of_lt (small1000 (by omega))), fun t nt => ?_⟩
      have s6 := s5.trans (same_new (o := .lst (ws.map V.int ++ bk.map V.int)) nt)
      have ht6 : (upd H5 t (.lst (ws.map V.int ++ bk.map V.int))) t = some (.lst ((ws ++ bk).map V.int)) := by rw [upd_same, List.map_append]
      generalize upd H5 t (.lst (ws.map V.int ++ bk.map V.int)) = H6 at s6 ht6
      refine ⟨_, rfl, t, _, rfl, .inl (SqL.of ht6), _, _, rfl, rfl, _, rfl, ite2 (fun c => ?_) (fun c => ?_)⟩
      · have c' : (3 : Int) < (((ws ++ bk).map V.int).length : Nat) := of_decide_eq_true c
        rw [List.length_map] at c'
        rw [if_pos (by omega)] at good
        refine ⟨_, rfl, t, _, rfl, .inl ⟨SqL.of ht6, fun t2 n2 => ?_⟩⟩
        exact hQ _ _ (ws ++ bk) (kG.trans (Keep.of (s6.trans (same_new n2)))) (hdG.same (s6.trans (same_new n2))) good (by rw [List.length_append]; omega) (tupI upd_same)
      · have c' : ¬ (3 : Int) < (((ws ++ bk).map V.int).length : Nat) := fun z => c (decide_eq_true z)
        rw [List.length_map] at c'
        rw [if_neg (by omega)] at good
        have hA6 := s6 _ _ hA
        refine ⟨_, rfl, _, rfl, A, A, _, _, rfl, rfl, hA6, hA6, (by rw [List.length_map]; exact Nat.le_of_lt (small1000 (by omega))), fun t1 n1 => ⟨t1, _, rfl, .inl ⟨SqL.of upd_same, fun t2 n2 => ?_⟩⟩⟩
        have s7 := (s6.trans (same_new n1)).trans (same_new n2 (o := .tup (ws.map V.int ++ ws.map V.int)))
        refine hQ _ _ (ws ++ ws) (kG.trans (Keep.of s7)) (hdG.same s7) good ?_ (tupI ?_)
        · rw [List.length_append]
          rw [List.length_append] at c'
          omega
        · rw [upd_same, List.map_append]
end
end K02
set_option Elab.async false
set_option linter.all false
set_option maxRecDepth 100000
set_option maxHeartbeats 4000000
set_option exponentiation.threshold 5000
set_option pp.maxSteps 600
namespace K02
open PySem PySem.Spec PyProof.Rows L2 TkS
/-! rings glued together -/
theorem noHds_ints (ns : List Int) : noHds (ns.map PyData.int) = true := noHds_all.mpr fun d m => by
  obtain ⟨n, _, rfl⟩ := List.mem_map.mp m
  rfl
theorem noHd_row (r : List Int) : noHd (rowD r) = true := noHds_ints r
theorem noHd_rows (rs : List (List Int)) : noHd (.list (rs.map rowD)) = true := noHd_list (fun d m => by
  obtain ⟨r, _, rfl⟩ := List.mem_map.mp m
  exact noHd_row r) (.inr fun d m es e => by
  obtain ⟨r, _, rfl⟩ := List.mem_map.mp m
  cases e)
theorem row_tup {H : Hp} {v : V} {r : List Int} (k : Dq H v (rowD r)) : ∃ a, v = .ref a ∧ H a = some (.tup (r.map V.int)) := dq_tupI k
theorem rep_map (m : Nat) (a : List Int) : (List.replicate m (a.map V.int)).flatten = (repL m a).map V.int := by
  unfold repL
  rw [List.map_flatten, List.map_replicate]
theorem rep_mapD (m : Nat) (a : List Int) : (List.replicate m (a.map PyData.int)).flatten = (repL m a).map PyData.int := by
  unfold repL
  rw [List.map_flatten, List.map_replicate]
theorem eqv_emptyT (ds : List PyData) : PyData.eqv (.tuple ds) (.tuple []) = ds.isEmpty := by
  cases ds <;> simp [PyData.eqv, PyData.eqvAll]
theorem isE_map {α β : Type} (f : α → β) (l : List α) : (l.map f).isEmpty = l.isEmpty := by
  cases l <;> rfl
def sp_law_long : Sp := fun vs H Q _ => ∃ (h l rr : Addr) (ps : List (Int × Int)) (rs : List (List Int)), vs = [.ref h, .ref l, .ref rr] ∧ Hand H h ∧ Dq H (.ref l) (.list (ps.map prD)) ∧ 0 < ps.length ∧ ps.length ≤ 25 ∧ Dq H (.ref rr) (.list (rs.map rowD)) ∧ rs.length ≤ 1000 ∧ (∀ r ∈ rs, RingG ps r ∧ r.length ≤ 6) ∧
  ∀ H' v cs, Keep h H H' → Hand H' h → RingG ps cs → cs.length ≤ 64 → Dq H' v (rowD cs) → Q v H'
section
variable {P : Program} {w : World} {K : PySem.W.Frag} {mg : Str → Option Value} {base : Heap}
theorem ok_law_long (T : Txt K mg) : FnOk P w K mg base CX0 4 T.f_law_long T.d_law_long ["_law_hand_here", "_law_pairs", "_law_rings_here"] sp_law_long := by
  refine T.F_law_long.ok sc_law_long (fun vs H Q E h => ?_) (fun cdv A outer s H vs Q E hr h => ?_)
  · obtain ⟨h, l, rr, ps, rs, rfl, _⟩ := h
    rfl
  · obtain ⟨h, l, rr, ps, rs, rfl, hd, kl, p0, p25, kr, r1000, good, hQ⟩ := h
    refine ⟨_, (pss_cons (ps_if (PW.pt (pw_or (pt_not (pt_truth (pv 2) (by intro _; rfl))) (pw_or1 (pt_cmpR op_eq (pe_call (ok_law_take T) (hr.mono (by decide)) (by rfl) T.g_law_take T.F_law_take.kp T.b_law_take .nil pass0 (pa_cons (pv 0) (pa_cons pe_int pa_nil))) pe_int (nomark _)))))
        (pss_one (ps_ret (pe_call (ok_law_way T) (hr.mono (by decide)) (by rfl) T.g_law_way T.F_law_way.kp T.b_law_way .nil pass0 (pa_cons (pv 0) (pa_cons (pv 1) pa_nil)))))
        pss_nil)
      (pss_cons (ps_set (i := 3) sc_law_long.nd rfl (.inl rfl) (pe_tup pa_nil))
      (pss_cons (ps_for PassesOwn.never rfl (pi_range1 (by rfl) T.m_range (pa_cons (pe_op op_add pe_int (pe_call (ok_law_take T) (hr.mono (by decide)) (by rfl) T.g_law_take T.F_law_take.kp T.b_law_take .nil pass0 (pa_cons (pv 0) (pa_cons pe_int pa_nil)))) pa_nil)) (pg_name (i := 4) sc_law_long.nd rfl (.inl rfl))
        (pss_cons (ps_set (i := 5) sc_law_long.nd rfl (.inl rfl) (pe_ix ix_list (pv 2) (pe_call (ok_law_take T) (hr.mono (by decide)) (by rfl) T.g_law_take T.F_law_take.kp T.b_law_take .nil pass0 (pa_cons (pv 0) (pa_cons (pe_callB call_len_seq (by rfl) T.m_len (by decide +kernel) (pa_cons (pv 2) pa_nil)) pa_nil))) (fun _ _ => rfl)))
        (pss_cons (ps_set (i := 6) sc_law_long.nd rfl (.inl rfl) (pe_op op_mul pe_int (pe_call (ok_law_take T) (hr.mono (by decide)) (by rfl) T.g_law_take T.F_law_take.kp T.b_law_take .nil pass0 (pa_cons (pv 0) (pa_cons (pe_op op_fdiv (pe_callB call_len_seq (by rfl) T.m_len (by decide +kernel) (pa_cons (pv 5) pa_nil)) pe_int) pa_nil)))))
        (pss_cons (ps_set (i := 5) sc_law_long.nd rfl (.inl rfl) (pe_op op_catD (pe_slice sl_tupD (pv 5) (po_some (pv 6)) po_none) (pe_slice sl_tupD (pv 5) po_none (po_some (pv 6)))))
        (pss_one (ps_if (PW.pt (pw_or (pt_cmpR (op_eqD hr.units) (pv 3) (pe_tup pa_nil) (nomark _)) (pw_or1 (pt_cmpR op_eq (pe_ix ix_seq (pv 5) pe_int (fun _ _ => rfl)) (pe_ix ix_seq (pv 3) pe_int (fun _ _ => rfl)) (nomark _)))))
          (pss_one (ps_set (i := 3) sc_law_long.nd rfl (.inl rfl) (pe_op op_catD (pv 3) (pv 5))))
          pss_nil))))))
      (pss_cons (ps_set (i := 7) sc_law_long.nd rfl (.inl rfl) (pe_ix ix_tup (pe_tup (pa_cons pe_int (pa_cons pe_int (pa_cons pe_int (pa_cons pe_int (pa_cons pe_int (pa_cons pe_int (pa_cons pe_int (pa_cons pe_int pa_nil))))))))) (pe_call (ok_law_take T) (hr.mono (by decide)) (by rfl) T.g_law_take T.F_law_take.kp T.b_law_take .nil pass0 (pa_cons (pv 0) (pa_cons pe_int pa_nil))) (fun _ _ => rfl)))
      (pss_one (ps_ret (pe_op op_repN (pv 3) (pe_callB (call_min2 rfl) (by rfl) T.m_min (by decide +kernel) (pa_cons (pv 7) (pa_cons (pe_op op_fdiv pe_int (pe_callB call_len_seq (by rfl) T.m_len (by decide +kernel) (pa_cons (pv 3) pa_nil))) pa_nil)))))))))), ?_⟩
    have krp : ∀ {G : Hp}, Keep h H G → Dq G (.ref rr) (.list (rs.map rowD)) := fun k => dq_kp hd k (noHd_rows rs) kr
    have lst_of : ∀ {G : Hp}, Dq G (.ref rr) (.list (rs.map rowD)) → ∃ ls, G rr = some (.lst ls) ∧ DqAll G ls (rs.map rowD) ∧ ls.length = rs.length := fun k => by
      cases k with
      | lst e t => exact ⟨_, e, t, by rw [t.len, List.length_map]⟩
    obtain ⟨ls, hl, dl, lls⟩ := lst_of kr
    have way : ∀ {G : Hp}, Keep h H G → Hand G h → sp_law_way [.ref h, .ref l] G Q E0 := fun {G} k hdG =>
      ⟨h, l, ps, rfl, hdG, dq_kp hd k (noHd_prs ps) kl, p0, p25, fun H' v cs k' hd' g l8 kv => hQ H' v cs (k.trans k') hd' g (by omega) kv⟩
    refine ⟨_, rfl, !ls.isEmpty, .inl ⟨ls, SqL.of hl, rfl⟩, ?_⟩
    cases hb : ls.isEmpty with
    | true => exact iteT (iteT ⟨_, rfl, _, rfl, way Keep.refl hd⟩)
    | false =>
      have r0 : 0 < rs.length := by
        cases ls with
        | nil => cases hb
        | cons a b => rw [← lls]; exact Nat.succ_pos _
      refine iteF ⟨_, rfl, h, 6, rfl, hd, by decide, by decide, fun H1 z k1 hd1 z0 z6 => ⟨rfl, _, rfl, ?_⟩⟩
      rw [int_dec]
      by_cases cz : z = 0
      · rw [decide_eq_true cz]
        exact iteT ⟨_, rfl, _, rfl, way k1 hd1⟩
      rw [decide_eq_false cz]
      refine iteF ⟨Nat.zero_le _, fun t0 n0 => ?_⟩
      have s1 : Same H1 (upd H1 t0 (.tup [])) := same_new n0
      have kt0 : Dq (upd H1 t0 (.tup [])) (.ref t0) (rowD []) := .tup upd_same .nil
      generalize upd H1 t0 (.tup []) = H2 at s1 kt0
      refine ⟨_, rfl, h, 3, rfl, hd1.same s1, by decide, by decide, fun H3 m k3 hd3 m0 m3 => ⟨_, _, rfl, rfl, 1 + m, rfl, by omega, by omega, for_range (n := (1 + m).toNat) (fun i σ G => ∃ (t : Addr) (told : List Int) (y4 y5 y6 : Option V), σ = [some (.ref h), some (.ref l), some (.ref rr), some (.ref t), y4, y5, y6, none] ∧ Keep h H G ∧ Hand G h ∧ Dq G (.ref t) (rowD told) ∧ ((i = 0 ∧ told = []) ∨ (RingG ps told ∧ told.length ≤ 6 * i)))
        ⟨t0, [], _, _, _, rfl, (k1.trans (Keep.of s1)).trans k3, hd3, dq_kp (hd1.same s1) k3 (noHd_row []) kt0, .inl ⟨rfl, rfl⟩⟩ (fun i σ G hi hP => ?_) (fun σ G hP => ?_)⟩⟩
      · obtain ⟨t, told, y4, y5, y6, rfl, kG, hdG, kt, st⟩ := hP
        obtain ⟨ls3, hl3, dl3, lls3⟩ := lst_of (krp kG)
        refine ⟨_, rfl, _, rfl, _, rfl, rr, ls3, rfl, .inl (SqL.of hl3), h, _, rfl, hdG, by omega, by omega, fun H4 r k4 hd4 ra rb => ?_⟩
        have kG4 := kG.trans k4
        obtain ⟨ls4, hl4, dl4, lls4⟩ := lst_of (krp kG4)
        have lr : r.toNat < ls4.length := by omega
        have hx : ls4[r.toNat]? = some ls4[r.toNat] := List.getElem?_eq_getElem lr
        generalize ls4[r.toNat] = x at hx
        obtain ⟨dx, hdx, kdx⟩ := dl4.get hx
        rw [List.getElem?_map] at hdx
        obtain ⟨ring, hring, rfl⟩ := Option.map_eq_some_iff.mp hdx
        obtain ⟨gr, l6⟩ := good ring (List.mem_of_getElem? hring)
        have r4 := gr.four
        refine ⟨rr, ls4, r, _, rfl, rfl, SqL.of hl4, at_of (j := r.toNat) (by omega) hx, ?_⟩
        obtain ⟨a, rfl, ha⟩ := row_tup kdx
        have kt4 := dq_kp hdG k4 (noHd_row told) kt
        have kG4' := krp kG4
        refine ⟨_, rfl, _, rfl, a, _, rfl, .inr (SqT.of ha), _, _, rfl, rfl, ⟨by decide, by decide⟩, h, _, rfl, hd4, ?_, ?_, fun H5 q k5 hd5 q0 q1 => ?_⟩
        · rw [List.length_map]
          omega
        · rw [List.length_map]
          omega
        rw [List.length_map] at q1
        have kG5 := kG4.trans k5
        obtain ⟨n, rfl⟩ : ∃ n : Nat, q = (n : Int) := ⟨q.toNat, by omega⟩
        have e2 : (2 : Int) * (n : Int) = ((2 * n : Nat) : Int) := by omega
        have kd5 : Dq H5 (.ref a) (rowD ring) := dq_kp hd4 k5 (noHd_row ring) kdx
        have kt5 := dq_kp hd4 k5 (noHd_row told) kt4
        refine ⟨_, _, rfl, rfl, .inl ⟨by decide, by decide⟩, ?_⟩
        dsimp only
        rw [e2]
        have n2 : 2 * n < ring.length := by omega
        have gr' := gr.rot (t := 2 * n) n2 (by omega)
        have lr' := rot_len (a := ring) (t := 2 * n) (by omega)
        refine ⟨_, rfl, _, rfl, _, rfl, ring.map PyData.int, kd5, fun l6' H6 s6 k6 => ⟨_, rfl, _, rfl, _, rfl, ring.map PyData.int, kd5.same s6, fun l7 H7 s7 k7 => ?_⟩⟩
        rw [cutD_lo] at k6
        rw [cutD_hi] at k7
        rw [← List.map_drop] at k6
        rw [← List.map_take] at k7
        refine ⟨_, _, k6.same s7, k7, by rw [List.length_map, List.length_map, List.length_drop, List.length_take]; omega, fun l8 H8 s8 k8 => ?_⟩
        rw [← List.map_append] at k8
        have kr8 : Dq H8 (.ref l8) (rowD (ring.drop (2 * n) ++ ring.take (2 * n))) := k8
        generalize ring.drop (2 * n) ++ ring.take (2 * n) = ring' at kr8 gr' lr'
        have s58 := (s6.trans s7).trans s8
        have kG8 := kG5.trans (Keep.of s58)
        have hd8 := hd5.same s58
        have kt8 := kt5.same s58
        refine ⟨_, rfl, Nat.zero_le _, fun t9 n9 => ?_⟩
        have s9 : Same H8 (upd H8 t9 (.tup [])) := same_new n9
        have k9 : Dq (upd H8 t9 (.tup [])) (.ref t9) (.tuple []) := .tup upd_same .nil
        generalize upd H8 t9 (.tup []) = H9 at s9 k9
        have kr9 := kr8.same s9
        have kt9 := kt8.same s9
        have kG9 := kG8.trans (Keep.of s9)
        have hd9 := hd8.same s9
        refine ⟨_, _, kt9.dp, k9.dp, shp_ints told, shp_ints [], _, rfl, ?_⟩
        rw [show rowD told = .tuple (told.map PyData.int) from rfl, eqv_emptyT, isE_map]
        have r4' := gr'.four
        have join : (told = [] ∨ (RingG ps told ∧ told.length ≤ 6 * i ∧ told.getD 0 0 = ring'.getD 0 0)) → RingG ps (told ++ ring') ∧ (told ++ ring').length ≤ 6 * (i + 1) := fun hh => by
          rcases hh with rfl | ⟨g, lg, ee⟩
          · exact ⟨gr', by rw [List.nil_append]; omega⟩
          · exact ⟨g.cat gr' ee, by rw [List.length_append]; omega⟩
        have i3 : i < 3 := by omega
        have add : (told = [] ∨ (RingG ps told ∧ told.length ≤ 6 * i ∧ told.getD 0 0 = ring'.getD 0 0)) → rCatD (.ref t) (.ref l8) H9 fun x H' => ∃ (t : Addr) (told : List Int) (y4' y5 y6 : Option V), [some (.ref h), some (.ref l), some (.ref rr), some x, some (.int (0 + (i : Int))), some (V.ref l8), some (.int ((2 * n : Nat) : Int)), none] = [some (V.ref h), some (.ref l), some (.ref rr), some (.ref t), y4', y5, y6, none] ∧ Keep h H H' ∧ Hand H' h ∧ Dq H' (.ref t) (rowD told) ∧ ((i + 1 = 0 ∧ told = []) ∨ (RingG ps told ∧ told.length ≤ 6 * (i + 1))) := fun hh => by
          obtain ⟨j1, j2⟩ := join hh
          refine ⟨told.map PyData.int, ring'.map PyData.int, kt9, kr9, ?_, fun lA HA sA kA => ?_⟩
          · rw [List.length_map, List.length_map, ← List.length_append]
            omega
          · rw [← List.map_append] at kA
            exact ⟨lA, told ++ ring', _, _, _, rfl, kG9.trans (Keep.of sA), hd9.same sA, kA, .inr ⟨j1, j2⟩⟩
        rcases st with ⟨i0, rfl⟩ | ⟨gt, lt⟩
        · exact iteT (iteT ⟨_, rfl, _, rfl, add (.inl rfl)⟩)
        · have t4 := gt.four
          have ne : told.isEmpty = false := by
            cases told with
            | nil => simp at t4
            | cons a b => rfl
          rw [ne]
          obtain ⟨_, z1, h1⟩ := row_tup kr9
          cases z1
          obtain ⟨_, z2, h2⟩ := row_tup kt9
          cases z2
          refine iteF ⟨_, rfl, .inr (.inl ⟨l8, _, 0, _, rfl, rfl, SqT.of h1, at_int (k := 0) (by omega), ⟨_, rfl, .inr (.inl ⟨t, _, 0, _, rfl, rfl, SqT.of h2, at_int (k := 0) (by omega), rfl, _, rfl, ?_⟩)⟩⟩)⟩
          rw [int_dec]
          by_cases c : ring'.getD 0 0 = told.getD 0 0
          · rw [decide_eq_true c]
            exact iteT ⟨_, rfl, _, rfl, add (.inr ⟨gt, lt, c.symm⟩)⟩
          · rw [decide_eq_false c]
            exact iteF ⟨t, told, _, _, _, rfl, kG9, hd9, kt9, .inr ⟨gt, by omega⟩⟩
      · obtain ⟨t, told, y4, y5, y6, rfl, kG, hdG, kt, st⟩ := hP
        obtain ⟨gt, lt⟩ : RingG ps told ∧ told.length ≤ 18 := by
          rcases st with ⟨i0, _⟩ | ⟨g, l⟩
          · omega
          · exact ⟨g, by omega⟩
        have t4 := gt.four
        refine ⟨(by show 8 ≤ sizeLine; decide), fun u nu => ?_⟩
        have s1 := same_new (o := .tup [.int 1, .int 1, .int 1, .int 2, .int 3, .int 10, .int 15, .int 16]) nu
        have hu : (upd G u (.tup [.int 1, .int 1, .int 1, .int 2, .int 3, .int 10, .int 15, .int 16])) u = some (.tup [.int 1, .int 1, .int 1, .int 2, .int 3, .int 10, .int 15, .int 16]) := upd_same
        have nuh := hand_ne hdG nu
        have hd1' := hdG.same s1
        have kt1 := kt.same s1
        have kG1 := kG.trans (Keep.of s1)
        generalize upd G u (.tup [.int 1, .int 1, .int 1, .int 2, .int 3, .int 10, .int 15, .int 16]) = G1 at s1 hu hd1' kt1 kG1
        refine ⟨_, rfl, h, 8, rfl, hd1', by decide, by decide, fun H5 r k5 hd5 ra r8 => ?_⟩
        obtain ⟨m, hm, m1, m16⟩ : ∃ m : Int, atI [V.int 1, .int 1, .int 1, .int 2, .int 3, .int 10, .int 15, .int 16] r = some (.int m) ∧ 1 ≤ m ∧ m ≤ 16 := by
          obtain c | c | c | c | c | c | c | c : r = 0 ∨ r = 1 ∨ r = 2 ∨ r = 3 ∨ r = 4 ∨ r = 5 ∨ r = 6 ∨ r = 7 := by omega
          · subst c; exact ⟨1, rfl, by decide, by decide⟩
          · subst c; exact ⟨1, rfl, by decide, by decide⟩
          · subst c; exact ⟨1, rfl, by decide, by decide⟩
          · subst c; exact ⟨2, rfl, by decide, by decide⟩
          · subst c; exact ⟨3, rfl, by decide, by decide⟩
          · subst c; exact ⟨10, rfl, by decide, by decide⟩
          · subst c; exact ⟨15, rfl, by decide, by decide⟩
          · subst c; exact ⟨16, rfl, by decide, by decide⟩
        refine ⟨u, _, r, _, rfl, rfl, SqT.of (k5 _ _ nuh hu), hm, ?_⟩
        have kt5 := dq_kp hd1' k5 (noHd_row told) kt1
        have kG5 := kG1.trans k5
        obtain ⟨_, z2, h2⟩ := row_tup kt5
        cases z2
        refine ⟨_, rfl, _, rfl, _, rfl, t, _, rfl, .inr (SqT.of h2), _, _, rfl, rfl, ⟨by rw [List.length_map]; omega, by rw [List.length_map]; omega⟩, _, _, rfl, ?_⟩
        rw [List.length_map]
        obtain ⟨d, de⟩ : ∃ d : Nat, d = 64 / told.length := ⟨_, rfl⟩
        have hdv : (64 : Int) / (told.length : Int) = (d : Int) := by
          rw [de]
          exact (Int.natCast_ediv 64 told.length).symm
        have d3 : 3 ≤ 64 / told.length := (Nat.le_div_iff_mul_le (by omega)).mpr (by omega)
        have dl := Nat.div_mul_le_self 64 told.length
        have d64 : 64 / told.length ≤ 64 := Nat.div_le_self _ _
        rw [← de] at d3 dl d64
        rw [hdv]
        clear hdv de
        obtain ⟨kk, hk⟩ : ∃ kk : Int, (if (d : Int) < m then (d : Int) else m) = kk := ⟨_, rfl⟩
        rw [hk]
        have kk1 : 1 ≤ kk := by
          rw [← hk]
          by_cases c : (d : Int) < m
          · rw [if_pos c]; omega
          · rw [if_neg c]; omega
        have kkd : kk ≤ d := by
          rw [← hk]
          by_cases c : (d : Int) < m
          · rw [if_pos c]; exact Int.le_refl _
          · rw [if_neg c]; omega
        have kl64 : kk.toNat * told.length ≤ 64 := Nat.le_trans (Nat.mul_le_mul (show kk.toNat ≤ d by omega) (Nat.le_refl _)) dl
        refine ⟨t, kk, _, rfl, rfl, SqT.of h2, ?_, kk1, by omega, by rw [List.length_map]; omega, fun c => ?_, fun c p np => ?_⟩
        · intro z
          have := congrArg List.length z
          rw [List.length_map] at this
          simp at this
          rw [this] at t4
          simp at t4
        · exact hQ H5 _ told kG5 hd5 gt (by omega) kt5
        · refine hQ _ _ (repL kk.toNat told) (kG5.trans (Keep.of (same_new np))) (hd5.same (same_new np)) (gt.rep _ (by omega)) (by rw [repL_len]; exact kl64) (tupI ?_)
          rw [upd_same, rep_map]
end
end K02
set_option Elab.async false
set_option linter.all false
set_option maxRecDepth 100000
set_option maxHeartbeats 4000000
set_option exponentiation.threshold 5000
set_option pp.maxSteps 600
namespace K02
open PySem PySem.Spec PyProof.Rows L2 TkS
/-! all that is asked of a good ring -/
theorem low_rt {ps : List (Int × Int)} {cs : List Int} : low 1 (Rt ps cs) = true := low_ints _
theorem low_row {r : List Int} : low 1 (rowD r) = true := low_ints _
theorem low_tag {n : Nat} {t : Str} {v : PyData} (ht : PyData.canLay0 (.str t) = true) (h : low n v = true) : low (n + 1) (tagD t v) = true := low_tup fun x m => by
  rcases List.mem_cons.mp m with e | m
  · subst e
    unfold low
    exact ht
  · rw [List.mem_singleton.mp m]
    exact h
theorem lay_let : PyData.canLay0 (.str "let") = true := by decide +kernel
theorem lay_ring : PyData.canLay0 (.str "ring") = true := by decide +kernel
theorem low_side {cs : List Int} {k : Nat} : low 2 (sideD cs k) = true := low_tup fun x m => by
  rcases List.mem_cons.mp m with e | m
  · subst e
    exact low_tup fun x m => by
      rcases List.mem_cons.mp m with e | m
      · subst e; exact low_int
      · rw [List.mem_singleton.mp m]; exact low_int
  · rw [List.mem_singleton.mp m]
    exact low_int
/-- the side of a ring at a place -/
theorem side_at {H : Hp} {xs : List V} {cs : List Int} {k : Nat} (h : DqAll H xs (sidesL cs cs.length)) (hk : k < cs.length) : ∃ x, xs[k]? = some x ∧ Dq H x (sideD cs k) := by
  have lx := h.len
  rw [sidesL_len] at lx
  have hx : xs[k]? = some xs[k] := List.getElem?_eq_getElem (by omega)
  obtain ⟨d, hd, kd⟩ := h.get hx
  unfold sidesL at hd
  rw [List.getElem?_map, List.getElem?_range hk] at hd
  cases hd
  exact ⟨_, hx, kd⟩
def sp_law_good (C : Addr) : Sp := fun vs H Q _ => ∃ (a l : Addr) (x : V) (sg : Int) (d : PyData) (cs : List Int) (P W : Int) (ps : List (Int × Int)), vs = [.ref a, .ref l, x, .int sg] ∧ Pic C H a P W ps ∧ Dq H (.ref l) (.list (ps.map prD)) ∧ Dq H x d ∧ itemsD d = some (cs.map PyData.int) ∧ RingG ps cs ∧ cs.length ≤ 60 ∧ 0 ≤ sg ∧ sg ≤ 1 ∧
  ∀ H', Same H H' → Q (.bl true) H'
section
variable {P : Program} {w : World} {K : PySem.W.Frag} {mg : Str → Option Value} {base : Heap}
theorem ok_law_good (T : Txt K mg) : FnG P w K mg base CX0 11 T.f_law_good T.d_law_good ["_law_picture_here", "_law_pairs", "_law_corners", "_law_sign"] (sp_law_good T.C_Picture) := by
  refine FnG.of_fun T.F_law_good sc_law_good (fun vs H Q E h => ?_) (fun cdv A outer s H vs Q E gd hr h => ?_)
  · obtain ⟨a, l, x, sg, d, cs, P', W, ps, rfl, _⟩ := h
    rfl
  · obtain ⟨a, l, x, sg, d, cs, P', W, ps, rfl, hp, kl, kx, it, g, l60, s0, s1, hQ⟩ := h
    have hu := hu65 hr
    have gd' : (A.deeper (envOfC "_law_good" (defScope s_law_good) s.heap.objs.size T.f_law_good cdv)).guards = some [] := gd
    refine ⟨_, (pss_cons (ps_set (i := 4) sc_law_good.nd rfl (.inl rfl) (pe_call (ok_law_ring_tour T) (hr.mono (by decide)) (by rfl) T.g_law_ring_tour T.F_law_ring_tour.kp T.b_law_ring_tour .nil pass0 (pa_cons (pv 1) (pa_cons (pv 2) pa_nil))))
      (pss_cons (ps_set (i := 5) sc_law_good.nd rfl (.inl rfl) (pe_callB (call_reprI gd' hu) (by rfl) T.m_repr (by decide +kernel) (pa_cons (pv 2) pa_nil)))
      (pss_cons (ps_if (PW.pt (pw_or (pt_cmpR (op_neD hr.units) (pe_call (ok_law_asked T) (hr.mono (by decide)) (by rfl) T.g_law_asked T.F_law_asked.kp T.b_law_asked .nil pass0 (pa_cons pe_int (pa_cons (pv 0) (pa_cons (pv 2) (pa_cons pe_int pa_nil))))) (pe_tup (pa_cons pe_str (pa_cons (pe_callTy call_tupD (by rfl) T.m_tuple (by decide +kernel) (pa_cons (pv 2) pa_nil)) pa_nil))) (nomark _)) (pw_or1 (pt_not (pt_val (pe_call (ok_law_tuple T) (hr.mono (by decide)) (by rfl) T.g_law_tuple T.F_law_tuple.kp T.b_law_tuple .nil pass0 (pa_cons (pe_call (ok_ring_tour T) (hr.mono (by decide)) (by rfl) T.g_ring_tour T.F_ring_tour.kp T.b_ring_tour .nil passE0 (pa_cons (pv 0) (pa_cons (pe_callTy call_lstD (by rfl) T.m_list (by decide +kernel) (pa_cons (pv 2) pa_nil)) pa_nil))) (pa_cons (pv 4) pa_nil))))))))
        (pss_one (ps_ret pe_bl))
        pss_nil)
      (pss_cons (ps_if (pt_cmpR (op_neD hr.units) (pe_call (ok_law_asked T) (hr.mono (by decide)) (by rfl) T.g_law_asked T.F_law_asked.kp T.b_law_asked .nil pass0 (pa_cons pe_int (pa_cons (pv 0) (pa_cons (pv 2) (pa_cons (pv 3) pa_nil))))) (pe_tup (pa_cons pe_str (pa_cons (pe_tup (pa_cons (pv 4) (pa_cons (pv 3) pa_nil))) pa_nil))) (nomark _))
        (pss_one (ps_ret pe_bl))
        pss_nil)
      (pss_cons (ps_set (i := 6) sc_law_good.nd rfl (.inl rfl) (pe_call (ok_ring_sides T) (hr.mono (by decide)) (by rfl) T.g_ring_sides T.F_ring_sides.kp T.b_ring_sides .nil pass0 (pa_cons (pv 2) pa_nil)))
      (pss_cons (ps_set (i := 7) sc_law_good.nd rfl (.inl rfl) (pe_call (ok_turned_ring T) (hr.mono (by decide)) (by rfl) T.g_turned_ring T.F_turned_ring.kp T.b_turned_ring .nil pass0 (pa_cons (pv 2) pa_nil)))
      (pss_cons (ps_set (i := 8) sc_law_good.nd rfl (.inl rfl) (pe_callB call_len_seq (by rfl) T.m_len (by decide +kernel) (pa_cons (pv 2) pa_nil)))
      (pss_cons (ps_if (PW.pt (pw_or (pt_not (pt_val (pe_callB call_isi (by rfl) T.m_isinstance (by decide +kernel) (pa_cons (pv 6) (pa_cons (pe_bltn (v := .ty "tuple") (u := .type "tuple") (by rfl) T.m_tuple (by decide +kernel) rfl) pa_nil))))) (pw_or (pt_cmpR op_ne (pe_callB call_len_seq (by rfl) T.m_len (by decide +kernel) (pa_cons (pv 6) pa_nil)) (pv 8) (nomark _)) (pw_or (pt_not (pt_val (pe_callB call_isi (by rfl) T.m_isinstance (by decide +kernel) (pa_cons (pv 7) (pa_cons (pe_bltn (v := .ty "tuple") (u := .type "tuple") (by rfl) T.m_tuple (by decide +kernel) rfl) pa_nil))))) (pw_or1 (pt_cmpR op_ne (pe_callB call_len_seq (by rfl) T.m_len (by decide +kernel) (pa_cons (pv 7) pa_nil)) (pv 8) (nomark _)))))))
        (pss_one (ps_ret pe_bl))
        pss_nil)
      (pss_cons (ps_set (i := 9) sc_law_good.nd rfl (.inl rfl) (pe_call (ok_ring_sides T) (hr.mono (by decide)) (by rfl) T.g_ring_sides T.F_ring_sides.kp T.b_ring_sides .nil pass0 (pa_cons (pv 7) pa_nil)))
      (pss_cons (ps_for PassesOwn.never rfl (pi_range1 (by rfl) T.m_range (pa_cons (pv 8) pa_nil)) (pg_name (i := 10) sc_law_good.nd rfl (.inl rfl))
        (pss_cons (ps_set (i := 11) sc_law_good.nd rfl (.inl rfl) (pe_ix ix_seq (pv 2) (pv 10) (fun _ _ => rfl)))
        (pss_cons (ps_set (i := 12) sc_law_good.nd rfl (.inl rfl) (pe_ix ix_seq (pv 2) (pe_op op_mod (pe_callTy call_int1 (by rfl) T.m_int (by decide +kernel) (pa_cons (pe_op op_add (pv 10) pe_int) pa_nil)) (pv 8)) (fun _ _ => rfl)))
        (pss_cons (ps_set (i := 13) sc_law_good.nd rfl (.inl rfl) (pe_ifExp (pt_cmpR op_eq (pe_op op_mod (pe_callTy call_int1 (by rfl) T.m_int (by decide +kernel) (pa_cons (pv 10) pa_nil)) pe_int) pe_int (nomark _)) (pe_tup (pa_cons (pe_tup (pa_cons (pv 11) (pa_cons (pv 12) pa_nil))) (pa_cons pe_int pa_nil))) (pe_tup (pa_cons (pe_tup (pa_cons (pv 12) (pa_cons (pv 11) pa_nil))) (pa_cons (pe_un un_neg pe_int) pa_nil)))))
        (pss_one (ps_if (PW.pt (pw_or (pt_cmpR (op_neD hr.units) (pe_ix ix_seq (pv 6) (pv 10) (fun _ _ => rfl)) (pv 13) (nomark _)) (pw_or1 (pt_cmpR (op_neD hr.units) (pe_ix ix_seq (pv 9) (pe_op op_sub (pe_op op_sub (pv 8) pe_int) (pv 10)) (fun _ _ => rfl)) (pe_tup (pa_cons (pe_ix ix_seq (pv 13) pe_int (fun _ _ => rfl)) (pa_cons (pe_op op_sub pe_int (pe_ix ix_seq (pv 13) pe_int (fun _ _ => rfl))) pa_nil))) (nomark _)))))
          (pss_one (ps_ret pe_bl))
          pss_nil))))))
      (pss_cons (ps_if (PW.pt (pw_or (pt_cmpR op_ne (pe_ix ix_seq (pv 7) pe_int (fun _ _ => rfl)) (pe_ix ix_seq (pv 2) pe_int (fun _ _ => rfl)) (nomark _)) (pw_or (pt_cmpR (op_neD hr.units) (pe_call (ok_turned_ring T) (hr.mono (by decide)) (by rfl) T.g_turned_ring T.F_turned_ring.kp T.b_turned_ring .nil pass0 (pa_cons (pv 7) pa_nil)) (pe_callTy call_tupD (by rfl) T.m_tuple (by decide +kernel) (pa_cons (pv 2) pa_nil)) (nomark _)) (pw_or1 (pt_cmpR op_ne (pe_callB (call_reprI gd' hu) (by rfl) T.m_repr (by decide +kernel) (pa_cons (pv 2) pa_nil)) (pv 5) (nomark _))))))
        (pss_one (ps_ret pe_bl))
        pss_nil)
      (pss_one (ps_ret (pe_call (ok_law_tuple T) (hr.mono (by decide)) (by rfl) T.g_law_tuple T.F_law_tuple.kp T.b_law_tuple .nil pass0 (pa_cons (pe_call (ok_ring_tour T) (hr.mono (by decide)) (by rfl) T.g_ring_tour T.F_ring_tour.kp T.b_ring_tour .nil passE0 (pa_cons (pv 0) (pa_cons (pv 7) pa_nil))) (pa_cons (pe_lc rfl sc_law_good.nd (pi_seq (pv 4)) (blkOk_by (own := [("_law_number", 14)]) (N := ["_law_picture_here", "_law_pairs", "_law_corners", "_law_sign", "_law_tour", "_law_kept", "_law_sides", "_law_turned", "_law_many", "_law_other", "_law_k", "_law_here", "_law_there", "_law_due", "_law_number"]) (sc := defScope s_law_good) (by decide +kernel)) (fun _ _ _ _ _ => (pg_name (i := 14) sc_law_good.nd rfl (.inl rfl))) (fun _ _ _ _ _ => pts_nil) (fun _ _ _ _ _ => (pe_op op_sub pe_int (pv 14)))) pa_nil)))))))))))))))), ?_⟩
    have l25 := pic_len hp
    have f4 := g.four
    have f2 := g.even
    have hw := ringW_good hp.ins it g l60
    refine ⟨_, rfl, _, rfl, l, x, d, ps, cs, rfl, kl, asc_nodup hp.asc, l25, kx, it, g, l60, fun l1 H1 s1' k1 => ?_⟩
    have kx1 := kx.same s1'
    have small : ∀ n ∈ cs, n.natAbs < 10 ^ 121 := fun n hn => by
      obtain ⟨k, hk, e⟩ := List.mem_iff_getElem.mp hn
      obtain ⟨b1, b2, b3, b4⟩ := hp.ins _ (g.side k hk)
      obtain ⟨q1, q2, q3, q4⟩ := hp.ok
      have e' : cAt cs k = n := by
        rw [cAt_lt hk, List.getD_eq_getElem?_getD, List.getElem?_eq_getElem hk, e]
        rfl
      have : n.natAbs < 100 := by
        unfold sideP at b1 b2 b3 b4
        by_cases c : k % 2 = 0
        · rw [if_pos c] at b1 b2 b3 b4
          rw [e'] at b1 b2
          dsimp only at b1 b2
          omega
        · rw [if_neg c] at b1 b2 b3 b4
          rw [e'] at b3 b4
          dsimp only at b3 b4
          omega
      exact Nat.lt_trans this (by decide)
    refine ⟨_, rfl, x, d, cs, rfl, kx1, it, by omega, small, ?_⟩
    refine ⟨_, rfl, _, rfl, 0, a, x, .int 0, d, .int 0, P', W, ps, rfl, hp.same s1', kx1, .int 0, by decide, by decide, fun H2 v2 s2 k2 => ?_⟩
    rw [ansD_0 hw, csOf_is it] at k2
    have nes : ∀ {n : Nat} {d : PyData}, low n d = true → (!PyData.eqv d d) = false := fun h => by rw [low_refl h]; rfl
    refine ⟨_, rfl, x, d, _, rfl, kx1.same s2, it, fun l3 H3 s3 k3 => ⟨(by show 2 ≤ sizeLine; decide), fun u4 n4 => ?_⟩⟩
    have s4 : Same H3 (upd H3 u4 (.tup [.str "let", .ref l3])) := same_new n4
    have k4 : Dq (upd H3 u4 (.tup [.str "let", .ref l3])) (.ref u4) (tagD "let" (rowD cs)) := .tup upd_same (.cons (.str _) (.cons (k3.same s4) .nil))
    generalize upd H3 u4 (.tup [.str "let", .ref l3]) = H4 at s4 k4
    refine ⟨_, _, (k2.same (s3.trans s4)).dp, k4.dp, low_shp (low_tag lay_let low_row) (by decide), low_shp (low_tag lay_let low_row) (by decide), _, rfl, ?_⟩
    rw [nes (low_tag lay_let low_row)]
    have t4 := ((s1'.trans s2).trans s3).trans s4
    refine iteF ⟨_, rfl, _, rfl, x, d, _, rfl, kx.same t4, it, fun l5 H5 s5 n5 k5 => ⟨a, .ref l5, .list (cs.map PyData.int), P', W, ps, rfl, hp.same (t4.trans s5), k5, fun e he => ?_, fun cs' ec g' l60' l6 H6 s6 k6 => ?_⟩⟩
    · rw [ringW_good hp.ins (show itemsD (.list (cs.map PyData.int)) = some (cs.map PyData.int) from rfl) g l60] at he
      cases he
    have ee := intl_inj (Option.some.inj ec)
    subst ee
    have t6 := (t4.trans s5).trans s6
    have k1_6 : Dq H6 (.ref l1) (Rt ps cs) := k1.same ((((s2.trans s3).trans s4).trans s5).trans s6)
    refine ⟨_, rfl, .ref l6, .ref l1, Rt ps cs, rtL ps cs cs.length, rfl, k6, k1_6, rfl, by rw [rtL_len]; omega, fun H7 s7 => ⟨_, rfl, iteF ?_⟩⟩
    have t7 := t6.trans s7
    have hsg : wholeD (.int sg) 0 1 = true := by
      show (decide (0 ≤ sg) && decide (sg ≤ 1)) = true
      rw [decide_eq_true s0, decide_eq_true s1]
      rfl
    refine ⟨_, rfl, _, rfl, _, rfl, 2, a, x, .int sg, d, .int sg, P', W, ps, rfl, hp.same t7, kx.same t7, .int sg, by decide, by decide, fun H8 v8 s8 k8 => ?_⟩
    rw [ansD_say hw hsg, csOf_is it] at k8
    have low2 : low 2 (.tuple [Rt ps cs, .int sg]) = true := low_tup fun z m => by
      rcases List.mem_cons.mp m with e | m
      · subst e; exact low_rt
      · rw [List.mem_singleton.mp m]; exact low_int
    refine ⟨_, rfl, _, rfl, (by show 2 ≤ sizeLine; decide), fun u9 n9 => ⟨(by show 2 ≤ sizeLine; decide), fun u10 n10 => ?_⟩⟩
    have s9 := same_new (o := .tup [.ref l1, .int sg]) n9
    have s10 := same_new (o := .tup [.str "let", .ref u9]) n10
    have k1_8 := (k1_6.same s7).same s8
    have k10 : Dq (upd (upd H8 u9 (.tup [.ref l1, .int sg])) u10 (.tup [.str "let", .ref u9])) (.ref u10) (tagD "let" (.tuple [Rt ps cs, .int sg])) := .tup upd_same (.cons (.str _) (.cons (Dq.same s10 _ (.tup upd_same (.cons (k1_8.same s9) (.cons (.int _) .nil)))) .nil))
    have s810 := s9.trans s10
    generalize upd (upd H8 u9 (.tup [.ref l1, .int sg])) u10 (.tup [.str "let", .ref u9]) = H10 at s810 k10
    refine ⟨_, _, (k8.same s810).dp, k10.dp, low_shp (low_tag lay_let low2) (by decide), low_shp (low_tag lay_let low2) (by decide), _, rfl, ?_⟩
    rw [nes (low_tag lay_let low2)]
    have t10 := (t7.trans s8).trans s810
    have k1_10 := k1_8.same s810
    refine iteF ⟨_, rfl, x, d, cs, rfl, kx.same t10, it, l60, fun l11 H11 s11 k11 => ⟨_, rfl, x, d, cs, rfl, kx.same (t10.trans s11), it, l60, fun l12 H12 s12 k12 => ?_⟩⟩
    have t12 := (t10.trans s11).trans s12
    have kx12 := kx.same t12
    obtain ⟨p, xs, rfl, hxs, hsq⟩ := sq_of (K := K) kx12 it
    have exs : xs = cs.map V.int := intl_dq hxs
    subst exs
    clear hxs
    have lv : (cs.map V.int).length = cs.length := List.length_map _
    have k11_12 := k11.same s12
    obtain ⟨xs11, h11, d11⟩ : ∃ xs, H12 l11 = some (.tup xs) ∧ DqAll H12 xs (sidesL cs cs.length) := by
      cases k11_12 with
      | tup e t => exact ⟨_, e, t⟩
    have l11n : xs11.length = cs.length := by rw [d11.len, sidesL_len]
    obtain ⟨_, z12, h12⟩ := row_tup k12
    cases z12
    have lt : (turnL cs).length = cs.length := turnL_len cs
    obtain ⟨ty11, tyx11, _, _, _, tk11⟩ := dq_ty (K := K) k11_12
    obtain ⟨ty12, tyx12, _, _, _, tk12⟩ := dq_ty (K := K) k12
    refine ⟨_, rfl, p, _, rfl, hsq, ?_⟩
    refine ⟨_, rfl, _, .ty "tuple", ty11, _, true, rfl, .ty _, tyx11, tk11, _, rfl, iteF ?_⟩
    refine ⟨_, rfl, l11, xs11, rfl, .inr (SqT.of h11), _, rfl, rfl, _, rfl, ?_⟩
    rw [decide_eq_true (by rw [l11n, lv])]
    refine iteF ⟨_, rfl, _, .ty "tuple", ty12, _, true, rfl, .ty _, tyx12, tk12, _, rfl, iteF ?_⟩
    refine ⟨_, rfl, l12, _, rfl, .inr (SqT.of h12), _, rfl, rfl, _, rfl, ?_⟩
    rw [decide_eq_true (by rw [lv, List.length_map, lt])]
    refine iteF ⟨_, rfl, .ref l12, _, turnL cs, rfl, k12, rfl, by omega, fun l13 H13 s13 k13 => ?_⟩
    rw [lt] at k13
    obtain ⟨xs13, h13, d13⟩ : ∃ xs, H13 l13 = some (.tup xs) ∧ DqAll H13 xs (sidesL (turnL cs) (turnL cs).length) := by
      rw [lt]
      cases k13 with
      | tup e t => exact ⟨_, e, t⟩
    have t13 := t12.trans s13
    have rix : ∀ {G : Hp} {Q' : VK} {k : Nat}, k < cs.length → Same H13 G → Q' (.int (cs.getD k 0)) G → rIx K (.ref p) (.int (k : Int)) G Q' := fun {G Q' k} hk s q => (hsq.same (s13.trans s)).elim (fun z => .inl ⟨p, _, _, _, rfl, rfl, z, at_int hk, q⟩) (fun z => .inr (.inl ⟨p, _, _, _, rfl, rfl, z, at_int hk, q⟩))
    refine ⟨_, rfl, ((cs.map V.int).length : Int), rfl, by omega, by omega, for_range (n := ((cs.map V.int).length : Int).toNat) (fun i σ H' => ∃ y10 y11 y12 y13, σ = [some (.ref a), some (.ref l), some (.ref p), some (.int sg), some (.ref l1), some (.str d.shown), some (.ref l11), some (.ref l12), some (.int ((cs.map V.int).length : Nat)), some (.ref l13), y10, y11, y12, y13, none] ∧ Same H13 H')
      ⟨_, _, _, _, rfl, fun _ _ z => z⟩ (fun i σ H' hi hP => ?_) (fun σ H' hP => ?_)⟩
    · obtain ⟨y10, y11, y12, y13, rfl, sm⟩ := hP
      rw [Int.zero_add]
      have hi' : i < cs.length := by omega
      have hm : (i + 1) % cs.length < cs.length := Nat.mod_lt _ (by omega)
      have e0 : cAt cs i = cs.getD i 0 := cAt_lt hi'
      have e1 : (((i : Int) + 1) % (((cs.map V.int).length : Nat) : Int)) = (((i + 1) % cs.length : Nat) : Int) := by
        rw [lv]
        exact (Int.natCast_emod (i + 1) cs.length).symm
      have cl : (0 : Int) < ((cs.map V.int).length : Nat) := by rw [lv]; omega
      obtain ⟨x11, hx11, kx11⟩ := side_at d11 hi'
      obtain ⟨x13, hx13, kx13⟩ := side_at d13 (k := cs.length - 1 - i) (by omega)
      obtain ⟨ts1, ts2⟩ := turn_side f2 hi'
      have sd13 : sideD (turnL cs) (cs.length - 1 - i) = .tuple [prD (sideP cs i), .int (0 - sideS i)] := by
        unfold sideD
        rw [ts1, ts2]
      rw [sd13] at kx13
      have low13 : low 2 (.tuple [prD (sideP cs i), .int (0 - sideS i)]) = true := by
        rw [← sd13]
        exact low_side
      refine ⟨_, rfl, _, rfl, rix hi' sm ⟨_, rfl, _, rfl, _, _, rfl, rfl, .inl ⟨_, rfl, _, rfl, _, _, rfl, rfl, cl, ?_⟩⟩⟩
      show rIx K (.ref p) (.int (((i : Int) + 1) % (((cs.map V.int).length : Nat) : Int))) _ _
      rw [e1]
      refine rix hm sm ⟨_, rfl, .inl ⟨_, rfl, _, _, rfl, rfl, (by show (0 : Int) < 2; decide), rfl, _, rfl, ?_⟩⟩
      rw [int_dec]
      have idx : ((((cs.map V.int).length : Nat) : Int) - 1 - (i : Int)) = ((cs.length - 1 - i : Nat) : Int) := by rw [lv]; omega
      by_cases c : i % 2 = 0
      · rw [decide_eq_true (show (i : Int) % 2 = 0 by omega)]
        refine iteT ⟨_, rfl, _, rfl, (by show 2 ≤ sizeLine; decide), fun u1 n1 => ⟨(by show 2 ≤ sizeLine; decide), fun u2 n2 => ?_⟩⟩
        have s1 := same_new (o := .tup [.int (cs.getD i 0), .int (cs.getD ((i + 1) % cs.length) 0)]) n1
        have s2 := same_new (o := .tup [.ref u1, .int 1]) n2
        have hu1 : (upd (upd H' u1 (.tup [.int (cs.getD i 0), .int (cs.getD ((i + 1) % cs.length) 0)])) u2 (.tup [.ref u1, .int 1])) u1 = some (.tup [.int (sideP cs i).1, .int (sideP cs i).2]) := s2 _ _ (by
          rw [upd_same]
          unfold sideP
          rw [if_pos c, e0]
          rfl)
        have hu2 : (upd (upd H' u1 (.tup [.int (cs.getD i 0), .int (cs.getD ((i + 1) % cs.length) 0)])) u2 (.tup [.ref u1, .int 1])) u2 = some (.tup [.ref u1, .int (sideS i)]) := by
          rw [upd_same]
          unfold sideS
          rw [if_pos c]
        have sG := s1.trans s2
        generalize (upd (upd H' u1 (.tup [.int (cs.getD i 0), .int (cs.getD ((i + 1) % cs.length) 0)])) u2 (.tup [.ref u1, .int 1])) = G at sG hu1 hu2
        have kdue : Dq G (.ref u2) (sideD cs i) := .tup hu2 (.cons (.tup hu1 (.cons (.int _) (.cons (.int _) .nil))) (.cons (.int _) .nil))
        have smG := sm.trans sG
        refine ⟨_, rfl, _, rfl, .inr (.inl ⟨l11, xs11, (i : Int), x11, rfl, rfl, SqT.of (smG _ _ (s13 _ _ h11)), at_of (j := i) rfl hx11, ⟨_, rfl, _, _, ((kx11.same s13).same smG).dp, kdue.dp, low_shp low_side (by decide), low_shp low_side (by decide), _, rfl, ?_⟩⟩)⟩
        rw [nes low_side]
        refine iteF ⟨_, rfl, _, rfl, _, _, rfl, rfl, _, rfl, _, _, rfl, rfl, ?_⟩
        show rIx K (.ref l13) (.int ((((cs.map V.int).length : Nat) : Int) - 1 - (i : Int))) _ _
        rw [idx]
        refine .inr (.inl ⟨l13, xs13, ((cs.length - 1 - i : Nat) : Int), x13, rfl, rfl, SqT.of (smG _ _ h13), at_of (j := cs.length - 1 - i) rfl hx13, ?_⟩)
        refine ⟨_, rfl, .inr (.inl ⟨u2, _, 0, .ref u1, rfl, rfl, SqT.of hu2, rfl, ⟨_, rfl, .inr (.inl ⟨u2, _, 1, .int (sideS i), rfl, rfl, SqT.of hu2, rfl, ⟨_, _, rfl, rfl, (by show 2 ≤ sizeLine; decide), fun u3 n3 => ?_⟩⟩)⟩⟩)⟩
        have s3 := same_new (o := .tup [.ref u1, .int (0 - sideS i)]) n3
        refine ⟨_, _, ((kx13.same smG).same s3).dp, (show Dq _ (.ref u3) (.tuple [prD (sideP cs i), .int (0 - sideS i)]) from .tup upd_same (.cons (.tup (s3 _ _ hu1) (.cons (.int _) (.cons (.int _) .nil))) (.cons (.int _) .nil))).dp, low_shp low13 (by decide), low_shp low13 (by decide), _, rfl, ?_⟩
        rw [nes low13]
        exact iteF ⟨_, _, _, _, rfl, smG.trans s3⟩
      · rw [decide_eq_false (show ¬ (i : Int) % 2 = 0 by omega)]
        refine iteF ⟨_, rfl, _, rfl, (by show 2 ≤ sizeLine; decide), fun u1 n1 => ⟨_, rfl, (by show 2 ≤ sizeLine; decide), fun u2 n2 => ?_⟩⟩
        have s1 := same_new (o := .tup [.int (cs.getD ((i + 1) % cs.length) 0), .int (cs.getD i 0)]) n1
        have s2 := same_new (o := .tup [.ref u1, .int (-1)]) n2
        have hu1 : (upd (upd H' u1 (.tup [.int (cs.getD ((i + 1) % cs.length) 0), .int (cs.getD i 0)])) u2 (.tup [.ref u1, .int (-1)])) u1 = some (.tup [.int (sideP cs i).1, .int (sideP cs i).2]) := s2 _ _ (by
          rw [upd_same]
          unfold sideP
          rw [if_neg c, e0]
          rfl)
        have hu2 : (upd (upd H' u1 (.tup [.int (cs.getD ((i + 1) % cs.length) 0), .int (cs.getD i 0)])) u2 (.tup [.ref u1, .int (-1)])) u2 = some (.tup [.ref u1, .int (sideS i)]) := by
          rw [upd_same]
          unfold sideS
          rw [if_neg c]
        have sG := s1.trans s2
        generalize (upd (upd H' u1 (.tup [.int (cs.getD ((i + 1) % cs.length) 0), .int (cs.getD i 0)])) u2 (.tup [.ref u1, .int (-1)])) = G at sG hu1 hu2
        have kdue : Dq G (.ref u2) (sideD cs i) := .tup hu2 (.cons (.tup hu1 (.cons (.int _) (.cons (.int _) .nil))) (.cons (.int _) .nil))
        have smG := sm.trans sG
        refine ⟨_, rfl, _, rfl, .inr (.inl ⟨l11, xs11, (i : Int), x11, rfl, rfl, SqT.of (smG _ _ (s13 _ _ h11)), at_of (j := i) rfl hx11, ⟨_, rfl, _, _, ((kx11.same s13).same smG).dp, kdue.dp, low_shp low_side (by decide), low_shp low_side (by decide), _, rfl, ?_⟩⟩)⟩
        rw [nes low_side]
        refine iteF ⟨_, rfl, _, rfl, _, _, rfl, rfl, _, rfl, _, _, rfl, rfl, ?_⟩
        show rIx K (.ref l13) (.int ((((cs.map V.int).length : Nat) : Int) - 1 - (i : Int))) _ _
        rw [idx]
        refine .inr (.inl ⟨l13, xs13, ((cs.length - 1 - i : Nat) : Int), x13, rfl, rfl, SqT.of (smG _ _ h13), at_of (j := cs.length - 1 - i) rfl hx13, ?_⟩)
        refine ⟨_, rfl, .inr (.inl ⟨u2, _, 0, .ref u1, rfl, rfl, SqT.of hu2, rfl, ⟨_, rfl, .inr (.inl ⟨u2, _, 1, .int (sideS i), rfl, rfl, SqT.of hu2, rfl, ⟨_, _, rfl, rfl, (by show 2 ≤ sizeLine; decide), fun u3 n3 => ?_⟩⟩)⟩⟩)⟩
        have s3 := same_new (o := .tup [.ref u1, .int (0 - sideS i)]) n3
        refine ⟨_, _, ((kx13.same smG).same s3).dp, (show Dq _ (.ref u3) (.tuple [prD (sideP cs i), .int (0 - sideS i)]) from .tup upd_same (.cons (.tup (s3 _ _ hu1) (.cons (.int _) (.cons (.int _) .nil))) (.cons (.int _) .nil))).dp, low_shp low13 (by decide), low_shp low13 (by decide), _, rfl, ?_⟩
        rw [nes low13]
        exact iteF ⟨_, _, _, _, rfl, smG.trans s3⟩
    · obtain ⟨y10, y11, y12, y13, rfl, sm⟩ := hP
      have t14 := t13.trans sm
      have h12' := sm _ _ (s13 _ _ h12)
      refine ⟨_, rfl, .inr (.inl ⟨l12, _, 0, _, rfl, rfl, SqT.of h12', at_int (k := 0) (by omega), ⟨_, rfl, rix (k := 0) (by omega) sm ⟨rfl, _, rfl, ?_⟩⟩⟩)⟩
      rw [turn_head (by omega), decide_eq_true rfl]
      refine iteF ⟨_, rfl, .ref l12, _, turnL cs, rfl, .tup h12' (dq_intl _), rfl, by omega, fun l15 H15 s15 k15 => ⟨_, rfl, .ref p, d, _, rfl, kx.same (t14.trans s15), it, fun l16 H16 s16 k16 => ?_⟩⟩
      rw [turn_turn (by omega)] at k15
      refine ⟨_, _, (k15.same s16).dp, k16.dp, low_shp (low_ints cs) (by decide), low_shp (low_ints cs) (by decide), _, rfl, ?_⟩
      rw [nes (low_ints cs)]
      have t16 := (t14.trans s15).trans s16
      refine iteF ⟨_, rfl, .ref p, d, cs, rfl, kx.same t16, it, by omega, small, _, rfl, rfl, _, rfl, ?_⟩
      rw [decide_eq_true rfl]
      have gt := g.turn
      refine iteF ⟨_, rfl, _, rfl, a, .ref l12, rowD (turnL cs), P', W, ps, rfl, hp.same t16, .tup (s16 _ _ (s15 _ _ h12')) (dq_intl _), fun e he => ?_, fun cs' ec g' l60' l17 H17 s17 k17 => ?_⟩
      · rw [ringW_good hp.ins (show itemsD (rowD (turnL cs)) = some ((turnL cs).map PyData.int) from rfl) gt (by omega)] at he
        cases he
      have ee := intl_inj (Option.some.inj ec)
      subst ee
      have k1_17 : Dq H17 (.ref l1) (Rt ps cs) := k1_10.same (((((s11.trans s12).trans s13).trans sm).trans (s15.trans s16)).trans s17)
      have k17' : Dq H17 (.ref l17) (.tuple (((rtL ps cs cs.length).map fun z => 0 - z).map PyData.int)) := by
        rw [← rt_turn f2]
        have : Rt ps (turnL cs) = .tuple ((rtL ps (turnL cs) cs.length).map PyData.int) := by
          unfold Rt
          rw [lt]
        rw [← this]
        exact k17
      obtain ⟨_, zz, hl1⟩ := dq_tupI k1_17
      cases zz
      refine lc_seqD (a := l1) (ds := (rtL ps cs cs.length).map PyData.int) (fun _ => true) (fun d => .int (0 - intD d)) (fun Q h => ⟨_, rfl, h⟩) (.inr (SqT.of hl1)) (dq_intl _) (by rw [List.length_map, rtL_len]; omega) (fun _ => rfl) (fun i x d' H2 Q2 hd' _ kd' q2 => q2 _ fun _ _ z => z) (fun D i x d' H2 Q2 nD hd' _ s2 kd' hD q2 => ?_) (fun D H18 nD s18 kD => ?_)
      · rw [List.getElem?_map] at hd'
        obtain ⟨n, _, rfl⟩ := Option.map_eq_some_iff.mp hd'
        cases kd'
        exact ⟨_, rfl, _, _, rfl, rfl, q2 _ _ (fun _ _ z => z) (.int _)⟩
      · have ed : ((((rtL ps cs cs.length).map PyData.int).filter fun _ => true).map fun d => PyData.int (0 - intD d)) = ((rtL ps cs cs.length).map fun z => 0 - z).map PyData.int := by
          rw [List.filter_eq_self.mpr fun _ _ => rfl, List.map_map, List.map_map]
          rfl
        rw [ed] at kD
        exact ⟨.ref l17, .ref D, _, (rtL ps cs cs.length).map (fun z => 0 - z), rfl, k17'.same s18, kD, rfl, by rw [List.length_map, rtL_len]; omega, fun H19 s19 => hQ H19 ((t16.trans s17).trans (s18.trans s19))⟩
end
end K02
set_option Elab.async false
set_option linter.all false
set_option maxRecDepth 100000
set_option maxHeartbeats 4000000
set_option exponentiation.threshold 5000
set_option pp.maxSteps 600
namespace K02
open PySem PySem.Spec PyProof.Rows L2 TkS
/-! things that are no rings, and rings turned and cut -/
theorem cutD_len {α : Type} (xs : List α) (lo hi : Option Int) : (TkS.cutD xs lo hi).length ≤ xs.length := by
  unfold TkS.cutD
  rw [List.length_take, List.length_drop]
  omega
theorem dq_wordV {H : Hp} : ∀ o : Option Str, Dq H (wordV o) (match o with | none => .none | some e => .str e)
  | none => .non
  | some e => .str e
theorem lay_word {P W : Int} {ps : List (Int × Int)} {d : PyData} {e : Str} (h : ringW P W ps d = some e) : PyData.canLay0 (.str e) = true := by
  unfold ringW at h
  cases c : itemsD d with
  | none =>
    rw [c] at h
    cases h
    decide +kernel
  | some ds =>
    rw [c] at h
    dsimp only at h
    by_cases c1 : ds.length % 2 = 1 ∨ ds.length < 4 ∨ 60 < ds.length
    · rw [if_pos c1] at h
      cases h
      decide +kernel
    · rw [if_neg c1] at h
      cases c2 : cornsD P W ds with
      | false =>
        rw [c2, if_neg Bool.false_ne_true] at h
        cases h
        decide +kernel
      | true =>
        rw [c2, if_pos rfl] at h
        cases c3 : sidesOk ps (ds.map intD) with
        | false =>
          rw [c3, if_neg Bool.false_ne_true] at h
          cases h
          decide +kernel
        | true =>
          rw [c3, if_pos rfl] at h
          cases h
theorem nh_pieces (P : Int) (ls : List Int) : noHd (.tuple (piecesD P ls)) = true := noHd_tup fun d m => by
  unfold piecesD at m
  obtain ⟨l, _, rfl⟩ := List.mem_map.mp m
  unfold pieceD
  refine noHd_tup fun d m => ?_
  rcases List.mem_cons.mp m with rfl | m
  · refine noHd_tup fun d m => ?_
    obtain ⟨k, _, rfl⟩ := List.mem_map.mp m
    rfl
  · rw [List.mem_singleton.mp m]
    refine noHd_tup fun d m => ?_
    obtain ⟨k, _, rfl⟩ := List.mem_map.mp m
    rfl
theorem pic_kp {C : Addr} {H H' : Hp} {h a : Addr} {P W : Int} {ps : List (Int × Int)} (x : Pic C H a P W ps) (hd : Hand H h) (k : Keep h H H') : Pic C H' a P W ps := by
  obtain ⟨⟨dx, t, v, xs, h1, h2, h3, h4⟩, h5, h6, h7⟩ := x
  obtain ⟨c, cells, p, r, t0, e, ec, _⟩ := hd.ex
  refine ⟨⟨dx, t, v, xs, k _ _ (fun z => by rw [z, e] at h1; cases h1) h1, ?_, dqs_kp hd k (noHds_all.mpr fun d m => by
    obtain ⟨q, _, rfl⟩ := List.mem_map.mp m
    rfl) h3, dq_kp hd k (nh_pieces _ _) h4⟩, h5, h6, h7⟩
  obtain ⟨o, e1, e2, e3⟩ := h2
  exact ⟨o, k _ _ (fun z => by rw [z, e] at e1; cases e1) e1, e2, e3⟩
theorem str_non {e : Str} {A B : Prop} (b : B) : if decide (V.str e = V.non) = true then A else B := by
  rw [decide_eq_false (fun z => by cases z)]
  exact iteF b
theorem ansD_let {P W : Int} {ps : List (Int × Int)} {d : PyData} {way : Int} (h : ringW P W ps d = none) : ∃ v, ansD P W ps d (.int 1) way = tagD "let" v ∧ low 2 v = true := by
  have w1 : wholeD (.int 1) 0 1 = true := by decide
  unfold ansD
  rw [h]
  dsimp only
  by_cases c0 : way = 0
  · rw [if_pos c0]
    exact ⟨_, rfl, low_up _ _ low_row⟩
  · rw [if_neg c0]
    by_cases c1 : way = 1
    · rw [if_pos c1]
      exact ⟨_, rfl, low_up _ _ low_rt⟩
    · rw [if_neg c1, if_pos w1]
      exact ⟨_, rfl, low_tup fun z m => by
        rcases List.mem_cons.mp m with e | m
        · subst e; exact low_rt
        · rw [List.mem_singleton.mp m]; exact low_int⟩
theorem lay_sign : low 1 signT = true := low_tup fun x m => by
  rw [List.mem_singleton.mp m]
  unfold low
  decide +kernel
def sp_law_bad (C : Addr) : Sp := fun vs H Q _ => ∃ (h wt a l : Addr) (x : V) (cs : List Int) (P W : Int) (ps : List (Int × Int)), vs = [.ref h, .ref wt, .ref a, x] ∧ Hand H h ∧ H wt = some (.tup [.int P, .int W, .ref l]) ∧ Pic C H a P W ps ∧ Dq H (.ref l) (.list (ps.map prD)) ∧ Dq H x (rowD cs) ∧ 0 < cs.length ∧ cs.length ≤ 64 ∧
  ∀ H', Keep h H H' → Hand H' h → Q (.bl true) H'
section
variable {P : Program} {w : World} {K : PySem.W.Frag} {mg : Str → Option Value} {base : Heap}
theorem ok_law_bad (T : Txt K mg) : FnOk P w K mg base CX0 11 T.f_law_bad T.d_law_bad ["_law_hand_here", "_law_world", "_law_picture_here", "_law_corners"] (sp_law_bad T.C_Picture) := by
  refine T.F_law_bad.ok sc_law_bad (fun vs H Q E h => ?_) (fun cdv A outer s H vs Q E hr h => ?_)
  · obtain ⟨h, wt, a, l, x, cs, P', W, ps, rfl, _⟩ := h
    rfl
  · obtain ⟨h, wt, a, l, x, cs, P', W, ps, rfl, hd, hwt, hp, kl, kx, c0, c64, hQ⟩ := h
    refine ⟨_, (pss_cons (ps_asg (pv 1) (pg_tup rfl (pgs_cons (pg_name (i := 4) sc_law_bad.nd rfl (.inl rfl)) (pgs_cons (pg_name (i := 5) sc_law_bad.nd rfl (.inl rfl)) (pgs_cons (pg_name (i := 6) sc_law_bad.nd rfl (.inl rfl)) pgs_nil)))))
      (pss_cons (ps_set (i := 7) sc_law_bad.nd rfl (.inl rfl) (pe_call (ok_law_take T) (hr.mono (by decide)) (by rfl) T.g_law_take T.F_law_take.kp T.b_law_take .nil pass0 (pa_cons (pv 0) (pa_cons (pe_callB call_len_seq (by rfl) T.m_len (by decide +kernel) (pa_cons (pv 3) pa_nil)) pa_nil))))
      (pss_cons (ps_set (i := 8) sc_law_bad.nd rfl (.inl rfl) (pe_ix ix_tup (pe_tup (pa_cons (pe_un un_neg pe_int) (pa_cons pe_int (pa_cons pe_bl (pa_cons pe_non (pa_cons pe_str (pa_cons (pv 4) (pa_cons (pv 5) (pa_cons pe_bl pa_nil))))))))) (pe_call (ok_law_take T) (hr.mono (by decide)) (by rfl) T.g_law_take T.F_law_take.kp T.b_law_take .nil pass0 (pa_cons (pv 0) (pa_cons pe_int pa_nil))) (fun _ _ => rfl)))
      (pss_cons (ps_set (i := 9) sc_law_bad.nd rfl (.inl rfl) (pe_call (ok_law_take T) (hr.mono (by decide)) (by rfl) T.g_law_take T.F_law_take.kp T.b_law_take .nil pass0 (pa_cons (pv 0) (pa_cons pe_int pa_nil))))
      (pss_cons (ps_set (i := 10) sc_law_bad.nd rfl (.inl rfl) (pe_lst (pa_cons (pe_slice sl_tupD (pv 3) po_none (po_some (pe_un un_neg pe_int))) (pa_cons (pe_op op_catD (pe_op op_catD (pe_slice sl_tupD (pv 3) po_none (po_some (pv 7))) (pe_tup (pa_cons (pv 8) pa_nil))) (pe_slice sl_tupD (pv 3) (po_some (pe_op op_add (pv 7) pe_int)) po_none)) (pa_cons (pe_op op_catD (pe_op op_catD (pe_slice sl_tupD (pv 3) po_none (po_some (pv 7))) (pe_tup (pa_cons (pv 9) pa_nil))) (pe_slice sl_tupD (pv 3) (po_some (pe_op op_add (pv 7) pe_int)) po_none)) (pa_cons (pe_slice sl_tupD (pv 3) po_none (po_some pe_int)) pa_nil))))))
      (pss_cons (ps_set (i := 10) sc_law_bad.nd rfl (.inl rfl) (pe_op op_catDL (pv 10) (pe_lst (pa_cons (pe_op op_rep (pe_callTy call_list_of (by rfl) T.m_list (by decide +kernel) (pa_cons (pv 3) pa_nil)) pe_int) (pa_cons (pe_op op_repN (pv 3) pe_int) (pa_cons (pe_op op_catD (pv 3) (pe_tup (pa_cons (pv 8) (pa_cons (pv 8) pa_nil)))) (pa_cons pe_non (pa_cons (pe_tup pa_nil) (pa_cons pe_int (pa_cons (pe_op op_catD (pe_slice sl_tupD (pv 3) (po_some pe_int) po_none) (pe_slice sl_tupD (pv 3) po_none (po_some pe_int))) pa_nil))))))))))
      (pss_cons (ps_for PassesOwn.never rfl (pi_list (pv 10)) (pg_name (i := 11) sc_law_bad.nd rfl (.inl rfl))
        (pss_cons (ps_set (i := 12) sc_law_bad.nd rfl (.inl rfl) (pe_call (ok_law_ring_due T) (hr.mono (by decide)) (by rfl) T.g_law_ring_due T.F_law_ring_due.kp T.b_law_ring_due .nil pass0 (pa_cons (pv 4) (pa_cons (pv 5) (pa_cons (pv 6) (pa_cons (pv 11) pa_nil))))))
        (pss_cons (ps_for PassesOwn.never rfl (pi_tup (pe_tup (pa_cons pe_int (pa_cons pe_int (pa_cons pe_int pa_nil))))) (pg_name (i := 13) sc_law_bad.nd rfl (.inl rfl))
          (pss_cons (ps_set (i := 14) sc_law_bad.nd rfl (.inl rfl) (pe_call (ok_law_asked T) (hr.mono (by decide)) (by rfl) T.g_law_asked T.F_law_asked.kp T.b_law_asked .nil pass0 (pa_cons (pv 13) (pa_cons (pv 2) (pa_cons (pv 11) (pa_cons pe_int pa_nil))))))
          (pss_one (ps_if (PW.pt (pw_or (pt_cmpR op_ne (pe_cmpR op_eq (pe_ix ix_seq (pv 14) pe_int (fun _ _ => rfl)) pe_str (nomark _)) (pe_cmpR op_isN (pv 12) pe_non (nomark _)) (nomark _)) (pw_or1 (PW.pt (pw_and (pt_cmpR op_notN (pv 12) pe_non (nomark _)) (pw_and1 (pt_cmpR (op_neD hr.units) (pv 14) (pe_tup (pa_cons pe_str (pa_cons (pv 12) pa_nil))) (nomark _))))))))
            (pss_one (ps_ret pe_bl))
            pss_nil))))
        (pss_one (ps_for PassesOwn.never rfl (pi_tup (pe_tup (pa_cons pe_int (pa_cons (pe_un un_neg pe_int) (pa_cons pe_bl (pa_cons pe_non pa_nil)))))) (pg_name (i := 15) sc_law_bad.nd rfl (.inl rfl))
          (pss_one (ps_if (pt_cmpR (op_neD hr.units) (pe_call (ok_law_asked T) (hr.mono (by decide)) (by rfl) T.g_law_asked T.F_law_asked.kp T.b_law_asked .nil pass0 (pa_cons pe_int (pa_cons (pv 2) (pa_cons (pv 11) (pa_cons (pv 15) pa_nil))))) (pe_ifExp (pt_cmpR op_isN (pv 12) pe_non (nomark _)) (pe_tup (pa_cons pe_str pa_nil)) (pe_tup (pa_cons pe_str (pa_cons (pv 12) pa_nil)))) (nomark _))
            (pss_one (ps_ret pe_bl))
            pss_nil)))))))
      (pss_one (ps_ret pe_bl))))))))), ?_⟩
    have wth : wt ≠ h := fun z => by
      obtain ⟨c, cells, p, r, t, e1, _⟩ := hd.ex
      rw [z, e1] at hwt
      cases hwt
    obtain ⟨px, rfl, hx⟩ := row_tup kx
    refine ⟨_, rfl, wt, _, rfl, SqT.of hwt, rfl, _, _, rfl, _, _, rfl, _, _, rfl, rfl, ?_⟩
    refine ⟨_, rfl, _, rfl, px, _, rfl, .inr (SqT.of hx), h, _, rfl, hd, ?_, ?_, fun H1 at_ k1 hd1 at0 at1 => ?_⟩
    · rw [List.length_map]
      omega
    · rw [List.length_map]
      omega
    rw [List.length_map] at at1
    refine ⟨_, rfl, _, rfl, _, rfl, (by show 8 ≤ sizeLine; decide), fun u2 n2 => ?_⟩
    have s2 := same_new (o := .tup [.int (-1), .int 5, .bl true, .non, .str "0", .int P', .int W, .bl false]) n2
    have hu2 : (upd H1 u2 (.tup [.int (-1), .int 5, .bl true, .non, .str "0", .int P', .int W, .bl false])) u2 = some (.tup [.int (-1), .int 5, .bl true, .non, .str "0", .int P', .int W, .bl false]) := upd_same
    have hd2 := hd1.same s2
    have u2h := hand_ne hd1 n2
    generalize upd H1 u2 (.tup [.int (-1), .int 5, .bl true, .non, .str "0", .int P', .int W, .bl false]) = H2 at s2 hu2 hd2
    refine ⟨_, rfl, h, 8, rfl, hd2, by decide, by decide, fun H3 r k3 hd3 r0 r8 => ?_⟩
    obtain ⟨ov, od, hov, kov⟩ : ∃ (ov : V) (od : PyData), atI [V.int (-1), .int 5, .bl true, .non, .str "0", .int P', .int W, .bl false] r = some ov ∧ ∀ G : Hp, Dq G ov od := by
      obtain c | c | c | c | c | c | c | c : r = 0 ∨ r = 1 ∨ r = 2 ∨ r = 3 ∨ r = 4 ∨ r = 5 ∨ r = 6 ∨ r = 7 := by omega
      · subst c; exact ⟨_, _, rfl, fun _ => .int _⟩
      · subst c; exact ⟨_, _, rfl, fun _ => .int _⟩
      · subst c; exact ⟨_, _, rfl, fun _ => .bl _⟩
      · subst c; exact ⟨_, _, rfl, fun _ => .non⟩
      · subst c; exact ⟨_, _, rfl, fun _ => .str _⟩
      · subst c; exact ⟨_, _, rfl, fun _ => .int _⟩
      · subst c; exact ⟨_, _, rfl, fun _ => .int _⟩
      · subst c; exact ⟨_, _, rfl, fun _ => .bl _⟩
    refine ⟨u2, _, r, ov, rfl, rfl, SqT.of (k3 _ _ u2h hu2), hov, ?_⟩
    refine ⟨_, rfl, h, 4, rfl, hd3, by decide, by decide, fun H4 ot k4 hd4 o0 o4 => ?_⟩
    have k04 := ((k1.trans (Keep.of s2)).trans k3).trans k4
    have kx4 : Dq H4 (.ref px) (rowD cs) := dq_kp hd k04 (noHd_row cs) kx
    have kl4 := dq_kp hd k04 (noHd_prs ps) kl
    have hwt4 := k04 _ _ wth hwt
    have hp4 := pic_kp hp hd k04
    have hx4 : H4 px = some (.tup (cs.map V.int)) := by
      obtain ⟨_, z, e⟩ := row_tup kx4
      cases z
      exact e
    obtain ⟨ds, hds⟩ : ∃ ds, cs.map PyData.int = ds := ⟨_, rfl⟩
    have lds : ds.length = cs.length := by rw [← hds, List.length_map]
    have kx4 : Dq H4 (.ref px) (.tuple ds) := by
      rw [← hds]
      exact kx4
    have cl : ∀ lo hi, (TkS.cutD ds lo hi).length ≤ 64 := fun lo hi => Nat.le_trans (cutD_len ds lo hi) (by omega)
    refine ⟨_, rfl, _, rfl, _, rfl, ds, kx4, fun l1 G1 t1 q1 => ?_⟩
    refine ⟨_, rfl, _, rfl, _, rfl, ds, kx4.same t1, fun l2 G2 s2 q2 => ⟨_, rfl, (by show 1 ≤ sizeLine; decide), fun u3 n3 => ?_⟩⟩
    have s3 := same_new (o := .tup [ov]) n3
    have q3 : Dq (upd G2 u3 (.tup [ov])) (.ref u3) (.tuple [od]) := .tup upd_same (.cons (kov _) .nil)
    generalize upd G2 u3 (.tup [ov]) = G3 at s3 q3
    have t3 := (t1.trans s2).trans s3
    refine ⟨_, _, q2.same s3, q3, by have := cl none (some at_); simp; omega, fun l4 G4 s4 q4 => ⟨_, rfl, _, rfl, _, _, rfl, rfl, _, rfl, ds, kx4.same (t3.trans s4), fun l5 G5 s5 q5 => ⟨_, _, q4.same s5, q5, by have := cl none (some at_); have := cl (some (at_ + 1)) none; simp; omega, fun l6 G6 s6 q6 => ?_⟩⟩⟩
    have t6 := ((t3.trans s4).trans s5).trans s6
    have q1_6 := q1.same ((((s2.trans s3).trans s4).trans s5).trans s6)
    refine ⟨_, rfl, _, rfl, _, rfl, ds, kx4.same t6, fun l7 G7 s7 q7 => ⟨_, rfl, (by show 1 ≤ sizeLine; decide), fun u8 n8 => ?_⟩⟩
    have s8 := same_new (o := .tup [.int ot]) n8
    have q8 : Dq (upd G7 u8 (.tup [.int ot])) (.ref u8) (.tuple [.int ot]) := .tup upd_same (.cons (.int _) .nil)
    generalize upd G7 u8 (.tup [.int ot]) = G8 at s8 q8
    have t8 := (t6.trans s7).trans s8
    refine ⟨_, _, q7.same s8, q8, by have := cl none (some at_); simp; omega, fun l9 G9 s9 q9 => ⟨_, rfl, _, rfl, _, _, rfl, rfl, _, rfl, ds, kx4.same (t8.trans s9), fun l10 G10 s10 q10 => ⟨_, _, q9.same s10, q10, by have := cl none (some at_); have := cl (some (at_ + 1)) none; simp; omega, fun l11 G11 s11 q11 => ?_⟩⟩⟩
    have t11 := ((t8.trans s9).trans s10).trans s11
    have s6_11 := (((s7.trans s8).trans s9).trans s10).trans s11
    refine ⟨_, rfl, _, rfl, ds, kx4.same t11, fun l12 G12 s12 q12 => ⟨(by show 4 ≤ sizeLine; decide), fun L1 m1 => ?_⟩⟩
    have s13 := same_new (o := .lst [.ref l1, .ref l6, .ref l11, .ref l12]) m1
    have s6_13 := (s6_11.trans s12).trans s13
    have qL1 : Dq (upd G12 L1 (.lst [.ref l1, .ref l6, .ref l11, .ref l12])) (.ref L1) (.list [.tuple (TkS.cutD ds none (some (-1))), .tuple ((TkS.cutD ds none (some at_) ++ [od]) ++ TkS.cutD ds (some (at_ + 1)) none), .tuple ((TkS.cutD ds none (some at_) ++ [.int ot]) ++ TkS.cutD ds (some (at_ + 1)) none), .tuple (TkS.cutD ds none (some 2))]) :=
      .lst upd_same (.cons (q1_6.same s6_13) (.cons (q6.same s6_13) (.cons (q11.same (s12.trans s13)) (.cons (q12.same s13) .nil))))
    generalize upd G12 L1 (.lst [.ref l1, .ref l6, .ref l11, .ref l12]) = G13 at s13 qL1
    have t13 := (t11.trans s12).trans s13
    obtain ⟨D1, eD1⟩ : ∃ D, [PyData.tuple (TkS.cutD ds none (some (-1))), .tuple ((TkS.cutD ds none (some at_) ++ [od]) ++ TkS.cutD ds (some (at_ + 1)) none), .tuple ((TkS.cutD ds none (some at_) ++ [.int ot]) ++ TkS.cutD ds (some (at_ + 1)) none), .tuple (TkS.cutD ds none (some 2))] = D := ⟨_, rfl⟩
    have lD1 : D1.length = 4 := by rw [← eD1]; rfl
    rw [eD1] at qL1
    clear eD1
    have hx13 := t13 _ _ hx4
    have lcs : (cs.map V.int).length = cs.length := List.length_map _
    refine ⟨_, rfl, _, rfl, px, _, rfl, .inr (SqT.of hx13), fun l14 m14 => ⟨l14, 2, _, rfl, rfl, upd_same, by decide, by decide, (by rw [lcs]; show cs.length * 2 ≤ sizeLine; exact Nat.le_of_lt (small1000 (by omega))), fun l15 m15 => ?_⟩⟩
    have s15 := (same_new (o := .lst (cs.map V.int)) m14).trans (same_new (o := .lst (List.replicate (2 : Int).toNat (cs.map V.int)).flatten) m15)
    have q15 : Dq (upd (upd G13 l14 (.lst (cs.map V.int))) l15 (.lst (List.replicate (2 : Int).toNat (cs.map V.int)).flatten)) (.ref l15) (.list ((repL 2 cs).map PyData.int)) := .lst (by rw [upd_same, rep_map]; rfl) (dq_intl _)
    generalize upd (upd G13 l14 (.lst (cs.map V.int))) l15 (.lst (List.replicate (2 : Int).toNat (cs.map V.int)).flatten) = G15 at s15 q15
    have t15 := t13.trans s15
    refine ⟨_, rfl, px, 16, _, rfl, rfl, SqT.of (t15 _ _ hx4), ?_, by decide, by decide, by rw [lcs]; omega, fun c => absurd c (by decide), fun _ l16 m16 => ?_⟩
    · intro z
      have e0 := congrArg List.length z
      rw [lcs] at e0
      have e1 : cs.length = 0 := e0
      omega
    have s16 := same_new (o := .tup (List.replicate (16 : Int).toNat (cs.map V.int)).flatten) m16
    have q16 : Dq (upd G15 l16 (.tup (List.replicate (16 : Int).toNat (cs.map V.int)).flatten)) (.ref l16) (.tuple ((repL 16 cs).map PyData.int)) := tupI (by rw [upd_same, rep_map]; rfl)
    generalize upd G15 l16 (.tup (List.replicate (16 : Int).toNat (cs.map V.int)).flatten) = G16 at s16 q16
    have t16 := t15.trans s16
    refine ⟨_, rfl, _, rfl, _, rfl, (by show 2 ≤ sizeLine; decide), fun u17 m17 => ?_⟩
    have s17 := same_new (o := .tup [ov, ov]) m17
    have q17 : Dq (upd G16 u17 (.tup [ov, ov])) (.ref u17) (.tuple [od, od]) := .tup upd_same (.cons (kov _) (.cons (kov _) .nil))
    generalize upd G16 u17 (.tup [ov, ov]) = G17 at s17 q17
    have t17 := t16.trans s17
    refine ⟨ds, [od, od], kx4.same t17, q17, by simp; omega, fun l18 G18 s18 q18 => ⟨Nat.zero_le _, fun u19 m19 => ?_⟩⟩
    have s19 := same_new (o := .tup []) m19
    have q19 : Dq (upd G18 u19 (.tup [])) (.ref u19) (.tuple []) := .tup upd_same .nil
    generalize upd G18 u19 (.tup []) = G19 at s19 q19
    have t19 := (t17.trans s18).trans s19
    refine ⟨_, rfl, _, rfl, ds, kx4.same t19, fun l20 G20 s20 q20 => ⟨_, rfl, _, rfl, ds, kx4.same (t19.trans s20), fun l21 G21 s21 q21 => ⟨_, _, q20.same s21, q21, by have := cl (some 1) none; have := cl none (some 1); omega, fun l22 G22 s22 q22 => ⟨(by show 7 ≤ sizeLine; decide), fun L2 m2 => ?_⟩⟩⟩⟩
    have s19_22 := (s20.trans s21).trans s22
    have s23 := same_new (o := .lst [.ref l15, .ref l16, .ref l18, .non, .ref u19, .int 4, .ref l22]) m2
    have qL2 : Dq (upd G22 L2 (.lst [.ref l15, .ref l16, .ref l18, .non, .ref u19, .int 4, .ref l22])) (.ref L2) (.list [.list ((repL 2 cs).map PyData.int), .tuple ((repL 16 cs).map PyData.int), .tuple (ds ++ [od, od]), .none, .tuple [], .int 4, .tuple (TkS.cutD ds (some 1) none ++ TkS.cutD ds none (some 1))]) :=
      .lst upd_same (.cons (q15.same (((((s16.trans s17).trans s18).trans s19).trans s19_22).trans s23)) (.cons (q16.same ((((s17.trans s18).trans s19).trans s19_22).trans s23)) (.cons (q18.same ((s19.trans s19_22).trans s23)) (.cons .non (.cons (q19.same (s19_22.trans s23)) (.cons (.int _) (.cons (q22.same s23) .nil)))))))
    obtain ⟨D2, eD2⟩ : ∃ D, [PyData.list ((repL 2 cs).map PyData.int), .tuple ((repL 16 cs).map PyData.int), .tuple (ds ++ [od, od]), .none, .tuple [], .int 4, .tuple (TkS.cutD ds (some 1) none ++ TkS.cutD ds none (some 1))] = D := ⟨_, rfl⟩
    have lD2 : D2.length = 7 := by rw [← eD2]; rfl
    rw [eD2] at qL2
    clear eD2
    generalize upd G22 L2 (.lst [.ref l15, .ref l16, .ref l18, .non, .ref u19, .int 4, .ref l22]) = G23 at s23 qL2
    have s13_23 := (((((s15.trans s16).trans s17).trans s18).trans s19).trans s19_22).trans s23
    refine ⟨D1, D2, qL1.same s13_23, qL2, by omega, fun L G s24 n24 q24 => ?_⟩
    have tG := (t13.trans s13_23).trans s24
    obtain ⟨xs, eL, dL⟩ : ∃ xs, G L = some (.lst xs) ∧ DqAll G xs (D1 ++ D2) := by
      cases q24 with
      | lst e t => exact ⟨_, e, t⟩
    have hpG := hp4.same tG
    have klG := kl4.same tG
    have nes : ∀ {n : Nat} {d : PyData}, low n d = true → (!PyData.eqv d d) = false := fun h => by rw [low_refl h]; rfl
    refine ⟨_, rfl, L, rfl, ⟨_, SqL.of eL⟩, for_list (xs := xs) (fun i σ H' => ∃ y11 y12 y13 y14 y15, σ = [some (.ref h), some (.ref wt), some (.ref a), some (.ref px), some (.int P'), some (.int W), some (.ref l), some (.int at_), some ov, some (.int ot), some (.ref L), y11, y12, y13, y14, y15] ∧ Same G H')
      ⟨_, _, _, _, _, rfl, fun _ _ z => z⟩ (fun i σ H' hi hP => by obtain ⟨_, _, _, _, _, _, sm⟩ := hP; exact SqL.of (sm _ _ eL)) (fun i x σ H' hxi hP => ?_) (fun σ H' hP => ?_)⟩
    · obtain ⟨y11, y12, y13, y14, y15, rfl, sm⟩ := hP
      obtain ⟨d, _, kd0⟩ := dL.get hxi
      have kd := kd0.same sm
      refine ⟨_, rfl, _, rfl, _, rfl, _, rfl, P', W, l, x, d, ps, rfl, klG.same sm, kd, fun H7 s7 => ?_⟩
      have sm7 := sm.trans s7
      have kd7 := kd.same s7
      refine ⟨(by show 3 ≤ sizeLine; decide), fun u1 n1 => ?_⟩
      have s8 := same_new (o := .tup [.int 0, .int 1, .int 2]) n1
      have h8 : (upd H7 u1 (.tup [.int 0, .int 1, .int 2])) u1 = some (.tup [.int 0, .int 1, .int 2]) := upd_same
      generalize upd H7 u1 (.tup [.int 0, .int 1, .int 2]) = H8 at s8 h8
      have sm8 := sm7.trans s8
      have kd8 := kd7.same s8
      refine ⟨u1, rfl, ⟨_, SqT.of h8⟩, for_tup (xs := [.int 0, .int 1, .int 2]) (fun j σ H' => ∃ y13 y14 y15, σ = [some (.ref h), some (.ref wt), some (.ref a), some (.ref px), some (.int P'), some (.int W), some (.ref l), some (.int at_), some ov, some (.int ot), some (.ref L), some x, some (wordV (ringW P' W ps d)), y13, y14, y15] ∧ Same H8 H')
        ⟨_, _, _, rfl, fun _ _ z => z⟩ (fun j σ H' hj hP => by obtain ⟨_, _, _, _, s9⟩ := hP; exact SqT.of (s9 _ _ h8)) (fun j y σ H' hy hP => ?_) (fun σ H' hP => ?_)⟩
      · obtain ⟨y13, y14, y15, rfl, s9⟩ := hP
        obtain ⟨wy, rfl, w0, w2⟩ : ∃ wy : Int, y = .int wy ∧ 0 ≤ wy ∧ wy ≤ 2 := by
          match j, hy with
          | 0, hy => cases hy; exact ⟨0, rfl, by decide, by decide⟩
          | 1, hy => cases hy; exact ⟨1, rfl, by decide, by decide⟩
          | 2, hy => cases hy; exact ⟨2, rfl, by decide, by decide⟩
        refine ⟨_, rfl, _, rfl, _, rfl, wy, a, x, .int 1, d, .int 1, P', W, ps, rfl, hpG.same (sm8.trans s9), kd8.same s9, .int 1, w0, w2, fun H10 v10 s10 k10 => ?_⟩
        have s910 := s9.trans s10
        cases hw : ringW P' W ps d with
        | some e =>
          rw [ansD_ring hw] at k10
          have lw : low 1 (tagD "ring" (.str e)) = true := low_tag lay_ring (by unfold low; exact lay_word hw)
          obtain ⟨tt, rfl, ht⟩ : ∃ tt, v10 = .ref tt ∧ H10 tt = some (.tup [.str "ring", .str e]) := by
            cases k10 with
            | tup e1 t1 =>
              cases t1 with
              | cons a1 t2 =>
                cases t2 with
                | cons a2 t3 =>
                  cases t3
                  cases a1
                  cases a2
                  exact ⟨_, rfl, e1⟩
          refine ⟨_, rfl, .inr (.inl ⟨tt, _, 0, .str "ring", rfl, rfl, SqT.of ht, rfl, ⟨rfl, ⟨_, rfl, rfl, ?_⟩⟩⟩)⟩
          rw [decide_eq_false (show ¬ V.str "ring" = V.str "let" by decide), decide_eq_false (show ¬ wordV (some e) = V.non from fun z => by cases z)]
          refine ⟨rfl, _, rfl, iteF ?_⟩
          refine ⟨_, rfl, rfl, _, rfl, ?_⟩
          rw [decide_eq_false (show ¬ wordV (some e) = V.non from fun z => by cases z)]
          refine iteT ⟨_, rfl, _, rfl, (by show 2 ≤ sizeLine; decide), fun u3 n3 => ?_⟩
          have s11 := same_new (o := .tup [.str "ring", wordV (some e)]) n3
          refine ⟨_, _, (k10.same s11).dp, (show Dq _ (.ref u3) (tagD "ring" (.str e)) from .tup upd_same (.cons (.str _) (.cons (.str _) .nil))).dp, low_shp lw (by decide), low_shp lw (by decide), _, rfl, ?_⟩
          rw [nes lw]
          exact iteF ⟨_, _, _, rfl, s910.trans s11⟩
        | none =>
          obtain ⟨v, ev, lv⟩ := ansD_let (way := wy) hw
          rw [ev] at k10
          obtain ⟨tt, v0, rfl, ht⟩ : ∃ tt v0, v10 = .ref tt ∧ H10 tt = some (.tup [.str "let", v0]) := by
            cases k10 with
            | tup e1 t1 =>
              cases t1 with
              | cons a1 t2 =>
                cases t2 with
                | cons a2 t3 =>
                  cases t3
                  cases a1
                  exact ⟨_, _, rfl, e1⟩
          refine ⟨_, rfl, .inr (.inl ⟨tt, _, 0, .str "let", rfl, rfl, SqT.of ht, rfl, ⟨rfl, ⟨_, rfl, rfl, ?_⟩⟩⟩)⟩
          rw [decide_eq_true (show V.str "let" = V.str "let" from rfl), decide_eq_true (show wordV none = V.non from rfl)]
          refine ⟨rfl, _, rfl, iteF ⟨_, rfl, rfl, _, rfl, ?_⟩⟩
          rw [decide_eq_true (show wordV none = V.non from rfl)]
          exact iteF (iteF ⟨_, _, _, rfl, s910⟩)
      · obtain ⟨y13, y14, y15, rfl, s9⟩ := hP
        refine ⟨_, rfl, (by show 4 ≤ sizeLine; decide), fun u2 n2 => ?_⟩
        have s11 := same_new (o := .tup [.int 2, .int (-1), .bl true, .non]) n2
        have h11 : (upd H' u2 (.tup [.int 2, .int (-1), .bl true, .non])) u2 = some (.tup [.int 2, .int (-1), .bl true, .non]) := upd_same
        generalize upd H' u2 (.tup [.int 2, .int (-1), .bl true, .non]) = H11 at s11 h11
        have sm11 := (sm8.trans s9).trans s11
        have kd11 := (kd8.same s9).same s11
        refine ⟨u2, rfl, ⟨_, SqT.of h11⟩, for_tup (xs := [.int 2, .int (-1), .bl true, .non]) (fun j σ H' => ∃ y13 y14 y15, σ = [some (.ref h), some (.ref wt), some (.ref a), some (.ref px), some (.int P'), some (.int W), some (.ref l), some (.int at_), some ov, some (.int ot), some (.ref L), some x, some (wordV (ringW P' W ps d)), y13, y14, y15] ∧ Same H11 H')
          ⟨_, _, _, rfl, fun _ _ z => z⟩ (fun j σ H' hj hP => by obtain ⟨_, _, _, _, s9⟩ := hP; exact SqT.of (s9 _ _ h11)) (fun j y σ H' hy hP => ?_) (fun σ H' hP => ?_)⟩
        · obtain ⟨y13, y14, y15, rfl, s12⟩ := hP
          obtain ⟨d', kd', hs⟩ : ∃ d', Dq H' y d' ∧ wholeD d' 0 1 = false := by
            match j, hy with
            | 0, hy => cases hy; exact ⟨_, .int _, by decide⟩
            | 1, hy => cases hy; exact ⟨_, .int _, by decide⟩
            | 2, hy => cases hy; exact ⟨_, .bl _, by decide⟩
            | 3, hy => cases hy; exact ⟨_, .non, by decide⟩
          refine ⟨_, rfl, _, rfl, _, rfl, 2, a, x, y, d, d', P', W, ps, rfl, hpG.same (sm11.trans s12), kd11.same s12, kd', by decide, by decide, fun H13 v13 s13' k13 => ?_⟩
          have s1213 := s12.trans s13'
          cases hw : ringW P' W ps d with
          | some e =>
            rw [ansD_ring hw] at k13
            have lw : low 1 (tagD "ring" (.str e)) = true := low_tag lay_ring (by unfold low; exact lay_word hw)
            refine ⟨_, rfl, rfl, _, rfl, ?_⟩
            rw [decide_eq_false (show ¬ wordV (some e) = V.non from fun z => by cases z)]
            refine iteF ⟨_, rfl, (by show 2 ≤ sizeLine; decide), fun u3 n3 => ?_⟩
            have s14 := same_new (o := .tup [.str "ring", wordV (some e)]) n3
            refine ⟨_, _, (k13.same s14).dp, (show Dq _ (.ref u3) (tagD "ring" (.str e)) from .tup upd_same (.cons (.str _) (.cons (.str _) .nil))).dp, low_shp lw (by decide), low_shp lw (by decide), _, rfl, ?_⟩
            rw [nes lw]
            exact iteF ⟨_, _, _, rfl, s1213.trans s14⟩
          | none =>
            rw [ansD_sign hw hs] at k13
            refine ⟨_, rfl, rfl, _, rfl, ?_⟩
            rw [decide_eq_true (show wordV none = V.non from rfl)]
            refine iteT ⟨(by show 1 ≤ sizeLine; decide), fun u3 n3 => ?_⟩
            have s14 := same_new (o := .tup [.str "sign"]) n3
            refine ⟨_, _, (k13.same s14).dp, (show Dq _ (.ref u3) signT from .tup upd_same (.cons (.str _) .nil)).dp, low_shp lay_sign (by decide), low_shp lay_sign (by decide), _, rfl, ?_⟩
            rw [nes lay_sign]
            exact iteF ⟨_, _, _, rfl, s1213.trans s14⟩
        · obtain ⟨y13, y14, y15, rfl, s12⟩ := hP
          exact ⟨_, _, _, _, _, rfl, sm11.trans s12⟩
    · obtain ⟨y11, y12, y13, y14, y15, rfl, sm⟩ := hP
      exact hQ H' (k04.trans (Keep.of (tG.trans sm))) (hd4.same (tG.trans sm))
end
end K02
set_option Elab.async false
set_option linter.all false
set_option maxRecDepth 100000
set_option maxHeartbeats 4000000
set_option exponentiation.threshold 5000
set_option pp.maxSteps 600
namespace K02
open PySem PySem.Spec PyProof.Rows L2 TkS
/-! tiles, one and all -/
theorem code4 (p u q v : Int) : TS.code 6 [p, u, q, v] = 216 * p + 36 * u + 6 * q + v := by
  show p * 6 ^ 3 + (u * 6 ^ 2 + (q * 6 ^ 1 + (v * 6 ^ 0 + 0))) = _
  have e3 : (6 : Int) ^ 3 = 216 := by decide
  have e2 : (6 : Int) ^ 2 = 36 := by decide
  have e1 : (6 : Int) ^ 1 = 6 := by decide
  have e0 : (6 : Int) ^ 0 = 1 := by decide
  rw [e3, e2, e1, e0]
  omega
def B4 (r : List Int) : Prop := ∃ p u q v : Int, r = [p, u, q, v] ∧ 0 ≤ p ∧ p ≤ 5 ∧ 0 ≤ u ∧ u ≤ 5 ∧ 0 ≤ q ∧ q ≤ 5 ∧ 0 ≤ v ∧ v ≤ 5
theorem B4.inj {a b : List Int} (ha : B4 a) (hb : B4 b) (h : TS.code 6 a = TS.code 6 b) : a = b := by
  obtain ⟨p, u, q, v, rfl, h1⟩ := ha
  obtain ⟨p', u', q', v', rfl, h2⟩ := hb
  rw [code4, code4] at h
  have e1 : p = p' := by omega
  have e2 : u = u' := by omega
  have e3 : q = q' := by omega
  have e4 : v = v' := by omega
  rw [e1, e2, e3, e4]
theorem B4.bd {a : List Int} (ha : B4 a) : a.length = 4 ∧ TS.Bd 6 a := by
  obtain ⟨p, u, q, v, rfl, h⟩ := ha
  refine ⟨rfl, fun m hm => ?_⟩
  simp at hm
  omega
theorem tile_b4 {P W : Int} {ps : List (Int × Int)} (ins : Ins P W ps) (p6 : P ≤ 6) (w6 : W ≤ 6) {r : List Int} (h : r ∈ tilesL ps) : B4 r := by
  obtain ⟨p, u, q, v, rfl, h1, h2, _⟩ := mem_tiles.mp h
  have a := ins _ h1
  have b := ins _ h2
  dsimp only at a b
  exact ⟨p, u, q, v, rfl, by omega, by omega, by omega, by omega, by omega, by omega, by omega, by omega⟩
theorem tiles_asc {P W : Int} {ps : List (Int × Int)} (ins : Ins P W ps) (p6 : P ≤ 6) (w6 : W ≤ 6) (asc : Asc ps) : (tilesL ps).Pairwise fun a b => TS.code 6 a < TS.code 6 b := by
  unfold tilesL
  rw [List.pairwise_flatMap]
  refine ⟨fun a ha => ?_, ?_⟩
  · unfold tileRow
    rw [List.pairwise_map]
    refine List.Pairwise.imp_of_mem (R := fun p q => SrtO.lexB p q = true) (fun {x y} hx hy h => ?_) (List.Pairwise.filter _ asc)
    have bx := ins _ (List.mem_filter.mp hx).1
    have hy' := ins _ (List.mem_filter.mp hy).1
    rw [code4, code4]
    have := SrtO.lexB_iff.mp h
    omega
  · refine List.Pairwise.imp_of_mem (R := fun p q => SrtO.lexB p q = true) (fun {x y} hx hy h => ?_) asc
    intro r hr r' hr'
    unfold tileRow at hr hr'
    obtain ⟨z, hz, rfl⟩ := List.mem_map.mp hr
    obtain ⟨z', hz', rfl⟩ := List.mem_map.mp hr'
    have bx := ins _ hx
    have by' := ins _ hy
    have bz := ins _ (List.mem_filter.mp hz).1
    have bz' := ins _ (List.mem_filter.mp hz').1
    rw [code4, code4]
    have := SrtO.lexB_iff.mp h
    omega
theorem tiles_nd {P W : Int} {ps : List (Int × Int)} (ins : Ins P W ps) (p6 : P ≤ 6) (w6 : W ≤ 6) (asc : Asc ps) : (tilesL ps).Nodup :=
  (tiles_asc ins p6 w6 asc).imp fun {a b} h e => by
    subst e
    omega
/-- what is sorted by code out of the law's tiles are the program's -/
theorem sorted_tiles {P W : Int} {ps : List (Int × Int)} (ins : Ins P W ps) (p6 : P ≤ 6) (w6 : W ≤ 6) (asc : Asc ps) {zs : List (List Int)} (hp : zs.Perm (four (ringsL P.toNat W.toNat ps))) (hs : zs.Pairwise fun a b => TS.code 6 a ≤ TS.code 6 b) : zs = tilesL ps := by
  have pt : zs.Perm (tilesL ps) := hp.trans ((List.perm_ext_iff_of_nodup four_nd (tiles_nd ins p6 w6 asc)).mpr fun r => mem_four ins)
  refine List.Perm.eq_of_pairwise (le := fun a b => TS.code 6 a ≤ TS.code 6 b) (fun a b ha hb h1 h2 => ?_) hs ((tiles_asc ins p6 w6 asc).imp fun h => by omega) pt
  exact (tile_b4 ins p6 w6 (pt.mem_iff.mp ha)).inj (tile_b4 ins p6 w6 hb) (by omega)
def tileD (P W : Int) (ps : List (Int × Int)) (ds : List PyData) : PyData := match tileW P W ps ds with
  | none => .tuple ds
  | some e => .str e
def sp_law_tile (C : Addr) : Sp := fun vs H Q _ => ∃ (a : Addr) (p u q v : V) (dp du dq dv : PyData) (P W : Int) (ps : List (Int × Int)), vs = [.ref a, p, u, q, v] ∧ Pic C H a P W ps ∧ Dq H p dp ∧ Dq H u du ∧ Dq H q dq ∧ Dq H v dv ∧
  ∀ H' x, Same H H' → Dq H' x (tileD P W ps [dp, du, dq, dv]) → Q x H'
section
variable {P : Program} {w : World} {K : PySem.W.Frag} {mg : Str → Option Value} {base : Heap}
theorem ok_law_tile (T : Txt K mg) : FnOk P w K mg base CX0 8 T.f_law_tile T.d_law_tile ["_law_picture_here", "_law_p", "_law_u", "_law_q", "_law_v"] (sp_law_tile T.C_Picture) := by
  refine T.F_law_tile.ok sc_law_tile (fun vs H Q E h => ?_) (fun cdv A outer s H vs Q E hr h => ?_)
  · obtain ⟨a, p, u, q, v, dp, du, dq, dv, P', W, ps, rfl, _⟩ := h
    rfl
  · obtain ⟨a, p, u, q, v, dp, du, dq, dv, P', W, ps, rfl, hp, kp, ku, kq, kv, hQ⟩ := h
    refine' ⟨_, (pss_cons (ps_set (i := 5) sc_law_tile.nd rfl (.inl rfl) pe_non)
      (pss_cons ?tr (pss_one (ps_ret (pv 5))))), ?_⟩
    case tr =>
      exact ps_try_asM (i := 6) (Wout := fun _ _ _ _ => False) rfl rfl sc_law_tile.nd rfl rfl takes0
        (fun W pn xe tk _ => (pss_one (ps_set (i := 5) sc_law_tile.nd rfl (.inl rfl) (pe_callSD (ok_tile_ring T) (hr.mono (by decide)) (by rfl) T.g_tile_ring T.F_tile_ring.kp T.b_tile_ring .nil (fun σ => passAt tk σ) (pa_cons (pv 0) (pa_cons (pv 1) (pa_cons (pv 2) (pa_cons (pv 3) (pa_cons (pv 4) pa_nil)))))))))
        (.cons ⟨rfl, by decide, Or.inl T.g_BadRing⟩ (fun a oe cls d pn hz hf => pss_one (ps_set (i := 5) sc_law_tile.nd rfl (.inl rfl) (pe_xf T.x_BadRing T.n_BadRing hz hf (pv 6)))) .nil)
    refine ⟨_, rfl, _, rfl, _, rfl, _, rfl, _, rfl, a, p, u, q, v, dp, du, dq, dv, P', W, ps, rfl, hp, kp, ku, kq, kv, fun e he b H' s' hb => ?_, fun hw l H' s' k' => ?_⟩
    · exact ⟨true, T.mm_BadRing_BadRing, fun _ a0 _ => ⟨_, rfl, rfl, rfl, b, _, _, rfl, hb, rfl, ⟨_, rfl, hQ _ _ s' (by unfold tileD; rw [he]; exact .str _)⟩⟩, fun z => Bool.noConfusion z⟩
    · exact ⟨_, rfl, hQ _ _ s' (by unfold tileD; rw [hw]; exact k')⟩
end
end K02
set_option Elab.async false
set_option linter.all false
set_option maxRecDepth 100000
set_option maxHeartbeats 4000000
set_option exponentiation.threshold 5000
set_option pp.maxSteps 600
namespace K02
open PySem PySem.Spec PyProof.Rows L2 TkS
def rLen (K : PySem.W.Frag) : List V → Hp → VK → Prop := fun xs H Q => ∃ p ys, xs = [V.ref p] ∧ (SqL K H p ys ∨ SqT K H p ys) ∧ Q (V.int (ys.length : Nat)) H
theorem ring4W {P W : Int} {ps : List (Int × Int)} {d0 d1 d2 d3 : PyData} : ringW P W ps (.list [d0, d1, d2, d3]) = if cornsD P W [d0, d1, d2, d3] = true then (if sidesOk ps ([d0, d1, d2, d3].map intD) = true then none else some ("pair" : Str)) else some ("corner" : Str) := by
  unfold ringW
  show (if [d0, d1, d2, d3].length % 2 = 1 ∨ [d0, d1, d2, d3].length < 4 ∨ 60 < [d0, d1, d2, d3].length then _ else _) = _
  rw [if_neg (by simp)]
theorem lay_tile {P W : Int} {ps : List (Int × Int)} {ds : List PyData} {e : Str} (h : tileW P W ps ds = some e) : low 0 (.str e) = true := by
  unfold low
  unfold tileW at h
  cases c2 : cornsD P W ds with
  | false =>
    rw [c2, if_neg Bool.false_ne_true] at h
    cases h
    decide +kernel
  | true =>
    rw [c2, if_pos rfl] at h
    by_cases c1 : (ds.map intD).getD 0 0 = (ds.map intD).getD 2 0 ∨ (ds.map intD).getD 1 0 = (ds.map intD).getD 3 0
    · rw [if_pos c1] at h
      cases h
      decide +kernel
    · rw [if_neg c1] at h
      cases c3 : sidesOk ps (ds.map intD) with
      | false =>
        rw [c3, if_neg Bool.false_ne_true] at h
        cases h
        decide +kernel
      | true =>
        rw [c3, if_pos rfl] at h
        cases h
def kV (H : Hp) : V → List Int
  | .ref t => match H t with
    | some (.tup xs) => xs.map fun x => match x with | .int i => i | _ => 0
    | _ => []
  | _ => []
theorem kV_of {H : Hp} {x : V} {r : List Int} (k : Dq H x (rowD r)) : kV H x = r ∧ ∃ t, x = .ref t ∧ H t = some (.tup ((kV H x).map V.int)) := by
  obtain ⟨t, rfl, ht⟩ := row_tup k
  have e : kV H (.ref t) = r := by
    unfold kV
    simp only [ht]
    rw [List.map_map]
    exact List.map_id r
  exact ⟨e, t, rfl, by rw [e]; exact ht⟩
theorem four_map2 (rs : List (List Int)) : (((rs.map rowD).filter fun d => decide ((csOf d).length = 4)).map id) = (four rs).map rowD := by
  have e : ∀ r, csOf (rowD r) = r := fun r => csOf_is rfl
  rw [List.map_id, List.filter_map]
  unfold four
  congr 1
  refine List.filter_congr fun r _ => ?_
  show decide ((csOf (rowD r)).length = 4) = _
  rw [e]
theorem low_rows (rs : List (List Int)) : low 2 (.tuple (rs.map rowD)) = true := low_tup fun x m => by
  obtain ⟨r, _, rfl⟩ := List.mem_map.mp m
  exact low_row
theorem rows_by {H : Hp} : ∀ {xs : List V}, (∀ x ∈ xs, Dq H x (rowD (kV H x))) → DqAll H xs ((xs.map (kV H)).map rowD)
  | [], _ => .nil
  | x :: xs, h => .cons (h x List.mem_cons_self) (rows_by fun y m => h y (List.mem_cons_of_mem _ m))
theorem rows_kV {H : Hp} : ∀ {xs : List V} {rs : List (List Int)}, DqAll H xs (rs.map rowD) → xs.map (kV H) = rs
  | _, [], .nil => rfl
  | _, r :: rs, .cons k t => by
    rw [List.map_cons, (kV_of k).1, rows_kV t]
theorem noL_row (r : List Int) : noList (rowD r) = true := by
  have : ∀ l : List Int, noLists (l.map PyData.int) = true := fun l => by
    induction l with
    | nil => rfl
    | cons a l ih =>
      show (noList (.int a) && noLists (l.map PyData.int)) = true
      rw [ih]
      rfl
  exact this r
def sp_law_tiles (C : Addr) : Sp := fun vs H Q _ => ∃ (h wt a l rr : Addr) (P W : Int) (ps : List (Int × Int)), vs = [.ref h, .ref wt, .ref a, .ref rr] ∧ Hand H h ∧ H wt = some (.tup [.int P, .int W, .ref l]) ∧ Pic C H a P W ps ∧ Dq H (.ref l) (.list (ps.map prD)) ∧ Dq H (.ref rr) (.list ((ringsL P.toNat W.toNat ps).map rowD)) ∧ Wd P W ps ∧ (ringsL P.toNat W.toNat ps).length ≤ 900 ∧
  ∀ H', Q (.bl true) H'
section
variable {P : Program} {w : World} {K : PySem.W.Frag} {mg : Str → Option Value} {base : Heap}
theorem ok_law_tiles (T : Txt K mg) : FnOk P w K mg base CX0 9 T.f_law_tiles T.d_law_tiles ["_law_hand_here", "_law_world", "_law_picture_here", "_law_rings_here"] (sp_law_tiles T.C_Picture) := by
  refine T.F_law_tiles.ok sc_law_tiles (fun vs H Q E h => ?_) (fun cdv A outer s H vs Q E hr h => ?_)
  · obtain ⟨h, wt, a, l, rr, P', W, ps, rfl, _⟩ := h
    rfl
  · obtain ⟨h, wt, a, l, rr, P', W, ps, rfl, hd, hwt, hp, kl, kr, wd, r900, hQ⟩ := h
    refine ⟨_, (pss_cons (ps_asg (pv 1) (pg_tup rfl (pgs_cons (pg_name (i := 4) sc_law_tiles.nd rfl (.inl rfl)) (pgs_cons (pg_name (i := 5) sc_law_tiles.nd rfl (.inl rfl)) (pgs_cons (pg_name (i := 6) sc_law_tiles.nd rfl (.inl rfl)) pgs_nil)))))
      (pss_cons (ps_if (pt_cmpR (op_neD hr.units) (pe_call (ok_tiles_of T) (hr.mono (by decide)) (by rfl) T.g_tiles_of T.F_tiles_of.kp T.b_tiles_of .nil pass0 (pa_cons (pv 2) pa_nil)) (pe_callTy call_tupD (by rfl) T.m_tuple (by decide +kernel) (pa_cons (pe_callB cr_sortedN (by rfl) T.m_sorted (by decide +kernel) (pa_cons (pe_lc rfl sc_law_tiles.nd (pi_list (pv 3)) (blkOk_by (own := [("_law_ring", 17)]) (N := ["_law_hand_here", "_law_world", "_law_picture_here", "_law_rings_here", "_law_points", "_law_shuts", "_law_pairs", "_law_k", "_law_odd", "_law_corners", "_law_p", "_law_u", "_law_q", "_law_v", "_law_due", "_law_told", "_law_high", "_law_ring"]) (sc := defScope s_law_tiles) (by decide +kernel)) (fun _ _ _ _ _ => (pg_name (i := 17) sc_law_tiles.nd rfl (.inl rfl))) (fun _ _ _ _ _ => (pts_one (pt_cmpR op_eq (pe_callB (show CallR _ (.builtin "len") (rLen K) from call_len_seq) (by rfl) T.m_len (by decide +kernel) (pa_cons (pv 17) pa_nil)) pe_int (nomark _)))) (fun _ _ _ _ _ => (pv 17))) pa_nil)) pa_nil)) (nomark _))
        (pss_one (ps_ret pe_bl))
        pss_nil)
      (pss_cons (ps_for PassesOwn.never rfl (pi_range1 (by rfl) T.m_range (pa_cons pe_int pa_nil)) (pg_name (i := 7) sc_law_tiles.nd rfl (.inl rfl))
        (pss_cons (ps_set (i := 8) sc_law_tiles.nd rfl (.inl rfl) (pe_call (ok_law_take T) (hr.mono (by decide)) (by rfl) T.g_law_take T.F_law_take.kp T.b_law_take .nil pass0 (pa_cons (pv 0) (pa_cons pe_int pa_nil))))
        (pss_cons (ps_setLc (i := 9) rfl sc_law_tiles.nd rfl rfl (sw_true rfl rfl rfl (by decide +kernel)) (pi_tup (pe_tup (pa_cons (pv 4) (pa_cons (pv 5) (pa_cons (pv 4) (pa_cons (pv 5) pa_nil)))))) (blkOk_by (own := [("_law_high", 16)]) (N := ["_law_hand_here", "_law_world", "_law_picture_here", "_law_rings_here", "_law_points", "_law_shuts", "_law_pairs", "_law_k", "_law_odd", "_law_corners", "_law_p", "_law_u", "_law_q", "_law_v", "_law_due", "_law_told", "_law_high", "_law_ring"]) (sc := defScope s_law_tiles) (by decide +kernel)) (fun _ _ _ _ _ => (pg_name (i := 16) sc_law_tiles.nd rfl (.inl rfl))) (fun _ _ _ _ _ => pts_nil) (fun _ _ _ _ _ => (pe_call (ok_law_take T) (hr.mono (by decide)) (by rfl) T.g_law_take T.F_law_take.kp T.b_law_take .nil pass0 (pa_cons (pv 0) (pa_cons (pv 16) pa_nil)))))
        (Evl.pss_cut (ps_if (pt_cmpR op_lt (pv 8) pe_int (nomark _))
          (pss_one (ps_asg (pe_ix ix_tup (pe_tup (pa_cons pe_int (pa_cons (pe_un un_neg pe_int) (pa_cons pe_bl (pa_cons pe_non pa_nil))))) (pe_call (ok_law_take T) (hr.mono (by decide)) (by rfl) T.g_law_take T.F_law_take.kp T.b_law_take .nil pass0 (pa_cons (pv 0) (pa_cons pe_int pa_nil))) (fun _ _ => rfl)) (pg_sub (pv 9) (pv 8) set_list)))
          pss_nil)
        (pss_cons (ps_asg (pv 9) (pg_lst rfl (pgs_cons (pg_name (i := 10) sc_law_tiles.nd rfl (.inl rfl)) (pgs_cons (pg_name (i := 11) sc_law_tiles.nd rfl (.inl rfl)) (pgs_cons (pg_name (i := 12) sc_law_tiles.nd rfl (.inl rfl)) (pgs_cons (pg_name (i := 13) sc_law_tiles.nd rfl (.inl rfl)) pgs_nil))))))
        (pss_cons (ps_set (i := 14) sc_law_tiles.nd rfl (.inl rfl) (pe_call (ok_law_ring_due T) (hr.mono (by decide)) (by rfl) T.g_law_ring_due T.F_law_ring_due.kp T.b_law_ring_due .nil pass0 (pa_cons (pv 4) (pa_cons (pv 5) (pa_cons (pv 6) (pa_cons (pv 9) pa_nil))))))
        (Evl.pss_cut (ps_if (PW.pt (pw_or (pt_cmpR op_isN (pv 14) pe_non (nomark _)) (pw_or1 (pt_cmpR op_eq (pv 14) pe_str (nomark _)))))
          (pss_one (ps_set (i := 14) sc_law_tiles.nd rfl (.inl rfl) (pe_ifExp (PW.pt (pw_or (pt_cmpR op_eq (pv 10) (pv 12) (nomark _)) (pw_or1 (pt_cmpR op_eq (pv 11) (pv 13) (nomark _))))) pe_str (pv 14))))
          pss_nil)
        (pss_cons (ps_set (i := 15) sc_law_tiles.nd rfl (.inl rfl) (pe_call (ok_law_tile T) (hr.mono (by decide)) (by rfl) T.g_law_tile T.F_law_tile.kp T.b_law_tile .nil pass0 (pa_cons (pv 2) (pa_cons (pv 10) (pa_cons (pv 11) (pa_cons (pv 12) (pa_cons (pv 13) pa_nil)))))))
        (pss_one (ps_if (pt_cmpR (op_neD hr.units) (pv 15) (pe_ifExp (pt_cmpR op_isN (pv 14) pe_non (nomark _)) (pe_callTy call_tupD (by rfl) T.m_tuple (by decide +kernel) (pa_cons (pv 9) pa_nil)) (pv 14)) (nomark _))
          (pss_one (ps_ret pe_bl))
          pss_nil))))))))))
      (pss_one (ps_ret pe_bl))))), ?_⟩
    have wth : wt ≠ h := fun z => by
      obtain ⟨c, cells, p, r, t, e1, _⟩ := hd.ex
      rw [z, e1] at hwt
      cases hwt
    have nes : ∀ {n : Nat} {d : PyData}, low n d = true → (!PyData.eqv d d) = false := fun h => by rw [low_refl h]; rfl
    refine ⟨_, rfl, wt, _, rfl, SqT.of hwt, rfl, _, _, rfl, _, _, rfl, _, _, rfl, rfl, ?_⟩
    refine ⟨_, rfl, a, P', W, ps, rfl, hp, fun l1 H1 s1 k1 => ?_⟩
    obtain ⟨xr, er, dr⟩ : ∃ xs, H1 rr = some (.lst xs) ∧ DqAll H1 xs ((ringsL P'.toNat W.toNat ps).map rowD) := by
      have := kr.same s1
      cases this with
      | lst e t => exact ⟨_, e, t⟩
    refine ⟨_, rfl, rr, rfl, ⟨_, SqL.of er⟩, fun D nD => ?_⟩
    refine lc_listD (ds := (ringsL P'.toNat W.toNat ps).map rowD) (fun d => decide ((csOf d).length = 4)) id (SqL.of er) dr nD (by rw [List.length_map]; exact r900) (fun _ => rfl) (fun k x d H6 Q2 hd' s6 kd q2 => ?_) (fun k x d H6 Q2 hd' _ s6 kd hD q2 => ?_) (fun H2 s2 kD => ?_)
    · rw [List.getElem?_map] at hd'
      obtain ⟨r, _, rfl⟩ := Option.map_eq_some_iff.mp hd'
      obtain ⟨t, rfl, ht⟩ := row_tup kd
      refine ⟨_, rfl, t, _, rfl, .inr (SqT.of ht), rfl, _, rfl, ?_⟩
      rw [int_dec]
      have e : decide ((((r.map V.int).length : Nat) : Int) = 4) = decide ((csOf (rowD r)).length = 4) := by
        rw [show csOf (rowD r) = r from csOf_is rfl, List.length_map]
        exact decide_eq_decide.mpr (by omega)
      rw [e]
      exact q2 _ fun _ _ z => z
    · rw [List.getElem?_map] at hd'
      obtain ⟨r, _, rfl⟩ := Option.map_eq_some_iff.mp hd'
      obtain ⟨acc, hD⟩ := hD
      exact ⟨_, rfl, q2 _ _ (fun _ _ z => z) (dq_noL hD _ (noL_row r) kd)⟩
    rw [four_map2] at kD
    obtain ⟨xs, eD, dD⟩ : ∃ xs, H2 D = some (.lst xs) ∧ DqAll H2 xs ((four (ringsL P'.toNat W.toNat ps)).map rowD) := by
      cases kD with
      | lst e t => exact ⟨_, e, t⟩
    have item : ∀ x ∈ xs, ∃ r, r ∈ four (ringsL P'.toNat W.toNat ps) ∧ Dq H2 x (rowD r) := fun x hx => by
      obtain ⟨k, hk, e⟩ := List.mem_iff_getElem.mp hx
      obtain ⟨d, hd', kd⟩ := dD.get (List.getElem?_eq_getElem hk)
      rw [List.getElem?_map] at hd'
      obtain ⟨r, hr', rfl⟩ := Option.map_eq_some_iff.mp hd'
      rw [e] at kd
      exact ⟨r, List.mem_of_getElem? hr', kd⟩
    have p6 : P' ≤ 6 := by have := wd.p1; omega
    have w6 : W ≤ 6 := by have := wd.w1; omega
    refine ⟨D, xs, kV H2, 4, 6, rfl, SqL.of eD, by decide, fun x hx => ?_, fun ys p perm pw np => ?_⟩
    · obtain ⟨r, hr', kd⟩ := item x hx
      obtain ⟨e, hh⟩ := kV_of kd
      have := (tile_b4 wd.ins p6 w6 ((mem_four wd.ins).mp hr')).bd
      exact ⟨hh, by rw [e]; exact this.1, by rw [e]; exact this.2⟩
    have tl : ys.map (kV H2) = tilesL ps := by
      refine sorted_tiles wd.ins p6 w6 wd.asc ?_ (List.pairwise_map.mpr pw)
      have := perm.map (kV H2)
      rw [rows_kV dD] at this
      exact this
    have sp := same_new (o := .lst ys) np
    have kp : Dq (upd H2 p (.lst ys)) (.ref p) (.list ((tilesL ps).map rowD)) := by
      rw [← tl]
      refine .lst upd_same (DqAll.same sp _ (rows_by fun x hx => ?_))
      obtain ⟨r, _, kd⟩ := item x (perm.mem_iff.mp hx)
      rw [(kV_of kd).1]
      exact kd
    generalize upd H2 p (.lst ys) = H3 at sp kp
    refine ⟨_, _, _, rfl, kp, rfl, fun l4 H4 s4 k4 => ?_⟩
    have s14 := (s2.trans sp).trans s4
    refine ⟨_, _, (k1.same s14).dp, k4.dp, low_shp (low_rows _) (by decide), low_shp (low_rows _) (by decide), _, rfl, ?_⟩
    rw [nes (low_rows _)]
    have s04 := s1.trans s14
    refine iteF ⟨6, rfl, by decide, by decide, for_range (n := 6) (fun i σ G => ∃ y7 y8 y9 y10 y11 y12 y13 y14 y15, σ = [some (.ref h), some (.ref wt), some (.ref a), some (.ref rr), some (.int P'), some (.int W), some (.ref l), y7, y8, y9, y10, y11, y12, y13, y14, y15, none, none] ∧ Keep h H G ∧ Hand G h)
      ⟨_, _, _, _, _, _, _, _, _, rfl, Keep.of s04, hd.same s04⟩ (fun i σ G hi hP => ?_) (fun σ G hP => ?_)⟩
    · obtain ⟨y7, y8, y9, y10, y11, y12, y13, y14, y15, rfl, kG, hdG⟩ := hP
      refine ⟨_, rfl, h, 12, rfl, hdG, by decide, by decide, fun H5 o k5 hd5 o0 o12 => ?_⟩
      have kG5 := kG.trans k5
      refine ⟨_, rfl, _, rfl, _, rfl, _, rfl, (by show 4 ≤ sizeLine; decide), fun u nu => ⟨u, rfl, ⟨_, SqT.of upd_same⟩, fun A nA => ?_⟩⟩
      have su := same_new (o := .tup [.int P', .int W, .int P', .int W]) nu
      have hu : (upd H5 u (.tup [.int P', .int W, .int P', .int W])) u = some (.tup [.int P', .int W, .int P', .int W]) := upd_same
      have hd6 := hd5.same su
      have uh := hand_ne hd5 nu
      have kG6 := kG5.trans (Keep.of su)
      generalize upd H5 u (.tup [.int P', .int W, .int P', .int W]) = H6 at su hu hd6 kG6 nA
      have Ah := hand_ne hd6 nA
      refine lc_tup (xs := [.int P', .int W, .int P', .int W]) (fun i H' => ∃ zs : List Int, zs.length = i ∧ Keep h H6 H' ∧ Hand H' h ∧ H' A = some (.lst (zs.map V.int))) ⟨[], rfl, Keep.putD hd6 nA Keep.refl, Hand.putD hd6 nA Keep.refl hd6, upd_same⟩ (fun i H' hi hP => by
        obtain ⟨zs, _, k', _⟩ := hP
        exact SqT.of (k' _ _ uh hu)) (fun i y H' hy hP => ?_) (fun H' hP => ?_)
      · obtain ⟨zs, lz, k', hd', hA⟩ := hP
        obtain ⟨m, rfl, m2, m4⟩ : ∃ m : Int, y = .int m ∧ 2 ≤ m ∧ m ≤ 4 := by
          have b1 := wd.p0
          have b2 := wd.p1
          have b3 := wd.w0
          have b4 := wd.w1
          match i, hy with
          | 0, hy => cases hy; exact ⟨P', rfl, b1, b2⟩
          | 1, hy => cases hy; exact ⟨W, rfl, b3, b4⟩
          | 2, hy => cases hy; exact ⟨P', rfl, b1, b2⟩
          | 3, hy => cases hy; exact ⟨W, rfl, b3, b4⟩
        have i4 : i < 4 := (List.getElem?_eq_some_iff.mp hy).1
        refine ⟨rfl, _, rfl, _, rfl, h, m, rfl, hd', by omega, by omega, fun H7 z k7 hd7 z0 z1 => ?_⟩
        have hA7 := k7 _ _ Ah hA
        refine ⟨_, hA7, by rw [List.length_map]; exact small1000 (by omega), zs ++ [z], by rw [List.length_append, lz]; rfl, Keep.putD hd6 nA (k'.trans k7), Hand.putD hd6 nA (k'.trans k7) hd7, ?_⟩
        rw [upd_same, List.map_append]
        rfl
      · obtain ⟨zs, lz, k', hd', hA⟩ := hP
        have HA : H A = none := keep_free hd hd6 kG6 nA
        have kH := kG6.trans k'
        obtain ⟨z0, z1, z2, z3, rfl⟩ : ∃ a b c d, zs = [a, b, c, d] := by
          match zs, lz with
          | [a, b, c, d], _ => exact ⟨a, b, c, d, rfl⟩
        refine ⟨fun σ' G' => ∃ (v0 v1 v2 v3 : V) (d0 d1 d2 d3 : PyData) (y10 y11 y12 y13 y14 y15 : Option V), σ' = [some (.ref h), some (.ref wt), some (.ref a), some (.ref rr), some (.int P'), some (.int W), some (.ref l), some (.int (0 + (i : Int))), some (.int o), some (.ref A), y10, y11, y12, y13, y14, y15, none, none] ∧ Keep h H G' ∧ Hand G' h ∧ G' A = some (.lst [v0, v1, v2, v3]) ∧ DqAll G' [v0, v1, v2, v3] [d0, d1, d2, d3] ∧ ∀ d ∈ [d0, d1, d2, d3], low 0 d = true, ?_, fun σ' G' hM => ?_⟩
        · refine ⟨_, rfl, _, _, rfl, rfl, _, rfl, ite2 (fun c => ?_) (fun c => ?_)⟩
          · have o3 : o < 4 := of_decide_eq_true c
            refine ⟨_, rfl, (by show 4 ≤ sizeLine; decide), fun u5 n5 => ?_⟩
            have s5 := same_new (o := .tup [.int 5, .int (-1), .bl true, .non]) n5
            have h5 : (upd H' u5 (.tup [.int 5, .int (-1), .bl true, .non])) u5 = some (.tup [.int 5, .int (-1), .bl true, .non]) := upd_same
            have u5h := hand_ne hd' n5
            have hd5' := hd'.same s5
            generalize upd H' u5 (.tup [.int 5, .int (-1), .bl true, .non]) = H8 at s5 h5 hd5'
            refine ⟨_, rfl, h, 4, rfl, hd5', by decide, by decide, fun H9 r k9 hd9 r0 r4 => ?_⟩
            obtain ⟨ov, od, hov, kov, lov⟩ : ∃ (ov : V) (od : PyData), atI [V.int 5, .int (-1), .bl true, .non] r = some ov ∧ (∀ G : Hp, Dq G ov od) ∧ low 0 od = true := by
              obtain c | c | c | c : r = 0 ∨ r = 1 ∨ r = 2 ∨ r = 3 := by omega
              · subst c; exact ⟨_, _, rfl, fun _ => .int _, low_int⟩
              · subst c; exact ⟨_, _, rfl, fun _ => .int _, low_int⟩
              · subst c; exact ⟨_, _, rfl, fun _ => .bl _, by unfold low; rfl⟩
              · subst c; exact ⟨_, _, rfl, fun _ => .non, by unfold low; rfl⟩
            have hA9 := k9 _ _ Ah (s5 _ _ hA)
            have kk := (kH.trans (Keep.of s5)).trans k9
            refine ⟨u5, _, r, ov, rfl, rfl, SqT.of (k9 _ _ u5h h5), hov, ?_⟩
            refine ⟨_, rfl, _, rfl, A, _, o, o.toNat, rfl, rfl, hA9, ixN_of o0 (by show o < 4; exact o3), ?_⟩
            have kp' := kk.putD (D := A) (o := .lst (([z0, z1, z2, z3].map V.int).set o.toNat ov)) hd HA
            have hp' := Hand.putD (o := .lst (([z0, z1, z2, z3].map V.int).set o.toNat ov)) hd HA kk hd9
            obtain c0 | c0 | c0 | c0 : o = 0 ∨ o = 1 ∨ o = 2 ∨ o = 3 := by omega
            · subst c0
              exact ⟨ov, .int z1, .int z2, .int z3, od, .int z1, .int z2, .int z3, _, _, _, _, _, _, rfl, kp', hp', upd_same, .cons (kov _) (.cons (.int _) (.cons (.int _) (.cons (.int _) .nil))), fun d m => by
                simp at m
                rcases m with rfl | rfl | rfl | rfl <;> first | exact lov | exact low_int⟩
            · subst c0
              exact ⟨.int z0, ov, .int z2, .int z3, .int z0, od, .int z2, .int z3, _, _, _, _, _, _, rfl, kp', hp', upd_same, .cons (.int _) (.cons (kov _) (.cons (.int _) (.cons (.int _) .nil))), fun d m => by
                simp at m
                rcases m with rfl | rfl | rfl | rfl <;> first | exact lov | exact low_int⟩
            · subst c0
              exact ⟨.int z0, .int z1, ov, .int z3, .int z0, .int z1, od, .int z3, _, _, _, _, _, _, rfl, kp', hp', upd_same, .cons (.int _) (.cons (.int _) (.cons (kov _) (.cons (.int _) .nil))), fun d m => by
                simp at m
                rcases m with rfl | rfl | rfl | rfl <;> first | exact lov | exact low_int⟩
            · subst c0
              exact ⟨.int z0, .int z1, .int z2, ov, .int z0, .int z1, .int z2, od, _, _, _, _, _, _, rfl, kp', hp', upd_same, .cons (.int _) (.cons (.int _) (.cons (.int _) (.cons (kov _) .nil))), fun d m => by
                simp at m
                rcases m with rfl | rfl | rfl | rfl <;> first | exact lov | exact low_int⟩
          · exact ⟨.int z0, .int z1, .int z2, .int z3, .int z0, .int z1, .int z2, .int z3, _, _, _, _, _, _, rfl, kH, hd', hA, .cons (.int _) (.cons (.int _) (.cons (.int _) (.cons (.int _) .nil))), fun d m => by
              simp at m
              rcases m with rfl | rfl | rfl | rfl <;> exact low_int⟩
        · obtain ⟨v0, v1, v2, v3, d0, d1, d2, d3, y10, y11, y12, y13, y14, y15, rfl, kM, hdM, hAM, dAM, lowM⟩ := hM
          have klM := dq_kp hd kM (noHd_prs ps) kl
          have hpM := pic_kp hp hd kM
          refine ⟨_, rfl, A, _, rfl, SqL.of hAM, rfl, _, _, rfl, _, _, rfl, _, _, rfl, _, _, rfl, rfl, ?_⟩
          refine ⟨_, rfl, _, rfl, _, rfl, _, rfl, P', W, l, .ref A, .list [d0, d1, d2, d3], ps, rfl, klM, .lst hAM dAM, fun H7 s7 => ?_⟩
          have hA7 := s7 _ _ hAM
          have d7 := DqAll.same s7 _ dAM
          have hp7 := hpM.same s7
          have k7 := kM.trans (Keep.of s7)
          have hd7 := hdM.same s7
          obtain ⟨q0, q1, q2, q3⟩ : Dq H7 v0 d0 ∧ Dq H7 v1 d1 ∧ Dq H7 v2 d2 ∧ Dq H7 v3 d3 := by
            cases d7 with
            | cons a b =>
              cases b with
              | cons b c =>
                cases c with
                | cons c d =>
                  cases d with
                  | cons d e => exact ⟨a, b, c, d⟩
          refine ⟨fun σ' G' => ∃ (y15 : Option V), σ' = [some (.ref h), some (.ref wt), some (.ref a), some (.ref rr), some (.int P'), some (.int W), some (.ref l), some (.int (0 + (i : Int))), some (.int o), some (.ref A), some v0, some v1, some v2, some v3, some (wordV (tileW P' W ps [d0, d1, d2, d3])), y15, none, none] ∧ G' = H7, ?_, fun σ' G' hM => ?_⟩
          · rw [ring4W]
            cases cb : cornsD P' W [d0, d1, d2, d3] with
            | false =>
              have tw : tileW P' W ps [d0, d1, d2, d3] = some ("corner" : Str) := by
                unfold tileW
                rw [cb, if_neg Bool.false_ne_true]
              rw [if_neg Bool.false_ne_true, tw]
              refine ⟨_, rfl, rfl, _, rfl, ?_⟩
              rw [decide_eq_false (show ¬ wordV (some ("corner" : Str)) = V.non from fun z => by cases z)]
              refine iteF ⟨_, rfl, rfl, _, rfl, ?_⟩
              rw [decide_eq_false (show ¬ wordV (some ("corner" : Str)) = V.str "pair" by decide)]
              exact iteF ⟨_, rfl, rfl⟩
            | true =>
              have i0 := corn_int (corn_at cb (i := 0) (by simp))
              have i1 := corn_int (corn_at cb (i := 1) (by simp))
              have i2 := corn_int (corn_at cb (i := 2) (by simp))
              have i3 := corn_int (corn_at cb (i := 3) (by simp))
              obtain ⟨ip, rfl, rfl⟩ := int_of i0 q0
              obtain ⟨iu, rfl, rfl⟩ := int_of i1 q1
              obtain ⟨iq, rfl, rfl⟩ := int_of i2 q2
              obtain ⟨iv, rfl, rfl⟩ := int_of i3 q3
              have tw : tileW P' W ps [.int ip, .int iu, .int iq, .int iv] = if ip = iq ∨ iu = iv then some ("corner" : Str) else if sidesOk ps [ip, iu, iq, iv] = true then none else some ("pair" : Str) := by
                unfold tileW
                rw [if_pos cb]
                rfl
              rw [if_pos rfl, tw]
              cases sb : sidesOk ps [ip, iu, iq, iv] with
              | true =>
                rw [show ([PyData.int ip, .int iu, .int iq, .int iv].map intD) = [ip, iu, iq, iv] from rfl, sb, if_pos rfl]
                refine ⟨_, rfl, rfl, _, rfl, ?_⟩
                rw [decide_eq_true (show wordV none = V.non from rfl)]
                refine iteT (iteT ⟨_, rfl, _, rfl, rfl, _, rfl, ?_⟩)
                rw [int_dec]
                by_cases c1 : ip = iq
                · rw [decide_eq_true c1, if_pos (.inl c1)]
                  exact iteT (iteT ⟨_, rfl, rfl⟩)
                rw [decide_eq_false c1]
                refine iteF ⟨_, rfl, _, rfl, rfl, _, rfl, ?_⟩
                rw [int_dec]
                by_cases c2 : iu = iv
                · rw [decide_eq_true c2, if_pos (.inr c2)]
                  exact iteT ⟨_, rfl, rfl⟩
                rw [decide_eq_false c2, if_neg (fun z => z.elim c1 c2)]
                exact iteF ⟨_, rfl, _, rfl, rfl⟩
              | false =>
                rw [show ([PyData.int ip, .int iu, .int iq, .int iv].map intD) = [ip, iu, iq, iv] from rfl, sb, if_neg Bool.false_ne_true]
                refine ⟨_, rfl, rfl, _, rfl, ?_⟩
                rw [decide_eq_false (show ¬ wordV (some ("pair" : Str)) = V.non from fun z => by cases z)]
                refine iteF ⟨_, rfl, rfl, _, rfl, ?_⟩
                rw [decide_eq_true (show wordV (some ("pair" : Str)) = V.str "pair" from rfl)]
                refine iteT ⟨_, rfl, _, rfl, rfl, _, rfl, ?_⟩
                rw [int_dec]
                by_cases c1 : ip = iq
                · rw [decide_eq_true c1, if_pos (.inl c1)]
                  exact iteT (iteT ⟨_, rfl, rfl⟩)
                rw [decide_eq_false c1]
                refine iteF ⟨_, rfl, _, rfl, rfl, _, rfl, ?_⟩
                rw [int_dec]
                by_cases c2 : iu = iv
                · rw [decide_eq_true c2, if_pos (.inr c2)]
                  exact iteT ⟨_, rfl, rfl⟩
                rw [decide_eq_false c2, if_neg (fun z => z.elim c1 c2)]
                exact iteF ⟨_, rfl, _, rfl, rfl⟩
          · obtain ⟨y15, rfl, rfl⟩ := hM
            refine ⟨_, rfl, _, rfl, _, rfl, _, rfl, _, rfl, a, v0, v1, v2, v3, d0, d1, d2, d3, P', W, ps, rfl, hp7, q0, q1, q2, q3, fun H8 x8 s8 k8 => ?_⟩
            unfold tileD at k8
            cases tw : tileW P' W ps [d0, d1, d2, d3] with
            | none =>
              rw [tw] at k8
              refine ⟨_, rfl, _, rfl, rfl, _, rfl, ?_⟩
              rw [decide_eq_true (show wordV none = V.non from rfl)]
              have d8 := DqAll.same s8 _ d7
              refine iteT ⟨_, rfl, .ref A, .list [d0, d1, d2, d3], _, rfl, .lst (s8 _ _ hA7) d8, rfl, fun l9 H9 s9 k9 => ?_⟩
              have lw : low 1 (.tuple [d0, d1, d2, d3]) = true := low_tup lowM
              refine ⟨_, _, (k8.same s9).dp, k9.dp, low_shp lw (by decide), low_shp lw (by decide), _, rfl, ?_⟩
              rw [nes lw]
              exact iteF ⟨_, _, _, _, _, _, _, _, _, rfl, k7.trans (Keep.of (s8.trans s9)), hd7.same (s8.trans s9)⟩
            | some e =>
              rw [tw] at k8
              refine ⟨_, rfl, _, rfl, rfl, _, rfl, ?_⟩
              rw [decide_eq_false (show ¬ wordV (some e) = V.non from fun z => by cases z)]
              have lw := lay_tile tw
              refine iteF ⟨_, rfl, _, _, k8.dp, (show Dq H8 (.str e) (.str e) from .str _).dp, low_shp lw (by decide), low_shp lw (by decide), _, rfl, ?_⟩
              rw [nes lw]
              exact iteF ⟨_, _, _, _, _, _, _, _, _, rfl, k7.trans (Keep.of s8), hd7.same s8⟩
    · exact hQ G
end
end K02
set_option Elab.async false
set_option linter.all false
set_option maxRecDepth 100000
set_option maxHeartbeats 8000000
set_option exponentiation.threshold 5000
set_option pp.maxSteps 600
namespace K02
open PySem PySem.Spec PyProof.Rows L2 TkS
theorem sixTo_len2 {W : Nat} {ps : List (Int × Int)} {p q : Nat} (w4 : W ≤ 4) : ∀ m : Nat, (sixTo W ps p q m).length + (if p < q ∧ q < p + 1 + m then 64 else 0) ≤ m * 64
  | 0 => by
    rw [if_neg (by omega)]
    exact Nat.le_refl _
  | m + 1 => by
    have ih := sixTo_len2 (ps := ps) (p := p) (q := q) w4 m
    unfold sixTo at ih ⊢
    rw [rng_flat, List.length_append]
    by_cases c : p + 1 + m = q
    · rw [if_neg (by omega)] at ih
      rw [if_pos c, if_pos (by omega)]
      simp at ih ⊢
      omega
    · have s := sixes_len (W := W) (ps := ps) (p := p) (q := q) (r := (p + 1 + m : Nat)) w4
      rw [if_neg c]
      by_cases d : p < q ∧ q < p + 1 + m
      · rw [if_pos d] at ih
        rw [if_pos (by omega)]
        omega
      · rw [if_neg d] at ih
        rw [if_neg (by omega)]
        omega
theorem rRow_len2 {P W : Nat} {ps : List (Int × Int)} {p k : Nat} (w4 : W ≤ 4) (hk : k < P - (p + 1)) : (rRow P W ps p (p + 1 + k)).length ≤ 16 + (P - (p + 1) - 1) * 64 := by
  have h1 := fourU_len (W := W) (ps := ps) (p := p) (q := (p + 1 + k : Nat)) (us := bothL W ps p (p + 1 + k : Nat)) w4 (both_len _ _ _ _)
  have h2 := sixTo_len2 (W := W) (ps := ps) (p := p) (q := p + 1 + k) w4 (P - (p + 1))
  rw [if_pos (by omega)] at h2
  unfold rRow
  rw [List.length_append]
  have h3 : (sixTo W ps p (p + 1 + k) (P - (p + 1))).length ≤ (P - (p + 1) - 1) * 64 := by omega
  exact Nat.add_le_add h1 h3
theorem rowsP_len2 {P W : Nat} {ps : List (Int × Int)} {p : Nat} (w4 : W ≤ 4) : (rowsP P W ps p).length ≤ (P - (p + 1)) * (16 + (P - (p + 1) - 1) * 64) := by
  have h1 := flatMap_len (fun k => rRow P W ps p (p + 1 + k)) (16 + (P - (p + 1) - 1) * 64) (List.range (P - (p + 1))) fun k hk => rRow_len2 w4 (List.mem_range.mp hk)
  rw [List.length_range] at h1
  exact h1
def T8 (i : Nat) : Nat := if i = 0 then 0 else if i = 1 then 432 else if i = 2 then 592 else 608
theorem ringsTo_len2 {P W : Nat} {ps : List (Int × Int)} (p4 : P ≤ 4) (w4 : W ≤ 4) : ∀ i, i ≤ P → (ringsTo P W ps i).length ≤ T8 i
  | 0, _ => Nat.zero_le _
  | i + 1, h => by
    have ih := ringsTo_len2 (ps := ps) p4 w4 i (by omega)
    have r := rowsP_len2 (P := P) (ps := ps) (p := i) w4
    unfold ringsTo at ih ⊢
    rw [rng_flat, List.length_append]
    obtain ⟨d, hd⟩ : ∃ d, P - (i + 1) = d := ⟨_, rfl⟩
    rw [hd] at r
    have d3 : d ≤ 3 - i := by omega
    have t0 : T8 0 = 0 := rfl
    have t1 : T8 1 = 432 := rfl
    have t2 : T8 2 = 592 := rfl
    have t3 : T8 3 = 608 := rfl
    have t1' : T8 (0 + 1) = 432 := rfl
    have t2' : T8 (1 + 1) = 592 := rfl
    have t3' : T8 (2 + 1) = 608 := rfl
    have t4 : T8 (3 + 1) = 608 := rfl
    obtain c | c | c | c : i = 0 ∨ i = 1 ∨ i = 2 ∨ i = 3 := by omega
    · subst c
      have : d * (16 + (d - 1) * 64) ≤ 3 * (16 + 2 * 64) := Nat.mul_le_mul (by omega) (by omega)
      omega
    · subst c
      have : d * (16 + (d - 1) * 64) ≤ 2 * (16 + 1 * 64) := Nat.mul_le_mul (by omega) (by omega)
      omega
    · subst c
      have : d * (16 + (d - 1) * 64) ≤ 1 * (16 + 0 * 64) := Nat.mul_le_mul (by omega) (by omega)
      omega
    · subst c
      have : d = 0 := by omega
      subst this
      omega
theorem rings_len {P W : Int} {ps : List (Int × Int)} (p4 : P ≤ 4) (w4 : W ≤ 4) : (ringsL P.toNat W.toNat ps).length ≤ 900 := by
  have h := ringsTo_len2 (P := P.toNat) (W := W.toNat) (ps := ps) (by omega) (by omega) P.toNat (Nat.le_refl _)
  have t : T8 P.toNat ≤ 608 := by
    unfold T8
    split
    · omega
    · split
      · omega
      · split <;> omega
  exact Nat.le_trans h (by omega)
def sp_law (K : PySem.W.Frag) : Sp := fun vs H Q _ => ∃ (a : Addr) (ns : List Int), vs = [.ref a] ∧ SqL K H a (ns.map V.int) ∧ ns.length ≤ 63 ∧ ∀ H', Q (.bl true) H'
section
variable {P : Program} {w : World} {K : PySem.W.Frag} {mg : Str → Option Value} {base : Heap}
theorem ok_law (T : Txt K mg) : TopOk P w K mg base CX0 T.f_law T.d_law ["_law_script"] (sp_law K) := by
  obtain ⟨oc, od, kV, doc, pm, an, cdv, ct, osl, ed, lk, hcd⟩ := T.F_law.ex
  rw [ed] at lk ⊢
  refine top_of lk hcd sc_law (fun vs H Q E h => ?_) (fun outer s H vs Q E hr h => ?_)
  · obtain ⟨a, ns, rfl, _⟩ := h
    rfl
  · obtain ⟨sa, ns, rfl, hS, hl, q⟩ := h
    suffices hh : ∃ t, PSs (cxOf CX0 P w K mg base ["_law_script", "_law_hand_here", "_law_world", "_law_points", "_law_shuts", "_law_pairs", "_law_picture_here", "_law_rings_here", "_law_k", "_law_corners"] "law" (defScope s_law) T.f_law cdv callerA outer s H E).nox (defBody s_law) t ∧ t { nx := fun _ H' => Q .non H', rt := Q } (start ["_law_script", "_law_hand_here", "_law_world", "_law_points", "_law_shuts", "_law_pairs", "_law_picture_here", "_law_rings_here", "_law_k", "_law_corners"] [.ref sa]) H by
      obtain ⟨t, h1, h2⟩ := hh
      exact ⟨t, h1.nox, h2⟩
    have hr5 : Room 40 (callerA.deeper (envOfC "law" (defScope s_law) s.heap.objs.size T.f_law cdv)) := hr.mono (by decide)
    refine ⟨_, (pss_cons (ps_set (i := 1) sc_law.nd rfl (.inl rfl) (pe_call (ok_law_hand T) (hr5.mono (by decide)) (by rfl) T.g_law_hand T.F_law_hand.kp T.b_law_hand .nil pass0 (pa_cons (pv 0) pa_nil)))
      (pss_cons (ps_set (i := 2) sc_law.nd rfl (.inl rfl) (pe_call (ok_law_picture T) (hr5.mono (by decide)) (by rfl) T.g_law_picture T.F_law_picture.kp T.b_law_picture .nil pass0 (pa_cons (pv 1) pa_nil)))
      (pss_cons (ps_asg (pv 2) (pg_tup rfl (pgs_cons (pg_name (i := 3) sc_law.nd rfl (.inl rfl)) (pgs_cons (pg_name (i := 4) sc_law.nd rfl (.inl rfl)) (pgs_cons (pg_name (i := 5) sc_law.nd rfl (.inl rfl)) pgs_nil)))))
      (pss_cons (ps_set (i := 6) sc_law.nd rfl (.inl rfl) (pe_make T.M_Picture (ok_Picture_init T) (hr5.mono (by decide)) (by rfl) T.g_Picture T.b_Picture_init .nil passL (pa_cons (pv 3) (pa_cons (pv 4) (pa_cons (pv 5) pa_nil)))))
      (pss_cons (ps_set (i := 7) sc_law.nd rfl (.inl rfl) (pe_call (ok_law_rings T) (hr5.mono (by decide)) (by rfl) T.g_law_rings T.F_law_rings.kp T.b_law_rings .nil pass0 (pa_cons (pv 3) (pa_cons (pv 4) (pa_cons (pv 5) pa_nil)))))
      (pss_cons (ps_for PassesOwn.never rfl (pi_range1 (by rfl) T.m_range (pa_cons pe_int pa_nil)) (pg_name (i := 8) sc_law.nd rfl (.inl rfl))
        (pss_cons (ps_set (i := 9) sc_law.nd rfl (.inl rfl) (pe_call (ok_law_long T) (hr5.mono (by decide)) (by rfl) T.g_law_long T.F_law_long.kp T.b_law_long .nil pass0 (pa_cons (pv 1) (pa_cons (pv 5) (pa_cons (pv 7) pa_nil)))))
        (pss_cons (ps_if (PW.pt (pw_and (pt_cmpR op_le (pe_callB call_len_seq (by rfl) T.m_len (by decide +kernel) (pa_cons (pv 9) pa_nil)) pe_int (nomark _)) (pw_and1 (pt_not (pt_val (pe_callG rfl (ok_law_good T) (hr5.mono (by decide)) (by rfl) T.g_law_good T.F_law_good.kp T.b_law_good .nil pass0 (pa_cons (pv 6) (pa_cons (pv 5) (pa_cons (pv 9) (pa_cons (pe_call (ok_law_take T) (hr5.mono (by decide)) (by rfl) T.g_law_take T.F_law_take.kp T.b_law_take .nil pass0 (pa_cons (pv 1) (pa_cons pe_int pa_nil))) pa_nil))))))))))
          (pss_one (ps_ret pe_bl))
          pss_nil)
        (pss_cons (ps_if (PW.pt (pw_and (pt_cmpR op_le (pe_callB call_len_seq (by rfl) T.m_len (by decide +kernel) (pa_cons (pv 9) pa_nil)) pe_int (nomark _)) (pw_and1 (pt_not (pt_val (pe_callG rfl (ok_law_good T) (hr5.mono (by decide)) (by rfl) T.g_law_good T.F_law_good.kp T.b_law_good .nil pass0 (pa_cons (pv 6) (pa_cons (pv 5) (pa_cons (pe_callTy call_lstD (by rfl) T.m_list (by decide +kernel) (pa_cons (pv 9) pa_nil)) (pa_cons pe_int pa_nil))))))))))
          (pss_one (ps_ret pe_bl))
          pss_nil)
        (pss_one (ps_if (pt_not (pt_val (pe_call (ok_law_bad T) (hr5.mono (by decide)) (by rfl) T.g_law_bad T.F_law_bad.kp T.b_law_bad .nil pass0 (pa_cons (pv 1) (pa_cons (pv 2) (pa_cons (pv 6) (pa_cons (pv 9) pa_nil)))))))
          (pss_one (ps_ret pe_bl))
          pss_nil))))))
      (pss_one (ps_ret (pe_call (ok_law_tiles T) (hr5.mono (by decide)) (by rfl) T.g_law_tiles T.F_law_tiles.kp T.b_law_tiles .nil pass0 (pa_cons (pv 1) (pa_cons (pv 2) (pa_cons (pv 6) (pa_cons (pv 7) pa_nil))))))))))))), ?_⟩
    refine ⟨_, rfl, sa, ns, rfl, hS, hl, fun H1 h s1 nh hd1 => ?_⟩
    refine ⟨_, rfl, h, rfl, hd1, fun H2 wt l P' W ps k2 hd2 wd hw kl => ?_⟩
    have p0 := wd.p0
    have p1 := wd.p1
    have w0 := wd.w0
    have w1 := wd.w1
    have l16 := wd.len25
    refine ⟨_, rfl, wt, _, rfl, SqT.of hw, rfl, _, _, rfl, _, _, rfl, _, _, rfl, rfl, ?_⟩
    have we : wordD (.int P') (.int W) (.list (ps.map prD)) = none := word_none (by omega) wd.ins (asc_nodup wd.asc) rfl
    have hm : (ps.map prD).map prOf = ps := by
      rw [List.map_map, show (prOf ∘ prD) = id from rfl, List.map_id]
    refine ⟨_, rfl, _, rfl, _, rfl, mk_pic (.int P') (.int W) kl (fun ds e => by cases e; rw [List.length_map]; omega) (fun e he => by rw [we] at he; cases he) (fun P2 W2 ds e1 e2 e3 _ H3 a s3 na hp => ?_)⟩
    cases e1
    cases e2
    cases e3
    rw [hm, srt_asc wd.asc] at hp
    have hd3 := hd2.same s3
    have hw3 := s3 _ _ hw
    have kl3 := kl.same s3
    refine ⟨_, rfl, _, rfl, _, rfl, P', W, l, ps, rfl, p0, p1, w0, w1, kl3, fun rr H4 s4 nr kr4 => ?_⟩
    have hd4 := hd3.same s4
    have hw4 := s4 _ _ hw3
    have kl4 := kl3.same s4
    have hp4 := hp.same s4
    have rl := rings_len (ps := ps) p1 w1
    have wth : wt ≠ h := fun z => by
      obtain ⟨c1, c2, c3, c4, c5, e1, _⟩ := hd4.ex
      rw [z, e1] at hw4
      cases hw4
    have now : ∀ {G : Hp}, Keep h H4 G → G wt = some (.tup [.int P', .int W, .ref l]) ∧ Pic T.C_Picture G a P' W ps ∧ Dq G (.ref l) (.list (ps.map prD)) ∧ Dq G (.ref rr) (.list ((ringsL P'.toNat W.toNat ps).map rowD)) := fun k => ⟨k _ _ wth hw4, pic_kp hp4 hd4 k, dq_kp hd4 k (noHd_prs ps) kl4, dq_kp hd4 k (noHd_rows _) kr4⟩
    refine ⟨2, rfl, by decide, by decide, for_range (n := 2) (fun i σ G => ∃ y8 y9, σ = [some (.ref sa), some (.ref h), some (.ref wt), some (.int P'), some (.int W), some (.ref l), some (.ref a), some (.ref rr), y8, y9] ∧ Keep h H4 G ∧ Hand G h)
      ⟨_, _, rfl, Keep.refl, hd4⟩ (fun i σ G hi hP => ?_) (fun σ G hP => ?_)⟩
    · obtain ⟨y8, y9, rfl, kG, hdG⟩ := hP
      obtain ⟨_, _, b3, b4⟩ := now kG
      refine ⟨_, rfl, _, rfl, _, rfl, h, l, rr, ps, ringsL P'.toNat W.toNat ps, rfl, hdG, b3, by have := wd.len; omega, by omega, b4, by omega, fun r hr' => rings_good hr', fun G5 v cs k5 hd5 g l64 kv => ?_⟩
      have kG5 := kG.trans k5
      obtain ⟨c1, c2, c3, c4⟩ := now kG5
      obtain ⟨px, rfl, hx⟩ := row_tup kv
      have g4 := g.four
      have kx : Dq G5 (.ref px) (rowD cs) := tupI hx
      have lx : (cs.map V.int).length = cs.length := List.length_map _
      refine ⟨_, rfl, px, _, rfl, .inr (SqT.of hx), _, _, rfl, rfl, _, rfl, ?_⟩
      by_cases c : (((cs.map V.int).length : Nat) : Int) ≤ 60
      · rw [decide_eq_true c]
        have l60 : cs.length ≤ 60 := by omega
        refine iteT ⟨_, rfl, _, rfl, _, rfl, _, rfl, h, 2, rfl, hd5, by decide, by decide, fun G6 sg k6 hd6 q0 q1 => ?_⟩
        have kG6 := kG5.trans k6
        obtain ⟨e1, e2, e3, e4⟩ := now kG6
        have kx6 := dq_kp hd5 k6 (noHd_row cs) kx
        refine ⟨a, l, .ref px, sg, rowD cs, cs, P', W, ps, rfl, e2, e3, kx6, rfl, g, l60, q0, by omega, fun G7 s7 => ⟨_, rfl, iteF ?_⟩⟩
        have kx7 := kx6.same s7
        obtain ⟨_, z7, hx7⟩ := row_tup kx7
        cases z7
        refine ⟨_, rfl, px, _, rfl, .inr (SqT.of hx7), _, _, rfl, rfl, _, rfl, ?_⟩
        rw [decide_eq_true c]
        refine iteT ⟨_, rfl, _, rfl, _, rfl, .ref px, rowD cs, _, rfl, kx7, rfl, fun l8 G8 s8 n8 k8 => ?_⟩
        refine ⟨a, l, .ref l8, 1, .list (cs.map PyData.int), cs, P', W, ps, rfl, (e2.same s7).same s8, (e3.same s7).same s8, k8, rfl, g, l60, by decide, by decide, fun G9 s9 => ⟨_, rfl, iteF ?_⟩⟩
        have s79 := (s7.trans s8).trans s9
        refine ⟨_, rfl, _, rfl, _, rfl, _, rfl, h, wt, a, l, .ref px, cs, P', W, ps, rfl, hd6.same s79, s79 _ _ e1, e2.same s79, e3.same s79, kx6.same s79, by omega, l64, fun GA kA hdA => ⟨_, rfl, iteF ⟨_, _, rfl, (kG6.trans (Keep.of s79)).trans kA, hdA⟩⟩⟩
      · rw [decide_eq_false c]
        refine iteF (iteF ⟨_, rfl, px, _, rfl, .inr (SqT.of hx), _, _, rfl, rfl, _, rfl, ?_⟩)
        rw [decide_eq_false c]
        refine iteF (iteF ?_)
        refine ⟨_, rfl, _, rfl, _, rfl, _, rfl, h, wt, a, l, .ref px, cs, P', W, ps, rfl, hd5, c1, c2, c3, kx, by omega, l64, fun GA kA hdA => ⟨_, rfl, iteF ⟨_, _, rfl, kG5.trans kA, hdA⟩⟩⟩
    · obtain ⟨y8, y9, rfl, kG, hdG⟩ := hP
      obtain ⟨b1, b2, b3, b4⟩ := now kG
      exact ⟨_, rfl, _, rfl, _, rfl, _, rfl, h, wt, a, l, rr, P', W, ps, rfl, hdG, b1, b2, b3, b4, wd, rl, q⟩
end
end K02
set_option Elab.async false
set_option linter.all false
set_option maxRecDepth 100000
set_option maxHeartbeats 8000000
set_option exponentiation.threshold 5000
namespace K02
open PySem PySem.Spec PyProof.Rows L2 TkS
theorem own_cls {K : PySem.W.Frag} {t : Value} {C : Addr} {b : Bool} (h2 : PySem.W.isClsIn K C = true) (h3 : PySem.W.typeIn K (.ref C) = some (.type "type")) (h4 : PySem.W.subIn K t (.ref C) = some b) : PySem.W.kitCls K t (.ref C) = some b := by
  have e2 : ((PySem.W.clsIn K C).isSome && PySem.W.typeIn K (.ref C) == some (.type "type")) = true := by
    have h2' : (PySem.W.clsIn K C).isSome = true := h2
    rw [h2', h3] <;> rfl
  show (if ((PySem.W.clsIn K C).isSome && PySem.W.typeIn K (.ref C) == some (.type "type")) = true then PySem.W.subIn K t (.ref C) else none) = some b
  rw [if_pos e2]
  exact h4
theorem own_exm {K : PySem.W.Frag} {t : Value} {C : Addr} {b : Bool} (h1 : PySem.W.subIn K (.ref C) (.type "BaseException") = some true) (h2 : PySem.W.isClsIn K C = true) (h3 : PySem.W.typeIn K (.ref C) = some (.type "type")) (h4 : PySem.W.subIn K t (.ref C) = some b) : PySem.W.exmOne K t (.ref C) = some b := by
  have e1 : (PySem.W.subIn K (.ref C) (.type "BaseException") == some true) = true := by rw [h1] <;> rfl
  show (if (PySem.W.subIn K (.ref C) (.type "BaseException") == some true) = true then PySem.W.kitCls K t (.ref C) else none) = some b
  rw [if_pos e1]
  exact own_cls h2 h3 h4
theorem own_kit {K : PySem.W.Frag} {D C : Addr} {b : Bool} (h2 : PySem.W.isClsIn K C = true) (h3 : PySem.W.typeIn K (.ref C) = some (.type "type")) (h4 : PySem.W.subIn K (.ref D) (.ref C) = some b) (hb : (D == C) = true → b = true) : PySem.W.kitOne K (.ref D) (.ref C) = some b := by
  unfold PySem.W.kitOne
  by_cases z : ((Value.ref D) == (Value.ref C)) = true
  · rw [if_pos z]
    have z2 : (D == C) = true := by
      have := eq_of_beq z
      cases this
      exact beq_self_eq_true _
    rw [hb z2]
  · rw [if_neg z]
    exact own_cls h2 h3 h4
theorem all_mk {l : PySem.W.OpenLaw} {w : World} {K : PySem.W.Frag} {h : Heap} {mg : Str → Option Value} {fa CE_SheetError CE_BadPicture CE_NotOpen CE_BadSign CE_BadRing CC_Picture pp21 f0 f1 f2 f3 f4 f5 f6 f7 f8 f9 f10 f11 f12 f13 f14 f15 f16 f17 f18 f19 f20 f21 f22 f23 f24 f25 f26 f27 f28 f29 f30 f31 f32 f33 f34 f35 f36 f37 f38 f39 f40 f41 f42 f43 : Addr} {rest21 : List Value} {tkc_FEWEST_CORNERS tkc_MOST_CORNERS_rings tkc_MOST_CORNERS_pictures : Tok} (X : K.In h) (G : h.Ns mainGlobals mg) (hfa : mg "law" = some (.ref fa))
    {od0 an0 : Option Addr} {sl0 : Array (Option Value)} {oc0 kV0 dc0 pm0 cd0 ct0 : Value}
    {od1 an1 : Option Addr} {sl1 : Array (Option Value)} {oc1 kV1 dc1 pm1 cd1 ct1 : Value}
    {od2 an2 : Option Addr} {sl2 : Array (Option Value)} {oc2 kV2 dc2 pm2 cd2 ct2 : Value}
    {od3 an3 : Option Addr} {sl3 : Array (Option Value)} {oc3 kV3 dc3 pm3 cd3 ct3 : Value}
    {D3 : Addr} {ocD3 : Value} {odD3 : Option Addr} {nD3 : Nat} {slD3 : Array (Option Value)}
    {od4 an4 : Option Addr} {sl4 : Array (Option Value)} {oc4 kV4 dc4 pm4 cd4 ct4 : Value}
    {od5 an5 : Option Addr} {sl5 : Array (Option Value)} {oc5 kV5 dc5 pm5 cd5 ct5 : Value}
    {D5 : Addr} {ocD5 : Value} {odD5 : Option Addr} {nD5 : Nat} {slD5 : Array (Option Value)}
    {od6 an6 : Option Addr} {sl6 : Array (Option Value)} {oc6 kV6 dc6 pm6 cd6 ct6 : Value}
    {od7 an7 : Option Addr} {sl7 : Array (Option Value)} {oc7 kV7 dc7 pm7 cd7 ct7 : Value}
    {od8 an8 : Option Addr} {sl8 : Array (Option Value)} {oc8 kV8 dc8 pm8 cd8 ct8 : Value}
    {od9 an9 : Option Addr} {sl9 : Array (Option Value)} {oc9 kV9 dc9 pm9 cd9 ct9 : Value}
    {od10 an10 : Option Addr} {sl10 : Array (Option Value)} {oc10 kV10 dc10 pm10 cd10 ct10 : Value}
    {od11 an11 : Option Addr} {sl11 : Array (Option Value)} {oc11 kV11 dc11 pm11 cd11 ct11 : Value}
    {od12 an12 : Option Addr} {sl12 : Array (Option Value)} {oc12 kV12 dc12 pm12 cd12 ct12 : Value}
    {od13 an13 : Option Addr} {sl13 : Array (Option Value)} {oc13 kV13 dc13 pm13 cd13 ct13 : Value}
    {od14 an14 : Option Addr} {sl14 : Array (Option Value)} {oc14 kV14 dc14 pm14 cd14 ct14 : Value}
    {od15 an15 : Option Addr} {sl15 : Array (Option Value)} {oc15 kV15 dc15 pm15 cd15 ct15 : Value}
    {od16 an16 : Option Addr} {sl16 : Array (Option Value)} {oc16 kV16 dc16 pm16 cd16 ct16 : Value}
    {od17 an17 : Option Addr} {sl17 : Array (Option Value)} {oc17 kV17 dc17 pm17 cd17 ct17 : Value}
    {od18 an18 : Option Addr} {sl18 : Array (Option Value)} {oc18 kV18 dc18 pm18 cd18 ct18 : Value}
    {od19 an19 : Option Addr} {sl19 : Array (Option Value)} {oc19 kV19 dc19 pm19 cd19 ct19 : Value}
    {od20 an20 : Option Addr} {sl20 : Array (Option Value)} {oc20 kV20 dc20 pm20 cd20 ct20 : Value}
    {od21 an21 : Option Addr} {sl21 : Array (Option Value)} {oc21 kV21 dc21 pm21 cd21 ct21 : Value}
    {od22 an22 : Option Addr} {sl22 : Array (Option Value)} {oc22 kV22 dc22 pm22 cd22 ct22 : Value}
    {od23 an23 : Option Addr} {sl23 : Array (Option Value)} {oc23 kV23 dc23 pm23 cd23 ct23 : Value}
    {od24 an24 : Option Addr} {sl24 : Array (Option Value)} {oc24 kV24 dc24 pm24 cd24 ct24 : Value}
    {od25 an25 : Option Addr} {sl25 : Array (Option Value)} {oc25 kV25 dc25 pm25 cd25 ct25 : Value}
    {od26 an26 : Option Addr} {sl26 : Array (Option Value)} {oc26 kV26 dc26 pm26 cd26 ct26 : Value}
    {od27 an27 : Option Addr} {sl27 : Array (Option Value)} {oc27 kV27 dc27 pm27 cd27 ct27 : Value}
    {od28 an28 : Option Addr} {sl28 : Array (Option Value)} {oc28 kV28 dc28 pm28 cd28 ct28 : Value}
    {od29 an29 : Option Addr} {sl29 : Array (Option Value)} {oc29 kV29 dc29 pm29 cd29 ct29 : Value}
    {od30 an30 : Option Addr} {sl30 : Array (Option Value)} {oc30 kV30 dc30 pm30 cd30 ct30 : Value}
    {od31 an31 : Option Addr} {sl31 : Array (Option Value)} {oc31 kV31 dc31 pm31 cd31 ct31 : Value}
    {od32 an32 : Option Addr} {sl32 : Array (Option Value)} {oc32 kV32 dc32 pm32 cd32 ct32 : Value}
    {od33 an33 : Option Addr} {sl33 : Array (Option Value)} {oc33 kV33 dc33 pm33 cd33 ct33 : Value}
    {od34 an34 : Option Addr} {sl34 : Array (Option Value)} {oc34 kV34 dc34 pm34 cd34 ct34 : Value}
    {od35 an35 : Option Addr} {sl35 : Array (Option Value)} {oc35 kV35 dc35 pm35 cd35 ct35 : Value}
    {od36 an36 : Option Addr} {sl36 : Array (Option Value)} {oc36 kV36 dc36 pm36 cd36 ct36 : Value}
    {od37 an37 : Option Addr} {sl37 : Array (Option Value)} {oc37 kV37 dc37 pm37 cd37 ct37 : Value}
    {od38 an38 : Option Addr} {sl38 : Array (Option Value)} {oc38 kV38 dc38 pm38 cd38 ct38 : Value}
    {od39 an39 : Option Addr} {sl39 : Array (Option Value)} {oc39 kV39 dc39 pm39 cd39 ct39 : Value}
    {od40 an40 : Option Addr} {sl40 : Array (Option Value)} {oc40 kV40 dc40 pm40 cd40 ct40 : Value}
    {od41 an41 : Option Addr} {sl41 : Array (Option Value)} {oc41 kV41 dc41 pm41 cd41 ct41 : Value}
    {od42 an42 : Option Addr} {sl42 : Array (Option Value)} {oc42 kV42 dc42 pm42 cd42 ct42 : Value}
    {od43 an43 : Option Addr} {sl43 : Array (Option Value)} {oc43 kV43 dc43 pm43 cd43 ct43 : Value}
    {nm_BadPicture qn_BadPicture : Str} {NB_BadPicture : Addr} {bs_BadPicture bm_BadPicture sub_BadPicture : List Value} {sn_BadPicture : List Str} {ab_BadPicture : Bool} {col_BadPicture : Option Bool} {dd_BadPicture : Option Addr} {m0_BadPicture m1_BadPicture m2_BadPicture m3_BadPicture m5_BadPicture : Option Value}
    {nm_NotOpen qn_NotOpen : Str} {NB_NotOpen : Addr} {bs_NotOpen bm_NotOpen sub_NotOpen : List Value} {sn_NotOpen : List Str} {ab_NotOpen : Bool} {col_NotOpen : Option Bool} {dd_NotOpen : Option Addr} {m0_NotOpen m1_NotOpen m2_NotOpen m3_NotOpen m5_NotOpen : Option Value}
    {nm_BadRing qn_BadRing : Str} {NB_BadRing : Addr} {bs_BadRing bm_BadRing sub_BadRing : List Value} {sn_BadRing : List Str} {ab_BadRing : Bool} {col_BadRing : Option Bool} {dd_BadRing : Option Addr} {m0_BadRing m1_BadRing m2_BadRing m3_BadRing m5_BadRing : Option Value}
    (h_SheetError : PySem.W.nsIn K mainGlobals "SheetError" = some (some (.ref CE_SheetError)))
    (h_BadPicture : PySem.W.nsIn K mainGlobals "BadPicture" = some (some (.ref CE_BadPicture)))
    (h_NotOpen : PySem.W.nsIn K mainGlobals "NotOpen" = some (some (.ref CE_NotOpen)))
    (h_BadSign : PySem.W.nsIn K mainGlobals "BadSign" = some (some (.ref CE_BadSign)))
    (h_BadRing : PySem.W.nsIn K mainGlobals "BadRing" = some (some (.ref CE_BadRing)))
    (h_Picture : PySem.W.nsIn K mainGlobals "Picture" = some (some (.ref CC_Picture)))
    (a0 : PySem.W.findIn K (.ref CE_BadPicture) "__init__" = some (some (.ref f0)))
    (i0 : PySem.W.isFn K (.ref f0) = true)
    (l0 : K.lookup f0 = some ⟨oc0, od0, .func (PySem.W.fnOf "__init__" "BadPicture.__init__" (defArgs s_BadPicture_init) (defBody s_BadPicture_init) (defScope s_BadPicture_init) .none kV0 dc0 pm0 an0 cd0 ct0), sl0⟩)
    (c0 : PySem.W.codeIn K cd0 "BadPicture.__init__" = true)
    (k0 : PySem.W.keepIn K (.ref f0) = true)
    (a1 : PySem.W.findIn K (.ref CE_NotOpen) "__init__" = some (some (.ref f1)))
    (i1 : PySem.W.isFn K (.ref f1) = true)
    (l1 : K.lookup f1 = some ⟨oc1, od1, .func (PySem.W.fnOf "__init__" "NotOpen.__init__" (defArgs s_NotOpen_init) (defBody s_NotOpen_init) (defScope s_NotOpen_init) .none kV1 dc1 pm1 an1 cd1 ct1), sl1⟩)
    (c1 : PySem.W.codeIn K cd1 "NotOpen.__init__" = true)
    (k1 : PySem.W.keepIn K (.ref f1) = true)
    (a2 : PySem.W.findIn K (.ref CE_BadRing) "__init__" = some (some (.ref f2)))
    (i2 : PySem.W.isFn K (.ref f2) = true)
    (l2 : K.lookup f2 = some ⟨oc2, od2, .func (PySem.W.fnOf "__init__" "BadRing.__init__" (defArgs s_BadRing_init) (defBody s_BadRing_init) (defScope s_BadRing_init) .none kV2 dc2 pm2 an2 cd2 ct2), sl2⟩)
    (c2 : PySem.W.codeIn K cd2 "BadRing.__init__" = true)
    (k2 : PySem.W.keepIn K (.ref f2) = true)
    (a3 : PySem.W.nsIn K mainGlobals "is_whole" = some (some (.ref f3)))
    (l3 : K.lookup f3 = some ⟨oc3, od3, .func (PySem.W.fnOf "is_whole" "is_whole" (defArgs s_is_whole) (defBody s_is_whole) (defScope s_is_whole) (.ref D3) kV3 dc3 pm3 an3 cd3 ct3), sl3⟩)
    (c3 : PySem.W.codeIn K cd3 "is_whole" = true)
    (k3 : PySem.W.keepIn K (.ref f3) = true)
    (e3 : K.lookup D3 = some ⟨ocD3, odD3, .seq #[.none, .none] nD3, slD3⟩)
    (a4 : PySem.W.nsIn K mainGlobals "is_sign" = some (some (.ref f4)))
    (l4 : K.lookup f4 = some ⟨oc4, od4, .func (PySem.W.fnOf "is_sign" "is_sign" (defArgs s_is_sign) (defBody s_is_sign) (defScope s_is_sign) .none kV4 dc4 pm4 an4 cd4 ct4), sl4⟩)
    (c4 : PySem.W.codeIn K cd4 "is_sign" = true)
    (k4 : PySem.W.keepIn K (.ref f4) = true)
    (a5 : PySem.W.nsIn K mainGlobals "is_sequence" = some (some (.ref f5)))
    (l5 : K.lookup f5 = some ⟨oc5, od5, .func (PySem.W.fnOf "is_sequence" "is_sequence" (defArgs s_is_sequence) (defBody s_is_sequence) (defScope s_is_sequence) (.ref D5) kV5 dc5 pm5 an5 cd5 ct5), sl5⟩)
    (c5 : PySem.W.codeIn K cd5 "is_sequence" = true)
    (k5 : PySem.W.keepIn K (.ref f5) = true)
    (e5 : K.lookup D5 = some ⟨ocD5, odD5, .seq #[.none] nD5, slD5⟩)
    (a6 : PySem.W.nsIn K mainGlobals "ring_sides" = some (some (.ref f6)))
    (l6 : K.lookup f6 = some ⟨oc6, od6, .func (PySem.W.fnOf "ring_sides" "ring_sides" (defArgs s_ring_sides) (defBody s_ring_sides) (defScope s_ring_sides) .none kV6 dc6 pm6 an6 cd6 ct6), sl6⟩)
    (c6 : PySem.W.codeIn K cd6 "ring_sides" = true)
    (k6 : PySem.W.keepIn K (.ref f6) = true)
    (a7 : PySem.W.nsIn K mainGlobals "_check_corners" = some (some (.ref f7)))
    (l7 : K.lookup f7 = some ⟨oc7, od7, .func (PySem.W.fnOf "_check_corners" "_check_corners" (defArgs s_check_corners) (defBody s_check_corners) (defScope s_check_corners) .none kV7 dc7 pm7 an7 cd7 ct7), sl7⟩)
    (c7 : PySem.W.codeIn K cd7 "_check_corners" = true)
    (k7 : PySem.W.keepIn K (.ref f7) = true)
    (a8 : PySem.W.nsIn K mainGlobals "_check_sides" = some (some (.ref f8)))
    (l8 : K.lookup f8 = some ⟨oc8, od8, .func (PySem.W.fnOf "_check_sides" "_check_sides" (defArgs s_check_sides) (defBody s_check_sides) (defScope s_check_sides) .none kV8 dc8 pm8 an8 cd8 ct8), sl8⟩)
    (c8 : PySem.W.codeIn K cd8 "_check_sides" = true)
    (k8 : PySem.W.keepIn K (.ref f8) = true)
    (a9 : PySem.W.nsIn K mainGlobals "check_ring" = some (some (.ref f9)))
    (l9 : K.lookup f9 = some ⟨oc9, od9, .func (PySem.W.fnOf "check_ring" "check_ring" (defArgs s_check_ring) (defBody s_check_ring) (defScope s_check_ring) .none kV9 dc9 pm9 an9 cd9 ct9), sl9⟩)
    (c9 : PySem.W.codeIn K cd9 "check_ring" = true)
    (k9 : PySem.W.keepIn K (.ref f9) = true)
    (a10 : PySem.W.nsIn K mainGlobals "ring_tour" = some (some (.ref f10)))
    (l10 : K.lookup f10 = some ⟨oc10, od10, .func (PySem.W.fnOf "ring_tour" "ring_tour" (defArgs s_ring_tour) (defBody s_ring_tour) (defScope s_ring_tour) .none kV10 dc10 pm10 an10 cd10 ct10), sl10⟩)
    (c10 : PySem.W.codeIn K cd10 "ring_tour" = true)
    (k10 : PySem.W.keepIn K (.ref f10) = true)
    (a11 : PySem.W.nsIn K mainGlobals "ring_saying" = some (some (.ref f11)))
    (l11 : K.lookup f11 = some ⟨oc11, od11, .func (PySem.W.fnOf "ring_saying" "ring_saying" (defArgs s_ring_saying) (defBody s_ring_saying) (defScope s_ring_saying) .none kV11 dc11 pm11 an11 cd11 ct11), sl11⟩)
    (c11 : PySem.W.codeIn K cd11 "ring_saying" = true)
    (k11 : PySem.W.keepIn K (.ref f11) = true)
    (a12 : PySem.W.nsIn K mainGlobals "turned_ring" = some (some (.ref f12)))
    (l12 : K.lookup f12 = some ⟨oc12, od12, .func (PySem.W.fnOf "turned_ring" "turned_ring" (defArgs s_turned_ring) (defBody s_turned_ring) (defScope s_turned_ring) .none kV12 dc12 pm12 an12 cd12 ct12), sl12⟩)
    (c12 : PySem.W.codeIn K cd12 "turned_ring" = true)
    (k12 : PySem.W.keepIn K (.ref f12) = true)
    (a13 : PySem.W.nsIn K mainGlobals "tile_ring" = some (some (.ref f13)))
    (l13 : K.lookup f13 = some ⟨oc13, od13, .func (PySem.W.fnOf "tile_ring" "tile_ring" (defArgs s_tile_ring) (defBody s_tile_ring) (defScope s_tile_ring) .none kV13 dc13 pm13 an13 cd13 ct13), sl13⟩)
    (c13 : PySem.W.codeIn K cd13 "tile_ring" = true)
    (k13 : PySem.W.keepIn K (.ref f13) = true)
    (a14 : PySem.W.nsIn K mainGlobals "tiles_of" = some (some (.ref f14)))
    (l14 : K.lookup f14 = some ⟨oc14, od14, .func (PySem.W.fnOf "tiles_of" "tiles_of" (defArgs s_tiles_of) (defBody s_tiles_of) (defScope s_tiles_of) .none kV14 dc14 pm14 an14 cd14 ct14), sl14⟩)
    (c14 : PySem.W.codeIn K cd14 "tiles_of" = true)
    (k14 : PySem.W.keepIn K (.ref f14) = true)
    (a15 : PySem.W.nsIn K mainGlobals "merged_labels" = some (some (.ref f15)))
    (l15 : K.lookup f15 = some ⟨oc15, od15, .func (PySem.W.fnOf "merged_labels" "merged_labels" (defArgs s_merged_labels) (defBody s_merged_labels) (defScope s_merged_labels) .none kV15 dc15 pm15 an15 cd15 ct15), sl15⟩)
    (c15 : PySem.W.codeIn K cd15 "merged_labels" = true)
    (k15 : PySem.W.keepIn K (.ref f15) = true)
    (a16 : PySem.W.nsIn K mainGlobals "_piece_labels" = some (some (.ref f16)))
    (l16 : K.lookup f16 = some ⟨oc16, od16, .func (PySem.W.fnOf "_piece_labels" "_piece_labels" (defArgs s_piece_labels) (defBody s_piece_labels) (defScope s_piece_labels) .none kV16 dc16 pm16 an16 cd16 ct16), sl16⟩)
    (c16 : PySem.W.codeIn K cd16 "_piece_labels" = true)
    (k16 : PySem.W.keepIn K (.ref f16) = true)
    (a17 : PySem.W.nsIn K mainGlobals "_pieces_by_labels" = some (some (.ref f17)))
    (l17 : K.lookup f17 = some ⟨oc17, od17, .func (PySem.W.fnOf "_pieces_by_labels" "_pieces_by_labels" (defArgs s_pieces_by_labels) (defBody s_pieces_by_labels) (defScope s_pieces_by_labels) .none kV17 dc17 pm17 an17 cd17 ct17), sl17⟩)
    (c17 : PySem.W.codeIn K cd17 "_pieces_by_labels" = true)
    (k17 : PySem.W.keepIn K (.ref f17) = true)
    (a18 : PySem.W.findIn K (.ref CC_Picture) "__init__" = some (some (.ref f18)))
    (i18 : PySem.W.isFn K (.ref f18) = true)
    (l18 : K.lookup f18 = some ⟨oc18, od18, .func (PySem.W.fnOf "__init__" "Picture.__init__" (defArgs s_Picture_init) (defBody s_Picture_init) (defScope s_Picture_init) .none kV18 dc18 pm18 an18 cd18 ct18), sl18⟩)
    (c18 : PySem.W.codeIn K cd18 "Picture.__init__" = true)
    (k18 : PySem.W.keepIn K (.ref f18) = true)
    (a19 : PySem.W.findIn K (.ref CC_Picture) "__eq__" = some (some (.ref f19)))
    (i19 : PySem.W.isFn K (.ref f19) = true)
    (l19 : K.lookup f19 = some ⟨oc19, od19, .func (PySem.W.fnOf "__eq__" "Picture.__eq__" (defArgs s_Picture_eq) (defBody s_Picture_eq) (defScope s_Picture_eq) .none kV19 dc19 pm19 an19 cd19 ct19), sl19⟩)
    (c19 : PySem.W.codeIn K cd19 "Picture.__eq__" = true)
    (k19 : PySem.W.keepIn K (.ref f19) = true)
    (a20 : PySem.W.findIn K (.ref CC_Picture) "__len__" = some (some (.ref f20)))
    (i20 : PySem.W.isFn K (.ref f20) = true)
    (l20 : K.lookup f20 = some ⟨oc20, od20, .func (PySem.W.fnOf "__len__" "Picture.__len__" (defArgs s_Picture_len) (defBody s_Picture_len) (defScope s_Picture_len) .none kV20 dc20 pm20 an20 cd20 ct20), sl20⟩)
    (c20 : PySem.W.codeIn K cd20 "Picture.__len__" = true)
    (k20 : PySem.W.keepIn K (.ref f20) = true)
    (a21 : PySem.W.findIn K (.ref CC_Picture) "pieces" = some (some (.ref pp21)))
    (r21 : PySem.W.recIn K pp21 "property" = some (.ref f21 :: rest21))
    (i21 : PySem.W.isFn K (.ref f21) = true)
    (l21 : K.lookup f21 = some ⟨oc21, od21, .func (PySem.W.fnOf "pieces" "Picture.pieces" (defArgs s_Picture_pieces) (defBody s_Picture_pieces) (defScope s_Picture_pieces) .none kV21 dc21 pm21 an21 cd21 ct21), sl21⟩)
    (c21 : PySem.W.codeIn K cd21 "Picture.pieces" = true)
    (k21 : PySem.W.keepIn K (.ref f21) = true)
    (a22 : PySem.W.findIn K (.ref CC_Picture) "_is_pair" = some (some (.ref f22)))
    (i22 : PySem.W.isFn K (.ref f22) = true)
    (l22 : K.lookup f22 = some ⟨oc22, od22, .func (PySem.W.fnOf "_is_pair" "Picture._is_pair" (defArgs s_Pictureis_pair) (defBody s_Pictureis_pair) (defScope s_Pictureis_pair) .none kV22 dc22 pm22 an22 cd22 ct22), sl22⟩)
    (c22 : PySem.W.codeIn K cd22 "Picture._is_pair" = true)
    (k22 : PySem.W.keepIn K (.ref f22) = true)
    (a23 : PySem.W.findIn K (.ref CC_Picture) "place_of" = some (some (.ref f23)))
    (i23 : PySem.W.isFn K (.ref f23) = true)
    (l23 : K.lookup f23 = some ⟨oc23, od23, .func (PySem.W.fnOf "place_of" "Picture.place_of" (defArgs s_Picture_place_of) (defBody s_Picture_place_of) (defScope s_Picture_place_of) .none kV23 dc23 pm23 an23 cd23 ct23), sl23⟩)
    (c23 : PySem.W.codeIn K cd23 "Picture.place_of" = true)
    (k23 : PySem.W.keepIn K (.ref f23) = true)
    (a24 : PySem.W.findIn K (.ref CC_Picture) "is_open" = some (some (.ref f24)))
    (i24 : PySem.W.isFn K (.ref f24) = true)
    (l24 : K.lookup f24 = some ⟨oc24, od24, .func (PySem.W.fnOf "is_open" "Picture.is_open" (defArgs s_Picture_is_open) (defBody s_Picture_is_open) (defScope s_Picture_is_open) .none kV24 dc24 pm24 an24 cd24 ct24), sl24⟩)
    (c24 : PySem.W.codeIn K cd24 "Picture.is_open" = true)
    (k24 : PySem.W.keepIn K (.ref f24) = true)
    (a25 : PySem.W.nsIn K mainGlobals "_law_hand" = some (some (.ref f25)))
    (l25 : K.lookup f25 = some ⟨oc25, od25, .func (PySem.W.fnOf "_law_hand" "_law_hand" (defArgs s_law_hand) (defBody s_law_hand) (defScope s_law_hand) .none kV25 dc25 pm25 an25 cd25 ct25), sl25⟩)
    (c25 : PySem.W.codeIn K cd25 "_law_hand" = true)
    (k25 : PySem.W.keepIn K (.ref f25) = true)
    (a26 : PySem.W.nsIn K mainGlobals "_law_mixed" = some (some (.ref f26)))
    (l26 : K.lookup f26 = some ⟨oc26, od26, .func (PySem.W.fnOf "_law_mixed" "_law_mixed" (defArgs s_law_mixed) (defBody s_law_mixed) (defScope s_law_mixed) .none kV26 dc26 pm26 an26 cd26 ct26), sl26⟩)
    (c26 : PySem.W.codeIn K cd26 "_law_mixed" = true)
    (k26 : PySem.W.keepIn K (.ref f26) = true)
    (a27 : PySem.W.nsIn K mainGlobals "_law_take" = some (some (.ref f27)))
    (l27 : K.lookup f27 = some ⟨oc27, od27, .func (PySem.W.fnOf "_law_take" "_law_take" (defArgs s_law_take) (defBody s_law_take) (defScope s_law_take) .none kV27 dc27 pm27 an27 cd27 ct27), sl27⟩)
    (c27 : PySem.W.codeIn K cd27 "_law_take" = true)
    (k27 : PySem.W.keepIn K (.ref f27) = true)
    (a28 : PySem.W.nsIn K mainGlobals "_law_whole" = some (some (.ref f28)))
    (l28 : K.lookup f28 = some ⟨oc28, od28, .func (PySem.W.fnOf "_law_whole" "_law_whole" (defArgs s_law_whole) (defBody s_law_whole) (defScope s_law_whole) .none kV28 dc28 pm28 an28 cd28 ct28), sl28⟩)
    (c28 : PySem.W.codeIn K cd28 "_law_whole" = true)
    (k28 : PySem.W.keepIn K (.ref f28) = true)
    (a29 : PySem.W.nsIn K mainGlobals "_law_full" = some (some (.ref f29)))
    (l29 : K.lookup f29 = some ⟨oc29, od29, .func (PySem.W.fnOf "_law_full" "_law_full" (defArgs s_law_full) (defBody s_law_full) (defScope s_law_full) .none kV29 dc29 pm29 an29 cd29 ct29), sl29⟩)
    (c29 : PySem.W.codeIn K cd29 "_law_full" = true)
    (k29 : PySem.W.keepIn K (.ref f29) = true)
    (a30 : PySem.W.nsIn K mainGlobals "_law_picture" = some (some (.ref f30)))
    (l30 : K.lookup f30 = some ⟨oc30, od30, .func (PySem.W.fnOf "_law_picture" "_law_picture" (defArgs s_law_picture) (defBody s_law_picture) (defScope s_law_picture) .none kV30 dc30 pm30 an30 cd30 ct30), sl30⟩)
    (c30 : PySem.W.codeIn K cd30 "_law_picture" = true)
    (k30 : PySem.W.keepIn K (.ref f30) = true)
    (a31 : PySem.W.nsIn K mainGlobals "_law_ring_tour" = some (some (.ref f31)))
    (l31 : K.lookup f31 = some ⟨oc31, od31, .func (PySem.W.fnOf "_law_ring_tour" "_law_ring_tour" (defArgs s_law_ring_tour) (defBody s_law_ring_tour) (defScope s_law_ring_tour) .none kV31 dc31 pm31 an31 cd31 ct31), sl31⟩)
    (c31 : PySem.W.codeIn K cd31 "_law_ring_tour" = true)
    (k31 : PySem.W.keepIn K (.ref f31) = true)
    (a32 : PySem.W.nsIn K mainGlobals "_law_rings" = some (some (.ref f32)))
    (l32 : K.lookup f32 = some ⟨oc32, od32, .func (PySem.W.fnOf "_law_rings" "_law_rings" (defArgs s_law_rings) (defBody s_law_rings) (defScope s_law_rings) .none kV32 dc32 pm32 an32 cd32 ct32), sl32⟩)
    (c32 : PySem.W.codeIn K cd32 "_law_rings" = true)
    (k32 : PySem.W.keepIn K (.ref f32) = true)
    (a33 : PySem.W.nsIn K mainGlobals "_law_sixes" = some (some (.ref f33)))
    (l33 : K.lookup f33 = some ⟨oc33, od33, .func (PySem.W.fnOf "_law_sixes" "_law_sixes" (defArgs s_law_sixes) (defBody s_law_sixes) (defScope s_law_sixes) .none kV33 dc33 pm33 an33 cd33 ct33), sl33⟩)
    (c33 : PySem.W.codeIn K cd33 "_law_sixes" = true)
    (k33 : PySem.W.keepIn K (.ref f33) = true)
    (a34 : PySem.W.nsIn K mainGlobals "_law_tuple" = some (some (.ref f34)))
    (l34 : K.lookup f34 = some ⟨oc34, od34, .func (PySem.W.fnOf "_law_tuple" "_law_tuple" (defArgs s_law_tuple) (defBody s_law_tuple) (defScope s_law_tuple) .none kV34 dc34 pm34 an34 cd34 ct34), sl34⟩)
    (c34 : PySem.W.codeIn K cd34 "_law_tuple" = true)
    (k34 : PySem.W.keepIn K (.ref f34) = true)
    (a35 : PySem.W.nsIn K mainGlobals "_law_ring_due" = some (some (.ref f35)))
    (l35 : K.lookup f35 = some ⟨oc35, od35, .func (PySem.W.fnOf "_law_ring_due" "_law_ring_due" (defArgs s_law_ring_due) (defBody s_law_ring_due) (defScope s_law_ring_due) .none kV35 dc35 pm35 an35 cd35 ct35), sl35⟩)
    (c35 : PySem.W.codeIn K cd35 "_law_ring_due" = true)
    (k35 : PySem.W.keepIn K (.ref f35) = true)
    (a36 : PySem.W.nsIn K mainGlobals "_law_asked" = some (some (.ref f36)))
    (l36 : K.lookup f36 = some ⟨oc36, od36, .func (PySem.W.fnOf "_law_asked" "_law_asked" (defArgs s_law_asked) (defBody s_law_asked) (defScope s_law_asked) .none kV36 dc36 pm36 an36 cd36 ct36), sl36⟩)
    (c36 : PySem.W.codeIn K cd36 "_law_asked" = true)
    (k36 : PySem.W.keepIn K (.ref f36) = true)
    (a37 : PySem.W.nsIn K mainGlobals "_law_way" = some (some (.ref f37)))
    (l37 : K.lookup f37 = some ⟨oc37, od37, .func (PySem.W.fnOf "_law_way" "_law_way" (defArgs s_law_way) (defBody s_law_way) (defScope s_law_way) .none kV37 dc37 pm37 an37 cd37 ct37), sl37⟩)
    (c37 : PySem.W.codeIn K cd37 "_law_way" = true)
    (k37 : PySem.W.keepIn K (.ref f37) = true)
    (a38 : PySem.W.nsIn K mainGlobals "_law_long" = some (some (.ref f38)))
    (l38 : K.lookup f38 = some ⟨oc38, od38, .func (PySem.W.fnOf "_law_long" "_law_long" (defArgs s_law_long) (defBody s_law_long) (defScope s_law_long) .none kV38 dc38 pm38 an38 cd38 ct38), sl38⟩)
    (c38 : PySem.W.codeIn K cd38 "_law_long" = true)
    (k38 : PySem.W.keepIn K (.ref f38) = true)
    (a39 : PySem.W.nsIn K mainGlobals "_law_good" = some (some (.ref f39)))
    (l39 : K.lookup f39 = some ⟨oc39, od39, .func (PySem.W.fnOf "_law_good" "_law_good" (defArgs s_law_good) (defBody s_law_good) (defScope s_law_good) .none kV39 dc39 pm39 an39 cd39 ct39), sl39⟩)
    (c39 : PySem.W.codeIn K cd39 "_law_good" = true)
    (k39 : PySem.W.keepIn K (.ref f39) = true)
    (a40 : PySem.W.nsIn K mainGlobals "_law_bad" = some (some (.ref f40)))
    (l40 : K.lookup f40 = some ⟨oc40, od40, .func (PySem.W.fnOf "_law_bad" "_law_bad" (defArgs s_law_bad) (defBody s_law_bad) (defScope s_law_bad) .none kV40 dc40 pm40 an40 cd40 ct40), sl40⟩)
    (c40 : PySem.W.codeIn K cd40 "_law_bad" = true)
    (k40 : PySem.W.keepIn K (.ref f40) = true)
    (a41 : PySem.W.nsIn K mainGlobals "_law_tile" = some (some (.ref f41)))
    (l41 : K.lookup f41 = some ⟨oc41, od41, .func (PySem.W.fnOf "_law_tile" "_law_tile" (defArgs s_law_tile) (defBody s_law_tile) (defScope s_law_tile) .none kV41 dc41 pm41 an41 cd41 ct41), sl41⟩)
    (c41 : PySem.W.codeIn K cd41 "_law_tile" = true)
    (k41 : PySem.W.keepIn K (.ref f41) = true)
    (a42 : PySem.W.nsIn K mainGlobals "_law_tiles" = some (some (.ref f42)))
    (l42 : K.lookup f42 = some ⟨oc42, od42, .func (PySem.W.fnOf "_law_tiles" "_law_tiles" (defArgs s_law_tiles) (defBody s_law_tiles) (defScope s_law_tiles) .none kV42 dc42 pm42 an42 cd42 ct42), sl42⟩)
    (c42 : PySem.W.codeIn K cd42 "_law_tiles" = true)
    (k42 : PySem.W.keepIn K (.ref f42) = true)
    (a43 : PySem.W.nsIn K mainGlobals "law" = some (some (.ref f43)))
    (l43 : K.lookup f43 = some ⟨oc43, od43, .func (PySem.W.fnOf "law" "law" (defArgs s_law) (defBody s_law) (defScope s_law) .none kV43 dc43 pm43 an43 cd43 ct43), sl43⟩)
    (c43 : PySem.W.codeIn K cd43 "law" = true)
    (k43 : PySem.W.keepIn K (.ref f43) = true)
    (z_abs : PySem.W.nsIn K mainGlobals "abs" = some none)
    (z_bool : PySem.W.nsIn K mainGlobals "bool" = some none)
    (z_enumerate : PySem.W.nsIn K mainGlobals "enumerate" = some none)
    (z_int : PySem.W.nsIn K mainGlobals "int" = some none)
    (z_isinstance : PySem.W.nsIn K mainGlobals "isinstance" = some none)
    (z_len : PySem.W.nsIn K mainGlobals "len" = some none)
    (z_list : PySem.W.nsIn K mainGlobals "list" = some none)
    (z_min : PySem.W.nsIn K mainGlobals "min" = some none)
    (z_property : PySem.W.nsIn K mainGlobals "property" = some none)
    (z_range : PySem.W.nsIn K mainGlobals "range" = some none)
    (z_repr : PySem.W.nsIn K mainGlobals "repr" = some none)
    (z_reversed : PySem.W.nsIn K mainGlobals "reversed" = some none)
    (z_sorted : PySem.W.nsIn K mainGlobals "sorted" = some none)
    (z_tuple : PySem.W.nsIn K mainGlobals "tuple" = some none)
    (zc_FEWEST_CORNERS : PySem.W.nsIn K mainGlobals "FEWEST_CORNERS" = some (some (.int 4 tkc_FEWEST_CORNERS)))
    (zc_MOST_CORNERS_rings : PySem.W.nsIn K mainGlobals "MOST_CORNERS_rings" = some (some (.int 60 tkc_MOST_CORNERS_rings)))
    (zc_MOST_CORNERS_pictures : PySem.W.nsIn K mainGlobals "MOST_CORNERS_pictures" = some (some (.int 5 tkc_MOST_CORNERS_pictures)))
    (w1 : PySem.W.specialIn K (.builtin "object.__class__") "__get__" = some (some (.builtin "getset_descriptor.__get__")))
    (w2 : PySem.W.takesIn K (.builtin "object.__class__") = some true)
    (xt_SheetError : PySem.W.typeIn K (.ref CE_SheetError) = some (.type "type"))
    (xi_SheetError : PySem.W.isClsIn K CE_SheetError = true)
    (xt_BadPicture : PySem.W.typeIn K (.ref CE_BadPicture) = some (.type "type"))
    (xi_BadPicture : PySem.W.isClsIn K CE_BadPicture = true)
    (xb_BadPicture : PySem.W.subIn K (.ref CE_BadPicture) (.type "BaseException") = some true)
    (xk_BadPicture : PySem.W.keepIn K (.ref CE_BadPicture) = true)
    (x1_BadPicture : PySem.W.findIn K (.ref CE_BadPicture) "__getattribute__" = some (some (.builtin "BaseException.__getattribute__")))
    (x2_BadPicture : PySem.W.findIn K (.ref CE_BadPicture) "__getattr__" = some none)
    (x3_BadPicture : PySem.W.hasDictIn K CE_BadPicture = true)
    (x4_BadPicture : PySem.W.findIn K (.ref CE_BadPicture) "__class__" = some (some (.builtin "object.__class__")))
    (x5_BadPicture : PySem.W.mroIn K CE_BadPicture (.type "object") = some true)
    (xl_BadPicture : K.lookup CE_BadPicture = some (excClassObj nm_BadPicture qn_BadPicture CE_BadPicture NB_BadPicture bs_BadPicture bm_BadPicture true sn_BadPicture sub_BadPicture ab_BadPicture col_BadPicture dd_BadPicture m0_BadPicture m1_BadPicture m2_BadPicture m3_BadPicture m5_BadPicture "ValueError.__new__"))
    (xr_BadPicture : PySem.HandSPX.refsVE bm_BadPicture = true)
    (xs_BadPicture : PySem.W.findIn K (.ref CE_BadPicture) "__setattr__" = some (some (.builtin "object.__setattr__")))
    (xf_BadPicture : PySem.W.typeIn K (.ref f0) = some (.type "function"))
    (xn0_BadPicture : PySem.W.findIn K (.ref CE_BadPicture) "what" = some none)
    (xt_NotOpen : PySem.W.typeIn K (.ref CE_NotOpen) = some (.type "type"))
    (xi_NotOpen : PySem.W.isClsIn K CE_NotOpen = true)
    (xb_NotOpen : PySem.W.subIn K (.ref CE_NotOpen) (.type "BaseException") = some true)
    (xk_NotOpen : PySem.W.keepIn K (.ref CE_NotOpen) = true)
    (x1_NotOpen : PySem.W.findIn K (.ref CE_NotOpen) "__getattribute__" = some (some (.builtin "BaseException.__getattribute__")))
    (x2_NotOpen : PySem.W.findIn K (.ref CE_NotOpen) "__getattr__" = some none)
    (x3_NotOpen : PySem.W.hasDictIn K CE_NotOpen = true)
    (x4_NotOpen : PySem.W.findIn K (.ref CE_NotOpen) "__class__" = some (some (.builtin "object.__class__")))
    (x5_NotOpen : PySem.W.mroIn K CE_NotOpen (.type "object") = some true)
    (xl_NotOpen : K.lookup CE_NotOpen = some (excClassObj nm_NotOpen qn_NotOpen CE_NotOpen NB_NotOpen bs_NotOpen bm_NotOpen true sn_NotOpen sub_NotOpen ab_NotOpen col_NotOpen dd_NotOpen m0_NotOpen m1_NotOpen m2_NotOpen m3_NotOpen m5_NotOpen "ValueError.__new__"))
    (xr_NotOpen : PySem.HandSPX.refsVE bm_NotOpen = true)
    (xs_NotOpen : PySem.W.findIn K (.ref CE_NotOpen) "__setattr__" = some (some (.builtin "object.__setattr__")))
    (xf_NotOpen : PySem.W.typeIn K (.ref f1) = some (.type "function"))
    (xn0_NotOpen : PySem.W.findIn K (.ref CE_NotOpen) "pair" = some none)
    (xt_BadSign : PySem.W.typeIn K (.ref CE_BadSign) = some (.type "type"))
    (xi_BadSign : PySem.W.isClsIn K CE_BadSign = true)
    (xb_BadSign : PySem.W.subIn K (.ref CE_BadSign) (.type "BaseException") = some true)
    (xk_BadSign : PySem.W.keepIn K (.ref CE_BadSign) = true)
    (x1_BadSign : PySem.W.findIn K (.ref CE_BadSign) "__getattribute__" = some (some (.builtin "BaseException.__getattribute__")))
    (x2_BadSign : PySem.W.findIn K (.ref CE_BadSign) "__getattr__" = some none)
    (x3_BadSign : PySem.W.hasDictIn K CE_BadSign = true)
    (x4_BadSign : PySem.W.findIn K (.ref CE_BadSign) "__class__" = some (some (.builtin "object.__class__")))
    (x5_BadSign : PySem.W.mroIn K CE_BadSign (.type "object") = some true)
    (xq_BadSign : PySem.W.excIn K CE_BadSign [Value.type "ValueError", Value.type "Exception", Value.type "BaseException", Value.type "object"] "ValueError.__new__" = true)
    (xt_BadRing : PySem.W.typeIn K (.ref CE_BadRing) = some (.type "type"))
    (xi_BadRing : PySem.W.isClsIn K CE_BadRing = true)
    (xb_BadRing : PySem.W.subIn K (.ref CE_BadRing) (.type "BaseException") = some true)
    (xk_BadRing : PySem.W.keepIn K (.ref CE_BadRing) = true)
    (x1_BadRing : PySem.W.findIn K (.ref CE_BadRing) "__getattribute__" = some (some (.builtin "BaseException.__getattribute__")))
    (x2_BadRing : PySem.W.findIn K (.ref CE_BadRing) "__getattr__" = some none)
    (x3_BadRing : PySem.W.hasDictIn K CE_BadRing = true)
    (x4_BadRing : PySem.W.findIn K (.ref CE_BadRing) "__class__" = some (some (.builtin "object.__class__")))
    (x5_BadRing : PySem.W.mroIn K CE_BadRing (.type "object") = some true)
    (xl_BadRing : K.lookup CE_BadRing = some (excClassObj nm_BadRing qn_BadRing CE_BadRing NB_BadRing bs_BadRing bm_BadRing true sn_BadRing sub_BadRing ab_BadRing col_BadRing dd_BadRing m0_BadRing m1_BadRing m2_BadRing m3_BadRing m5_BadRing "ValueError.__new__"))
    (xr_BadRing : PySem.HandSPX.refsVE bm_BadRing = true)
    (xs_BadRing : PySem.W.findIn K (.ref CE_BadRing) "__setattr__" = some (some (.builtin "object.__setattr__")))
    (xf_BadRing : PySem.W.typeIn K (.ref f2) = some (.type "function"))
    (xn0_BadRing : PySem.W.findIn K (.ref CE_BadRing) "what" = some none)
    (s_BadPicture_BadRing : PySem.W.subIn K (.ref CE_BadPicture) (.ref CE_BadRing) = some false)
    (s_NotOpen_BadRing : PySem.W.subIn K (.ref CE_NotOpen) (.ref CE_BadRing) = some false)
    (s_BadSign_BadRing : PySem.W.subIn K (.ref CE_BadSign) (.ref CE_BadRing) = some false)
    (s_BadRing_BadRing : PySem.W.subIn K (.ref CE_BadRing) (.ref CE_BadRing) = some true)
    (s_BadPicture_BadSign : PySem.W.subIn K (.ref CE_BadPicture) (.ref CE_BadSign) = some false)
    (s_NotOpen_BadSign : PySem.W.subIn K (.ref CE_NotOpen) (.ref CE_BadSign) = some false)
    (s_BadSign_BadSign : PySem.W.subIn K (.ref CE_BadSign) (.ref CE_BadSign) = some true)
    (s_BadRing_BadSign : PySem.W.subIn K (.ref CE_BadRing) (.ref CE_BadSign) = some false)
    (s_BadRing_SheetError : PySem.W.subIn K (.ref CE_BadRing) (.ref CE_SheetError) = some true)
    (ne_BadRing_BadSign : (CE_BadRing == CE_BadSign) = false)
    (s_BadSign_SheetError : PySem.W.subIn K (.ref CE_BadSign) (.ref CE_SheetError) = some true)
    (p1_Picture : PySem.W.plainGet K CC_Picture Str.empty = true)
    (p2_Picture : PySem.W.hasDictIn K CC_Picture = true)
    (p3_Picture : PySem.W.plainOver K CC_Picture = true)
    (p4_Picture : PySem.W.findIn K (.ref CC_Picture) "__setattr__" = some (some (.builtin "object.__setattr__")))
    (p5_Picture : PySem.W.makesIn K CC_Picture = true)
    (p6_Picture : PySem.W.keepIn K (.ref CC_Picture) = true)
    (na_Picture_points : PySem.W.findIn K (.ref CC_Picture) "points" = some none)
    (na_Picture_walls : PySem.W.findIn K (.ref CC_Picture) "walls" = some none)
    (na_Picture_pairs : PySem.W.findIn K (.ref CC_Picture) "pairs" = some none)
    (na_Picture__pieces : PySem.W.findIn K (.ref CC_Picture) "_pieces" = some none)
    (g1_21 : PySem.W.specialIn K (.ref pp21) "__get__" = some (some (.builtin "property.__get__")))
    (g2_21 : PySem.W.takesIn K (.ref pp21) = some true)
    (p7_Picture : PySem.W.findIn K (.ref CC_Picture) "__class__" = some (some (.builtin "object.__class__")))
    (p8_Picture : PySem.W.mroIn K CC_Picture (.type "object") = some true)
    (p9_Picture : PySem.W.subIn K (.ref CC_Picture) (.ref CC_Picture) = some true)
    (pi_Picture : PySem.W.isClsIn K CC_Picture = true)
    (pt_Picture : PySem.W.typeIn K (.ref CC_Picture) = some (.type "type")) :
    ∃ fd : FuncData, (∀ (s : Shared) (v : Value), BindsTo s fd ⟨[v], []⟩ [("_law_script", v)]) ∧ ∀ base : Heap, K.In base → base.Ns mainGlobals mg → TopOk l.prog w K mg base CX0 fa fd ["_law_script"] (sp_law K) := by
  have e := hfa.symm.trans (PySem.W.mg_of X G a43)
  cases e
  have F0 := fun_mk (st := s_BadPicture_init) l0 c0 k0
  have b0 := F0.binds (ps := ["self", "what"]) fun _ _ _ _ _ _ us hl => match us, hl with | [_, _], _ => rfl
  have F1 := fun_mk (st := s_NotOpen_init) l1 c1 k1
  have b1 := F1.binds (ps := ["self", "pair"]) fun _ _ _ _ _ _ us hl => match us, hl with | [_, _], _ => rfl
  have F2 := fun_mk (st := s_BadRing_init) l2 c2 k2
  have b2 := F2.binds (ps := ["self", "what"]) fun _ _ _ _ _ _ us hl => match us, hl with | [_, _], _ => rfl
  have F3 : FunD K "is_whole" "is_whole" (defArgs s_is_whole) (defBody s_is_whole) (defScope s_is_whole) [.non, .non] [] f3 (PySem.W.fnOf "is_whole" "is_whole" (defArgs s_is_whole) (defBody s_is_whole) (defScope s_is_whole) (.ref D3) kV3 dc3 pm3 an3 cd3 ct3) := 
    ⟨⟨oc3, od3, .ref D3, kV3, dc3, pm3, an3, cd3, ct3, sl3, rfl, l3, c3, .inr ⟨by simp, D3, _, [.none, .none], _, rfl, e3, rfl, .cons rfl (.cons rfl .nil)⟩, .inl rfl⟩, k3⟩
  have bq3_0 : Binds K (PySem.W.fnOf "is_whole" "is_whole" (defArgs s_is_whole) (defBody s_is_whole) (defScope s_is_whole) (.ref D3) kV3 dc3 pm3 an3 cd3 ct3) ["thing", "low", "high"] [] := fun s us X hl => by
    match us, hl with
    | [u0, u1, u2], _ => exact BindsTo.of_looks fun M => looks_items (its := #[.none, .none]) X e3 rfl (.of_pure rfl)
  have F4 := fun_mk (st := s_is_sign) l4 c4 k4
  have b4 := F4.binds (ps := ["thing"]) fun _ _ _ _ _ _ us hl => match us, hl with | [_], _ => rfl
  have F5 : FunD K "is_sequence" "is_sequence" (defArgs s_is_sequence) (defBody s_is_sequence) (defScope s_is_sequence) [.non] [] f5 (PySem.W.fnOf "is_sequence" "is_sequence" (defArgs s_is_sequence) (defBody s_is_sequence) (defScope s_is_sequence) (.ref D5) kV5 dc5 pm5 an5 cd5 ct5) := 
    ⟨⟨oc5, od5, .ref D5, kV5, dc5, pm5, an5, cd5, ct5, sl5, rfl, l5, c5, .inr ⟨by simp, D5, _, [.none], _, rfl, e5, rfl, .cons rfl .nil⟩, .inl rfl⟩, k5⟩
  have bq5_1 : Binds K (PySem.W.fnOf "is_sequence" "is_sequence" (defArgs s_is_sequence) (defBody s_is_sequence) (defScope s_is_sequence) (.ref D5) kV5 dc5 pm5 an5 cd5 ct5) ["thing", "length"] [.none] := fun s us X hl => by
    have hl : us.length = 1 := by
      rw [List.length_append] at hl
      exact Nat.add_right_cancel (m := 1) hl
    match us, hl with
    | [u0], _ => exact BindsTo.of_looks fun M => looks_items (its := #[.none]) X e5 rfl (.of_pure rfl)
  have bq5_0 : Binds K (PySem.W.fnOf "is_sequence" "is_sequence" (defArgs s_is_sequence) (defBody s_is_sequence) (defScope s_is_sequence) (.ref D5) kV5 dc5 pm5 an5 cd5 ct5) ["thing", "length"] [] := fun s us X hl => by
    match us, hl with
    | [u0, u1], _ => exact BindsTo.of_looks fun M => looks_items (its := #[.none]) X e5 rfl (.of_pure rfl)
  have F6 := fun_mk (st := s_ring_sides) l6 c6 k6
  have b6 := F6.binds (ps := ["corners"]) fun _ _ _ _ _ _ us hl => match us, hl with | [_], _ => rfl
  have F7 := fun_mk (st := s_check_corners) l7 c7 k7
  have b7 := F7.binds (ps := ["picture", "corners"]) fun _ _ _ _ _ _ us hl => match us, hl with | [_, _], _ => rfl
  have F8 := fun_mk (st := s_check_sides) l8 c8 k8
  have b8 := F8.binds (ps := ["picture", "corners"]) fun _ _ _ _ _ _ us hl => match us, hl with | [_, _], _ => rfl
  have F9 := fun_mk (st := s_check_ring) l9 c9 k9
  have b9 := F9.binds (ps := ["picture", "corners"]) fun _ _ _ _ _ _ us hl => match us, hl with | [_, _], _ => rfl
  have F10 := fun_mk (st := s_ring_tour) l10 c10 k10
  have b10 := F10.binds (ps := ["picture", "corners"]) fun _ _ _ _ _ _ us hl => match us, hl with | [_, _], _ => rfl
  have F11 := fun_mk (st := s_ring_saying) l11 c11 k11
  have b11 := F11.binds (ps := ["picture", "corners", "sign"]) fun _ _ _ _ _ _ us hl => match us, hl with | [_, _, _], _ => rfl
  have F12 := fun_mk (st := s_turned_ring) l12 c12 k12
  have b12 := F12.binds (ps := ["corners"]) fun _ _ _ _ _ _ us hl => match us, hl with | [_], _ => rfl
  have F13 := fun_mk (st := s_tile_ring) l13 c13 k13
  have b13 := F13.binds (ps := ["picture", "p", "u", "q", "v"]) fun _ _ _ _ _ _ us hl => match us, hl with | [_, _, _, _, _], _ => rfl
  have F14 := fun_mk (st := s_tiles_of) l14 c14 k14
  have b14 := F14.binds (ps := ["picture"]) fun _ _ _ _ _ _ us hl => match us, hl with | [_], _ => rfl
  have F15 := fun_mk (st := s_merged_labels) l15 c15 k15
  have b15 := F15.binds (ps := ["labels", "one", "other"]) fun _ _ _ _ _ _ us hl => match us, hl with | [_, _, _], _ => rfl
  have F16 := fun_mk (st := s_piece_labels) l16 c16 k16
  have b16 := F16.binds (ps := ["points", "walls", "pairs"]) fun _ _ _ _ _ _ us hl => match us, hl with | [_, _, _], _ => rfl
  have F17 := fun_mk (st := s_pieces_by_labels) l17 c17 k17
  have b17 := F17.binds (ps := ["points", "labels"]) fun _ _ _ _ _ _ us hl => match us, hl with | [_, _], _ => rfl
  have F18 := fun_mk (st := s_Picture_init) l18 c18 k18
  have b18 := F18.binds (ps := ["self", "points", "walls", "pairs"]) fun _ _ _ _ _ _ us hl => match us, hl with | [_, _, _, _], _ => rfl
  have F19 := fun_mk (st := s_Picture_eq) l19 c19 k19
  have b19 := F19.binds (ps := ["self", "other"]) fun _ _ _ _ _ _ us hl => match us, hl with | [_, _], _ => rfl
  have F20 := fun_mk (st := s_Picture_len) l20 c20 k20
  have b20 := F20.binds (ps := ["self"]) fun _ _ _ _ _ _ us hl => match us, hl with | [_], _ => rfl
  have F21 := fun_mk (st := s_Picture_pieces) l21 c21 k21
  have b21 := F21.binds (ps := ["self"]) fun _ _ _ _ _ _ us hl => match us, hl with | [_], _ => rfl
  have F22 := fun_mk (st := s_Pictureis_pair) l22 c22 k22
  have b22 := F22.binds (ps := ["self", "thing"]) fun _ _ _ _ _ _ us hl => match us, hl with | [_, _], _ => rfl
  have F23 := fun_mk (st := s_Picture_place_of) l23 c23 k23
  have b23 := F23.binds (ps := ["self", "pair"]) fun _ _ _ _ _ _ us hl => match us, hl with | [_, _], _ => rfl
  have F24 := fun_mk (st := s_Picture_is_open) l24 c24 k24
  have b24 := F24.binds (ps := ["self", "pair"]) fun _ _ _ _ _ _ us hl => match us, hl with | [_, _], _ => rfl
  have F25 := fun_mk (st := s_law_hand) l25 c25 k25
  have b25 := F25.binds (ps := ["_law_script"]) fun _ _ _ _ _ _ us hl => match us, hl with | [_], _ => rfl
  have F26 := fun_mk (st := s_law_mixed) l26 c26 k26
  have b26 := F26.binds (ps := ["_law_number", "_law_turn"]) fun _ _ _ _ _ _ us hl => match us, hl with | [_, _], _ => rfl
  have F27 := fun_mk (st := s_law_take) l27 c27 k27
  have b27 := F27.binds (ps := ["_law_hand_here", "_law_many"]) fun _ _ _ _ _ _ us hl => match us, hl with | [_, _], _ => rfl
  have F28 := fun_mk (st := s_law_whole) l28 c28 k28
  have b28 := F28.binds (ps := ["_law_thing"]) fun _ _ _ _ _ _ us hl => match us, hl with | [_], _ => rfl
  have F29 := fun_mk (st := s_law_full) l29 c29 k29
  have b29 := F29.binds (ps := ["_law_points", "_law_shuts"]) fun _ _ _ _ _ _ us hl => match us, hl with | [_, _], _ => rfl
  have F30 := fun_mk (st := s_law_picture) l30 c30 k30
  have b30 := F30.binds (ps := ["_law_hand_here"]) fun _ _ _ _ _ _ us hl => match us, hl with | [_], _ => rfl
  have F31 := fun_mk (st := s_law_ring_tour) l31 c31 k31
  have b31 := F31.binds (ps := ["_law_pairs", "_law_corners"]) fun _ _ _ _ _ _ us hl => match us, hl with | [_, _], _ => rfl
  have F32 := fun_mk (st := s_law_rings) l32 c32 k32
  have b32 := F32.binds (ps := ["_law_points", "_law_shuts", "_law_pairs"]) fun _ _ _ _ _ _ us hl => match us, hl with | [_, _, _], _ => rfl
  have F33 := fun_mk (st := s_law_sixes) l33 c33 k33
  have b33 := F33.binds (ps := ["_law_shuts", "_law_pairs", "_law_p", "_law_q", "_law_r"]) fun _ _ _ _ _ _ us hl => match us, hl with | [_, _, _, _, _], _ => rfl
  have F34 := fun_mk (st := s_law_tuple) l34 c34 k34
  have b34 := F34.binds (ps := ["_law_told", "_law_due"]) fun _ _ _ _ _ _ us hl => match us, hl with | [_, _], _ => rfl
  have F35 := fun_mk (st := s_law_ring_due) l35 c35 k35
  have b35 := F35.binds (ps := ["_law_points", "_law_shuts", "_law_pairs", "_law_corners"]) fun _ _ _ _ _ _ us hl => match us, hl with | [_, _, _, _], _ => rfl
  have F36 := fun_mk (st := s_law_asked) l36 c36 k36
  have b36 := F36.binds (ps := ["_law_way_here", "_law_picture_here", "_law_corners", "_law_sign"]) fun _ _ _ _ _ _ us hl => match us, hl with | [_, _, _, _], _ => rfl
  have F37 := fun_mk (st := s_law_way) l37 c37 k37
  have b37 := F37.binds (ps := ["_law_hand_here", "_law_pairs"]) fun _ _ _ _ _ _ us hl => match us, hl with | [_, _], _ => rfl
  have F38 := fun_mk (st := s_law_long) l38 c38 k38
  have b38 := F38.binds (ps := ["_law_hand_here", "_law_pairs", "_law_rings_here"]) fun _ _ _ _ _ _ us hl => match us, hl with | [_, _, _], _ => rfl
  have F39 := fun_mk (st := s_law_good) l39 c39 k39
  have b39 := F39.binds (ps := ["_law_picture_here", "_law_pairs", "_law_corners", "_law_sign"]) fun _ _ _ _ _ _ us hl => match us, hl with | [_, _, _, _], _ => rfl
  have F40 := fun_mk (st := s_law_bad) l40 c40 k40
  have b40 := F40.binds (ps := ["_law_hand_here", "_law_world", "_law_picture_here", "_law_corners"]) fun _ _ _ _ _ _ us hl => match us, hl with | [_, _, _, _], _ => rfl
  have F41 := fun_mk (st := s_law_tile) l41 c41 k41
  have b41 := F41.binds (ps := ["_law_picture_here", "_law_p", "_law_u", "_law_q", "_law_v"]) fun _ _ _ _ _ _ us hl => match us, hl with | [_, _, _, _, _], _ => rfl
  have F42 := fun_mk (st := s_law_tiles) l42 c42 k42
  have b42 := F42.binds (ps := ["_law_hand_here", "_law_world", "_law_picture_here", "_law_rings_here"]) fun _ _ _ _ _ _ us hl => match us, hl with | [_, _, _, _], _ => rfl
  have F43 := fun_mk (st := s_law) l43 c43 k43
  let T : Txt K mg := { f_BadPicture_init := f0, d_BadPicture_init := _, F_BadPicture_init := F0, b_BadPicture_init := b0, f_NotOpen_init := f1, d_NotOpen_init := _, F_NotOpen_init := F1, b_NotOpen_init := b1, f_BadRing_init := f2, d_BadRing_init := _, F_BadRing_init := F2, b_BadRing_init := b2, f_is_whole := f3, d_is_whole := _, F_is_whole := F3, b_is_whole := bq3_0, g_is_whole := PySem.W.mg_of X G a3, f_is_sign := f4, d_is_sign := _, F_is_sign := F4, b_is_sign := b4, g_is_sign := PySem.W.mg_of X G a4, f_is_sequence := f5, d_is_sequence := _, F_is_sequence := F5, b1_is_sequence := bq5_1, b_is_sequence := bq5_0, g_is_sequence := PySem.W.mg_of X G a5, f_ring_sides := f6, d_ring_sides := _, F_ring_sides := F6, b_ring_sides := b6, g_ring_sides := PySem.W.mg_of X G a6, f_check_corners := f7, d_check_corners := _, F_check_corners := F7, b_check_corners := b7, g_check_corners := PySem.W.mg_of X G a7, f_check_sides := f8, d_check_sides := _, F_check_sides := F8, b_check_sides := b8, g_check_sides := PySem.W.mg_of X G a8, f_check_ring := f9, d_check_ring := _, F_check_ring := F9, b_check_ring := b9, g_check_ring := PySem.W.mg_of X G a9, f_ring_tour := f10, d_ring_tour := _, F_ring_tour := F10, b_ring_tour := b10, g_ring_tour := PySem.W.mg_of X G a10, f_ring_saying := f11, d_ring_saying := _, F_ring_saying := F11, b_ring_saying := b11, g_ring_saying := PySem.W.mg_of X G a11, f_turned_ring := f12, d_turned_ring := _, F_turned_ring := F12, b_turned_ring := b12, g_turned_ring := PySem.W.mg_of X G a12, f_tile_ring := f13, d_tile_ring := _, F_tile_ring := F13, b_tile_ring := b13, g_tile_ring := PySem.W.mg_of X G a13, f_tiles_of := f14, d_tiles_of := _, F_tiles_of := F14, b_tiles_of := b14, g_tiles_of := PySem.W.mg_of X G a14, f_merged_labels := f15, d_merged_labels := _, F_merged_labels := F15, b_merged_labels := b15, g_merged_labels := PySem.W.mg_of X G a15, f_piece_labels := f16, d_piece_labels := _, F_piece_labels := F16, b_piece_labels := b16, g_piece_labels := PySem.W.mg_of X G a16, f_pieces_by_labels := f17, d_pieces_by_labels := _, F_pieces_by_labels := F17, b_pieces_by_labels := b17, g_pieces_by_labels := PySem.W.mg_of X G a17, f_Picture_init := f18, d_Picture_init := _, F_Picture_init := F18, b_Picture_init := b18, f_Picture_eq := f19, d_Picture_eq := _, F_Picture_eq := F19, b_Picture_eq := b19, f_Picture_len := f20, d_Picture_len := _, F_Picture_len := F20, b_Picture_len := b20, f_Picture_pieces := f21, d_Picture_pieces := _, F_Picture_pieces := F21, b_Picture_pieces := b21, f_Pictureis_pair := f22, d_Pictureis_pair := _, F_Pictureis_pair := F22, b_Pictureis_pair := b22, f_Picture_place_of := f23, d_Picture_place_of := _, F_Picture_place_of := F23, b_Picture_place_of := b23, f_Picture_is_open := f24, d_Picture_is_open := _, F_Picture_is_open := F24, b_Picture_is_open := b24, f_law_hand := f25, d_law_hand := _, F_law_hand := F25, b_law_hand := b25, g_law_hand := PySem.W.mg_of X G a25, f_law_mixed := f26, d_law_mixed := _, F_law_mixed := F26, b_law_mixed := b26, g_law_mixed := PySem.W.mg_of X G a26, f_law_take := f27, d_law_take := _, F_law_take := F27, b_law_take := b27, g_law_take := PySem.W.mg_of X G a27, f_law_whole := f28, d_law_whole := _, F_law_whole := F28, b_law_whole := b28, g_law_whole := PySem.W.mg_of X G a28, f_law_full := f29, d_law_full := _, F_law_full := F29, b_law_full := b29, g_law_full := PySem.W.mg_of X G a29, f_law_picture := f30, d_law_picture := _, F_law_picture := F30, b_law_picture := b30, g_law_picture := PySem.W.mg_of X G a30, f_law_ring_tour := f31, d_law_ring_tour := _, F_law_ring_tour := F31, b_law_ring_tour := b31, g_law_ring_tour := PySem.W.mg_of X G a31, f_law_rings := f32, d_law_rings := _, F_law_rings := F32, b_law_rings := b32, g_law_rings := PySem.W.mg_of X G a32, f_law_sixes := f33, d_law_sixes := _, F_law_sixes := F33, b_law_sixes := b33, g_law_sixes := PySem.W.mg_of X G a33, f_law_tuple := f34, d_law_tuple := _, F_law_tuple := F34, b_law_tuple := b34, g_law_tuple := PySem.W.mg_of X G a34, f_law_ring_due := f35, d_law_ring_due := _, F_law_ring_due := F35, b_law_ring_due := b35, g_law_ring_due := PySem.W.mg_of X G a35, f_law_asked := f36, d_law_asked := _, F_law_asked := F36, b_law_asked := b36, g_law_asked := PySem.W.mg_of X G a36, f_law_way := f37, d_law_way := _, F_law_way := F37, b_law_way := b37, g_law_way := PySem.W.mg_of X G a37, f_law_long := f38, d_law_long := _, F_law_long := F38, b_law_long := b38, g_law_long := PySem.W.mg_of X G a38, f_law_good := f39, d_law_good := _, F_law_good := F39, b_law_good := b39, g_law_good := PySem.W.mg_of X G a39, f_law_bad := f40, d_law_bad := _, F_law_bad := F40, b_law_bad := b40, g_law_bad := PySem.W.mg_of X G a40, f_law_tile := f41, d_law_tile := _, F_law_tile := F41, b_law_tile := b41, g_law_tile := PySem.W.mg_of X G a41, f_law_tiles := f42, d_law_tiles := _, F_law_tiles := F42, b_law_tiles := b42, g_law_tiles := PySem.W.mg_of X G a42, f_law := fa, d_law := _, F_law := F43, m_abs := PySem.W.mg_none_of X G z_abs, m_bool := PySem.W.mg_none_of X G z_bool, m_enumerate := PySem.W.mg_none_of X G z_enumerate, m_int := PySem.W.mg_none_of X G z_int, m_isinstance := PySem.W.mg_none_of X G z_isinstance, m_len := PySem.W.mg_none_of X G z_len, m_list := PySem.W.mg_none_of X G z_list, m_min := PySem.W.mg_none_of X G z_min, m_property := PySem.W.mg_none_of X G z_property, m_range := PySem.W.mg_none_of X G z_range, m_repr := PySem.W.mg_none_of X G z_repr, m_reversed := PySem.W.mg_none_of X G z_reversed, m_sorted := PySem.W.mg_none_of X G z_sorted, m_tuple := PySem.W.mg_none_of X G z_tuple, tk_FEWEST_CORNERS := tkc_FEWEST_CORNERS, c_FEWEST_CORNERS := PySem.W.mg_of X G zc_FEWEST_CORNERS, tk_MOST_CORNERS_rings := tkc_MOST_CORNERS_rings, c_MOST_CORNERS_rings := PySem.W.mg_of X G zc_MOST_CORNERS_rings, tk_MOST_CORNERS_pictures := tkc_MOST_CORNERS_pictures, c_MOST_CORNERS_pictures := PySem.W.mg_of X G zc_MOST_CORNERS_pictures, C_SheetError := CE_SheetError, g_SheetError := PySem.W.mg_of X G h_SheetError, C_BadPicture := CE_BadPicture, g_BadPicture := PySem.W.mg_of X G h_BadPicture, x_BadPicture := ⟨x1_BadPicture, x2_BadPicture, xb_BadPicture, x3_BadPicture⟩, e_BadPicture := ⟨x1_BadPicture, x2_BadPicture, xb_BadPicture, x3_BadPicture, x4_BadPicture, w1, w2, x5_BadPicture⟩, o_BadPicture := ⟨⟨_, _, _, _, _, _, _, _, _, _, _, _, _, _, _, xl_BadPicture, xr_BadPicture⟩, xs_BadPicture, xb_BadPicture, xt_BadPicture, xk_BadPicture⟩, i_BadPicture := a0, t_BadPicture := xf_BadPicture, n_BadPicture := xn0_BadPicture, C_NotOpen := CE_NotOpen, g_NotOpen := PySem.W.mg_of X G h_NotOpen, x_NotOpen := ⟨x1_NotOpen, x2_NotOpen, xb_NotOpen, x3_NotOpen⟩, e_NotOpen := ⟨x1_NotOpen, x2_NotOpen, xb_NotOpen, x3_NotOpen, x4_NotOpen, w1, w2, x5_NotOpen⟩, o_NotOpen := ⟨⟨_, _, _, _, _, _, _, _, _, _, _, _, _, _, _, xl_NotOpen, xr_NotOpen⟩, xs_NotOpen, xb_NotOpen, xt_NotOpen, xk_NotOpen⟩, i_NotOpen := a1, t_NotOpen := xf_NotOpen, n_NotOpen := xn0_NotOpen, C_BadSign := CE_BadSign, g_BadSign := PySem.W.mg_of X G h_BadSign, x_BadSign := ⟨x1_BadSign, x2_BadSign, xb_BadSign, x3_BadSign⟩, e_BadSign := ⟨x1_BadSign, x2_BadSign, xb_BadSign, x3_BadSign, x4_BadSign, w1, w2, x5_BadSign⟩, q_BadSign := xq_BadSign, k_BadSign := xk_BadSign, b_BadSign := xb_BadSign, ty_BadSign := xt_BadSign, C_BadRing := CE_BadRing, g_BadRing := PySem.W.mg_of X G h_BadRing, x_BadRing := ⟨x1_BadRing, x2_BadRing, xb_BadRing, x3_BadRing⟩, e_BadRing := ⟨x1_BadRing, x2_BadRing, xb_BadRing, x3_BadRing, x4_BadRing, w1, w2, x5_BadRing⟩, o_BadRing := ⟨⟨_, _, _, _, _, _, _, _, _, _, _, _, _, _, _, xl_BadRing, xr_BadRing⟩, xs_BadRing, xb_BadRing, xt_BadRing, xk_BadRing⟩, i_BadRing := a2, t_BadRing := xf_BadRing, n_BadRing := xn0_BadRing, mm_BadPicture_BadRing := own_exm xb_BadRing xi_BadRing xt_BadRing s_BadPicture_BadRing, mm_NotOpen_BadRing := own_exm xb_BadRing xi_BadRing xt_BadRing s_NotOpen_BadRing, mm_BadSign_BadRing := own_exm xb_BadRing xi_BadRing xt_BadRing s_BadSign_BadRing, mm_BadRing_BadRing := own_exm xb_BadRing xi_BadRing xt_BadRing s_BadRing_BadRing, mm_BadPicture_BadSign := own_exm xb_BadSign xi_BadSign xt_BadSign s_BadPicture_BadSign, mm_NotOpen_BadSign := own_exm xb_BadSign xi_BadSign xt_BadSign s_NotOpen_BadSign, mm_BadSign_BadSign := own_exm xb_BadSign xi_BadSign xt_BadSign s_BadSign_BadSign, mm_BadRing_BadSign := own_exm xb_BadSign xi_BadSign xt_BadSign s_BadRing_BadSign, kit_BadRing_SheetError := own_kit xi_SheetError xt_SheetError s_BadRing_SheetError (fun _ => rfl), kit_BadRing_BadSign := own_kit xi_BadSign xt_BadSign s_BadRing_BadSign (fun z => by rw [ne_BadRing_BadSign] at z; cases z), kit_BadSign_SheetError := own_kit xi_SheetError xt_SheetError s_BadSign_SheetError (fun _ => rfl), C_Picture := CC_Picture, g_Picture := PySem.W.mg_of X G h_Picture, cl_Picture := ⟨p1_Picture, p2_Picture, p3_Picture, p4_Picture⟩, M_Picture := ⟨p5_Picture, a18, i18, p6_Picture⟩, na_points := na_Picture_points, na_walls := na_Picture_walls, na_pairs := na_Picture_pairs, na_pieces := na_Picture__pieces, eq_at := a19, eq_fn := i19, len_at := a20, len_fn := i20, p_pieces := pp21, pr_pieces := ⟨a21, g1_21, g2_21, _, r21⟩, M_is_pair := ⟨a22, i22, k22⟩, M_place_of := ⟨a23, i23, k23⟩, M_is_open := ⟨a24, i24, k24⟩, k_class := p7_Picture, k_get := w1, k_takes := w2, k_mro := p8_Picture, k_isp := own_kit pi_Picture pt_Picture p9_Picture (fun _ => rfl) }
  exact ⟨_, fun s v => .of_eq rfl, fun base _ _ => ok_law T⟩
end K02
open PySem PySem.W PyProof.Rows
set_option maxHeartbeats 0 in
theorem PySem.Challenge.cw_sheetproofs_k02_whole_rings_tours_and_tu_holds : PySem.Challenge.rw_sheetproofs_k02_whole_rings_tours_and_tu.Holds := by
  w_on; o_law; k_head; (case hw => w_witness2)
  k_fill
  refine TkS.walk_top (l := PySem.Challenge.rw_sheetproofs_k02_whole_rings_tours_and_tu) (n := 63) (x := "_law_script") (CX := fun _ => L2.CX0) (sp := fun w => K02.sp_law _) rfl (by decide) rfl (fun w h Y => PySem.W.kIn_of Y) ?F (fun _ _ a ns hl _ hS => ⟨a, ns, rfl, hS, hl, fun _ => rfl⟩) (fun _ _ _ _ _ h => h)
  case F =>
    intro w mg fa h KX G hmg
    refine' K02.all_mk KX G hmg ?h_SheetError ?h_BadPicture ?h_NotOpen ?h_BadSign ?h_BadRing ?h_Picture ?a0 ?i0 ?l0 ?c0 ?k0 ?a1 ?i1 ?l1 ?c1 ?k1 ?a2 ?i2 ?l2 ?c2 ?k2 ?a3 ?l3 ?c3 ?k3 ?e3 ?a4 ?l4 ?c4 ?k4 ?a5 ?l5 ?c5 ?k5 ?e5 ?a6 ?l6 ?c6 ?k6 ?a7 ?l7 ?c7 ?k7 ?a8 ?l8 ?c8 ?k8 ?a9 ?l9 ?c9 ?k9 ?a10 ?l10 ?c10 ?k10 ?a11 ?l11 ?c11 ?k11 ?a12 ?l12 ?c12 ?k12 ?a13 ?l13 ?c13 ?k13 ?a14 ?l14 ?c14 ?k14 ?a15 ?l15 ?c15 ?k15 ?a16 ?l16 ?c16 ?k16 ?a17 ?l17 ?c17 ?k17 ?a18 ?i18 ?l18 ?c18 ?k18 ?a19 ?i19 ?l19 ?c19 ?k19 ?a20 ?i20 ?l20 ?c20 ?k20 ?a21 ?r21 ?i21 ?l21 ?c21 ?k21 ?a22 ?i22 ?l22 ?c22 ?k22 ?a23 ?i23 ?l23 ?c23 ?k23 ?a24 ?i24 ?l24 ?c24 ?k24 ?a25 ?l25 ?c25 ?k25 ?a26 ?l26 ?c26 ?k26 ?a27 ?l27 ?c27 ?k27 ?a28 ?l28 ?c28 ?k28 ?a29 ?l29 ?c29 ?k29 ?a30 ?l30 ?c30 ?k30 ?a31 ?l31 ?c31 ?k31 ?a32 ?l32 ?c32 ?k32 ?a33 ?l33 ?c33 ?k33 ?a34 ?l34 ?c34 ?k34 ?a35 ?l35 ?c35 ?k35 ?a36 ?l36 ?c36 ?k36 ?a37 ?l37 ?c37 ?k37 ?a38 ?l38 ?c38 ?k38 ?a39 ?l39 ?c39 ?k39 ?a40 ?l40 ?c40 ?k40 ?a41 ?l41 ?c41 ?k41 ?a42 ?l42 ?c42 ?k42 ?a43 ?l43 ?c43 ?k43 ?z_abs ?z_bool ?z_enumerate ?z_int ?z_isinstance ?z_len ?z_list ?z_min ?z_property ?z_range ?z_repr ?z_reversed ?z_sorted ?z_tuple ?zc_FEWEST_CORNERS ?zc_MOST_CORNERS_rings ?zc_MOST_CORNERS_pictures ?w1 ?w2 ?xt_SheetError ?xi_SheetError ?xt_BadPicture ?xi_BadPicture ?xb_BadPicture ?xk_BadPicture ?x1_BadPicture ?x2_BadPicture ?x3_BadPicture ?x4_BadPicture ?x5_BadPicture ?xl_BadPicture ?xr_BadPicture ?xs_BadPicture ?xf_BadPicture ?xn0_BadPicture ?xt_NotOpen ?xi_NotOpen ?xb_NotOpen ?xk_NotOpen ?x1_NotOpen ?x2_NotOpen ?x3_NotOpen ?x4_NotOpen ?x5_NotOpen ?xl_NotOpen ?xr_NotOpen ?xs_NotOpen ?xf_NotOpen ?xn0_NotOpen ?xt_BadSign ?xi_BadSign ?xb_BadSign ?xk_BadSign ?x1_BadSign ?x2_BadSign ?x3_BadSign ?x4_BadSign ?x5_BadSign ?xq_BadSign ?xt_BadRing ?xi_BadRing ?xb_BadRing ?xk_BadRing ?x1_BadRing ?x2_BadRing ?x3_BadRing ?x4_BadRing ?x5_BadRing ?xl_BadRing ?xr_BadRing ?xs_BadRing ?xf_BadRing ?xn0_BadRing ?s_BadPicture_BadRing ?s_NotOpen_BadRing ?s_BadSign_BadRing ?s_BadRing_BadRing ?s_BadPicture_BadSign ?s_NotOpen_BadSign ?s_BadSign_BadSign ?s_BadRing_BadSign ?s_BadRing_SheetError ?ne_BadRing_BadSign ?s_BadSign_SheetError ?p1_Picture ?p2_Picture ?p3_Picture ?p4_Picture ?p5_Picture ?p6_Picture ?na_Picture_points ?na_Picture_walls ?na_Picture_pairs ?na_Picture__pieces ?g1_21 ?g2_21 ?p7_Picture ?p8_Picture ?p9_Picture ?pi_Picture ?pt_Picture
    (case h_SheetError => k_is); (case h_BadPicture => k_is); (case h_NotOpen => k_is); (case h_BadSign => k_is); (case h_BadRing => k_is); (case h_Picture => k_is); (case a0 => k_is); (case i0 => k_is); (case l0 => k_is); (case c0 => k_is); (case k0 => k_is); (case a1 => k_is); (case i1 => k_is); (case l1 => k_is); (case c1 => k_is); (case k1 => k_is); (case a2 => k_is); (case i2 => k_is); (case l2 => k_is); (case c2 => k_is); (case k2 => k_is); (case a3 => k_is); (case l3 => k_is); (case c3 => k_is); (case k3 => k_is); (case e3 => k_is); (case a4 => k_is); (case l4 => k_is); (case c4 => k_is); (case k4 => k_is); (case a5 => k_is); (case l5 => k_is); (case c5 => k_is); (case k5 => k_is); (case e5 => k_is); (case a6 => k_is); (case l6 => k_is); (case c6 => k_is); (case k6 => k_is); (case a7 => k_is); (case l7 => k_is); (case c7 => k_is); (case k7 => k_is); (case a8 => k_is); (case l8 => k_is); (case c8 => k_is); (case k8 => k_is); (case a9 => k_is); (case l9 => k_is); (case c9 => k_is); (case k9 => k_is); (case a10 => k_is); (case l10 => k_is); (case c10 => k_is); (case k10 => k_is); (case a11 => k_is); (case l11 => k_is); (case c11 => k_is); (case k11 => k_is); (case a12 => k_is); (case l12 => k_is); (case c12 => k_is); (case k12 => k_is); (case a13 => k_is); (case l13 => k_is); (case c13 => k_is); (case k13 => k_is); (case a14 => k_is); (case l14 => k_is); (case c14 => k_is); (case k14 => k_is); (case a15 => k_is); (case l15 => k_is); (case c15 => k_is); (case k15 => k_is); (case a16 => k_is); (case l16 => k_is); (case c16 => k_is); (case k16 => k_is); (case a17 => k_is); (case l17 => k_is); (case c17 => k_is); (case k17 => k_is); (case a18 => k_is); (case i18 => k_is); (case l18 => k_is); (case c18 => k_is); (case k18 => k_is); (case a19 => k_is); (case i19 => k_is); (case l19 => k_is); (case c19 => k_is); (case k19 => k_is); (case a20 => k_is); (case i20 => k_is); (case l20 => k_is); (case c20 => k_is); (case k20 => k_is); (case a21 => k_is); (case r21 => k_is); (case i21 => k_is); (case l21 => k_is); (case c21 => k_is); (case k21 => k_is); (case a22 => k_is); (case i22 => k_is); (case l22 => k_is); (case c22 => k_is); (case k22 => k_is); (case a23 => k_is); (case i23 => k_is); (case l23 => k_is); (case c23 => k_is); (case k23 => k_is); (case a24 => k_is); (case i24 => k_is); (case l24 => k_is); (case c24 => k_is); (case k24 => k_is); (case a25 => k_is); (case l25 => k_is); (case c25 => k_is); (case k25 => k_is); (case a26 => k_is); (case l26 => k_is); (case c26 => k_is); (case k26 => k_is); (case a27 => k_is); (case l27 => k_is); (case c27 => k_is); (case k27 => k_is); (case a28 => k_is); (case l28 => k_is); (case c28 => k_is); (case k28 => k_is); (case a29 => k_is); (case l29 => k_is); (case c29 => k_is); (case k29 => k_is); (case a30 => k_is); (case l30 => k_is); (case c30 => k_is); (case k30 => k_is); (case a31 => k_is); (case l31 => k_is); (case c31 => k_is); (case k31 => k_is); (case a32 => k_is); (case l32 => k_is); (case c32 => k_is); (case k32 => k_is); (case a33 => k_is); (case l33 => k_is); (case c33 => k_is); (case k33 => k_is); (case a34 => k_is); (case l34 => k_is); (case c34 => k_is); (case k34 => k_is); (case a35 => k_is); (case l35 => k_is); (case c35 => k_is); (case k35 => k_is); (case a36 => k_is); (case l36 => k_is); (case c36 => k_is); (case k36 => k_is); (case a37 => k_is); (case l37 => k_is); (case c37 => k_is); (case k37 => k_is); (case a38 => k_is); (case l38 => k_is); (case c38 => k_is); (case k38 => k_is); (case a39 => k_is); (case l39 => k_is); (case c39 => k_is); (case k39 => k_is); (case a40 => k_is); (case l40 => k_is); (case c40 => k_is); (case k40 => k_is); (case a41 => k_is); (case l41 => k_is); (case c41 => k_is); (case k41 => k_is); (case a42 => k_is); (case l42 => k_is); (case c42 => k_is); (case k42 => k_is); (case a43 => k_is); (case l43 => k_is); (case c43 => k_is); (case k43 => k_is); (case z_abs => k_is); (case z_bool => k_is); (case z_enumerate => k_is); (case z_int => k_is); (case z_isinstance => k_is); (case z_len => k_is); (case z_list => k_is); (case z_min => k_is); (case z_property => k_is); (case z_range => k_is); (case z_repr => k_is); (case z_reversed => k_is); (case z_sorted => k_is); (case z_tuple => k_is); (case zc_FEWEST_CORNERS => k_is); (case zc_MOST_CORNERS_rings => k_is); (case zc_MOST_CORNERS_pictures => k_is); (case w1 => k_is); (case w2 => k_is); (case xt_SheetError => k_is); (case xi_SheetError => k_is); (case xt_BadPicture => k_is); (case xi_BadPicture => k_is); (case xb_BadPicture => k_is); (case xk_BadPicture => k_is); (case x1_BadPicture => k_is); (case x2_BadPicture => k_is); (case x3_BadPicture => k_is); (case x4_BadPicture => k_is); (case x5_BadPicture => k_is); (case xl_BadPicture => k_is); (case xr_BadPicture => decide +kernel); (case xs_BadPicture => k_is); (case xf_BadPicture => k_is); (case xn0_BadPicture => k_is); (case xt_NotOpen => k_is); (case xi_NotOpen => k_is); (case xb_NotOpen => k_is); (case xk_NotOpen => k_is); (case x1_NotOpen => k_is); (case x2_NotOpen => k_is); (case x3_NotOpen => k_is); (case x4_NotOpen => k_is); (case x5_NotOpen => k_is); (case xl_NotOpen => k_is); (case xr_NotOpen => decide +kernel); (case xs_NotOpen => k_is); (case xf_NotOpen => k_is); (case xn0_NotOpen => k_is); (case xt_BadSign => k_is); (case xi_BadSign => k_is); (case xb_BadSign => k_is); (case xk_BadSign => k_is); (case x1_BadSign => k_is); (case x2_BadSign => k_is); (case x3_BadSign => k_is); (case x4_BadSign => k_is); (case x5_BadSign => k_is); (case xq_BadSign => k_exc); (case xt_BadRing => k_is); (case xi_BadRing => k_is); (case xb_BadRing => k_is); (case xk_BadRing => k_is); (case x1_BadRing => k_is); (case x2_BadRing => k_is); (case x3_BadRing => k_is); (case x4_BadRing => k_is); (case x5_BadRing => k_is); (case xl_BadRing => k_is); (case xr_BadRing => decide +kernel); (case xs_BadRing => k_is); (case xf_BadRing => k_is); (case xn0_BadRing => k_is); (case s_BadPicture_BadRing => k_is); (case s_NotOpen_BadRing => k_is); (case s_BadSign_BadRing => k_is); (case s_BadRing_BadRing => first | rfl | k_is); (case s_BadPicture_BadSign => k_is); (case s_NotOpen_BadSign => k_is); (case s_BadSign_BadSign => first | rfl | k_is); (case s_BadRing_BadSign => k_is); (case s_BadRing_SheetError => k_is); (case ne_BadRing_BadSign => decide); (case s_BadSign_SheetError => k_is); (case p1_Picture => k_is); (case p2_Picture => k_is); (case p3_Picture => k_is); (case p4_Picture => k_is); (case p5_Picture => k_is); (case p6_Picture => k_is); (case na_Picture_points => k_is); (case na_Picture_walls => k_is); (case na_Picture_pairs => k_is); (case na_Picture__pieces => k_is); (case g1_21 => k_is); (case g2_21 => k_is); (case p7_Picture => k_is); (case p8_Picture => k_is); (case p9_Picture => first | rfl | k_is); (case pi_Picture => k_is); (case pt_Picture => k_is)

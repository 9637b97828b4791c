import PyProof.Rows.All
import HandS.ForMost
import HandS.Zip
import HandS.Walk
import HandS.Deep
import HandS.Strs
import HandS.ExcIs
import HandS.ExcField
import PyProof.Rows.ReprR
import HandS.Exc
import HandS.ExcOwn
import HandS.CallSlots
import HandS.OwnEq
import HandS.IsInst
import HandS.Conv
import HandS.TupAny
import HandS.TupSets
import HandS.TryMany
import HandS.Ends
import HandS.Rev
import PyProof.ListNew
import HandS.List
import HandS.WordsExc
import HandS.ExcInit
import HandS.ExcInitHot
import HandS.SuiteRaise
import HandS.Iter
import KE.GoesEnum
import HandS.TupMul
import PyProof.P3Eq
import HandS.Defaults
import HandS.Style
import HandS.SortRule
import HandS.Property
import HandS.Evl
import HandS.Wide
import KE.Datum
import HandS.NoneIn
import HandS.CallLocal
import HandS.HeadEnd
import PySem.Challenge.RW_sheetproofs_k03_whole_one_tour_for_each
set_option Elab.async false
set_option linter.all false
set_option maxRecDepth 100000
set_option maxHeartbeats 4000000
/-! zip of two sequences, each a list or a tuple -/
namespace RZM
open PySem
open PySem.Sem (wp)
def SIter (t : Bool) (h : Heap) (it l : Addr) (i : Nat) : Prop := match t with
  | true => h.IsTupleIter it l i
  | false => h.IsListIter it l i
def SSeq (t : Bool) (h : Heap) (l : Addr) (xs : Array Value) : Prop := match t with
  | true => h.IsTuple l xs
  | false => h.IsList l xs
def itName (t : Bool) : String := match t with
  | true => "tuple_iterator"
  | false => "list_iterator"
section
variable {t : Bool} {h h' : Heap} {a b l : Addr} {i : Nat} {xs : Array Value}
theorem SIter.extBut (x : SIter t h a l i) (hs : Heap.ExtBut b h h') (hab : a ≠ b) : SIter t h' a l i := by
  cases t with
  | true => exact Heap.IsTupleIter.extBut x hs hab
  | false => exact Heap.IsListIter.extBut x hs hab
theorem SSeq.extBut (x : SSeq t h a xs) (hs : Heap.ExtBut b h h') (hab : a ≠ b) : SSeq t h' a xs := by
  cases t with
  | true => exact Heap.IsTuple.extBut x hs hab
  | false => exact Heap.IsList.extBut x hs hab
theorem SIter.at (x : SIter t h a l i) (e : ∀ o, h.get? a = some o → h'.get? a = some o) : SIter t h' a l i := by
  cases t with
  | true => exact Heap.IsTupleIter.at x e
  | false => exact Heap.IsListIter.at x e
theorem SIter.obj (x : SIter t h a l i) : ∃ o, h.get? a = some o ∧ ∀ v, o.data ≠ .cell v := by
  cases t with
  | true =>
    obtain ⟨o, e, _, d⟩ := (show h.IsTupleIter a l i from x)
    exact ⟨o, e, fun v z => by rw [d] at z; cases z⟩
  | false =>
    obtain ⟨o, e, _, d⟩ := (show h.IsListIter a l i from x)
    exact ⟨o, e, fun v z => by rw [d] at z; cases z⟩
theorem SIter.lt (x : SIter t h a l i) : a < h.objs.size := by
  obtain ⟨o, e, _⟩ := x.obj
  exact Heap.lt_size e
theorem SSeq.lt (x : SSeq t h a xs) : a < h.objs.size := by
  cases t with
  | true =>
    obtain ⟨o, e, _⟩ := (show h.IsTuple a xs from x)
    exact Heap.lt_size e
  | false =>
    obtain ⟨o, e, _⟩ := (show h.IsList a xs from x)
    exact Heap.lt_size e
end
section
variable {prog : Program} {w : World} {A : Around} {E : Value → Shared → Prop} {s : Shared}
theorem nextOf_S_item {t : Bool} {it l : Addr} {i : Nat} {items : Array Value} {x : Value} {Q : Value → Shared → Prop} (hit : SIter t s.heap it l i) (hl : SSeq t s.heap l items) (hx : items[i]? = some x)
    (hQ : ∀ h', SIter t h' it l (i + 1) → Heap.SameBut it s.heap h' → Q x { s with heap := h' }) : wpAny (model prog w) A (Builtin.SmallTypes.nextOf (.ref it)) Q E s := by
  cases t with
  | true => exact RZ.nextOf_tuple_item hit hl hx hQ
  | false => exact wpAny_nextOf_list_item hit hl hx hQ
theorem nextOf_S_end {t : Bool} {it l : Addr} {i : Nat} {items : Array Value} {Q : Value → Shared → Prop} (hh : A.handled = none) (hit : SIter t s.heap it l i) (hl : SSeq t s.heap l items) (hx : items[i]? = none)
    (hE : ∀ h' e, Heap.ExtBut it s.heap h' → (∃ o, h'.get? e = some o ∧ o.cls = .type "StopIteration") → E (.ref e) { s with heap := h' }) : wpAny (model prog w) A (Builtin.SmallTypes.nextOf (.ref it)) Q E s := by
  cases t with
  | true => exact RZ.nextOf_tuple_end hh hit hl hx hE
  | false => exact wpAny_nextOf_list_end hh hit hl hx hE
theorem zipS_next_item {t1 t2 : Bool} {z TI TO i1 i2 l1 l2 : Addr} {k1 k2 : Nat} {xs ys : Array Value} {x y a b : Value} {Q : Value → Shared → Prop} (D : ZipApart z TI TO i1 i2 l1 l2)
    (hz : IsZip s.heap z TI TO .none) (hTI : IsPair s.heap TI (.ref i1) (.ref i2)) (hTO : IsPair s.heap TO a b)
    (h1 : SIter t1 s.heap i1 l1 k1) (h2 : SIter t2 s.heap i2 l2 k2) (hl1 : SSeq t1 s.heap l1 xs) (hl2 : SSeq t2 s.heap l2 ys) (hx : xs[k1]? = some x) (hy : ys[k2]? = some y)
    (hQ : ∀ h', IsZip h' z TI TO (rawInt s.heap.objs.size) → IsPair h' TO x y → SIter t1 h' i1 l1 (k1 + 1) → SIter t2 h' i2 l2 (k2 + 1) → IsPair h' s.heap.objs.size x y → h'.objs.size = s.heap.objs.size + 1 →
      (∀ c o, c ≠ z → c ≠ TO → c ≠ i1 → c ≠ i2 → s.heap.get? c = some o → h'.get? c = some o) → Q (.ref s.heap.objs.size) { s with heap := h' }) :
    wpAny (model prog w) A (Builtin.«zip.__next__» ⟨[.ref z], []⟩) (fun fin s' => ∃ v, fin = .done (.ret v) ∧ Q v s') E s := by
  show wpAny _ _ (field (.ref z) 2 >>= _) _ _ _
  refine wpAny_bind (wpAny_field hz rfl (x := .bool false) rfl ?_)
  show wpAny _ _ (field (.ref z) 3 >>= _) _ _ _
  refine wpAny_bind (wpAny_field hz rfl (x := .ref TI) rfl ?_)
  refine wpAny_bind (wpAny_seqItems hTI rfl ?_)
  show wpAny _ _ (Builtin.SmallTypes.ownedTupleIsFree (.ref z) >>= _) _ _ _
  refine wpAny_bind ?_
  unfold Builtin.SmallTypes.ownedTupleIsFree
  refine wpAny_bind (wpAny_field hz rfl (x := .none) rfl (wpAny_pure ?_))
  simp only [if_true]
  refine wpAny_bind (wpAny_rule ?_)
  refine wpAny_bind (wpAny_field hz rfl (x := .ref TO) rfl ?_)
  refine wpAny_bind (wpAny_setField_rec hz (by simp) fun h₁ hz₁ hs₁ => ?_)
  replace hz₁ : IsZip h₁ z TI TO .ellipsis := hz₁
  refine wpAny_bind ?_
  simp only [List.zipIdx_cons, List.zipIdx_nil, List.forIn_cons, List.forIn_nil]

  refine wpAny_bind (wpAny_bind (wpAny_onRaise ?_))
  show wpAny _ _ (Builtin.SmallTypes.nextOf (.ref i1) >>= _) _ _ _
  refine wpAny_bind (nextOf_S_item (h1.extBut hs₁.extBut D.i1z) (hl1.extBut hs₁.extBut D.l1z) hx fun h₂ h1₂ hs₂ => wpAny_pure ?_)
  have hTO₂ : IsPair h₂ TO a b := hs₂.extBut _ _ D.TOi1 (hs₁.extBut _ _ D.TOz hTO)
  refine wpAny_bind (wpAny_seqItems hTO₂ rfl ?_)
  refine wpAny_bind (wpAny_updateSeq_pair hTO₂ fun h₃ hTO₃ hs₃ => ?_)
  replace hTO₃ : IsPair h₃ TO x b := hTO₃
  refine wpAny_bind (wpAny_letGo (wpAny_pure ?_))

  refine wpAny_bind (wpAny_bind (wpAny_onRaise ?_))
  show wpAny _ _ (Builtin.SmallTypes.nextOf (.ref i2) >>= _) _ _ _
  refine wpAny_bind (nextOf_S_item (((h2.extBut hs₁.extBut D.i2z).extBut hs₂.extBut D.i12.symm).extBut hs₃.extBut D.TOi2.symm)
    (((hl2.extBut hs₁.extBut D.l2z).extBut hs₂.extBut D.l2i1).extBut hs₃.extBut D.l2TO) hy fun h₄ h2₄ hs₄ => wpAny_pure ?_)
  have hTO₄ : IsPair h₄ TO x b := hs₄.extBut _ _ D.TOi2 hTO₃
  refine wpAny_bind (wpAny_seqItems hTO₄ rfl ?_)
  refine wpAny_bind (wpAny_updateSeq_pair hTO₄ fun h₅ hTO₅ hs₅ => ?_)
  replace hTO₅ : IsPair h₅ TO x y := hTO₅
  refine wpAny_bind (wpAny_letGo (wpAny_pure (wpAny_pure ?_)))

  refine wpAny_bind (wpAny_seqItems hTO₅ rfl ?_)
  refine wpAny_bind (wpAny_newTuple ?_)
  have hsz : h₅.objs.size = s.heap.objs.size := by rw [hs₅.1, hs₄.1, hs₃.1, hs₂.1, hs₁.1]
  have hz₅ : IsZip h₅ z TI TO .ellipsis := hs₅.extBut _ _ D.TOz.symm (hs₄.extBut _ _ D.i2z.symm (hs₃.extBut _ _ D.TOz.symm (hs₂.extBut _ _ D.i1z.symm hz₁)))
  have hk₅ : ∀ c o, c ≠ z → c ≠ TO → c ≠ i1 → c ≠ i2 → s.heap.get? c = some o → h₅.get? c = some o := fun c o c1 c2 c3 c4 e =>
    hs₅.extBut _ _ c2 (hs₄.extBut _ _ c4 (hs₃.extBut _ _ c2 (hs₂.extBut _ _ c3 (hs₁.extBut _ _ c1 e))))
  have h1₅ : SIter t1 h₅ i1 l1 (k1 + 1) := ((h1₂.extBut hs₃.extBut D.TOi1.symm).extBut hs₄.extBut D.i12).extBut hs₅.extBut D.TOi1.symm
  have h2₅ : SIter t2 h₅ i2 l2 (k2 + 1) := h2₄.extBut hs₅.extBut D.TOi2.symm
  have hzlt : z < h₅.objs.size := Heap.lt_size hz₅
  have hTOlt : TO < h₅.objs.size := Heap.lt_size hTO₅
  have hi1lt : i1 < h₅.objs.size := by exact h1₅.lt
  have hi2lt : i2 < h₅.objs.size := by exact h2₅.lt
  show wpAny _ _ (Builtin.SmallTypes.ownedTupleHandOut (.ref z) (.ref h₅.objs.size) >>= _) _ _ _
  refine wpAny_bind ?_
  unfold Builtin.SmallTypes.ownedTupleHandOut
  have hz₆ : IsZip (h₅.push { cls := .type "tuple", data := .seq #[x, y] }) z TI TO .ellipsis := Heap.get?_push_of_some _ hz₅
  refine wpAny_bind (wpAny_setField_rec hz₆ (by simp) fun h₇ hz₇ hs₇ => ?_)
  replace hz₇ : IsZip h₇ z TI TO (rawInt h₅.objs.size) := hz₇
  refine wpAny_setField_rec hz₇ (by simp) fun h₈ hz₈ hs₈ => ?_
  replace hz₈ : IsZip h₈ z TI TO (rawInt h₅.objs.size) := hz₈
  have up : ∀ c o, c ≠ z → h₅.get? c = some o → h₈.get? c = some o := fun c o c1 e => hs₈.extBut _ _ c1 (hs₇.extBut _ _ c1 (Heap.get?_push_of_some _ e))
  have hT₈ : IsPair h₈ h₅.objs.size x y := hs₈.extBut _ _ (Nat.ne_of_gt hzlt) (hs₇.extBut _ _ (Nat.ne_of_gt hzlt) (Heap.get?_push_size _ rfl))
  have hz8 : h₈.objs.size = h₅.objs.size + 1 := by rw [hs₈.1, hs₇.1, Heap.size_push]
  rw [hsz] at hz₈ hT₈ hz8
  refine wpAny_pure ⟨_, rfl, ?_⟩
  show Q (.ref h₅.objs.size) _
  rw [hsz]
  exact hQ h₈ hz₈ (up _ _ D.TOz hTO₅) (h1₅.at fun o e => up _ o D.i1z e) (h2₅.at fun o e => up _ o D.i2z e) hT₈ hz8 fun c o c1 c2 c3 c4 e => up c o c1 (hk₅ c o c1 c2 c3 c4 e)

theorem zipS_next_end {t1 t2 : Bool} {z TI TO i1 i2 l1 l2 : Addr} {k1 k2 : Nat} {xs ys : Array Value} {a b : Value} {Q : Fin → Shared → Prop} (hh : A.handled = none) (D : ZipApart z TI TO i1 i2 l1 l2)
    (hz : IsZip s.heap z TI TO .none) (hTI : IsPair s.heap TI (.ref i1) (.ref i2)) (hTO : IsPair s.heap TO a b)
    (h1 : SIter t1 s.heap i1 l1 k1) (h2 : SIter t2 s.heap i2 l2 k2) (hl1 : SSeq t1 s.heap l1 xs) (hl2 : SSeq t2 s.heap l2 ys) (hend : xs[k1]? = none ∨ ys[k2]? = none)
    (hE : ∀ h' e, (∀ c o, c ≠ z → c ≠ TO → c ≠ i1 → c ≠ i2 → s.heap.get? c = some o → h'.get? c = some o) → (∃ o, h'.get? e = some o ∧ o.cls = .type "StopIteration") → E (.ref e) { s with heap := h' }) :
    wpAny (model prog w) A (Builtin.«zip.__next__» ⟨[.ref z], []⟩) Q E s := by
  show wpAny _ _ (field (.ref z) 2 >>= _) _ _ _
  refine wpAny_bind (wpAny_field hz rfl (x := .bool false) rfl ?_)
  show wpAny _ _ (field (.ref z) 3 >>= _) _ _ _
  refine wpAny_bind (wpAny_field hz rfl (x := .ref TI) rfl ?_)
  refine wpAny_bind (wpAny_seqItems hTI rfl ?_)
  show wpAny _ _ (Builtin.SmallTypes.ownedTupleIsFree (.ref z) >>= _) _ _ _
  refine wpAny_bind ?_
  unfold Builtin.SmallTypes.ownedTupleIsFree
  refine wpAny_bind (wpAny_field hz rfl (x := .none) rfl (wpAny_pure ?_))
  simp only [if_true]
  refine wpAny_bind (wpAny_rule ?_)
  refine wpAny_bind (wpAny_field hz rfl (x := .ref TO) rfl ?_)
  refine wpAny_bind (wpAny_setField_rec hz (by simp) fun h₁ hz₁ hs₁ => ?_)
  replace hz₁ : IsZip h₁ z TI TO .ellipsis := hz₁
  refine wpAny_bind ?_
  simp only [List.zipIdx_cons, List.zipIdx_nil, List.forIn_cons, List.forIn_nil]
  refine wpAny_bind (wpAny_bind (wpAny_onRaise ?_))
  show wpAny _ _ (Builtin.SmallTypes.nextOf (.ref i1) >>= _) _ _ _
  cases hx : xs[k1]? with
  | none =>
    refine wpAny_bind (nextOf_S_end hh (h1.extBut hs₁.extBut D.i1z) (hl1.extBut hs₁.extBut D.l1z) hx fun h₂ e hs₂ he => ?_)
    obtain ⟨oe, hoe, hce⟩ := he
    have hz₂ : IsZip h₂ z TI TO .ellipsis := hs₂ _ _ D.i1z.symm hz₁
    have hez : e ≠ z := fun x => by subst x; rw [hz₂] at hoe; cases hoe; simp at hce
    refine wpAny_setField_rec hz₂ (by simp) fun h₃ _ hs₃ => hE h₃ e (fun c o c1 _ c3 _ x => hs₃.extBut _ _ c1 (hs₂ _ _ c3 (hs₁.extBut _ _ c1 x))) ⟨oe, hs₃.extBut _ _ hez hoe, hce⟩
  | some x =>
    have hy : ys[k2]? = none := by rcases hend with h | h; rw [hx] at h; cases h; exact h
    refine wpAny_bind (nextOf_S_item (h1.extBut hs₁.extBut D.i1z) (hl1.extBut hs₁.extBut D.l1z) hx fun h₂ h1₂ hs₂ => wpAny_pure ?_)
    have hTO₂ : IsPair h₂ TO a b := hs₂.extBut _ _ D.TOi1 (hs₁.extBut _ _ D.TOz hTO)
    refine wpAny_bind (wpAny_seqItems hTO₂ rfl ?_)
    refine wpAny_bind (wpAny_updateSeq_pair hTO₂ fun h₃ hTO₃ hs₃ => ?_)
    refine wpAny_bind (wpAny_letGo (wpAny_pure ?_))
    refine wpAny_bind (wpAny_bind (wpAny_onRaise ?_))
    show wpAny _ _ (Builtin.SmallTypes.nextOf (.ref i2) >>= _) _ _ _
    refine wpAny_bind (nextOf_S_end hh (((h2.extBut hs₁.extBut D.i2z).extBut hs₂.extBut D.i12.symm).extBut hs₃.extBut D.TOi2.symm)
      (((hl2.extBut hs₁.extBut D.l2z).extBut hs₂.extBut D.l2i1).extBut hs₃.extBut D.l2TO) hy fun h₄ e hs₄ he => ?_)
    obtain ⟨oe, hoe, hce⟩ := he
    have hz₄ : IsZip h₄ z TI TO .ellipsis := hs₄ _ _ D.i2z.symm (hs₃.extBut _ _ D.TOz.symm (hs₂.extBut _ _ D.i1z.symm hz₁))
    have hez : e ≠ z := fun x => by subst x; rw [hz₄] at hoe; cases hoe; simp at hce
    refine wpAny_setField_rec hz₄ (by simp) fun h₅ _ hs₅ => hE h₅ e (fun c o c1 c2 c3 c4 x => hs₅.extBut _ _ c1 (hs₄ _ _ c4 (hs₃.extBut _ _ c2 (hs₂.extBut _ _ c3 (hs₁.extBut _ _ c1 x))))) ⟨oe, hs₅.extBut _ _ hez hoe, hce⟩

theorem pyNext_zipS_item {t1 t2 : Bool} {z TI TO i1 i2 l1 l2 : Addr} {k1 k2 : Nat} {xs ys : Array Value} {x y a b : Value} {Q : Option Value → Shared → Prop} (D : ZipApart z TI TO i1 i2 l1 l2)
    (hz : IsZip s.heap z TI TO .none) (hTI : IsPair s.heap TI (.ref i1) (.ref i2)) (hTO : IsPair s.heap TO a b)
    (h1 : SIter t1 s.heap i1 l1 k1) (h2 : SIter t2 s.heap i2 l2 k2) (hl1 : SSeq t1 s.heap l1 xs) (hl2 : SSeq t2 s.heap l2 ys) (hx : xs[k1]? = some x) (hy : ys[k2]? = some y)
    (hQ : ∀ h', IsZip h' z TI TO (rawInt s.heap.objs.size) → IsPair h' TO x y → SIter t1 h' i1 l1 (k1 + 1) → SIter t2 h' i2 l2 (k2 + 1) → IsPair h' s.heap.objs.size x y → h'.objs.size = s.heap.objs.size + 1 →
      (∀ c o, c ≠ z → c ≠ TO → c ≠ i1 → c ≠ i2 → s.heap.get? c = some o → h'.get? c = some o) → Q (some (.ref s.heap.objs.size)) { s with heap := h' }) :
    wpAny (model prog w) A (pyNext (.ref z)) Q E s := by
  have hT : s.TypeIs (.ref z) "zip" := ⟨_, hz, rfl⟩
  unfold pyNext
  exact wpAny_bind (wpAny_attempt (wpAny_callSpecial?_slot (name := Str.ofString "__next__") hT F.slot_zip_next
    (wpAny_call_entry F.slot_zip_next hT F.entry_zip_next
      (zipS_next_item D hz hTI hTO h1 h2 hl1 hl2 hx hy fun h' a1 a2 a3 a4 a5 a6 a7 => wpAny_pure (hQ h' a1 a2 a3 a4 a5 a6 a7)) (F.args_zip_next_1 _))))

theorem pyNext_zipS_end {t1 t2 : Bool} {z TI TO i1 i2 l1 l2 : Addr} {k1 k2 : Nat} {xs ys : Array Value} {a b : Value} {Q : Option Value → Shared → Prop} (hh : A.handled = none) (D : ZipApart z TI TO i1 i2 l1 l2)
    (hz : IsZip s.heap z TI TO .none) (hTI : IsPair s.heap TI (.ref i1) (.ref i2)) (hTO : IsPair s.heap TO a b)
    (h1 : SIter t1 s.heap i1 l1 k1) (h2 : SIter t2 s.heap i2 l2 k2) (hl1 : SSeq t1 s.heap l1 xs) (hl2 : SSeq t2 s.heap l2 ys) (hend : xs[k1]? = none ∨ ys[k2]? = none)
    (hQ : ∀ h', (∀ c o, c ≠ z → c ≠ TO → c ≠ i1 → c ≠ i2 → s.heap.get? c = some o → h'.get? c = some o) → Q none { s with heap := h' }) : wpAny (model prog w) A (pyNext (.ref z)) Q E s := by
  have hT : s.TypeIs (.ref z) "zip" := ⟨_, hz, rfl⟩
  unfold pyNext
  refine wpAny_bind (wpAny_attempt (wpAny_callSpecial?_slot (name := Str.ofString "__next__") hT F.slot_zip_next
    (wpAny_call_entry F.slot_zip_next hT F.entry_zip_next (zipS_next_end hh D hz hTI hTO h1 h2 hl1 hl2 hend fun h' e hk he => ?_) (F.args_zip_next_1 _))))
  obtain ⟨o, ho, hc⟩ := he
  refine wpAny_bind (wpAny_isInstance (T := "StopIteration") (b := true) ⟨o, ho, hc⟩ isSubtype_stop ?_)
  exact wpAny_pure (hQ _ hk)
end


abbrev zH1 (t1 : Bool) (h : Heap) (l1 : Addr) : Heap := h.push { cls := .type (itName t1), data := .fields #[.ref l1, .int 0 0] }
abbrev zH2 (t1 t2 : Bool) (h : Heap) (l1 l2 : Addr) : Heap := (zH1 t1 h l1).push { cls := .type (itName t2), data := .fields #[.ref l2, .int 0 0] }
abbrev zH3 (t1 t2 : Bool) (h : Heap) (l1 l2 : Addr) : Heap := (zH2 t1 t2 h l1 l2).push { cls := .type "tuple", data := .seq #[.ref h.objs.size, .ref (zH1 t1 h l1).objs.size] }
abbrev zH4 (t1 t2 : Bool) (h : Heap) (l1 l2 : Addr) : Heap := (zH3 t1 t2 h l1 l2).push { cls := .type "tuple", data := .seq #[.none, .none] }
abbrev zH5 (t1 t2 : Bool) (h : Heap) (l1 l2 : Addr) : Heap := (zH4 t1 t2 h l1 l2).push { cls := .type "zip", data := .fields #[.none, .bool false, .bool false, .ref (zH2 t1 t2 h l1 l2).objs.size, .ref (zH3 t1 t2 h l1 l2).objs.size] }
theorem meets_zipS (t1 t2 : Bool) (l1 l2 : Addr) (xs ys : Array Value) :
    Meets (Builtin.«zip.__new__» ⟨[.type "zip", .ref l1, .ref l2], []⟩) (fun _ R s => SSeq t1 s.heap l1 xs ∧ SSeq t2 s.heap l2 ys ∧
      R (.ok (.ret (.ref (zH4 t1 t2 s.heap l1 l2).objs.size))) { s with heap := zH5 t1 t2 s.heap l1 l2 }) := by
  cases t1 with
  | true => cases t2 with
    | true => exact RZ.meets_zipT_new l1 l2 xs ys
    | false =>
        refine .of_wp fun prog w A R s h => ?_
        obtain ⟨hp, g, d, tk, os⟩ := s; obtain ⟨hl1, hl2, h⟩ := h
        have hsub := sub_zip
        have hL1 : Heap.IsTuple (Shared.heap ⟨hp, g, d, tk, os⟩) l1 xs := hl1
        have hL2 : Heap.IsList (Shared.heap ⟨hp.push { cls := .type "tuple_iterator", data := .fields #[.ref l1, .int 0 0] }, g, d, tk, os⟩) l2 ys := Heap.IsList.push hl2 _
        wp_walk using wpAny_pyIter_tuple hL1, wpAny_pyIter_list hL2
        exact ⟨_, rfl, h⟩
  | false => cases t2 with
    | false => exact meets_zip_new l1 l2 xs ys
    | true =>
        refine .of_wp fun prog w A R s h => ?_
        obtain ⟨hp, g, d, tk, os⟩ := s; obtain ⟨hl1, hl2, h⟩ := h
        have hsub := sub_zip
        have hL1 : Heap.IsList (Shared.heap ⟨hp, g, d, tk, os⟩) l1 xs := hl1
        have hL2 : Heap.IsTuple (Shared.heap ⟨hp.push { cls := .type "list_iterator", data := .fields #[.ref l1, .int 0 0] }, g, d, tk, os⟩) l2 ys := Heap.IsTuple.push hl2 _
        wp_walk using wpAny_pyIter_list hL1, wpAny_pyIter_tuple hL2
        exact ⟨_, rfl, h⟩
section
variable {prog : Program} {w : World} {A : Around} {E : Value → Shared → Prop} {s : Shared}
theorem call_zipS {t1 t2 : Bool} {l1 l2 : Addr} {xs ys : Array Value} {Q : Value → Shared → Prop} (hl1 : SSeq t1 s.heap l1 xs) (hl2 : SSeq t2 s.heap l2 ys)
    (h : ∀ h', IsZip h' (s.heap.objs.size + 4) (s.heap.objs.size + 2) (s.heap.objs.size + 3) .none → IsPair h' (s.heap.objs.size + 2) (.ref s.heap.objs.size) (.ref (s.heap.objs.size + 1)) →
      IsPair h' (s.heap.objs.size + 3) .none .none → SIter t1 h' s.heap.objs.size l1 0 → SIter t2 h' (s.heap.objs.size + 1) l2 0 → h'.objs.size = s.heap.objs.size + 5 →
      (∀ c o, s.heap.get? c = some o → h'.get? c = some o) → Q (.ref (s.heap.objs.size + 4)) { s with heap := h' }) :
    wpAny (model prog w) A (call (.type "zip") [.ref l1, .ref l2]) Q E s := by
  refine callType_new F.called_zip (by decide) (F.typeCall_zip_2 _ _) (F.newCall_zip_2 _ _) (fun obj => F.args_object_init_3 obj _ _) F.entry_zip_new
    (meets_zipS t1 t2 l1 l2 xs ys) ⟨hl1, hl2, ?_⟩
  have z1 : (zH1 t1 s.heap l1).objs.size = s.heap.objs.size + 1 := Heap.size_push ..
  have z2 : (zH2 t1 t2 s.heap l1 l2).objs.size = s.heap.objs.size + 2 := by rw [Heap.size_push, z1]
  have z3 : (zH3 t1 t2 s.heap l1 l2).objs.size = s.heap.objs.size + 3 := by rw [Heap.size_push, z2]
  have z4 : (zH4 t1 t2 s.heap l1 l2).objs.size = s.heap.objs.size + 4 := by rw [Heap.size_push, z3]
  have z5 : (zH5 t1 t2 s.heap l1 l2).objs.size = s.heap.objs.size + 5 := by rw [Heap.size_push, z4]
  have g5 : (zH5 t1 t2 s.heap l1 l2).get? (zH4 t1 t2 s.heap l1 l2).objs.size = some _ := Heap.get?_push_size _ rfl
  have g4 : (zH5 t1 t2 s.heap l1 l2).get? (zH3 t1 t2 s.heap l1 l2).objs.size = some _ := Heap.get?_push_of_some _ (Heap.get?_push_size _ rfl)
  have g3 : (zH5 t1 t2 s.heap l1 l2).get? (zH2 t1 t2 s.heap l1 l2).objs.size = some _ := Heap.get?_push_of_some _ (Heap.get?_push_of_some _ (Heap.get?_push_size _ rfl))
  have g2 : (zH5 t1 t2 s.heap l1 l2).get? (zH1 t1 s.heap l1).objs.size = some _ := Heap.get?_push_of_some _ (Heap.get?_push_of_some _ (Heap.get?_push_of_some _ (Heap.get?_push_size _ rfl)))
  have g1 : (zH5 t1 t2 s.heap l1 l2).get? s.heap.objs.size = some _ := Heap.get?_push_of_some _ (Heap.get?_push_of_some _ (Heap.get?_push_of_some _ (Heap.get?_push_of_some _ (Heap.get?_push_size _ rfl))))
  show _ ∧ _
  rw [z2, z3, z4] at g5
  rw [z1, z2] at g3
  rw [z3] at g4
  rw [z1] at g2
  rw [z4]
  exact ⟨⟨_, g5, rfl⟩, h _ g5 g3 g4 (by cases t1 <;> exact ⟨_, g1, rfl, rfl⟩) (by cases t2 <;> exact ⟨_, g2, rfl, rfl⟩) z5 fun c o x =>
    Heap.get?_push_of_some _ (Heap.get?_push_of_some _ (Heap.get?_push_of_some _ (Heap.get?_push_of_some _ (Heap.get?_push_of_some _ x))))⟩
end
end RZM
namespace RZM
open PySem PySem.Spec PyProof.Rows L2
def SqS (t : Bool) (K : PySem.W.Frag) (H : Hp) (a : Addr) (xs : List V) : Prop := match t with
  | true => SqT K H a xs
  | false => SqL K H a xs
theorem sq_ok {X : Cx} {pins : List (Addr × Obj)} {σ : L2.St} {H : Hp} {s : Shared} {t : Bool} {a : Addr} {xs : List V} (I : Inv X pins σ H s) (h : SqS t X.K H a xs) : ∃ its : List Value, Vals xs its ∧ SSeq t s.heap a its.toArray ∧ xs.length ≤ sizeLine := by
  cases t with
  | true =>
    obtain ⟨its, r, p, z⟩ := I.tuple h
    exact ⟨its, r, (show s.heap.IsTuple a its.toArray from p), z⟩
  | false =>
    obtain ⟨its, r, p, z⟩ := I.list h
    exact ⟨its, r, p.isList, z⟩
theorem sq_inj {X : Cx} {pins : List (Addr × Obj)} {σ : L2.St} {H : Hp} {s : Shared} {t : Bool} {a : Addr} {xs ys : List V} (I : Inv X pins σ H s) (h : SqS t X.K H a xs) (h' : SqS t X.K H a ys) : xs = ys := by
  cases t with
  | true => exact I.tuple_inj h h'
  | false => exact I.list_inj h h'
def ItzS (t1 t2 : Bool) (K : PySem.W.Frag) (a b : Addr) : It :=
  ⟨fun i H => ∃ (xs ys : List V) (x y : V), SqS t1 K H a xs ∧ SqS t2 K H b ys ∧ xs[i]? = some x ∧ ys[i]? = some y,
    fun i H v H' => ∃ T x y, v = .ref T ∧ H T = none ∧ H' = upd H T (.tup [x, y]) ∧ (∀ xs, SqS t1 K H a xs → xs[i]? = some x) ∧ ∀ ys, SqS t2 K H b ys → ys[i]? = some y,
    fun i H => ∃ xs ys : List V, SqS t1 K H a xs ∧ SqS t2 K H b ys ∧ (xs.length ≤ i ∨ ys.length ≤ i)⟩
theorem turn_zipS {t1 t2 : Bool} {P : Program} {w : World} {K : PySem.W.Frag} {elts : List Expr} {kk : Nat} {tpos : Pos} {a b z TI TO i1 i2 : Addr} (D : ZipApart z TI TO i1 i2 a b) :
    Turn P w K (.Tuple elts kk tpos) (ItzS t1 t2 K a b) [z, TI, TO, i1, i2] z (fun i h => IsZip h z TI TO .none ∧ IsPair h TI (.ref i1) (.ref i2) ∧ (∃ x y, IsPair h TO x y) ∧ SIter t1 h i1 a i ∧ SIter t2 h i2 b i) where
  mem := by simp
  obj := fun i h st c hc => by
    obtain ⟨hz, hTI, ⟨x, y, hTO⟩, h1, h2⟩ := st
    obtain ⟨o1, e1, d1⟩ := h1.obj
    obtain ⟨o2, e2, d2⟩ := h2.obj
    have e' : c = z ∨ c = TI ∨ c = TO ∨ c = i1 ∨ c = i2 := by simpa using hc
    rcases e' with q | q | q | q | q
    · rw [q]; exact ⟨_, hz, fun v q => nomatch q⟩
    · rw [q]; exact ⟨_, hTI, fun v q => nomatch q⟩
    · rw [q]; exact ⟨_, hTO, fun v q => nomatch q⟩
    · rw [q]; exact ⟨o1, e1, d1⟩
    · rw [q]; exact ⟨o2, e2, d2⟩
  keep := fun i h h' st k => by
    obtain ⟨hz, hTI, ⟨x, y, hTO⟩, h1, h2⟩ := st
    exact ⟨k z (by simp) _ hz, k TI (by simp) _ hTI, ⟨x, y, k TO (by simp) _ hTO⟩, h1.at fun o q => k i1 (by simp) o q, h2.at fun o q => k i2 (by simp) o q⟩
  item := by
    intro X hP hw hK hc i pins s σ H E I hf st hg
    subst hP hw hK
    obtain ⟨hz, hTI, ⟨x0, y0, hTO⟩, h1, h2⟩ := st
    obtain ⟨xs, ys, x, y, hqx, hqy, hx, hy⟩ := hg
    obtain ⟨its, rv, p, _⟩ := sq_ok I hqx
    obtain ⟨its2, rv2, p2, _⟩ := sq_ok I hqy
    obtain ⟨u, hu, ru⟩ := rv.get hx
    obtain ⟨u2, hu2, ru2⟩ := rv2.get hy
    have hzl : z < s.heap.objs.size := Heap.lt_size hz
    refine pyNext_zipS_item D hz hTI hTO h1 h2 p p2 (x := u) (y := u2) (by simpa using hu) (by simpa using hu2) fun h' z' TO' h1' h2' hT hsz hk => ?_
    refine ⟨_, rfl, wpAny_letOwnedTupleGo_zip (s := { s with heap := h' }) z' fun h'' z'' sb => ?_⟩
    have hT2 : h''.get? s.heap.objs.size = some { cls := .type "tuple", data := .seq #[u, u2] } := (sb.2 _ (Nat.ne_of_gt hzl)).trans hT
    have new : ObjOk X.prog X.w (upd H s.heap.objs.size (.tup [x, y])) h'' s.heap.objs.size (.tup [x, y]) :=
      ⟨by show 2 ≤ sizeLine; decide, [u, u2], .cons ru (.cons ru2 .nil), ⟨_, hT2, rfl, _, rfl⟩⟩
    have I1 : Inv X pins σ (upd H s.heap.objs.size (.tup [x, y])) { s with heap := h'' } :=
      I.turnedNew (t' := s.toks) (ch := [z, TI, TO, i1, i2]) (fun c o hb q => (sb.2 c (fun q' => hb (by simp [q']))).trans (hk c o (fun q' => hb (by simp [q'])) (fun q' => hb (by simp [q'])) (fun q' => hb (by simp [q'])) (fun q' => hb (by simp [q'])) q)) hf (Nat.le_refl _) new
    refine ⟨.ref s.heap.objs.size, _, I1, rfl, ⟨_, x, y, rfl, I.hok.fresh (Nat.le_refl _), rfl, fun l hl => by rw [sq_inj I hl hqx]; exact hx, fun l hl => by rw [sq_inj I hl hqy]; exact hy⟩, ⟨z'', ?_, ⟨u, u2, ?_⟩, ?_, ?_⟩, fun c hcm => ?_⟩
    · exact (sb.2 _ D.TIz).trans (hk _ _ D.TIz D.TITO D.TIi1 D.TIi2 hTI)
    · exact (sb.2 _ D.TOz).trans TO'
    · exact h1'.at fun o q => (sb.2 _ D.i1z).trans q
    · exact h2'.at fun o q => (sb.2 _ D.i2z).trans q
    · have hlt : c < s.heap.objs.size := by
        have e' : c = z ∨ c = TI ∨ c = TO ∨ c = i1 ∨ c = i2 := by simpa using hcm
        rcases e' with q | q | q | q | q
        · rw [q]; exact hzl
        · rw [q]; exact Heap.lt_size hTI
        · rw [q]; exact Heap.lt_size hTO
        · rw [q]; exact h1.lt
        · rw [q]; exact h2.lt
      rw [upd_ne (Nat.ne_of_lt hlt)]
      exact (hf c hcm).1
  done := by
    intro X hP hw hK hc i pins s σ H E I hf st hg
    subst hP hw hK
    obtain ⟨hz, hTI, ⟨x0, y0, hTO⟩, h1, h2⟩ := st
    obtain ⟨xs, ys, hqx, hqy, hend⟩ := hg
    obtain ⟨its, rv, p, _⟩ := sq_ok I hqx
    obtain ⟨its2, rv2, p2, _⟩ := sq_ok I hqy
    have l1 := rv.length
    have l2 := rv2.length
    have he : its.toArray[i]? = none ∨ its2.toArray[i]? = none := by
      rcases hend with q | q
      · exact .inl (by simp; omega)
      · exact .inr (by simp; omega)
    exact pyNext_zipS_end (I.ok.hd hc) D hz hTI hTO h1 h2 p p2 he fun h' hk => ⟨rfl, I.turnedL (t' := s.toks) (ch := [z, TI, TO, i1, i2]) (fun c o hb q =>
      hk c o (fun q' => hb (by simp [q'])) (fun q' => hb (by simp [q'])) (fun q' => hb (by simp [q'])) (fun q' => hb (by simp [q'])) q) hf⟩
  self := fun A i s Q E st h => wpAny_pyIter_zip st.1 h

/-- zip(e, e2), each a list or a tuple -/
def iZipS (K : PySem.W.Frag) (ta : TA) : TI := fun σ H R => ta σ H fun vs H1 => ∃ t1 t2 a b xs ys, vs = [.ref a, .ref b] ∧ SqS t1 K H1 a xs ∧ SqS t2 K H1 b ys ∧ R (ItzS t1 t2 K a b) H1
theorem sseq_lt {t : Bool} {h : Heap} {a : Addr} {its : Array Value} (x : SSeq t h a its) : a < h.objs.size := by
  cases t with
  | true =>
    obtain ⟨o, e, _⟩ := (show h.IsTuple a its from x)
    exact Heap.lt_size e
  | false =>
    obtain ⟨o, e, _⟩ := (show h.IsList a its from x)
    exact Heap.lt_size e
theorem pi_zipS {X : Cx} {e e2 : Expr} {ta : TA} {p pos tpos : Pos} {elts : List Expr} {kk : Nat} (hg : Gl X "zip") (hm : X.mg "zip" = none) (ha : PA X [e, e2] ta)
    (hs : starEach [e, e2] X.env = (false, eval e X.env) :: starEach [e2] X.env := by rfl) (hpl : (backTo pos (starEach [e2] X.env)).any (·.1) = false := by rfl) :
    PI X (.Tuple elts kk tpos) (.Call (.Name "zip" p) [e, e2] [] pos) (iZipS X.K ta) := by
  refine ⟨fun pins s σ H R I h => Call_ (ld_blt I hg hm PyProof.Rows.boot_zip (PyProof.Rows.callWith_type1 (thn (ha.run pos pins s σ H _ I h) fun us s1 ⟨vs, H1, I1, r1, t1, t2, a, b, xs, ys, ex, hqx, hqy, q⟩ => ?_) hs hpl))⟩
  subst ex
  obtain ⟨u1, u2, rfl, r, r'⟩ := vals2 r1
  cases r
  cases r'
  obtain ⟨its, rv, p1, _⟩ := sq_ok I1 hqx
  obtain ⟨its2, rv2, p2, _⟩ := sq_ok I1 hqy
  have fresh5 : ∀ c, c ∈ [s1.heap.objs.size + 4, s1.heap.objs.size + 2, s1.heap.objs.size + 3, s1.heap.objs.size, s1.heap.objs.size + 1] → FpOk X pins H1 c := fun c hcm => by
    have hle : s1.heap.objs.size ≤ c := by
      simp only [List.mem_cons, List.not_mem_nil, or_false] at hcm
      omega
    exact I1.fpOk hle (I1.hok.fresh hle)
  refine call_zipS p1 p2 fun h' hz hTI hTO h1 h2 hsz hk => wpAny_pyIter_zip hz ?_
  have I2 : Inv X pins σ H1 { s1 with heap := h' } := I1.kept (t' := s1.toks) hk
  exact ⟨s1.heap.objs.size + 4, [s1.heap.objs.size + 4, s1.heap.objs.size + 2, s1.heap.objs.size + 3, s1.heap.objs.size, s1.heap.objs.size + 1], _, _, H1, rfl, I2, turn_zipS (PySem.W.ktu_apart s1.heap.objs.size a b (sseq_lt p1) (sseq_lt p2)), ⟨hz, hTI, ⟨_, _, hTO⟩, h1, h2⟩, fresh5, q⟩
theorem for_zipS {t1 t2 : Bool} {K : PySem.W.Frag} {a b : Addr} {xs ys : List V} {g : TG} {tb : TS} {D : Ends} {σ : L2.St} {H : Hp} (hl : xs.length = ys.length) (Pv : Nat → L2.St → Hp → Prop) (h0 : Pv 0 σ H) (hq : ∀ i σ H, Pv i σ H → SqS t1 K H a xs ∧ SqS t2 K H b ys)
    (hs : ∀ (i : Nat) (x y : V) (T : Addr) (σ : L2.St) (H : Hp), xs[i]? = some x → ys[i]? = some y → Pv i σ H → H T = none → g (.ref T) σ (upd H T (.tup [x, y])) fun σ2 H2 => tb { D with nx := Pv (i + 1), ct := Pv (i + 1), bk := D.nx } σ2 H2) (hd : ∀ σ H, Pv xs.length σ H → D.nx σ H) :
    ∃ W : Nat → Nat → L2.St → Hp → Prop, (∃ m, W 0 m σ H) ∧ ∀ i m σ H, W i m σ H →
      ((ItzS t1 t2 K a b).stop i H ∧ D.nx σ H) ∨ ((ItzS t1 t2 K a b).go i H ∧ ∃ N : L2.St → Hp → Prop, (∀ σ' H', N σ' H' → ∃ m', m' < m ∧ W (i + 1) m' σ' H') ∧ ∀ v H', (ItzS t1 t2 K a b).yld i H v H' → g v σ H' fun σ2 H2 => tb { D with nx := N, ct := N, bk := D.nx } σ2 H2) := by
  refine ⟨fun i m σ H => m = xs.length - i ∧ i ≤ xs.length ∧ Pv i σ H, ⟨xs.length, rfl, Nat.zero_le _, h0⟩, ?_⟩
  rintro i m σ H ⟨rfl, hi, p⟩
  obtain ⟨qx, qy⟩ := hq i σ H p
  rcases Nat.lt_or_ge i xs.length with hlt | hge
  · refine .inr ⟨⟨xs, ys, _, _, qx, qy, List.getElem?_eq_getElem hlt, List.getElem?_eq_getElem (by omega)⟩, Pv (i + 1), fun σ' H' p' => ⟨xs.length - (i + 1), by omega, rfl, hlt, p'⟩, fun v H' y => ?_⟩
    obtain ⟨T, x', y', rfl, hT, rfl, f1, f2⟩ := y
    exact hs i x' y' T σ H (f1 xs qx) (f2 ys qy) p hT
  · have e : i = xs.length := by omega
    subst e
    exact .inl ⟨⟨xs, ys, qx, qy, Or.inl (Nat.le_refl _)⟩, hd σ H p⟩
end RZM
set_option Elab.async false
set_option linter.all false
set_option maxRecDepth 100000
set_option maxHeartbeats 4000000
/-! in, not in, index of tuples whose items are data of any depth; repr of data; isinstance of a caught error that has a dict -/
namespace TkS
open PySem PySem.Spec PyProof.Rows L2
section
variable {X : Cx}
def rInT (K : PySem.W.Frag) (neg : Bool) : R2 := fun x y H Q => ∃ d ds, Dp K H x d ∧ Dp K H y (.tuple ds) ∧ SeqAt.shaped d = true ∧ SeqAt.shaped (.tuple ds) = true ∧ Q (.bl (if neg then !ds.any fun z => PyData.eqv z d else ds.any fun z => PyData.eqv z d)) H
theorem room_tup {d : PyData} {ds : List PyData} (sd : SeqAt.shaped d = true) (hu : X.A.units + 65 < cLine) : X.A.units + 1 + min (PyData.depthAll ds) d.depth < cLine := by
  have h : d.depth ≤ 64 := by
    have z : (d.canLay0 && decide (d.depth ≤ 64)) = true := sd
    rw [Bool.and_eq_true] at z
    exact of_decide_eq_true z.2
  have := Nat.min_le_right (PyData.depthAll ds) d.depth
  omega
theorem lay_tup {ds : List PyData} (se : SeqAt.shaped (.tuple ds) = true) : PyData.canLayAll0 ds = true := SeqAt.canLay_of_shaped se
theorem op_inT (hu : X.A.units + 65 < cLine) : OpR X (compareOp .In) (rInT X.K false) := by
  intro pins s σ H x y v u Q I rx ry h
  obtain ⟨d, ds, hd, he, sd, se, q⟩ := h
  obtain ⟨as, r1⟩ := Dp.reads I d x v hd rx
  obtain ⟨bs, r2⟩ := Dp.reads I (.tuple ds) y u he ry
  exact SeqAt.in_tuple_reads r2 r1 (lay_tup se) (SeqAt.canLay_of_shaped sd) (room_tup sd hu) ⟨.bl _, H, I, rfl, q⟩
theorem op_notInT (hu : X.A.units + 65 < cLine) : OpR X (compareOp .NotIn) (rInT X.K true) := by
  intro pins s σ H x y v u Q I rx ry h
  obtain ⟨d, ds, hd, he, sd, se, q⟩ := h
  obtain ⟨as, r1⟩ := Dp.reads I d x v hd rx
  obtain ⟨bs, r2⟩ := Dp.reads I (.tuple ds) y u he ry
  exact SeqAt.notIn_tuple_reads r2 r1 (lay_tup se) (SeqAt.canLay_of_shaped sd) (room_tup sd hu) ⟨.bl _, H, I, rfl, q⟩
/-- t.index(x): the first place of an equal one -/
def rIxT (K : PySem.W.Frag) : V → List V → Hp → VK → Prop := fun x xs H Q => ∃ (a : Addr) (y : V) (d : PyData) (ds : List PyData) (j : Nat) (z : PyData), x = V.ref a ∧ xs = [y] ∧ Dp K H (V.ref a) (.tuple ds) ∧ Dp K H y d ∧
  SeqAt.shaped (.tuple ds) = true ∧ SeqAt.shaped d = true ∧ ds[j]? = some z ∧ PyData.eqv z d = true ∧ (∀ (m : Nat) (z' : PyData), m < j → ds[m]? = some z' → PyData.eqv z' d = false) ∧ Q (.int (j : Nat)) H
theorem mt_tupIx (hu : X.A.units + 65 < cLine) : MtR X "tuple.index" (rIxT X.K) := by
  intro pins s σ H x xs v us Q I rx rxs h
  obtain ⟨a, y, d, ds, j, z, rfl, rfl, hl, hy, sl, sd, hz, hzj, hno, q⟩ := h
  cases rx
  cases rxs with
  | cons ry rt =>
    rename_i uy ut
    cases rt
    obtain ⟨bs, r1⟩ := Dp.reads I d y uy hy ry
    have hxs : PyData.canLayAll0 ds = true := lay_tup sl
    cases hl with
    | tup hs ha =>
      obtain ⟨its, rv, ⟨⟨cls, dd, data, sls⟩, ho, hc, n, hdt⟩, hlen⟩ := I.tuple hs
      simp only at hc hdt
      subst hc hdt
      obtain ⟨as, h4⟩ := Dp.readsAll I ds _ its ha rv
      have hmap : its.map (SeqAt.readOf s.heap) = ds := SeqAt.readsAll_map ds its as hxs h4
      have hn : its.length = ds.length := SeqAt.ReadsAll.length ds its as h4
      obtain ⟨hjd, _⟩ := List.getElem?_eq_some_iff.mp hz
      have hj : j < its.toArray.size := by
        rw [List.size_toArray]
        omega
      have at_ : ∀ (m : Nat) (hm : m < its.toArray.size) (z' : PyData), ds[m]? = some z' → SeqAt.readOf s.heap its.toArray[m] = z' := by
        intro m hm z' hz'
        have hml : m < its.length := by simpa using hm
        rw [← hmap, List.getElem?_map, List.getElem?_eq_getElem hml] at hz'
        have e1 : SeqAt.readOf s.heap its[m] = z' := Option.some.inj hz'
        simpa using e1
      refine call_meets PySem.F.slot_tuple_index ⟨_, ho, rfl⟩ PySem.F.entry_tuple_index (PySem.F.args_tuple_index_2 _ _)
        (TI.tuple_indexAt a its.toArray n dd sls uy (fun u => PyData.eqv (SeqAt.readOf s.heap u) d) j hj ?_ ?_) ⟨ho, SeqAt.items_eqAt (vs := its.toArray) (show ReadsAll s.heap its.toArray.toList ds as from h4) r1 hxs (SeqAt.canLay_of_shaped sd) (room_tup sd hu), ?_⟩
      · show PyData.eqv (SeqAt.readOf s.heap its.toArray[j]) d = true
        rw [at_ j hj z hz]
        exact hzj
      · intro m hm hmj
        have hmd : m < ds.length := by omega
        have hz' : ds[m]? = some ds[m] := List.getElem?_eq_getElem hmd
        show PyData.eqv (SeqAt.readOf s.heap its.toArray[m]) d = false
        rw [at_ m hm _ hz']
        exact hno m _ hmj hz'
      · exact ⟨.int (j : Nat), H, I.tok _, ⟨_, rfl⟩, q⟩
/-- repr of a list or tuple of data: its text hangs on the data alone -/
def rReprD (K : PySem.W.Frag) : List V → Hp → VK → Prop := fun xs H Q => ∃ a d, xs = [.ref a] ∧ Dp K H (.ref a) d ∧ d.showable = true ∧ d.hasDict = false ∧ d.depth ≤ 60 ∧ d.shown.length ≤ sizeLine ∧ Q (.str d.shown) H
theorem call_reprD (hg : X.A.guards = some []) (hu : X.A.units + 65 < cLine) : CallR X (.builtin "repr") (rReprD X.K) := by
  intro pins s σ H xs us Q I r h
  obtain ⟨a, d, rfl, hd, h1, h2, h3, h4, q⟩ := h
  obtain ⟨u, rfl, ru⟩ := vals1 r
  obtain ⟨as, rd⟩ := Dp.reads I d (.ref a) u hd ru
  cases ru
  exact repr_of_reads' rd h1 (PyData.noDict_hsm h2) hg (by omega) (fun _ _ e => e) (fun h' u tk k => ⟨.str d.shown, H, I.kept (t' := tk) k, ⟨_, rfl⟩, q⟩) h4
end
end TkS
set_option Elab.async false
set_option linter.all false
set_option maxRecDepth 100000
set_option maxHeartbeats 4000000
namespace PySem.W
open PySem PySem.Spec PySem.Calls PyProof.Rows
section
variable {prog : Program} {w : World} {A : Around} {E : Value → Shared → Prop} {s : Shared} {K : Frag} {x D : Addr} {ox : Obj}
theorem kin_classD {od : Obj} {Q : Option Value → Shared → Prop} (hga : findIn K (.ref D) "__getattribute__" = some (some (.builtin "BaseException.__getattribute__"))) (hgt : findIn K (.ref D) "__getattr__" = some none) (hsub : subIn K (.ref D) (.type "BaseException") = some true)
    (hdct : hasDictIn K D = true) (ha : findIn K (.ref D) "__class__" = some (some (.builtin "object.__class__")))
    (hn : specialIn K (.builtin "object.__class__") "__get__" = some (some (.builtin "getset_descriptor.__get__"))) (htk : takesIn K (.builtin "object.__class__") = some true) (hm : mroIn K D (.type "object") = some true)
    (X : K.In s.heap) (I : InstAt s.heap x ox D (some od)) (h : Q (some (.ref D)) { s with toks := s.toks + 1 }) : wpAny (model prog w) A (getAttr? (.ref x) "__class__") Q E s := by
  have hf : findObj K D (some od) "__class__" = some (.bind (.builtin "getset_descriptor.__get__") (.builtin "object.__class__")) := findObj_data (by obtain ⟨cd, hc, _⟩ := any_some hdct; rw [hc]; rfl) ha hn htk
  obtain ⟨hp, g, d, t, os⟩ := s
  have L0 := I.type (M := model prog w)
  have L1 := looks_findIn (M := model prog w) X hga
  have L2 := looks_findIn (M := model prog w) X hgt
  have L3 := looks_find (M := model prog w) X I hf
  have sub : Looks (model prog w) hp (isInstance (.ref x) (.type "BaseException")) true := L0.andThen (looks_subIn X hsub)
  have hx0 : (false && onTheHeap (Value.builtin "BaseException.__getattribute__")) = false := rfl
  have hx2 : (Value.builtin "BaseException.__getattribute__" == Value.builtin "object.__getattribute__") = false := by decide +kernel
  have hx1 : (onTheHeap (Value.ref D) && Value.builtin "BaseException.__getattribute__" == Value.builtin "object.__getattribute__") = false := by rw [hx2]; rfl
  unfold getAttr? getAttrBy? getAttrBy
  refine wpAny_bind (wpAny_mkText (wpAny_bind (wpAny_attempt (wpAny_holding (wpAny_bind (L0.at (wpAny_bind (L1.at ?_))))))))
  show wpAny _ _ (if (onTheHeap (Value.ref D) && Value.builtin "BaseException.__getattribute__" == Value.builtin "object.__getattribute__") = true then _ else _) _ _ _
  rw [hx1, if_neg Bool.false_ne_true]
  unfold getAttrByItsOwn hookBefore
  refine wpAny_bind ?_
  rw [if_pos (show onTheHeap (Value.ref D) = true from rfl)]
  refine L2.at ?_
  refine wpAny_bind (wpAny_attempt (wpAny_holding ?_))
  unfold callGetattribute
  rw [hx0, if_neg Bool.false_ne_true]
  unfold boundAndCalled
  rw [PySem.F.excAttr_ValueError.ga.bind (.ref x)]
  refine wpAny_bind (wpAny_pure ?_)
  show wpAny _ _ (call (.builtin "BaseException.__getattribute__") [.ref x, .str "__class__" t]) _ _ _
  refine wpAny_call (codeAny_call_builtin PySem.F.excAttr_ValueError.ga.plain PySem.F.entry_bexc_ga ?_)
  refine @check_slot (model prog w) _ _ ⟨hp, g, d, t + 1, os⟩ "BaseException.__getattribute__" "BaseException" "__getattribute__" (.ref x) [.str "__class__" t] [] _ (by decide +kernel) (by decide +kernel) sub (PySem.F.args_bexc_ga (.ref x) (.str "__class__" t)) ?_
  unfold Builtin.«object.__getattribute__»
  refine wpAny_bind (wpAny_of_eq (a := ((Value.ref x : Value), [Value.str "__class__" t])) (by first | rfl | (simp only [slotArgs]; rfl)) ?_)
  refine wpAny_bind (wpAny_pure (wpAny_bind (L0.at (wpAny_bind (L3.at ?_)))))
  show wpAny _ _ (holding [Value.builtin "object.__class__"] (call (.builtin "getset_descriptor.__get__") [.builtin "object.__class__", .ref x, .ref D]) >>= ret) _ _ _
  refine wpAny_bind (wpAny_holding (wpAny_call (class_get (s := ⟨hp, g, d, t + 1, os⟩) (ox := ox) (od := some od) X I hm ?_)))
  refine wpAny_pure ?_
  show wpAny _ _ (handedOut (.ref D)) _ _ _
  rw [handedOut_of (v := .ref D) rfl]
  first
    | exact wpAny_pure (wpAny_pure h)
    | exact wpAny_pure h
    | exact wpAny_pure (wpAny_bind (wpAny_pure (wpAny_pure h)))
theorem kitx_excD (hga : findIn K (.ref D) "__getattribute__" = some (some (.builtin "BaseException.__getattribute__"))) (hgt : findIn K (.ref D) "__getattr__" = some none) (hsub : subIn K (.ref D) (.type "BaseException") = some true) (hdct : hasDictIn K D = true) (ha : findIn K (.ref D) "__class__" = some (some (.builtin "object.__class__")))
    (hn : specialIn K (.builtin "object.__class__") "__get__" = some (some (.builtin "getset_descriptor.__get__"))) (htk : takesIn K (.builtin "object.__class__") = some true) (hm : mroIn K D (.type "object") = some true) :
    KitX K (.ref x) (.ref D) (fun h => ∃ od, InstAt h x ox D (some od)) where
  ty := fun _ _ _ I => I.elim fun _ J => J.type
  it := fun _ _ X _ => by
    obtain ⟨cdD, hcD, _⟩ := any_some hdct
    unfold clsIn at hcD
    split at hcD
    · rename_i c' d' cd' sl' ho
      intro A' Q' E' s' k q
      unfold isType loadHead
      exact wpAny_bind (wpAny_loadPart (k _ _ (X _ _ ho)) (wpAny_pure q))
    · cases hcD
  ne := fun h tp dd its n sl X htp => by
    obtain ⟨cdD, hcD, _⟩ := any_some hdct
    refine Bool.eq_false_iff.mpr fun q => ?_
    have e : D = tp := Value.ref.inj (beq_iff_eq.mp q)
    subst e
    unfold clsIn at hcD
    split at hcD
    · rename_i c' d' cd' sl' ho
      have z := (X _ _ ho).symm.trans htp
      cases z
    · cases hcD
  ca := fun X I k => I.elim fun _ J => kin_classD hga hgt hsub hdct ha hn htk hm X J k
end
end PySem.W
namespace TkS
open PySem PySem.Spec PyProof.Rows L2
/-- isinstance(e, c), e the error that the suite holds, which has a dict -/
def rIsD (K : PySem.W.Frag) (D a : Addr) (cls : Value) (d : Option Addr) : List V → Hp → VK → Prop := fun xs H Q => cls = .ref D ∧ ∃ (dd : Addr) (fs : List (Str × V)) (c : V) (cv : Value) (b : Bool), d = some dd ∧ H dd = some (.xd fs) ∧ xs = [.ref a, c] ∧ (∀ u, RelV c u → u = cv) ∧ PySem.W.kitOne K (.ref D) cv = some b ∧ Q (.bl b) H
theorem call_isD {X : Cx} {a D : Addr} {oe : Obj} {cls : Value} {d : Option Addr} {pn : List (Addr × Obj)} (C : ExcC X.K D) (hz : Zc cls d oe) (hf : ∃ vs, oe.data = .fields vs) : CallR (X.suite a ((a, oe) :: pn)) (.builtin "isinstance") (rIsD X.K D a cls d) := by
  intro pins s σ H xs us Q I r h
  obtain ⟨rfl, dd, fs, c, cv, b, rfl, ea, rfl, hcv, e, q⟩ := h
  obtain ⟨u1, u2, rfl, r1, r2⟩ := vals2 r
  cases r1
  have ec := hcv _ r2
  subst ec
  obtain ⟨hget, _⟩ := I.pin (a, oe) (List.mem_append_left _ List.mem_cons_self)
  obtain ⟨vs, hv⟩ := hf
  have hx : ObjOk X.prog X.w H s.heap dd (.xd fs) := I.hok dd _ ea
  obtain ⟨mA, hns, hr⟩ := hx
  obtain ⟨od, ho, hl⟩ := lookIn_ns hns
  have J : PySem.W.InstAt s.heap a oe D (some od) := ⟨hget, hz.1, by unfold PySem.W.notCls; rw [hv] <;> rfl, by rw [hz.2]; exact ho⟩
  exact PySem.W.kia_one (PySem.W.kitx_excD C.hg C.hk C.hs C.hd C.ha C.hn C.ht C.hm) I.kIn ⟨od, J⟩ e (fun z => nomatch z) fun tk => ⟨.bl b, H, I.kept (t' := tk) fun _ _ z => z, rfl, q⟩
end TkS
set_option Elab.async false
set_option linter.all false
set_option maxRecDepth 100000
set_option maxHeartbeats 4000000
/-! C(..) and o.m(..) where what is raised is wished for at the caller's slots (within a try) -/
namespace TkS
open PySem PySem.Spec PyProof.Rows L2
def tMethSD (C : Addr) (m : Str) (sp : Sp) (dvs : List V) (E : L2.St → XK) (ta : TE) (t : TA) : TE := fun σ H Q => ta σ H fun x H1 => ∃ a dx fs, x = .ref a ∧ H1 a = some (.ins C dx fs) ∧ fs.lookup m = none ∧
  t σ H1 fun vs H2 => sp (x :: (vs ++ dvs)) H2 Q (E σ)
def tMakeSD (C : Addr) (sp : Sp) (dvs : List V) (E : L2.St → XK) (t : TA) : TE := fun σ H Q => t σ H fun vs H1 => ∀ x dx, H1 x = none → H1 dx = none → dx ≠ x →
  sp (.ref x :: (vs ++ dvs)) (upd (upd H1 dx (.own x)) x (.ins C dx [])) (fun v H2 => v = .non ∧ Q (.ref x) H2) (E σ)
section
variable {X : Cx} {CX : CXT} {k : Nat} {f C : Addr} {fd : FuncData} {ps : List Str} {sp : Sp} {dvs : List V} {ds : List Value} {E : L2.St → XK} {x m : Str} {p pos apos : Pos} {e o : Expr} {es : List Expr} {ta : TE} {t : TA}
theorem run_makeSD {pins : List (Addr × Obj)} {σ : L2.St} {H : Hp} {s : Shared} {Q : VK} {us : List Value} {vs : List V} (M : Mk X.K C f) (F : FnOk X.prog X.w X.K X.mg X.base CX k f fd ps sp) (hr : Room (k + 1) X.A) (hb : Binds X.K fd ps ds) (hd : Vals dvs ds)
    (hx : PassesAt CX X σ (E σ)) (I : Inv X pins σ H s) (r : Vals vs us)
    (h : ∀ x dx, H x = none → H dx = none → dx ≠ x → sp (.ref x :: (vs ++ dvs)) (upd (upd H dx (.own x)) x (.ins C dx [])) (fun v H2 => v = .non ∧ Q (.ref x) H2) (E σ)) :
    wpAny (model X.prog X.w) X.A (call (.ref C) us) (EP X pins σ Q) X.xe s := by
  have hq := h (s.heap.objs.size + 1) s.heap.objs.size (I.hok.fresh (Nat.le_succ _)) (I.hok.fresh (Nat.le_refl _)) (Nat.ne_of_lt (Nat.lt_succ_self _))
  have I2 := Inv.made (C := C) I
  have r2 : Vals (V.ref (s.heap.objs.size + 1) :: (vs ++ dvs)) (Value.ref (s.heap.objs.size + 1) :: (us ++ ds)) := .cons rfl (r.append hd)
  have hl : (Value.ref (s.heap.objs.size + 1) :: us ++ ds).length = ps.length := by
    have e := r2.length
    rw [F.len _ _ _ _ hq] at e
    exact e.symm
  refine wpAny_call (make_map (f := f) I.kIn M.makes M.init (beq_iff_eq.mp M.fn) (codeAny_mono (F.run _ X.stack _ _ ⟨Value.ref (s.heap.objs.size + 1) :: us, []⟩ (Value.ref (s.heap.objs.size + 1) :: (us ++ ds)) _ _ (E σ) (hr.make C us [])
    (I2.env0.make C us []) (hb _ (Value.ref (s.heap.objs.size + 1) :: us) I2.kIn hl) r2 hq) fun r s' hq' => ?_))
  cases r with
  | error e => exact hx pins _ _ e s' I2 hq'
  | ok fl =>
    cases fl with
    | ret u =>
      obtain ⟨v, H', I3, rv, ev, q3⟩ := I2.after hq'
      subst ev
      exact ⟨rv, ⟨V.ref (s.heap.objs.size + 1), H', I3, rfl, q3⟩⟩
    | next => exact False.elim hq'
    | brk => exact False.elim hq'
    | cont => exact False.elim hq'
theorem pe_makeSD (M : Mk X.K C f) (F : FnOk X.prog X.w X.K X.mg X.base CX k f fd ps sp) (hr : Room (k + 1) X.A) (hg : Gl X x) (hm : X.mg x = some (.ref C)) (hb : Binds X.K fd ps ds) (hd : Vals dvs ds) (hx : ∀ σ, PassesAt CX X σ (E σ))
    (ha : PA X (e :: es) t) (hdb : (x == ("__debug__" : Str)) = false := by decide) (he : starEach (e :: es) X.env = (false, eval e X.env) :: starEach es X.env := by rfl) (hpl : (backTo pos (starEach es X.env)).any (·.1) = false := by rfl) :
    PE X (.Call (.Name x p) (e :: es) [] pos) (tMakeSD C sp dvs E t) := by
  refine ⟨fun pins s σ H Q I h => ?_⟩
  refine wpAny_Call_Name_kw (ld_glob I hg hm ?_ hdb)
  refine PySem.W.callWith_K (h₀ := X.base) I.ok.mod.kin M.kp (thn (ha.run pos pins s σ H _ I h) fun us s1 ⟨vs, H1, I1, r, q⟩ => ⟨I1.kIn, ?_⟩) he hpl
  exact run_makeSD M F hr hb hd (hx σ) I1 r q
theorem pe_methSD {pl : Sem Bool} (he : PE X o ta) (c : Cls X.K C) (hm : Meth X.K C m f) (F : FnOk X.prog X.w X.K X.mg X.base CX k f fd ps sp) (hr : Room k X.A) (hb : Binds X.K fd ps ds) (hd : Vals dvs ds) (hx : ∀ σ, PassesAt CX X σ (E σ)) (ha : PA X (e :: es) t)
    (hst : starEach (e :: es) X.env = (false, eval e X.env) :: starEach es X.env := by rfl) (hpl : (backTo pos (starEach es X.env)).any (·.1) = false := by rfl)
    (ht : eval (.Call (.Attribute o m apos) (e :: es) [] pos) X.env = (do
      let ov ← eval o X.env
      standAt apos.atName
      let (f, first) ← holding [ov] (getMethod ov m pl)
      callWith pos f first (backTo pos (starEach (e :: es) X.env)) (backToKw pos (keywordEach [] X.env))) := by rfl) :
    PE X (.Call (.Attribute o m apos) (e :: es) [] pos) (tMethSD C m sp dvs E ta t) := by
  refine ⟨fun pins s σ H Q I h => ?_⟩
  refine PySem.W.methodCall_KW (pl := pl) (thn (he.run pins s σ H _ I h) fun u s1 ⟨x, H1, I1, rx, a, dx, fs, ex, ea, l, q⟩ => ?_) ht
  subst ex
  obtain rfl : u = Value.ref a := rx
  refine getmeth_ok I1 ea c hm l ?_
  refine PySem.W.callWith_K (first := [.ref a]) (h₀ := X.base) I.ok.mod.kin hm.kp (thn (ha.run pos pins s1 σ H1 _ I1 q) fun us s2 ⟨vs, H2, I2, r, q2⟩ => ⟨I2.kIn, ?_⟩) hst hpl
  exact run_fnSD (us := .ref a :: us) (vs := .ref a :: vs) F hr hb hd (hx σ) I2 (.cons rfl r) q2
end
end TkS
set_option Elab.async false
set_option linter.all false
set_option maxRecDepth 100000
set_option maxHeartbeats 4000000
/-! == of two instances by an own __eq__ with any answer; len of an instance by an own __len__ -/
namespace TkS
open PySem PySem.Spec PyProof.Rows L2
section
variable {X : Cx} {CX : CXT} {n : Nat} {f C : Addr} {fd : FuncData} {ps : List Str} {sp : Sp} {E : XK}
def rEqOwn (C : Addr) (sp : Sp) (E : XK) : R2 := fun x y H Q => ∃ a b dx dy fs gs, x = .ref a ∧ y = .ref b ∧ H a = some (.ins C dx fs) ∧ H b = some (.ins C dy gs) ∧ sp [.ref a, .ref b] H (fun v H' => (∃ r, v = .bl r) ∧ Q v H') E
theorem op_eqOwn (F : FnOk X.prog X.w X.K X.mg X.base CX n f fd ps sp) (hr : Room n X.A) (hs : PySem.W.findIn X.K (.ref C) "__eq__" = some (some (.ref f))) (hf : PySem.W.isFn X.K (.ref f) = true) (hb : Binds X.K fd ps []) (hx : Passes CX X E) :
    OpR X (compareOp .Eq) (rEqOwn C sp E) := by
  intro pins s σ H x y v u Q I rx ry h
  obtain ⟨a, b, dx, dy, fs, gs, rfl, rfl, ha, hb', hq⟩ := h
  cases rx
  cases ry
  obtain ⟨mA, J, _⟩ := ins_get I.hok ha
  obtain ⟨mB, J', _⟩ := ins_get I.hok hb'
  obtain ⟨od, J, _⟩ := J.look
  obtain ⟨od', J', _⟩ := J'.look
  obtain ⟨m, hF⟩ := I.fr
  show wpAny (model X.prog X.w) X.A (richCompare .Eq (.ref a) (.ref b)) (EP X pins σ Q) X.xe s
  refine PySem.W.cmp_K (op := .Eq) (tb := .ref C) hr.units0 hF I.ok.mod.kin J J'.type (by simp [PySem.W.notFirst]) hs hf ?_
  have hl := F.len _ _ _ _ hq
  refine wpAny_mono (run_fn (us := [.ref a, .ref b]) (vs := [.ref a, .ref b]) (dvs := []) (Q := fun v H' => (∃ r, v = .bl r) ∧ Q v H') F hr hb .nil hx I (.cons rfl (.cons rfl .nil)) hq) (fun u s' z => ?_) fun _ _ z => z
  obtain ⟨v, H', I', rv, ⟨r, ev⟩, q⟩ := z
  subst ev
  cases (show u = Value.bool r from rv)
  exact ⟨.bl r, H', I', rfl, q⟩
def rLenOwn (C : Addr) (sp : Sp) (E : XK) : List V → Hp → VK → Prop := fun xs H Q => ∃ (a dx : Addr) (fs : List (Str × V)) (k : Nat), xs = [.ref a] ∧ H a = some (.ins C dx fs) ∧ k < 2 ^ 62 ∧ sp [.ref a] H (fun v H' => v = .int (k : Int) ∧ Q v H') E
theorem call_lenOwn (F : FnOk X.prog X.w X.K X.mg X.base CX n f fd ps sp) (hr : Room (n + 1) X.A) (hs : PySem.W.findIn X.K (.ref C) "__len__" = some (some (.ref f))) (hf : PySem.W.isFn X.K (.ref f) = true) (hb : Binds X.K fd ps []) (hx : Passes CX X E) : CallR X (.builtin "len") (rLenOwn C sp E) := by
  intro pins s σ H xs us Q I r h
  obtain ⟨a, dx, fs, k, rfl, ha, hk, hq⟩ := h
  obtain ⟨u, rfl, ru⟩ := vals1 r
  cases ru
  obtain ⟨mA, J, _⟩ := ins_get I.hok ha
  obtain ⟨od, J, _⟩ := J.look
  obtain ⟨m, hF⟩ := I.fr
  have hl : ([Value.ref a] ++ ([] : List Value)).length = ps.length := by
    rw [← F.len _ _ _ _ hq]
    rfl
  refine PySem.W.len_K hF I.ok.mod.kin J hs hf (wpAny_call ?_)
  refine codeAny_mono (F.run X.A.in1 X.stack s H ⟨[.ref a], []⟩ [.ref a] [.ref a] _ E hr.in1 I.env0.in1 (hb s [.ref a] I.kIn hl) (.cons rfl .nil) hq) fun r s' hq => ?_
  cases r with
  | error e => exact hx pins σ H s e s' I hq
  | ok fl =>
    cases fl with
    | ret u =>
      obtain ⟨v, H', I', rv, ev, q⟩ := I.after hq
      subst ev
      obtain ⟨t, eu⟩ := (show ∃ t, u = Value.int (k : Int) t from rv)
      subst eu
      refine ⟨⟨by omega, by omega⟩, .int (k : Int), H', I'.tok _, ⟨_, rfl⟩, q⟩
    | next => exact False.elim hq
    | brk => exact False.elim hq
    | cont => exact False.elim hq
end
end TkS
set_option Elab.async false
set_option linter.all false
set_option maxRecDepth 100000
set_option maxHeartbeats 4000000
/-! data whose objects are all tracked -/
namespace TkS
open PySem PySem.Spec PyProof.Rows L2
mutual
inductive Dq (H : Hp) : V → PyData → Prop
  | non : Dq H .non .none
  | bl (b : Bool) : Dq H (.bl b) (.bool b)
  | int (i : Int) : Dq H (.int i) (.int i)
  | str (x : Str) : Dq H (.str x) (.str x)
  | lst {a : Addr} {xs : List V} {ds : List PyData} : H a = some (.lst xs) → DqAll H xs ds → Dq H (.ref a) (.list ds)
  | tup {a : Addr} {xs : List V} {ds : List PyData} : H a = some (.tup xs) → DqAll H xs ds → Dq H (.ref a) (.tuple ds)
inductive DqAll (H : Hp) : List V → List PyData → Prop
  | nil : DqAll H [] []
  | cons {v : V} {vs : List V} {d : PyData} {ds : List PyData} : Dq H v d → DqAll H vs ds → DqAll H (v :: vs) (d :: ds)
end
theorem DqAll.len {H : Hp} : ∀ {xs : List V} {ds : List PyData}, DqAll H xs ds → xs.length = ds.length
  | _, _, .nil => rfl
  | _, _, .cons _ t => congrArg Nat.succ t.len
theorem DqAll.get {H : Hp} : ∀ {xs : List V} {ds : List PyData} {i : Nat} {x : V}, DqAll H xs ds → xs[i]? = some x → ∃ d, ds[i]? = some d ∧ Dq H x d
  | _, _, _, _, .nil, e => by simp at e
  | _, _, 0, _, .cons h _, e => by
    simp at e
    subst e
    exact ⟨_, rfl, h⟩
  | _, _, i + 1, _, .cons _ t, e => by
    obtain ⟨d, h1, h2⟩ := t.get (i := i) (by simpa using e)
    exact ⟨d, by simpa using h1, h2⟩
theorem DqAll.append {H : Hp} : ∀ {xs ys : List V} {ds es : List PyData}, DqAll H xs ds → DqAll H ys es → DqAll H (xs ++ ys) (ds ++ es)
  | _, _, _, _, .nil, s => s
  | _, _, _, _, .cons r t, s => .cons r (t.append s)
theorem DqAll.snoc {H : Hp} {xs : List V} {ds : List PyData} {x : V} {d : PyData} (h : DqAll H xs ds) (h1 : Dq H x d) : DqAll H (xs ++ [x]) (ds ++ [d]) := h.append (.cons h1 .nil)
mutual
theorem Dq.same {H H' : Hp} (s : Same H H') : ∀ {v : V} (d : PyData), Dq H v d → Dq H' v d
  | _, .none, .non => .non
  | _, .bool _, .bl b => .bl b
  | _, .int _, .int i => .int i
  | _, .str _, .str x => .str x
  | _, .list _, .lst h t => .lst (s _ _ h) (DqAll.same s _ t)
  | _, .tuple _, .tup h t => .tup (s _ _ h) (DqAll.same s _ t)
theorem DqAll.same {H H' : Hp} (s : Same H H') : ∀ {vs : List V} (ds : List PyData), DqAll H vs ds → DqAll H' vs ds
  | _, [], .nil => .nil
  | _, _ :: _, .cons h t => .cons (Dq.same s _ h) (DqAll.same s _ t)
end
mutual
theorem Dq.dp {K : PySem.W.Frag} {H : Hp} : ∀ {v : V} (d : PyData), Dq H v d → Dp K H v d
  | _, .none, .non => .non
  | _, .bool _, .bl b => .bl b
  | _, .int _, .int i => .int i
  | _, .str _, .str x => .str x
  | _, .list _, .lst h t => .lst (SqL.of h) (DqAll.dp _ t)
  | _, .tuple _, .tup h t => .tup (SqT.of h) (DqAll.dp _ t)
theorem DqAll.dp {K : PySem.W.Frag} {H : Hp} : ∀ {vs : List V} (ds : List PyData), DqAll H vs ds → DpAll K H vs ds
  | _, [], .nil => .nil
  | _, _ :: _, .cons h t => .cons (Dq.dp _ h) (DqAll.dp _ t)
end
mutual
theorem Dq.fn {H : Hp} : ∀ {v : V} (d e : PyData), Dq H v d → Dq H v e → d = e
  | _, .none, _, .non, .non => rfl
  | _, .bool _, _, .bl _, .bl _ => rfl
  | _, .int _, _, .int _, .int _ => rfl
  | _, .str _, _, .str _, .str _ => rfl
  | _, .list ds, _, .lst h t, .lst h' t' => by
    rw [h] at h'
    cases h'
    rw [DqAll.fn _ _ t t']
  | _, .list _, _, .lst h _, .tup h' _ => by
    rw [h] at h'
    cases h'
  | _, .tuple ds, _, .tup h t, .tup h' t' => by
    rw [h] at h'
    cases h'
    rw [DqAll.fn _ _ t t']
  | _, .tuple _, _, .tup h _, .lst h' _ => by
    rw [h] at h'
    cases h'
theorem DqAll.fn {H : Hp} : ∀ {vs : List V} (ds es : List PyData), DqAll H vs ds → DqAll H vs es → ds = es
  | _, [], _, .nil, .nil => rfl
  | _, _ :: _, _, .cons h t, .cons h' t' => by rw [Dq.fn _ _ h h', DqAll.fn _ _ t t']
end
/-- the heap without one address -/
def Off (h : Addr) (H : Hp) : Hp := fun b => if b = h then none else H b
theorem off_same {h : Addr} {H : Hp} : Same (Off h H) H := fun b o e => by
  unfold Off at e
  by_cases z : b = h
  · rw [if_pos z] at e
    cases e
  · rw [if_neg z] at e
    exact e
theorem off_keep {h : Addr} {H H' : Hp} (k : ∀ b o, b ≠ h → H b = some o → H' b = some o) : Same (Off h H) (Off h H') := fun b o e => by
  unfold Off at e ⊢
  by_cases z : b = h
  · rw [if_pos z] at e
    cases e
  · rw [if_neg z] at e ⊢
    exact k b o z e
theorem off_of {h : Addr} {H H' : Hp} (s : Same H H') : Same (Off h H) (Off h H') := off_keep fun b o _ e => s b o e
theorem off_at {h a : Addr} {H : Hp} {o : HO} (n : a ≠ h) (e : H a = some o) : Off h H a = some o := by
  unfold Off
  rw [if_neg n]
  exact e
theorem same_new {H : Hp} {p : Addr} {o : HO} (h : H p = none) : Same H (upd H p o) := fun b x e => by
  rw [upd_ne (ne_of_none e h)]
  exact e
/-- a thing's kind as isinstance sees it -/
def isBlV : V → Bool
  | .bl _ => true
  | _ => false
def isNumV : V → Bool
  | .bl _ => true
  | .int _ => true
  | _ => false
def isIntV : V → Bool
  | .int _ => true
  | _ => false
def itemsD : PyData → Option (List PyData)
  | .list xs => some xs
  | .tuple xs => some xs
  | _ => none
theorem dq_ty {K : PySem.W.Frag} {H : Hp} {x : V} {d : PyData} (k : Dq H x d) : ∃ t, TyX K H x t ∧ PySem.W.kitOne K t (.type "bool") = some (isBlV x) ∧ PySem.W.kitOne K t (.type "int") = some (isNumV x) ∧
    PySem.W.kitAny K t [.type "list", .type "tuple"] = some (itemsD d).isSome ∧ PySem.W.kitOne K t (.type "tuple") = some (match d with | .tuple _ => true | _ => false) := by
  cases k with
  | non => exact ⟨_, .base .non, kit_ty (show kitB "NoneType" "bool" = some false by decide +kernel), kit_ty (show kitB "NoneType" "int" = some false by decide +kernel),
      kitAny_cons (b := false) (kit_ty (show kitB "NoneType" "list" = some false by decide +kernel)) (fun _ => kitAny_cons (b := false) (kit_ty (show kitB "NoneType" "tuple" = some false by decide +kernel)) (fun _ => kitAny_nil) (fun z => nomatch z)) (fun z => nomatch z), kit_ty (show kitB "NoneType" "tuple" = some false by decide +kernel)⟩
  | bl b => exact ⟨_, .base (.bl b), kit_ty (show kitB "bool" "bool" = some true by decide +kernel), kit_ty (show kitB "bool" "int" = some true by decide +kernel),
      kitAny_cons (b := false) (kit_ty (show kitB "bool" "list" = some false by decide +kernel)) (fun _ => kitAny_cons (b := false) (kit_ty (show kitB "bool" "tuple" = some false by decide +kernel)) (fun _ => kitAny_nil) (fun z => nomatch z)) (fun z => nomatch z), kit_ty (show kitB "bool" "tuple" = some false by decide +kernel)⟩
  | int i => exact ⟨_, .base (.int i), kit_ty (show kitB "int" "bool" = some false by decide +kernel), kit_ty (show kitB "int" "int" = some true by decide +kernel),
      kitAny_cons (b := false) (kit_ty (show kitB "int" "list" = some false by decide +kernel)) (fun _ => kitAny_cons (b := false) (kit_ty (show kitB "int" "tuple" = some false by decide +kernel)) (fun _ => kitAny_nil) (fun z => nomatch z)) (fun z => nomatch z), kit_ty (show kitB "int" "tuple" = some false by decide +kernel)⟩
  | str x => exact ⟨_, .base (.str x), kit_ty (show kitB "str" "bool" = some false by decide +kernel), kit_ty (show kitB "str" "int" = some false by decide +kernel),
      kitAny_cons (b := false) (kit_ty (show kitB "str" "list" = some false by decide +kernel)) (fun _ => kitAny_cons (b := false) (kit_ty (show kitB "str" "tuple" = some false by decide +kernel)) (fun _ => kitAny_nil) (fun z => nomatch z)) (fun z => nomatch z), kit_ty (show kitB "str" "tuple" = some false by decide +kernel)⟩
  | lst h _ => exact ⟨_, .base (.lst h), kit_ty (show kitB "list" "bool" = some false by decide +kernel), kit_ty (show kitB "list" "int" = some false by decide +kernel),
      kitAny_cons (b := true) (kit_ty (show kitB "list" "list" = some true by decide +kernel)) (fun z => nomatch z) (fun _ => rfl), kit_ty (show kitB "list" "tuple" = some false by decide +kernel)⟩
  | tup h _ => exact ⟨_, .base (.tup h), kit_ty (show kitB "tuple" "bool" = some false by decide +kernel), kit_ty (show kitB "tuple" "int" = some false by decide +kernel),
      kitAny_cons (b := false) (kit_ty (show kitB "tuple" "list" = some false by decide +kernel)) (fun _ => kitAny_cons (b := true) (kit_ty (show kitB "tuple" "tuple" = some true by decide +kernel)) (fun z => nomatch z) (fun _ => rfl)) (fun z => nomatch z), kit_ty (show kitB "tuple" "tuple" = some true by decide +kernel)⟩
end TkS
set_option Elab.async false
set_option linter.all false
set_option maxRecDepth 100000
set_option maxHeartbeats 4000000
/-! for and comprehensions over a list or a tuple -/
namespace TkS
open PySem PySem.Spec PyProof.Rows L2
def iSeq (K : PySem.W.Frag) (tl : TE) : TI := fun σ H R => iList K tl σ H R ∨ iTup K tl σ H R
theorem pi_seq {X : Cx} {tg l : Expr} {tl : TE} (hl : PE X l tl) : PI X tg l (iSeq X.K tl) :=
  ⟨fun pins s σ H R I h => h.elim (fun h => (pi_list hl).run pins s σ H R I h) (fun h => (pi_tup hl).run pins s σ H R I h)⟩
theorem seqT_same {K : PySem.W.Frag} {H H' : Hp} {a : Addr} {xs : List V} (s : Same H H') (h : SqT K H a xs) : SqT K H' a xs :=
  h.elim (fun h => .inl (h.elim (fun h => .inl (s _ _ h)) fun ⟨o, h⟩ => .inr ⟨o, s _ _ h⟩)) fun h => .inr h
def Sq (K : PySem.W.Frag) (H : Hp) (a : Addr) (xs : List V) : Prop := SqL K H a xs ∨ SqT K H a xs
theorem Sq.same {K : PySem.W.Frag} {H H' : Hp} {a : Addr} {xs : List V} (h : Sq K H a xs) (s : Same H H') : Sq K H' a xs :=
  h.elim (fun h => .inl (s.seq h)) (fun h => .inr (seqT_same s h))
theorem for_seq {K : PySem.W.Frag} {a : Addr} {xs : List V} {tl : TE} {g : TG} {tb : TS} {D : Ends} {σ : L2.St} {H : Hp} (Pv : Nat → L2.St → Hp → Prop) (ht : ∀ Q : VK, Q (.ref a) H → tl σ H Q) (hq : Sq K H a xs) (h0 : Pv 0 σ H)
    (hl : ∀ i σ H', i ≤ xs.length → Pv i σ H' → Same H H')
    (hs : ∀ i x σ H, xs[i]? = some x → Pv i σ H → g x σ H fun σ2 H2 => tb { D with nx := Pv (i + 1), ct := Pv (i + 1), bk := D.nx } σ2 H2) (hd : ∀ σ H, Pv xs.length σ H → D.nx σ H) :
    tFor (iSeq K tl) g tb D σ H :=
  hq.elim (fun h => .inl (ht _ ⟨a, rfl, ⟨xs, h⟩, for_list Pv h0 (fun i σ H' hi hP => (hl i σ H' hi hP).seq h) hs hd⟩))
    (fun h => .inr (ht _ ⟨a, rfl, ⟨xs, h⟩, for_tup Pv h0 (fun i σ H' hi hP => seqT_same (hl i σ H' hi hP) h) hs hd⟩))
theorem lc_seq {K : PySem.W.Frag} {a : Addr} {xs : List V} {tl : TE} {g : TG} {tt : TT} {te : TE} {vs : List Nat} {σ : L2.St} {H : Hp} {Q : VK} (Pv : Addr → Nat → Hp → Prop) (ht : ∀ Q : VK, Q (.ref a) H → tl σ H Q) (hq : Sq K H a xs)
    (h0 : ∀ D, H D = none → Pv D 0 (upd H D (.lst []))) (hl : ∀ D i H', H D = none → i ≤ xs.length → Pv D i H' → Same H H')
    (hs : ∀ D i x H', H D = none → xs[i]? = some x → Pv D i H' → g x (wipe σ vs) H' fun σ2 H2 => wipe σ2 vs = wipe σ vs ∧ tt σ2 H2 fun b H3 =>
      if b = true then te σ2 H3 fun y H4 => ∃ acc, H4 D = some (.lst acc) ∧ acc.length < sizeLine ∧ Pv D (i + 1) (upd H4 D (.lst (acc ++ [y]))) else Pv D (i + 1) H3) (hd : ∀ D H', H D = none → Pv D xs.length H' → Q (.ref D) H') :
    tLc (iSeq K tl) g tt te vs σ H Q :=
  hq.elim (fun h => .inl (ht _ ⟨a, rfl, ⟨xs, h⟩, fun D nD => lc_list (Pv D) (h0 D nD) (fun i H' hi hP => (hl D i H' nD hi hP).seq h) (fun i x H' => hs D i x H' nD) (fun H' => hd D H' nD)⟩))
    (fun h => .inr (ht _ ⟨a, rfl, ⟨xs, h⟩, fun D nD => lc_tup (Pv D) (h0 D nD) (fun i H' hi hP => seqT_same (hl D i H' nD hi hP) h) (fun i x H' => hs D i x H' nD) (fun H' => hd D H' nD)⟩))
/-- the items of a list or a tuple -/
theorem sq_of {K : PySem.W.Frag} {H : Hp} {x : V} {d : PyData} {ds : List PyData} (k : Dq H x d) (e : itemsD d = some ds) : ∃ (p : Addr) (xs : List V), x = .ref p ∧ DqAll H xs ds ∧ Sq K H p xs := by
  cases k with
  | lst h1 h2 =>
    cases e
    exact ⟨_, _, rfl, h2, .inl (SqL.of h1)⟩
  | tup h1 h2 =>
    cases e
    exact ⟨_, _, rfl, h2, .inr (SqT.of h1)⟩
  | _ => cases e
/-- tuple(x), x a list or a tuple of data -/
def rTupD : List V → Hp → VK → Prop := fun xs H Q => ∃ x d ds, xs = [x] ∧ Dq H x d ∧ itemsD d = some ds ∧ ∀ l H', Same H H' → Dq H' (.ref l) (.tuple ds) → Q (.ref l) H'
theorem call_tupD {X : Cx} : CallR X (.type "tuple") rTupD := by
  intro pins s σ H vs us Q I r h
  refine call_tuple_of pins s σ H vs us Q I r ?_
  obtain ⟨x, d, ds, rfl, k, e, q⟩ := h
  cases k with
  | lst h1 h2 =>
    cases e
    exact ⟨_, _, rfl, .inl ⟨SqL.of h1, fun l nl => q l _ (same_new nl) (.tup upd_same (DqAll.same (same_new nl) _ h2))⟩⟩
  | tup h1 h2 =>
    cases e
    exact ⟨_, _, rfl, .inr ⟨SqT.of h1, q _ _ (fun _ _ z => z) (.tup h1 h2)⟩⟩
  | _ => cases e
end TkS
set_option Elab.async false
set_option linter.all false
set_option maxRecDepth 100000
set_option maxHeartbeats 4000000
/-! sums and parts of tuples and lists of data -/
namespace TkS
open PySem PySem.Spec PyProof.Rows L2
theorem DqAll.take {H : Hp} : ∀ {xs : List V} {ds : List PyData}, DqAll H xs ds → ∀ n, DqAll H (xs.take n) (ds.take n)
  | _, _, _, 0 => .nil
  | _, _, .nil, _ + 1 => .nil
  | _, _, .cons h t, n + 1 => .cons h (t.take n)
theorem DqAll.drop {H : Hp} : ∀ {xs : List V} {ds : List PyData}, DqAll H xs ds → ∀ n, DqAll H (xs.drop n) (ds.drop n)
  | _, _, h, 0 => h
  | _, _, .nil, _ + 1 => .nil
  | _, _, .cons h t, n + 1 => t.drop n
theorem DqAll.of_get {H : Hp} : ∀ {xs : List V} {ds : List PyData}, xs.length = ds.length → (∀ (i : Nat) (x : V) (d : PyData), xs[i]? = some x → ds[i]? = some d → Dq H x d) → DqAll H xs ds
  | [], [], _, _ => .nil
  | x :: xs, d :: ds, e, h => .cons (h 0 x d rfl rfl) (DqAll.of_get (by simpa using e) fun i y f h1 h2 => h (i + 1) y f (by simpa using h1) (by simpa using h2))
theorem DqAll.rev {H : Hp} : ∀ {xs : List V} {ds : List PyData}, DqAll H xs ds → DqAll H xs.reverse ds.reverse
  | _, _, .nil => .nil
  | _, _, .cons h t => by
    rw [List.reverse_cons, List.reverse_cons]
    exact t.rev.snoc h
def cutD {α : Type} (xs : List α) (lo hi : Option Int) : List α := (xs.drop (HT.sIx xs.length 0 lo)).take (HT.sIx xs.length xs.length hi - HT.sIx xs.length 0 lo)
theorem cutD_lo {α : Type} (xs : List α) (n : Nat) : cutD xs (some (n : Int)) none = xs.drop n := by
  unfold cutD
  rw [HT.sIx_none, HT.sIx_nat]
  rcases Nat.le_total n xs.length with h | h
  · rw [Nat.min_eq_left h]
    exact List.take_of_length_le (by rw [List.length_drop]; omega)
  · rw [Nat.min_eq_right h, List.drop_of_length_le h, List.drop_of_length_le (Nat.le_refl _), List.take_nil]
theorem cutD_hi {α : Type} (xs : List α) (n : Nat) : cutD xs none (some (n : Int)) = xs.take n := by
  unfold cutD
  rw [HT.sIx_none, HT.sIx_nat]
  rcases Nat.le_total n xs.length with h | h
  · rw [Nat.min_eq_left h]
    rfl
  · rw [Nat.min_eq_right h, List.take_of_length_le h]
    exact List.take_of_length_le (by simp)
theorem DqAll.cut {H : Hp} {xs : List V} {ds : List PyData} (h : DqAll H xs ds) (lo hi : Option Int) : DqAll H (cutV xs lo hi) (cutD ds lo hi) := by
  unfold cutV cutD
  rw [h.len]
  exact (h.drop _).take _
theorem cutV_whole {α : Type} {xs : List α} {lo hi : Option Int} (h : HT.sIx xs.length 0 lo = 0 ∧ HT.sIx xs.length xs.length hi = xs.length) : cutD xs lo hi = xs := by
  unfold cutD
  rw [h.1, h.2]
  exact List.take_of_length_le (by simp)
def rCatD : R2 := fun x y H Q => ∃ ds es, Dq H x (.tuple ds) ∧ Dq H y (.tuple es) ∧ ds.length + es.length ≤ 1000 ∧ ∀ l H', Same H H' → Dq H' (.ref l) (.tuple (ds ++ es)) → Q (.ref l) H'
theorem thousand : 1000 ≤ sizeLine := by decide
theorem op_catD {X : Cx} : OpR X (binaryOp .Add) rCatD := by
  intro pins s σ H x y v u Q I rx ry h
  obtain ⟨ds, es, k1, k2, hl, q⟩ := h
  cases k1 with
  | tup h1 t1 =>
    cases k2 with
    | tup h2 t2 =>
      rename_i a xs b ys
      refine op_catA pins s σ H _ _ v u Q I rx ry ⟨a, b, xs, ys, rfl, rfl, SqT.of h1, SqT.of h2, ?_, fun e => ?_, fun _ e => ?_, fun _ _ p np => ?_⟩
      · rw [t1.len, t2.len]
        exact Nat.le_trans hl thousand
      · subst e
        cases t1
        exact q b H (fun _ _ z => z) (.tup h2 t2)
      · subst e
        cases t2
        exact q a H (fun _ _ z => z) (by rw [List.append_nil]; exact .tup h1 t1)
      · exact q p _ (same_new np) (.tup upd_same ((DqAll.same (same_new np) _ t1).append (DqAll.same (same_new np) _ t2)))
def rSlD : V → Option Int → Option Int → Hp → VK → Prop := fun x lo hi H Q => ∃ ds, Dq H x (.tuple ds) ∧ ∀ l H', Same H H' → Dq H' (.ref l) (.tuple (cutD ds lo hi)) → Q (.ref l) H'
theorem sl_tupD {X : Cx} : SlR X rSlD := by
  intro pins s σ H x v vl vu lo hi sl Q I rx hs pl pu h
  obtain ⟨ds, k, q⟩ := h
  cases k with
  | tup h1 t1 =>
    rename_i a xs
    refine sl_tupA pins s σ H _ v vl vu lo hi sl Q I rx hs pl pu ⟨a, xs, rfl, SqT.of h1, fun e => ?_, fun _ p np => ?_⟩
    · refine q a H (fun _ _ z => z) ?_
      rw [cutV_whole (by rw [← t1.len]; exact e)]
      exact .tup h1 t1
    · exact q p _ (same_new np) (.tup upd_same (DqAll.same (same_new np) _ (t1.cut lo hi)))
def rSlDL : V → Option Int → Option Int → Hp → VK → Prop := fun x lo hi H Q => ∃ ds, Dq H x (.list ds) ∧ ∀ l H', Same H H' → H l = none → Dq H' (.ref l) (.list (cutD ds lo hi)) → Q (.ref l) H'
theorem sl_listD {X : Cx} : SlR X rSlDL := by
  intro pins s σ H x v vl vu lo hi sl Q I rx hs pl pu h
  obtain ⟨ds, k, q⟩ := h
  cases k with
  | lst h1 t1 =>
    rename_i a xs
    exact sl_list pins s σ H _ v vl vu lo hi sl Q I rx hs pl pu ⟨a, xs, rfl, SqL.of h1, fun p np => q p _ (same_new np) np (.lst upd_same (DqAll.same (same_new np) _ (t1.cut lo hi)))⟩
/-- the sum of two lists -/
def rCatDL : R2 := fun x y H Q => ∃ ds es, Dq H x (.list ds) ∧ Dq H y (.list es) ∧ ds.length + es.length ≤ 1000 ∧ ∀ l H', Same H H' → H l = none → Dq H' (.ref l) (.list (ds ++ es)) → Q (.ref l) H'
theorem op_catDL {X : Cx} : OpR X (binaryOp .Add) rCatDL := by
  intro pins s σ H x y v u Q I rx ry h
  obtain ⟨ds, es, k1, k2, hl, q⟩ := h
  cases k1 with
  | lst h1 t1 =>
    cases k2 with
    | lst h2 t2 =>
      rename_i a xs b ys
      exact op_cat pins s σ H _ _ v u Q I rx ry ⟨a, b, xs, ys, rfl, rfl, h1, h2, by
        rw [t1.len, t2.len]
        exact Nat.le_trans hl thousand, fun p np => q p _ (same_new np) np (.lst upd_same ((DqAll.same (same_new np) _ t1).append (DqAll.same (same_new np) _ t2)))⟩
end TkS
set_option Elab.async false
set_option linter.all false
set_option maxRecDepth 100000
set_option maxHeartbeats 4000000
/-! a tuple whose object is known (its methods may be called) -/
namespace TkS
open PySem PySem.Spec PyProof.Rows L2
def Frz (H : Hp) (a : Addr) (xs : List V) : Prop := ∃ o : Obj, H a = some (.frz o (.tup xs)) ∧ o.cls = .type "tuple" ∧ o.dict = none
theorem Frz.same {H H' : Hp} {a : Addr} {xs : List V} (h : Frz H a xs) (s : Same H H') : Frz H' a xs := by
  obtain ⟨o, h1, h2⟩ := h
  exact ⟨o, s _ _ h1, h2⟩
theorem Frz.seq {K : PySem.W.Frag} {H : Hp} {a : Addr} {xs : List V} (h : Frz H a xs) : SqT K H a xs := by
  obtain ⟨o, h1, _⟩ := h
  exact .inl (.inr ⟨o, h1⟩)
theorem Frz.ty {K : PySem.W.Frag} {H : Hp} {a : Addr} {xs : List V} (h : Frz H a xs) : TyX K H (.ref a) (.type "tuple") := by
  obtain ⟨o, h1, _⟩ := h
  exact .fTuple h1
theorem Frz.fn {H : Hp} {a : Addr} {xs ys : List V} (h : Frz H a xs) (h' : Frz H a ys) : xs = ys := by
  obtain ⟨o, h1, _⟩ := h
  obtain ⟨o', h1', _⟩ := h'
  rw [h1] at h1'
  cases h1'
  rfl
def rTupF (K : PySem.W.Frag) : List V → Hp → VK → Prop := fun xs H Q => ∃ p ys, xs = [.ref p] ∧ SqL K H p ys ∧ ∀ l H', Same H H' → H l = none → Frz H' l ys → Q (.ref l) H'
theorem call_tupF {X : Cx} : CallR X (.type "tuple") (rTupF X.K) := by
  intro pins s σ H xs us Q I r h
  obtain ⟨p, ys, rfl, hq, q⟩ := h
  obtain ⟨u, rfl, rx⟩ := vals1 r
  cases rx
  obtain ⟨its, r', pl, hz⟩ := I.list hq
  have hlen := r'.length
  refine call_tuple_list pl.isList (fun h' kp => ?_) (by simp only [List.size_toArray] <;> omega)
  have I1 : Inv X pins σ H { s with heap := h' } := I.kept (t' := s.toks) kp
  have I2 : Inv X pins σ (upd H h'.objs.size (.frz { cls := .type "tuple", data := .seq its.toArray } (.tup ys))) { s with heap := h'.push { cls := .type "tuple", data := .seq its.toArray } } :=
    I1.laid (t' := s.toks) (fun b o e => Heap.get?_push_of_some _ e) (Nat.le_refl _) (show ObjOk X.prog X.w _ _ _ (.frz _ (.tup ys)) from ⟨Heap.get?_push_size _ rfl, hz, its, r', IsTup.new _ _⟩)
  have nf := I1.hok.fresh (Nat.le_refl _)
  exact ⟨.ref h'.objs.size, _, I2, rfl, q _ _ (same_new nf) nf ⟨_, upd_same, rfl, rfl⟩⟩
def tBMF (r : V → List V → Hp → VK → Prop) (to : TE) (t : TA) : TE := fun σ H Q => to σ H fun x H1 => (∃ a xs, x = .ref a ∧ Frz H1 a xs) ∧ t σ H1 fun xs H2 => r x xs H2 Q
theorem pe_bmF {X : Cx} {o e : Expr} {es : List Expr} {to : TE} {t : TA} {name : Str} {apos cpos : Pos} {id : String} {r : V → List V → Hp → VK → Prop} (pa : PlainAttrs "tuple") (slot : Slot "tuple" name id) (hty : typeOf (.builtin id) = pure (.type "method_descriptor")) (hm : MtR X id r) (ho : PE X o to) (ha : PA X (e :: es) t)
    (hbase : attributeBase o name X.env (eval o X.env) = eval o X.env := by rfl)
    (hfew : ((backTo cpos (starEach (e :: es) X.env)).all (fun x => !x.1) && (backToKw cpos (keywordEach [] X.env)).all (fun x => x.1.isSome)
      && decide ((e :: es).length + ([] : List Keyword).length + (if ([] : List Keyword).isEmpty then 0 else 1) < 30)) = true := by rfl)
    (hline : (apos.endLine == cpos.line) = true := by rfl) (hs : starEach (e :: es) X.env = (false, eval e X.env) :: starEach es X.env := by rfl) (hplain : (backTo cpos (starEach es X.env)).any (·.1) = false := by rfl) :
    PE X (.Call (.Attribute o name apos) (e :: es) [] cpos) (tBMF r to t) := by
  refine ⟨fun pins s σ H Q I h => ?_⟩
  refine wpAny_Call_method_late hbase hfew hline rfl (thn (ho.run pins s σ H _ I h) fun v s1 ⟨x, H1, I1, r1, ⟨a, xs, ex, o, h1, h2, h3⟩, q1⟩ => ?_)
  subst ex
  cases r1
  have hk := (I1.hok a _ h1).1
  refine ⟨"tuple", id, pa, slot, hty, ⟨o, hk, h2⟩, fun b e => by cases e; exact ⟨o, hk, h3⟩, ?_⟩
  have hA := ha.run cpos pins s1 σ H1 _ I1 q1
  rw [hs] at hA ⊢
  refine Calls.callWith_builtin (by show (false || (backTo cpos (starEach es X.env)).any (·.1)) = false; rw [hplain] <;> rfl) (Calls.evalArgs_plain ?_)
  exact thn hA fun us s2 ⟨vs, H2, I2, r2, q2⟩ => hm pins s2 σ H2 (.ref a) vs _ us Q I2 rfl r2 q2
theorem Frz.dp {K : PySem.W.Frag} {H : Hp} {a : Addr} {xs : List V} {ds : List PyData} (h : Frz H a xs) (k : DqAll H xs ds) : Dp K H (.ref a) (.tuple ds) := .tup h.seq (DqAll.dp _ k)
/-- such a tuple and a tuple that is not empty -/
def rCatF : R2 := fun x y H Q => ∃ (a : Addr) (xs : List V) (ds es : List PyData), x = .ref a ∧ Frz H a xs ∧ DqAll H xs ds ∧ Dq H y (.tuple es) ∧ es ≠ [] ∧ ds.length + es.length ≤ 1000 ∧ ∀ l H', Same H H' → Dq H' (.ref l) (.tuple (ds ++ es)) → Q (.ref l) H'
theorem op_catF {X : Cx} : OpR X (binaryOp .Add) rCatF := by
  intro pins s σ H x y v u Q I rx ry h
  obtain ⟨a, xs, ds, es, rfl, f, t1, k2, ne, hl, q⟩ := h
  cases k2 with
  | tup h2 t2 =>
    rename_i b ys
    refine op_catA pins s σ H _ _ v u Q I rx ry ⟨a, b, xs, ys, rfl, rfl, f.seq, SqT.of h2, ?_, fun e => ?_, fun _ e => ?_, fun _ _ p np => ?_⟩
    · rw [t1.len, t2.len]
      exact Nat.le_trans hl thousand
    · subst e
      cases t1
      exact q b H (fun _ _ z => z) (.tup h2 t2)
    · subst e
      cases t2
      exact absurd rfl ne
    · exact q p _ (same_new np) (.tup upd_same ((DqAll.same (same_new np) _ t1).append (DqAll.same (same_new np) _ t2)))
/-- a part of such a tuple that is not the whole -/
def rSlF : V → Option Int → Option Int → Hp → VK → Prop := fun x lo hi H Q => ∃ (a : Addr) (xs : List V) (ds : List PyData), x = .ref a ∧ Frz H a xs ∧ DqAll H xs ds ∧ ¬ (HT.sIx ds.length 0 lo = 0 ∧ HT.sIx ds.length ds.length hi = ds.length) ∧
  ∀ l H', Same H H' → Dq H' (.ref l) (.tuple (cutD ds lo hi)) → Q (.ref l) H'
theorem sl_tupF {X : Cx} : SlR X rSlF := by
  intro pins s σ H x v vl vu lo hi sl Q I rx hs pl pu h
  obtain ⟨a, xs, ds, rfl, f, t1, nw, q⟩ := h
  refine sl_tupA pins s σ H _ v vl vu lo hi sl Q I rx hs pl pu ⟨a, xs, rfl, f.seq, fun e => ?_, fun _ p np => ?_⟩
  · rw [t1.len] at e
    exact absurd e nw
  · exact q p _ (same_new np) (.tup upd_same (DqAll.same (same_new np) _ (t1.cut lo hi)))
end TkS
set_option Elab.async false
set_option linter.all false
set_option maxRecDepth 100000
set_option maxHeartbeats 4000000
/-! comprehensions whose items are data -/
namespace TkS
open PySem PySem.Spec PyProof.Rows L2
theorem off_put {h : Addr} {H : Hp} {o : HO} : TkS.Off h (upd H h o) = TkS.Off h H := by
  funext b
  unfold TkS.Off
  by_cases z : b = h
  · rw [if_pos z, if_pos z]
  · rw [if_neg z, if_neg z, upd_ne z]
theorem filter_snoc {α β : Type} (p : α → Bool) (f : α → β) {l : List α} {i : Nat} {x : α} (h : l[i]? = some x) :
    ((l.take (i + 1)).filter p).map f = if p x = true then ((l.take i).filter p).map f ++ [f x] else ((l.take i).filter p).map f := by
  rw [List.take_add_one, h]
  show ((l.take i ++ [x]).filter p).map f = _
  rw [List.filter_append, List.map_append, List.filter_cons]
  by_cases c : p x = true
  · rw [if_pos c, if_pos c]
    rfl
  · rw [if_neg c, if_neg c]
    show ((l.take i).filter p).map f ++ [] = _
    rw [List.append_nil]
theorem len_ft {α β : Type} (p : α → Bool) (f : α → β) (l : List α) : ((l.filter p).map f).length ≤ l.length := by
  rw [List.length_map]
  exact List.length_filter_le _ _
/-- the shared turn: a list D under way -/
def Acc (H0 : Hp) (D : Addr) (ds : List PyData) (H' : Hp) : Prop := Same H0 H' ∧ ∃ ys, H' D = some (.lst ys) ∧ DqAll (TkS.Off D H') ys ds
theorem Acc.nil {H0 : Hp} {D : Addr} (nD : H0 D = none) : Acc H0 D [] (upd H0 D (.lst [])) := ⟨same_new nD, [], upd_same, .nil⟩
theorem Acc.put {H0 H' H'' : Hp} {D : Addr} {ds : List PyData} {y : V} {d : PyData} (a : Acc H0 D ds H') (nD : H0 D = none) (hl : ds.length ≤ 900) (s : Same H' H'') (k : Dq (TkS.Off D H'') y d) :
    ∃ acc, H'' D = some (.lst acc) ∧ acc.length < sizeLine ∧ Acc H0 D (ds ++ [d]) (upd H'' D (.lst (acc ++ [y]))) := by
  obtain ⟨s0, ys, h1, h2⟩ := a
  refine ⟨ys, s _ _ h1, ?_, fun b o e => ?_, ys ++ [y], upd_same, ?_⟩
  · rw [h2.len]
    exact Nat.lt_of_le_of_lt hl (by decide)
  · rw [upd_ne (ne_of_none e nD)]
    exact s _ _ (s0 _ _ e)
  · rw [off_put]
    exact (DqAll.same (off_of s) _ h2).snoc k
theorem Acc.mv {H0 H' H'' : Hp} {D : Addr} {ds : List PyData} (a : Acc H0 D ds H') (s : Same H' H'') : Acc H0 D ds H'' := by
  obtain ⟨s0, ys, h1, h2⟩ := a
  exact ⟨s0.trans s, ys, s _ _ h1, DqAll.same (off_of s) _ h2⟩
theorem Acc.dq {H0 H' : Hp} {D : Addr} {ds : List PyData} (a : Acc H0 D ds H') : Dq H' (.ref D) (.list ds) := by
  obtain ⟨s0, ys, h1, h2⟩ := a
  exact .lst h1 (DqAll.same off_same _ h2)
theorem lc_rngD {tt : TT} {te : TE} {vs : List Nat} {σ : L2.St} {H0 : Hp} {D : Addr} {Qd : Hp → Prop} {j n : Nat} (f : Nat → Bool) (e : Nat → PyData)
    (nD : H0 D = none) (hl : n ≤ 900) (hw : ∀ x : V, wipe ((wipe σ vs).set j (some x)) vs = wipe σ vs)
    (ht : ∀ (i : Nat) (H' : Hp) (Q : Bool → Hp → Prop), i < n → Same H0 H' → (∀ H'', Same H' H'' → Q (f i) H'') → tt ((wipe σ vs).set j (some (.int (0 + (i : Int))))) H' Q)
    (he : ∀ (i : Nat) (H' : Hp) (Q : VK), i < n → f i = true → Same H0 H' → (∃ acc, H' D = some (.lst acc)) → (∀ y H'', Same H' H'' → Dq (TkS.Off D H'') y (e i) → Q y H'') → te ((wipe σ vs).set j (some (.int (0 + (i : Int))))) H' Q)
    (hd : ∀ H', Same H0 H' → Dq H' (.ref D) (.list (((List.range n).filter f).map e)) → Qd H') :
    ∃ W : Nat → Nat → Hp → Prop, (∃ m, W 0 m (upd H0 D (.lst []))) ∧ ∀ i m H, W i m H →
      ((Itr 0 n).stop i H ∧ Qd H) ∨ ((Itr 0 n).go i H ∧ ∃ Nx : Hp → Prop, (∀ H', Nx H' → ∃ m', m' < m ∧ W (i + 1) m' H') ∧ ∀ x H', (Itr 0 n).yld i H x H' → gName j x (wipe σ vs) H' fun σ2 H2 => wipe σ2 vs = wipe σ vs ∧ tt σ2 H2 fun b H3 =>
        if b = true then te σ2 H3 fun y H4 => ∃ acc, H4 D = some (.lst acc) ∧ acc.length < sizeLine ∧ Nx (upd H4 D (.lst (acc ++ [y]))) else Nx H3) := by
  refine lc_range (lo := 0) (n := n) (fun i H' => Acc H0 D (((List.range i).filter f).map e) H') (Acc.nil nD) (fun i H' hi hP => ?_) (fun H' hP => ?_)
  · refine ⟨hw _, ht i H' _ hi hP.1 fun H2 s2 => ?_⟩
    have er : ((List.range (i + 1)).filter f).map e = if f i = true then ((List.range i).filter f).map e ++ [e i] else ((List.range i).filter f).map e := by
      rw [List.range_succ, List.filter_append, List.map_append, List.filter_cons]
      by_cases c : f i = true
      · rw [if_pos c, if_pos c]
        rfl
      · rw [if_neg c, if_neg c]
        show _ ++ [] = _
        rw [List.append_nil]
    have hP2 := hP.mv s2
    cases c : f i with
    | true =>
      refine he i H2 _ hi c hP2.1 ⟨_, hP2.2.choose_spec.1⟩ fun y H3 s3 k => ?_
      rw [er, if_pos c]
      refine hP2.put nD ?_ s3 k
      have := len_ft f e (List.range i)
      rw [List.length_range] at this
      omega
    | false =>
      show Acc _ _ _ _
      rw [er, c, if_neg Bool.false_ne_true]
      exact hP2
  · exact hd H' hP.1 hP.dq
theorem lc_seqD {K : PySem.W.Frag} {a : Addr} {xs : List V} {ds : List PyData} {tl : TE} {tt : TT} {te : TE} {vs : List Nat} {σ : L2.St} {H : Hp} {Q : VK} {j : Nat} (f : PyData → Bool) (e : PyData → PyData)
    (ht0 : ∀ Q : VK, Q (.ref a) H → tl σ H Q) (hq : Sq K H a xs) (hx : DqAll H xs ds) (hl : ds.length ≤ 900) (hw : ∀ x : V, wipe ((wipe σ vs).set j (some x)) vs = wipe σ vs)
    (ht : ∀ (i : Nat) (x : V) (d : PyData) (H' : Hp) (Q : Bool → Hp → Prop), ds[i]? = some d → Same H H' → Dq H' x d → (∀ H'', Same H' H'' → Q (f d) H'') → tt ((wipe σ vs).set j (some x)) H' Q)
    (he : ∀ (D : Addr) (i : Nat) (x : V) (d : PyData) (H' : Hp) (Q : VK), H D = none → ds[i]? = some d → f d = true → Same H H' → Dq H' x d → (∃ acc, H' D = some (.lst acc)) → (∀ y H'', Same H' H'' → Dq (TkS.Off D H'') y (e d) → Q y H'') → te ((wipe σ vs).set j (some x)) H' Q)
    (hd : ∀ D H', H D = none → Same H H' → Dq H' (.ref D) (.list ((ds.filter f).map e)) → Q (.ref D) H') :
    tLc (iSeq K tl) (gName j) tt te vs σ H Q := by
  refine lc_seq (fun D i H' => Acc H D (((ds.take i).filter f).map e) H') ht0 hq (fun D nD => Acc.nil nD) (fun D i H' _ _ hP => hP.1) (fun D i x H' nD hxi hP => ?_) (fun D H' nD hP => ?_)
  · obtain ⟨d, hdi, kd⟩ := hx.get hxi
    have kd1 := kd.same hP.1
    refine ⟨hw _, ht i x d H' _ hdi hP.1 kd1 fun H2 s2 => ?_⟩
    have hP2 := hP.mv s2
    cases c : f d with
    | true =>
      refine he D i x d H2 _ nD hdi c hP2.1 (kd1.same s2) ⟨_, hP2.2.choose_spec.1⟩ fun y H3 s3 k => ?_
      rw [filter_snoc _ _ hdi, if_pos c]
      refine hP2.put nD ?_ s3 k
      have := len_ft f e (ds.take i)
      rw [List.length_take] at this
      omega
    | false =>
      show Acc _ _ _ _
      rw [filter_snoc _ _ hdi, c, if_neg Bool.false_ne_true]
      exact hP2
  · rw [hx.len, List.take_length] at hP
    exact hd D H' nD hP.1 hP.dq
/-! data without a list -/
mutual
def noList : PyData → Bool
  | .list _ => false
  | .tuple ds => noLists ds
  | _ => true
def noLists : List PyData → Bool
  | [] => true
  | d :: ds => noList d && noLists ds
end
mutual
theorem dq_noL {H : Hp} {D : Addr} {acc : List V} (h : H D = some (.lst acc)) : ∀ {v : V} (d : PyData), noList d = true → Dq H v d → Dq (TkS.Off D H) v d
  | _, .none, _, .non => .non
  | _, .bool _, _, .bl b => .bl b
  | _, .int _, _, .int i => .int i
  | _, .str _, _, .str x => .str x
  | _, .list _, n, .lst e t => by cases n
  | _, .tuple ds, n, .tup e t => .tup (off_at (fun z => by rw [z, h] at e; cases e) e) (dqs_noL h ds n t)
theorem dqs_noL {H : Hp} {D : Addr} {acc : List V} (h : H D = some (.lst acc)) : ∀ {vs : List V} (ds : List PyData), noLists ds = true → DqAll H vs ds → DqAll (TkS.Off D H) vs ds
  | _, [], _, .nil => .nil
  | _, d :: ds, n, .cons k t => .cons (dq_noL h d (by
      have n' : (noList d && noLists ds) = true := n
      exact (Bool.and_eq_true_iff.mp n').1) k) (dqs_noL h ds (by
      have n' : (noList d && noLists ds) = true := n
      exact (Bool.and_eq_true_iff.mp n').2) t)
end
/-! a hand (a list of a list and three ints) is no part of other data -/
def handD : PyData → Bool
  | .list [_, .int _, .int _, .int _] => true
  | _ => false
mutual
def noHand : PyData → Bool
  | .list ds => !handD (.list ds) && noHands ds
  | .tuple ds => noHands ds
  | _ => true
def noHands : List PyData → Bool
  | [] => true
  | d :: ds => noHand d && noHands ds
end
mutual
theorem dq_hand {H H' : Hp} {h : Addr} {c : V} {p r t : Int} (hh : H h = some (.lst [c, .int p, .int r, .int t])) (k : ∀ b o, b ≠ h → H b = some o → H' b = some o) : ∀ {v : V} (d : PyData), noHand d = true → Dq H v d → Dq H' v d
  | _, .none, _, .non => .non
  | _, .bool _, _, .bl b => .bl b
  | _, .int _, _, .int i => .int i
  | _, .str _, _, .str x => .str x
  | _, .list ds, n, .lst e u => by
    have n' : (!handD (.list ds) && noHands ds) = true := n
    obtain ⟨n1, n2⟩ := Bool.and_eq_true_iff.mp n'
    refine .lst (k _ _ (fun z => ?_) e) (dqs_hand hh k ds n2 u)
    rw [z, hh] at e
    cases e
    cases u with
    | cons u0 u =>
      cases u with
      | cons u1 u =>
        cases u with
        | cons u2 u =>
          cases u with
          | cons u3 u =>
            cases u
            cases u1
            cases u2
            cases u3
            exact absurd n1 (by simp [handD])
  | _, .tuple ds, n, .tup e u => .tup (k _ _ (fun z => by rw [z, hh] at e; cases e) e) (dqs_hand hh k ds n u)
theorem dqs_hand {H H' : Hp} {h : Addr} {c : V} {p r t : Int} (hh : H h = some (.lst [c, .int p, .int r, .int t])) (k : ∀ b o, b ≠ h → H b = some o → H' b = some o) : ∀ {vs : List V} (ds : List PyData), noHands ds = true → DqAll H vs ds → DqAll H' vs ds
  | _, [], _, .nil => .nil
  | _, d :: ds, n, .cons u v => .cons (dq_hand hh k d (by
      have n' : (noHand d && noHands ds) = true := n
      exact (Bool.and_eq_true_iff.mp n').1) u) (dqs_hand hh k ds (by
      have n' : (noHand d && noHands ds) = true := n
      exact (Bool.and_eq_true_iff.mp n').2) v)
end
end TkS
set_option Elab.async false
set_option linter.all false
set_option maxRecDepth 100000
set_option maxHeartbeats 4000000
/-! len(set(xs)), xs a list of tuples of ints -/
namespace TkS
open PySem PySem.Spec PyProof.Rows L2
def rLenSetT (P : Program) (w : World) : List V → Hp → VK → Prop := fun xs H Q => ∃ (a : Addr) (L : List (Addr × List Int)), xs = [.ref a] ∧ H a = some (SetTO P w a L) ∧ (∀ p ∈ L, ∃ ys, H p.1 = some (.tup ys) ∧ ys = p.2.map V.int) ∧ ((L.map (·.2)).Nodup → Q (.int (L.length : Int)) H)
theorem call_lenSetT {X : Cx} : CallR X (.builtin "len") (rLenSetT X.prog X.w) := by
  intro pins s σ H xs us Q I r h
  obtain ⟨a, L, rfl, ha, ht, q⟩ := h
  obtain ⟨u, rfl, rx⟩ := vals1 r
  cases rx
  have R0 : SetT0 X.prog X.w s.heap a L := (I.hok a _ ha).1
  obtain ⟨es, ep, t, R⟩ := R0.full fun p hp => by
    obtain ⟨ys, h1, h2⟩ := ht p hp
    subst h2
    exact I.isT (.inl (.inl h1))
  obtain ⟨o, ho, hex, hd⟩ := R.ob
  have hsz := R.size
  have few := R.few
  refine call_len_set ho hex hd R.fits (by rw [hsz]; omega) ⟨.int (L.length : Int), H, I.tok _, ⟨_, by rw [hsz]⟩, q R.nd⟩
theorem nd_le {α : Type} [DecidableEq α] : ∀ {A B : List α}, A.Nodup → (∀ x ∈ A, x ∈ B) → A.length ≤ B.length
  | [], _, _, _ => Nat.zero_le _
  | a :: A, B, n, s => by
    have ha := s a List.mem_cons_self
    have n2 := List.nodup_cons.mp n
    have := nd_le (A := A) (B := B.erase a) n2.2 fun x m => (List.mem_erase_of_ne (show x ≠ a from fun z => by subst z; exact n2.1 m)).mpr (s x (List.mem_cons_of_mem _ m))
    have e := (List.perm_cons_erase ha).length_eq
    simp only [List.length_cons] at e ⊢
    omega
theorem nd_perm {α : Type} [DecidableEq α] : ∀ {A B : List α}, A.Nodup → (∀ x ∈ A, x ∈ B) → A.length = B.length → A.Perm B
  | [], B, _, _, e => by
    have : B = [] := List.length_eq_zero_iff.mp e.symm
    rw [this]
  | a :: A, B, n, s, e => by
    have ha := s a List.mem_cons_self
    have n2 := List.nodup_cons.mp n
    have pe := List.perm_cons_erase ha
    have e2 := pe.length_eq
    simp only [List.length_cons] at e e2
    exact ((nd_perm (A := A) (B := B.erase a) n2.2 (fun x m => (List.mem_erase_of_ne (show x ≠ a from fun z => by subst z; exact n2.1 m)).mpr (s x (List.mem_cons_of_mem _ m))) (by omega)).cons a).trans pe.symm
theorem nd_iff {α : Type} [DecidableEq α] {A B : List α} (n : A.Nodup) (s : ∀ x ∈ A, x ∈ B) (s' : ∀ x ∈ B, x ∈ A) : A.length = B.length ↔ B.Nodup :=
  ⟨fun e => (nd_perm n s e).nodup_iff.mp n, fun nb => Nat.le_antisymm (nd_le n s) (nd_le nb s')⟩
end TkS
set_option Elab.async false
set_option linter.all false
set_option maxRecDepth 100000
set_option maxHeartbeats 4000000
/-! try with several clauses that each bind the error to one and the same name -/
namespace TkS
open PySem PySem.Spec PyProof.Rows L2
/-- a clause's ends: behind the suite the name is gone -/
def goneE (i : Nat) (D : Ends) : Ends := { nx := fun σ' H' => D.nx (σ'.set i none) H', rt := D.rt, bk := fun σ' H' => D.bk (σ'.set i none) H', ct := fun σ' H' => D.ct (σ'.set i none) H' }
def wAsM (K : PySem.W.Frag) (i : Nat) (Wout : WX) (D : Ends) : List (Value × (Addr → Value → Option Addr → TS)) → WX
  | [] => Wout
  | (c, ts) :: r => fun cls d σ H => ∃ b, PySem.W.exmOne K cls c = some b ∧ (b = true → ∀ a, H a = none → ts a cls d (goneE i D) (σ.set i (some (.ref a))) H) ∧ (b = false → wAsM K i Wout D r cls d σ H)
inductive AsOk (X : Cx) (n : Str) : List ExceptHandler → List (Value × (Addr → Value → Option Addr → TS)) → Prop
  | nil : AsOk X n [] []
  | cons {x : Str} {c : Value} {ts : Addr → Value → Option Addr → TS} {b₀ : Stmt} {suite : List Stmt} {np pos' : Pos} {hds : List ExceptHandler} {l : List (Value × (Addr → Value → Option Addr → TS))} (hc : Names X x c)
      (hsu : ∀ (a : Addr) (oe : Obj) (cls : Value) (d : Option Addr) (pn : List (Addr × Obj)), Zc cls d oe → (∃ vs, oe.data = .fields vs) → PSs (X.suite a ((a, oe) :: pn)) (b₀ :: suite) (ts a cls d)) (r : AsOk X n hds l) :
      AsOk X n (.ExceptHandler (some (.Name x np)) (some n) (b₀ :: suite) pos' :: hds) ((c, ts) :: l)
section
variable {X : Cx} {n : Str} {i : Nat} {body : List Stmt} {h₀ : ExceptHandler} {hds : List ExceptHandler} {l : List (Value × (Addr → Value → Option Addr → TS))} {pos : Pos} {tb : WX → TS} {Wout : WX}
theorem ps_try_asM (hs : X.stack = X.env :: X.outer) (hf : X.env.frame = some X.env.locals) (hN : X.N.Nodup) (hi : X.N[i]? = some n) (hln : X.env.kindOf n = some .local) (tk : Takes X Wout)
    (hb : ∀ (W : WX) (pn : List (Addr × Obj)) (xe : Value → Shared → Prop), Takes (X.tr pn xe) W → PassesOwn (model X.prog X.w) X.A X.env xe → PSs (X.tr pn xe) body (tb W))
    (hh : AsOk X n (h₀ :: hds) l) : PS X (.Try body (h₀ :: hds) [] [] pos) (fun D σ H => tb (wAsM X.K i Wout D l) D σ H) := by
  refine ⟨fun pins s σ H D I h => wpAny_Try_except ?_⟩
  have ok := I.ok
  have hfr : X.A.frames = some (X.env :: X.outer) := by rw [ok.frames, hs]
  refine wpAny_mono ((hb (wAsM X.K i Wout D l) (X.pn ++ pins) (fun e s₁ => wpAny (model X.prog X.w) X.A (noteFrame e X.env) (fun _ s₂ => wpAny (model X.prog X.w) X.A (setFlight e none) (fun _ s₃ =>
    wpAny (model X.prog X.w) X.A (handleBy e X.env (h₀ :: hds)) (SP X pins D) X.xe s₃) X.xe s₂) X.xe s₁) (fun u s' xx => ?_) PassesOwn.looking).run [] s σ H D (I.toTry _) h) (fun f s1 hsp => ?_) (fun e s1 he => he)
  · obtain ⟨a, B, sI, pins', σ', H', cls, d, rfl, J', nb, up, sky, na, os, ag, w⟩ := xx
    have J : Inv X pins σ' H' sI := J'.ofTry ok
    refine Sky.land Zc.steady hfr hf (by rw [← hs]; exact sky) fun h3 fl3 up3 => ?_
    have J3 : Inv X pins σ' H' { s' with heap := h3 } := J.landed nb fl3.1 (up.trans up3) os ag
    obtain ⟨oe3, vs3, he3, hz3, hd3⟩ := fl3.there
    have nfr : a ∉ frs (X.env :: X.outer) := fun hm => by
      obtain ⟨_, o', e', hnf⟩ := fl3.2.2.1.mem hm
      rw [he3] at e'
      cases e'
      exact hnf _ hd3
    have nL : a ≠ X.env.locals := fun z => nfr (List.mem_filterMap.mpr ⟨X.env, List.mem_cons_self, by rw [hf, z]⟩)
    have nF : a ∉ X.fs := fun hm => by
      obtain ⟨e, he, q⟩ := List.mem_filterMap.mp hm
      exact nfr (List.mem_filterMap.mpr ⟨e, List.mem_cons_of_mem _ he, q⟩)
    have S3 := J3.suite he3 hd3 na nL nF
    have go : ∀ {hds' : List ExceptHandler} {l' : List (Value × (Addr → Value → Option Addr → TS))}, AsOk X n hds' l' → wAsM X.K i Wout D l' cls d σ' H' →
        wpAny (model X.prog X.w) X.A (handleBy (.ref a) X.env hds') (SP X pins D) X.xe { s' with heap := h3 } := by
      intro hds' l' hk
      induction hk with
      | nil =>
        intro w
        refine wpAny_handleBy_nil ?_
        obtain ⟨k1, k2, k3, oe, vs, T, oT, ts', he, hz, hd, h1, hr⟩ := id fl3
        unfold PySem.passOn
        refine wpAny_bind (wpAny_field he hd h1 ?_)
        rw [if_neg (show ¬ ((Value.ref T == Value.none) = true) from by simp)]
        have fin : wpAny (model X.prog X.w) X.A (setFlight (.ref a) X.env.frame) (fun _ s4 => wpAny (model X.prog X.w) X.A (throw (.ref a) : Sem Flow) (SP X pins D) X.xe s4) X.xe { s' with heap := h3 } := by
          rw [hf]
          exact HandSPX.setFlight_upZ fl3 fun h4 hh4 up4 => wpAny_throw (tk _ _ ⟨a, B, sI, pins, σ', H', cls, d, rfl, J, nb, (up.trans up3).trans up4, .inr (.inr (by rw [hs]; exact hh4)), na, os, ag, w⟩)
        first
          | exact wpAny_bind (wpAny_pure (wpAny_bind fin))
          | exact wpAny_bind fin
      | @cons x c ts b₀ suite np pos' hds2 l2 hc hsu r ih =>
        intro w
        obtain ⟨b, hb1, hyes, hno⟩ := w
        refine wpAny_handleBy_cons (codeAny_handlers_test ?_) (by intro q; cases q)
        have LM := PySem.W.exm_one (M := model X.prog X.w) (J3.kIn) (fun A Q E s k q => wpAny_typeOf_ref (k _ _ he3) (by rw [hz3.1]; exact q)) hb1
        have test : ∀ {Q : Value → Shared → Prop} {E : Value → Shared → Prop}, Q c { s' with heap := h3 } → wpAny (model X.prog X.w) (X.A.mark (some (.ref a))) (eval (.Name x np) X.env) Q E { s' with heap := h3 } := fun {Q E} q => by
          obtain ⟨hg, hdbg, hm | ⟨hm, hv, hnn⟩⟩ := hc
          · exact ld_glob (X := X.suite a ((a, oe3) :: (X.pn ++ pins))) S3 hg hm q hdbg
          · exact ld_blt (X := X.suite a ((a, oe3) :: (X.pn ++ pins))) S3 hg hm hv q hnn hdbg
        refine test (LM.here ?_)
        cases b with
        | false => exact ih (hno rfl)
        | true =>
          refine codeAny_handlers_suite_as (HandSPX.lands_againZ fl3 fun h4 fl4 up4 => ?_)
          have J4 : Inv X pins σ' H' { s' with heap := h4 } := J.landed nb fl4.1 ((up.trans up3).trans up4) os ag
          obtain ⟨oe4, vs4, he4, hz4, hd4⟩ := fl4.there
          have S4 := J4.suite he4 hd4 na nL nF
          refine store_ok (X := X.suite a ((a, oe4) :: (X.pn ++ pins))) (v := .ref a) S4 hN hi (.inl hln) rfl (fun s5 S5 => ?_) (.inr hln)
          refine wpAny_mono ((hsu a oe4 cls d (X.pn ++ pins) hz4 ⟨_, hd4⟩).run [] s5 _ H' _ S5 (hyes rfl a na)) (fun f s6 hsp => ?_) (fun _ _ z => False.elim z)
          have end_ : ∀ {σ6 : L2.St} {H6 : Hp} {Q : Shared → Prop}, Inv (X.suite a ((a, oe4) :: (X.pn ++ pins))) [] σ6 H6 s6 → (∀ s7, Inv X pins (σ6.set i none) H6 s7 → Q s7) →
              wpAny (model X.prog X.w) X.A (do bindName X.env n .none; unbindBehindTheSuite X.env n pos') (fun _ s7 => Q s7) X.xe s6 := fun {σ6 H6 Q} S6 hq => gone_ok (S6.unsuite ok) hN hi hln hq
          cases f with
          | ret u =>
            obtain ⟨v6, σ6, H6, S6, r6, q6⟩ := hsp
            exact end_ S6 fun s7 J7 => ⟨_, _, _, J7, r6, q6⟩
          | next =>
            obtain ⟨σ6, H6, S6, q6⟩ := hsp
            exact end_ S6 fun s7 J7 => ⟨_, _, J7, q6⟩
          | brk =>
            obtain ⟨σ6, H6, S6, q6⟩ := hsp
            exact end_ S6 fun s7 J7 => ⟨_, _, J7, q6⟩
          | cont =>
            obtain ⟨σ6, H6, S6, q6⟩ := hsp
            exact end_ S6 fun s7 J7 => ⟨_, _, J7, q6⟩
    exact go hh w
  · cases f with
    | ret u =>
      obtain ⟨v, σ', H', J', r, q⟩ := hsp
      exact ⟨v, σ', H', J'.ofTry ok, r, q⟩
    | next =>
      obtain ⟨σ', H', J', q⟩ := hsp
      exact wpAny_execs_nil ⟨σ', H', J'.ofTry ok, q⟩
    | brk =>
      obtain ⟨σ', H', J', q⟩ := hsp
      exact ⟨σ', H', J'.ofTry ok, q⟩
    | cont =>
      obtain ⟨σ', H', J', q⟩ := hsp
      exact ⟨σ', H', J'.ofTry ok, q⟩
end
end TkS
set_option Elab.async false
set_option linter.all false
set_option maxRecDepth 100000
set_option maxHeartbeats 4000000
/-! the law's def at its caller alone, where it is known that nothing is being printed (repr asks for that) -/
namespace TkS
open PySem PySem.Spec PyProof.Rows L2
/-- a def's promise at the law's caller -/
def TopOk (P : Program) (w : World) (K : PySem.W.Frag) (mg : Str → Option Value) (base : Heap) (CX : CXT) (f : Addr) (fd : FuncData) (ps : List Str) (sp : Sp) : Prop :=
  ∀ (outer : List Env) (s : Shared) (H : Hp) (args : Args) (us : List Value) (vs : List V) (Q : VK) (E : XK), Env0 P w K mg base callerA outer s H → BindsTo s fd args (ps.zip us) → Vals vs us → sp vs H Q E →
    codeAny (model P w) callerA (.call (.ref f) args) (CR CX outer P w H s Q E) s
theorem room_top : Room 200 callerA := ⟨rfl, by decide, by decide⟩
theorem top_of {CX : CXT} {P : Program} {w : World} {K : PySem.W.Frag} {mg : Str → Option Value} {base : Heap} {f : Addr} {name qual : Str} {params : Arguments} {body : List Stmt} {scope : Scope} {dV kV doc pm cdv ct oc : Value} {an od : Option Addr}
    {osl : Array (Option Value)} {N ps : List Str} {sp : Sp} (lk : K.lookup f = some ⟨oc, od, .func (PySem.W.fnOf name qual params body scope dV kV doc pm an cdv ct), osl⟩) (hcd : PySem.W.codeIn K cdv qual = true) (S : FnScope N ps scope)
    (len : ∀ vs H Q E, sp vs H Q E → vs.length = ps.length)
    (hbody : ∀ (outer : List Env) (s : Shared) (H : Hp) (vs : List V) (Q : VK) (E : XK), Room 199 (callerA.deeper (envOfC qual scope s.heap.objs.size f cdv)) → sp vs H Q E →
      ∃ t, PSs (cxOf CX P w K mg base N qual scope f cdv callerA outer s H E) body t ∧ t { nx := fun _ H' => Q .non H', rt := Q } (start N vs) H) :
    TopOk P w K mg base CX f (PySem.W.fnOf name qual params body scope dV kV doc pm an cdv ct) ps sp := by
  intro outer s H args us vs Q E e0 hb r hsp
  have hr := room_top
  have hl := len _ _ _ _ hsp
  have KX : K.In s.heap := e0.mod.kin.keeps fun b o e => (e0.bs b o e).1
  have lim : s.heap.NoLimit := e0.mod.nolimit.keeps fun b o e => (e0.bs b o e).1
  have hkind : ∀ y ∈ ps.zip us, scope.names.lookup y.1 = some .local ∨ (scope.names.lookup y.1 = some .cell ∧ ((cellsFrom (s.heap.objs.size + 1) scope.names []).lookup y.1).isSome = true) := fun ⟨n, v⟩ hy => by
    rcases S.par n (List.of_mem_zip hy).1 with q | q
    · exact .inl q
    · exact .inr ⟨q, PySem.W.cellsFrom_some _ _ _ (.inl q)⟩
  refine codeAny_call_function hr.depth (KX _ _ lk) rfl S.co S.gen rfl (PySem.W.codeRec_of KX hcd) (hb _ _ _ _ ?_)
  refine wpAny_newFunctionEnv_cells S.kind hkind fun env he s1 x => ?_
  subst he
  refine ⟨lim.keeps x.toInCall.keep, codeAny_func ?_⟩
  obtain ⟨t, ht, hq⟩ := hbody outer s H vs Q E (hr.deeper _) hsp
  have I : Inv (cxOf CX P w K mg base N qual scope f cdv callerA outer s H E) [] (start N vs) H s1 := inv_start S hr.hd e0 hl r x
  refine wpAny_mono (ht.run [] s1 (start N vs) H _ I hq) (fun fl s' hs => ?_) fun e s' hs => hs
  have fin : ∀ {σ' : L2.St} {H' : Hp} {v : V} {u : Value}, Inv (cxOf CX P w K mg base N qual scope f cdv callerA outer s H E) [] σ' H' s' → RelV v u → Q v H' → CE outer P w H s Q u s' :=
    fun {σ' H' v u} J rv q => ⟨v, H', J.os, J.bare, J.base, J.hok, rv, q⟩
  cases fl with
  | ret u =>
    obtain ⟨v, σ', H', J, rv, q⟩ := hs
    exact fin J rv q
  | next =>
    obtain ⟨σ', H', J, q⟩ := hs
    exact fin (v := V.non) (u := Value.none) J rfl q
  | brk =>
    obtain ⟨_, _, _, q⟩ := hs
    exact False.elim q
  | cont =>
    obtain ⟨_, _, _, q⟩ := hs
    exact False.elim q
theorem top_call {P : Program} {w : World} {K : PySem.W.Frag} {mg mb : Str → Option Value} {CX : CXT} {fa a : Addr} {fd : FuncData} {x : Str} {sp : Sp} {s₁ : Shared} {vs : List Value} {ns : List Int}
    (KX : K.In s₁.heap) (hns : s₁.heap.Ns mainGlobals mg) (hb : s₁.heap.Ns builtinsNs mb) (hbb : ∀ x : Str, x ≠ "__name__" → mb x = bootBuiltins x) (hlim : s₁.heap.NoLimit) (hg : s₁.gens = #[])
    (ha : s₁.heap.get? a = some { cls := .type "list", data := .seq vs.toArray }) (hi : IntsAre vs ns) (hl : ns.length ≤ sizeLine)
    (F : ∀ base : Heap, K.In base → base.Ns mainGlobals mg → TopOk P w K mg base CX fa fd [x] sp) (hbind : ∀ (s : Shared) (u : Value), BindsTo s fd ⟨[u], []⟩ [(x, u)])
    (hsp : ∀ H : Hp, Only H → SqL K H a (ns.map V.int) → sp [.ref a] H (fun v _ => v = .bl true) fun _ _ _ => False)
    (hCX : ∀ H e s', CX [] H s₁ (fun _ _ _ => False) e s' → False) :
    codeAny (model P w) callerA (.call (.ref fa) ⟨[.ref a], []⟩) (fun r s' => r = .ok (.ret (.bool true)) ∧ OldK s₁.heap s'.heap ∧ s'.os = s₁.os ∧ AllBare s'.gens) s₁ := by
  have rv := vals_ints hi
  have lenV := hi.length
  -- from an abstract heap in which nothing but the script may be tracked
  have core : ∀ H : Hp, Only H → SqL K H a (ns.map V.int) → HOk P w H s₁.heap → (∀ b, H b ≠ none → b = a) → (H a ≠ none → K.lookup a = none) →
      codeAny (model P w) callerA (.call (.ref fa) ⟨[.ref a], []⟩) (fun r s' => r = .ok (.ret (.bool true)) ∧ OldK s₁.heap s'.heap ∧ s'.os = s₁.os ∧ AllBare s'.gens) s₁ := by
    intro H hO hS hok hA hK
    have base_of : ∀ {b : Addr} {o : Obj}, s₁.heap.get? b = some o → H b = none → (hidT s₁.heap H).get? b = some o := fun e n => hidT_get e n
    have noA : ∀ {b : Addr} {o : Obj} {es : Array DictEntry} {ep : Nat}, s₁.heap.get? b = some o → o.data = .dict es ep → H b = none := fun {b o es ep} e d => by
      cases q : H b with
      | none => rfl
      | some u =>
        have e' : b = a := hA b (by rw [q]; simp)
        subst e'
        rw [ha] at e; cases e
        have d' : Data.seq vs.toArray _ = Data.dict es ep := d
        cases d'
    have nsK : ∀ {b : Addr} {m : Str → Option Value}, s₁.heap.Ns b m → (hidT s₁.heap H).Ns b m := fun {b m} ⟨o, es, ep, e, d, r⟩ => ⟨o, es, ep, base_of e (noA e d), d, r⟩
    have hKb : K.In (hidT s₁.heap H) := fun b o e => base_of (KX b o e) (by
      cases q : H b with
      | none => rfl
      | some u =>
        have e' : b = a := hA b (by rw [q]; simp)
        subst e'
        rw [hK (by rw [q]; simp)] at e; cases e)
    have hM : Mod K mg (hidT s₁.heap H) := ⟨hKb, nsK hns, ⟨mb, nsK hb, hbb⟩, let ⟨mc, h1, h2⟩ := hlim; ⟨mc, nsK h1, h2⟩⟩
    have e0 : Env0 P w K mg (hidT s₁.heap H) callerA [] s₁ H := ⟨rfl, hM, fun b o e => of_hidT e, Nat.le_of_eq (hidT_size _ _), trivial, fun b hb => absurd (show b ∈ ([] : List Addr) from hb) (by simp), hok, .of_eq hg⟩
    refine codeAny_mono (F _ hKb (nsK hns) [] s₁ H ⟨[.ref a], []⟩ [.ref a] [.ref a] _ _ e0 (hbind s₁ (.ref a)) (.cons rfl .nil) (hsp H hO hS)) fun r s' h => ?_
    cases r with
    | error e => exact (hCX H e s' h).elim
    | ok fl =>
      cases fl with
      | next => exact False.elim h
      | brk => exact False.elim h
      | cont => exact False.elim h
      | ret u =>
        obtain ⟨v, H', os, bare, un, hok', r', q⟩ := h
        have q' : v = .bl true := q
        subst q'
        obtain rfl : u = Value.bool true := r'
        refine ⟨rfl, OldK.of_keep fun b o e => ?_, os, bare⟩
        cases q : H b with
        | none => exact un.keep b o e q (by intro z; exact absurd (show b ∈ ([] : List Addr) from z) (by simp)) (by simp)
        | some u =>
          rcases hO b with z | ⟨ob, xs, z⟩
          · rw [q] at z; cases z
          · have z2 := un.frzs b ob _ z
            obtain ⟨e1, _⟩ := hok b _ z
            obtain ⟨e2, _⟩ := hok' b _ z2
            rw [e] at e1; cases e1
            exact e2
  cases hk : K.lookup a with
  | some o =>
    -- the script is one of the module's own objects
    have e := KX a o hk
    rw [ha] at e
    cases e
    refine core (fun _ => none) (fun _ => .inl rfl) (.inr ⟨_, vs.toArray, _, hk, rfl, rfl, rfl, by rw [List.size_toArray, lenV]; exact hl, by simpa using rv⟩) (fun b u z => by have z' : (none : Option HO) = some u := z; cases z') (fun b z => absurd rfl z) fun z => absurd rfl z
  | none =>
    refine core (fun b => if b = a then some (.frz { cls := .type "list", data := .seq vs.toArray } (.lst (ns.map V.int))) else none) (fun b => ?_) (.inl (.inr ⟨{ cls := .type "list", data := .seq vs.toArray }, if_pos rfl⟩)) (fun b u z => ?_) (fun b z => ?_) fun _ => hk
    · by_cases hb : b = a
      · exact .inr ⟨_, _, if_pos hb⟩
      · exact .inl (if_neg hb)
    · by_cases hb : b = a
      · have z' := (if_pos hb).symm.trans z
        cases z'
        subst hb
        exact ⟨ha, by rw [List.length_map]; exact hl, vs, _, rv, ha⟩
      · have z' := (if_neg hb).symm.trans z
        cases z'
    · by_cases hb : b = a
      · exact hb
      · exact absurd (if_neg hb) z
theorem walk_top {l : PySem.W.OpenLaw} {n : Nat} {q : Program} {loose : List Str} {XP : (Str → Option Value) → Heap → Prop} {YP : World → Heap → Prop} {d : DefRec} {K : Params → PySem.W.Frag} {CX : World → CXT} {sp : World → Sp} {x : Str}
    (hn : l.most = some n) (hn2 : n ≤ sizeLine) (hdf : d.params.defaults = [])
    (hY : ∀ (w : World) (h : Heap), YP w h → (K w.params).In h)
    (F : ∀ (w : World) (mg : Str → Option Value) (fa : Addr) (h : Heap), (K w.params).In h → h.Ns mainGlobals mg → mg d.name = some (.ref fa) →
      ∃ fd : FuncData, (∀ (s : Shared) (u : Value), BindsTo s fd ⟨[u], []⟩ [(x, u)]) ∧
        ∀ base : Heap, (K w.params).In base → base.Ns mainGlobals mg → TopOk l.prog w (K w.params) mg base (CX w) fa fd [x] (sp w))
    (hsp : ∀ (w : World) (H : Hp) (a : Addr) (ns : List Int), ns.length ≤ n → Only H → SqL (K w.params) H a (ns.map V.int) → sp w [.ref a] H (fun v _ => v = .bl true) fun _ _ _ => False)
    (hCX : ∀ (w : World) (H : Hp) (s : Shared) (e : Value) (s' : Shared), CX w [] H s (fun _ _ _ => False) e s' → False) :
    PySem.W.WalkO q loose XP YP l.row.toRowW d [] (fun f vs => PySem.call f vs) := by
  refine Att.attach_call hn hdf fun w s₀ s₁ mg mb fa o pm cd doc a vs ns G Y ho hd hcd hmg hobj hints hlen hg => ?_
  have KX := hY w _ Y
  obtain ⟨fd, hb, hF⟩ := F w mg fa _ KX G.T.g hmg
  exact top_call KX G.T.g G.T.b G.T.builtins G.T.nolimit hg hobj hints (Nat.le_trans hlen hn2) hF hb (fun H hO hS => hsp w H a ns hlen hO hS) fun H e s' => hCX w H s₁ e s'
end TkS
set_option Elab.async false
set_option linter.all false
set_option maxRecDepth 100000
set_option maxHeartbeats 4000000
/-! list(reversed(xs)), xs a list -/
namespace TkS
open PySem PySem.Spec PyProof.Rows L2
section
variable {prog : Program} {w : World} {A : Around} {E : Value → Shared → Prop} {s : Shared} {R : Result → Shared → Prop}
theorem extend_rev {it l S : Addr} {items : Array Value} {res : Value} {c₀ : Nat} (hh : A.in1.handled = none) (hit : s.heap.IsRevIter it l ((items.size : Int) - 1)) (hl : s.heap.IsList l items) (hne : l ≠ it) (hn : items.size ≤ sizeLine) (hSi : S ≠ it) (hSl : S ≠ l)
    (hS : s.heap.get? S = some { cls := .type "list", data := .seq #[] c₀ })
    (hR : ∀ (s' : Shared) (acc' : Array Value) (c' : Nat), Moved (S :: [it]) (fun a b => b = a) s s' → s'.heap.get? S = some { cls := .type "list", dict := none, data := .seq acc' c', slots := #[] } → ItemsOf (fun i v => items[items.size - 1 - i]? = some v) acc' items.size → R (.ok (.ret res)) s') :
    wpAny (model prog w) A.in1 (Builtin.List.listExtendWith (.ref S) (.ref it) res)
      (fun fin s' => match fin with | .done f => R (.ok f) s' | .again c' => c'.quiet = true ∧ codeAny (model prog w) A c' R s') (fun e s' => R (.error e) s') s := by
  have W := (Walks.listRev (prog := prog) (w := w) (A := A.in1) hh it l hne items).toS
  have hSf : S ∉ [it, l] := by simp only [List.mem_cons, List.not_mem_nil, or_false, not_or]; exact ⟨hSi, hSl⟩
  have hT : s.TypeIs (.ref it) "list_reverseiterator" := hit.typeIs
  have h1 : Builtin.List.listSameRef (.ref S) (.ref it) = false := by simp [Builtin.List.listSameRef, hSi]
  unfold Builtin.List.listExtendWith
  refine wpAny_bind (wpAny_typeOf hT ?_)
  rw [if_neg (by rw [h1]; decide)]
  refine wpAny_bind (wpAny_pyIter_revIter hit ?_)
  refine wpAny_bind (wpAny_holding ?_)
  unfold Builtin.List.listLengthHint
  refine wpAny_bind (wpAny_specialOf hT RT.nolen_lri ?_)
  show wpAny _ A.in1 (specialOf (Value.ref it) (Str.ofString "__length_hint__") >>= _) _ _ _
  refine wpAny_bind (wpAny_specialOf hT RT.hint_lri ?_)
  generalize hid : ("list_reverseiterator.__length_hint__" : String) = id0
  wp_delta
  rw [show splitId id0 = some ("list_reverseiterator", "__length_hint__") from by subst hid; decide +kernel]
  subst hid
  refine wpAny_bind (wpAny_isInstance (b := true) hT (by rw [isSubtype_type]; kernel_rfl) ?_)
  refine wpAny_pure ?_
  rw [if_neg (by decide)]
  have e0 : ((items.size : Nat) : Int) - 1 - ((0 : Nat) : Int) = (items.size : Int) - 1 := by omega
  exact wpAny_pure ⟨plainId_quiet F.plain_extend_loop _, codeAny_extend_loopS W hn _ hSf _ items.size 0 _ _ _ rfl (Nat.zero_le _) ⟨Nat.zero_le _, by rw [e0]; exact hit, hl⟩ hS (ItemsOf.nil _) fun s' acc' c' hm hS' hacc => hR s' acc' c' hm hS' hacc⟩
theorem list_init_rev {it l S : Addr} {items : Array Value} (hh : A.in1.handled = none) (hit : s.heap.IsRevIter it l ((items.size : Int) - 1)) (hl : s.heap.IsList l items) (hne : l ≠ it) (hn : items.size ≤ sizeLine) (hSi : S ≠ it) (hSl : S ≠ l)
    (hS : s.heap.get? S = some { cls := .type "list", data := .seq #[] })
    (hR : ∀ (s' : Shared) (acc' : Array Value) (c' : Nat), (∀ b o, b ≠ S → b ≠ it → s.heap.get? b = some o → s'.heap.get? b = some o) → s' = { s with heap := s'.heap, toks := s'.toks } → s'.heap.get? S = some { cls := .type "list", dict := none, data := .seq acc' c', slots := #[] } → ItemsOf (fun i v => items[items.size - 1 - i]? = some v) acc' items.size → R (.ok (.ret .none)) s') :
    wpAny (model prog w) A.in1 (Builtin.«list.__init__» ⟨[.ref S, .ref it], []⟩)
      (fun fin s' => match fin with | .done f => R (.ok f) s' | .again c' => c'.quiet = true ∧ codeAny (model prog w) A c' R s') (fun e s' => R (.error e) s') s := by
  show wpAny _ A.in1 (do let old ← Builtin.List.listItems (.ref S); Builtin.List.listUpdate (.ref S) (fun _ => #[]); letGo old.toList.reverse; Builtin.List.listExtendWith (.ref S) (.ref it) .none) _ _ s
  refine wpAny_bind ?_
  unfold Builtin.List.listItems
  refine wpAny_bind (wpAny_seqItems hS rfl (wpAny_pure ?_))
  show wpAny _ A.in1 (updateSeq S (fun _ => #[]) >>= fun _ => letGo (#[] : Array Value).toList.reverse >>= fun _ => Builtin.List.listExtendWith (.ref S) (.ref it) .none) _ _ s
  refine wpAny_bind (wpAny_updateSeq hS rfl ?_)
  have hS₂ := Heap.get?_update_self (Obj.mapSeq (fun _ => (#[] : Array Value))) hS rfl
  have oth : ∀ b o, b ≠ S → s.heap.get? b = some o → (s.heap.update S (Obj.mapSeq (fun _ => (#[] : Array Value)))).get? b = some o :=
    fun b o hb e => (Heap.get?_update_other _ _ (Ne.symm hb)).trans e
  refine wpAny_bind (wpAny_letGo ?_)
  have hl' := hl
  obtain ⟨ol, hol, hlc, nl, hld⟩ := hl'
  refine extend_rev hh (hit.at fun o e => oth it o (Ne.symm hSi) e) ⟨ol, oth l _ (Ne.symm hSl) hol, hlc, nl, hld⟩ hne hn hSi hSl hS₂ fun s' acc' c' hm hS' hacc => ?_
  refine hR s' acc' c' (fun b o h1 h2 e => hm.heap b o (by simp [h1, h2]) (oth b o h1 e)) ?_ hS' hacc
  have := Moved.eq_with hm
  exact this
theorem call_list_rev {it l : Addr} {items : Array Value} {Q : Value → Shared → Prop} (hh : A.handled = none) (hit : s.heap.IsRevIter it l ((items.size : Int) - 1)) (hl : s.heap.IsList l items) (hne : l ≠ it) (hn : items.size ≤ sizeLine)
    (hQ : ∀ (h' : Heap) (tk : Nat) (acc : Array Value) (c' : Nat), (∀ b o, b ≠ it → s.heap.get? b = some o → h'.get? b = some o) → h'.get? s.heap.objs.size = some { cls := .type "list", dict := none, data := .seq acc c', slots := #[] } →
      ItemsOf (fun i v => items[items.size - 1 - i]? = some v) acc items.size → Q (.ref s.heap.objs.size) { s with heap := h', toks := tk }) :
    wpAny (model prog w) A (call (.type "list") [.ref it]) Q E s := by
  refine callType_codes (Q₁ := fun obj s₁ => obj = .ref s.heap.objs.size ∧ s₁ = { s with heap := s.heap.push { cls := .type "list", data := .seq #[] } }) F.called_list (F.typeCall_list_1 _) F.entry_list_init
    (code_list_new _ ⟨rfl, rfl⟩) fun obj s₁ h₁ => ?_
  obtain ⟨rfl, rfl⟩ := h₁
  have hS : (s.heap.push { cls := .type "list", data := .seq #[] }).get? s.heap.objs.size = some { cls := .type "list", data := .seq #[] } := Heap.get?_push_size _ rfl
  obtain ⟨oi, hoi, _⟩ := id hit
  obtain ⟨ol, hol, _⟩ := id hl
  refine ⟨⟨_, hS, rfl⟩, F.args_list_init_2 _ _, list_init_rev (A := A.in1) hh (hit.at fun o e => Heap.get?_push_of_some _ e) (hl.push _) hne hn (Nat.ne_of_gt (Heap.lt_size hoi)) (Nat.ne_of_gt (Heap.lt_size hol)) hS fun s' acc' c' k e hS' hacc => ?_⟩
  rw [e]
  exact ⟨rfl, hQ s'.heap s'.toks acc' c' (fun b o hb eo => k b o (Nat.ne_of_lt (Heap.lt_size eo)) hb (Heap.get?_push_of_some _ eo)) hS' hacc⟩
end
def tLstRev (K : PySem.W.Frag) (te : TE) : TE := fun σ H Q => te σ H fun v H1 => ∃ (a : Addr) (xs : List V), v = .ref a ∧ SqL K H1 a xs ∧ ∀ q, H1 q = none → Q (.ref q) (upd H1 q (.lst xs.reverse))
section
variable {X : Cx}
theorem pe_lstRev {e : Expr} {te : TE} {p p2 pos pos2 : Pos} (hc : X.calm = true) (hg : Gl X "list") (hm : X.mg "list" = none) (hg2 : Gl X "reversed") (hm2 : X.mg "reversed" = none) (he : PE X e te)
    (hs : starEach [e] X.env = (false, eval e X.env) :: starEach [] X.env := by rfl)
    (hs2 : starEach [.Call (.Name "reversed" p2) [e] [] pos2] X.env = (false, eval (.Call (.Name "reversed" p2) [e] [] pos2) X.env) :: starEach [] X.env := by rfl) :
    PE X (.Call (.Name "list" p) [.Call (.Name "reversed" p2) [e] [] pos2] [] pos) (tLstRev X.K te) := by
  refine ⟨fun pins s σ H Q I h => ?_⟩
  refine Call_ (ld_blt I hg hm boot_list (PyProof.Rows.callWith_type1 (args_cons (Call_ (ld_blt I hg2 hm2 PyProof.Rows.boot_reversed (PyProof.Rows.callWith_type1 (args_cons (thn (he.run pins s σ H _ I h) fun u s1 ⟨v, H1, I1, r1, q1⟩ => args_nil ?_) hs) hs rfl))) hs2) hs2 rfl))
  obtain ⟨a, xs, ev, hq, q⟩ := q1
  subst ev
  obtain rfl : u = Value.ref a := r1
  obtain ⟨its, rv, p', hz⟩ := I1.list hq
  refine call_reversed_list p'.isList (args_nil ?_)
  have k0 : ∀ b o, s1.heap.get? b = some o → (s1.heap.push (revObj a ((its.toArray.size : Int) - 1))).get? b = some o := fun b o e => Heap.get?_push_of_some _ e
  have I2 : Inv X pins σ H1 { s1 with heap := s1.heap.push (revObj a ((its.toArray.size : Int) - 1)) } := I1.kept (t' := s1.toks) k0
  obtain ⟨f0, f1, f2, f3, f4, f5⟩ := I1.fpOk (H' := H1) (b := s1.heap.objs.size) (Nat.le_refl _) (I1.hok.fresh (Nat.le_refl _))
  have hl := p'.isList
  obtain ⟨ol, hol, _⟩ := id hl
  have hn : its.toArray.size ≤ sizeLine := by rw [List.size_toArray, ← rv.length]; exact hz
  refine call_list_rev (s := { s1 with heap := s1.heap.push (revObj a ((its.toArray.size : Int) - 1)) }) (I1.ok.hd hc) ⟨_, Heap.get?_push_size _ rfl, rfl, rfl⟩ (hl.push _) (Nat.ne_of_lt (Heap.lt_size hol)) hn fun h' tk acc c' hk e' hi => ?_
  have hsz : (s1.heap.push (revObj a ((its.toArray.size : Int) - 1))).objs.size = s1.heap.objs.size + 1 := Heap.size_push ..
  rw [hsz] at e' ⊢
  refine ⟨.ref (s1.heap.objs.size + 1), upd H1 (s1.heap.objs.size + 1) (.lst xs.reverse), I1.laid (t' := tk) (fun b o e => hk b o (Nat.ne_of_lt (Heap.lt_size e)) (k0 b o e)) (Nat.le_succ _) (show ObjOk X.prog X.w _ _ _ (.lst xs.reverse) from ⟨by rw [List.length_reverse]; exact hz, acc.toList, c', RT.vals_rev rv hi, ?_⟩), rfl, q _ (I1.hok.fresh (Nat.le_succ _))⟩
  rw [Array.toArray_toList]
  exact e'
end
end TkS
set_option Elab.async false
set_option linter.all false
set_option maxRecDepth 100000
set_option maxHeartbeats 4000000
/-! how long a shown list of pairs of small numbers is -/
namespace TkS
open PySem PySem.Spec PyProof.Rows L2
theorem small_pair {a b : Int} (a0 : 0 ≤ a) (a1 : a < 5) (b0 : 0 ≤ b) (b1 : b < 5) :
    (PyData.shown (.tuple [.int a, .int b])).length ≤ 10 ∧ (PyData.shown (.list [.int a, .int b])).length ≤ 10 ∧ PyData.showable (.tuple [.int a, .int b]) = true ∧ PyData.showable (.list [.int a, .int b]) = true := by
  have ha : a = 0 ∨ a = 1 ∨ a = 2 ∨ a = 3 ∨ a = 4 := by omega
  have hb : b = 0 ∨ b = 1 ∨ b = 2 ∨ b = 3 ∨ b = 4 := by omega
  rcases ha with rfl | rfl | rfl | rfl | rfl <;> rcases hb with rfl | rfl | rfl | rfl | rfl <;> decide +kernel
theorem textFrom_le (n : Nat) : ∀ (ts : List Str) (k : Nat) (acc : Str), (∀ t ∈ ts, t.length ≤ n) → (textFrom k acc ts).length ≤ acc.length + ts.length * (n + 2)
  | [], _, acc, _ => by
    show acc.length ≤ acc.length + _
    omega
  | t :: r, k, acc, h => by
    have ih := textFrom_le n r (k + 1) (acc ++ (if k > 0 then ", " else "" : String) ++ t) fun u m => h u (List.mem_cons_of_mem _ m)
    have e : (acc ++ (if k > 0 then ", " else "" : String) ++ t).length = acc.length + (if k > 0 then 2 else 0) + t.length := by
      rw [strLen_append, strLen_append]
      split <;> rfl
    have ht := h t List.mem_cons_self
    have e3 : (t :: r).length * (n + 2) = r.length * (n + 2) + (n + 2) := by
      rw [List.length_cons, Nat.succ_mul]
    rw [e] at ih
    show (textFrom (k + 1) _ r).length ≤ _
    rw [e3]
    have hb : (if k > 0 then 2 else 0 : Nat) ≤ 2 := by split <;> omega
    omega
def SmallPair (d : PyData) : Prop := ∃ a b : Int, 0 ≤ a ∧ a < 5 ∧ 0 ≤ b ∧ b < 5 ∧ (d = .tuple [.int a, .int b] ∨ d = .list [.int a, .int b])
theorem small_show {d : PyData} (h : SmallPair d) : d.shown.length ≤ 10 ∧ d.showable = true ∧ d.hasDict = false ∧ d.depth ≤ 1 := by
  obtain ⟨a, b, a0, a1, b0, b1, rfl | rfl⟩ := h
  · obtain ⟨h1, _, h3, _⟩ := small_pair a0 a1 b0 b1
    exact ⟨h1, h3, by simp [PyData.hasDict, PyData.hasDictAll], by simp [PyData.depth, PyData.depthAll]⟩
  · obtain ⟨_, h2, _, h4⟩ := small_pair a0 a1 b0 b1
    exact ⟨h2, h4, by simp [PyData.hasDict, PyData.hasDictAll], by simp [PyData.depth, PyData.depthAll]⟩
theorem shown_pairs {ds : List PyData} (h : ∀ d ∈ ds, SmallPair d) (hl : ds.length ≤ 30) : (PyData.list ds).showable = true ∧ (PyData.list ds).hasDict = false ∧ (PyData.list ds).depth ≤ 60 ∧ (PyData.list ds).shown.length ≤ sizeLine := by
  have key : PyData.showableAll ds = true ∧ PyData.hasDictAll ds = false ∧ PyData.depthAll ds ≤ 1 ∧ (∀ t ∈ PyData.shownAll ds, t.length ≤ 10) ∧ (PyData.shownAll ds).length = ds.length := by
    clear hl
    induction ds with
    | nil => exact ⟨by simp [PyData.showableAll], by simp [PyData.hasDictAll], by simp [PyData.depthAll], by simp [PyData.shownAll], by simp [PyData.shownAll]⟩
    | cons d ds ih =>
      obtain ⟨i1, i2, i3, i4, i5⟩ := ih fun x m => h x (List.mem_cons_of_mem _ m)
      obtain ⟨s1, s2, s3, s4⟩ := small_show (h d List.mem_cons_self)
      refine ⟨by simp [PyData.showableAll, s2, i1], by simp [PyData.hasDictAll, s3, i2], by simp only [PyData.depthAll]; omega, fun t m => ?_, by simp [PyData.shownAll, i5]⟩
      rw [PyData.shownAll] at m
      rcases List.mem_cons.mp m with e | e
      · rw [e]
        exact s1
      · exact i4 t e
  obtain ⟨k1, k2, k3, k4, k5⟩ := key
  refine ⟨by simp [PyData.showable, k1], by simp [PyData.hasDict, k2], by simp only [PyData.depth]; omega, ?_⟩
  have e := textFrom_le 10 (PyData.shownAll ds) 0 "[" k4
  rw [k5] at e
  have e1 : (PyData.list ds).shown = textFrom 0 "[" (PyData.shownAll ds) ++ "]" := by
    simp only [PyData.shown, listText]
  rw [e1, strLen_append]
  have e2 : (("[" : Str)).length = 1 := rfl
  have e3 : (("]" : Str)).length = 1 := rfl
  rw [e2] at e
  rw [e3]
  have : 1000 ≤ sizeLine := by decide
  omega
end TkS
set_option Elab.async false
set_option linter.all false
set_option maxRecDepth 100000
set_option maxHeartbeats 4000000
/-! comprehensions over a list that is made on the way, and over zip -/
namespace TkS
open PySem PySem.Spec PyProof.Rows L2
theorem lc_listD {K : PySem.W.Frag} {a : Addr} {xs : List V} {ds : List PyData} {tt : TT} {te : TE} {vs : List Nat} {σ : L2.St} {H : Hp} {D : Addr} {Qd : Hp → Prop} {j : Nat} (f : PyData → Bool) (e : PyData → PyData)
    (hq : SqL K H a xs) (hx : DqAll H xs ds) (nD : H D = none) (hl : ds.length ≤ 900) (hw : ∀ x : V, wipe ((wipe σ vs).set j (some x)) vs = wipe σ vs)
    (ht : ∀ (i : Nat) (x : V) (d : PyData) (H' : Hp) (Q : Bool → Hp → Prop), ds[i]? = some d → Same H H' → Dq H' x d → (∀ H'', Same H' H'' → Q (f d) H'') → tt ((wipe σ vs).set j (some x)) H' Q)
    (he : ∀ (i : Nat) (x : V) (d : PyData) (H' : Hp) (Q : VK), ds[i]? = some d → f d = true → Same H H' → Dq H' x d → (∃ acc, H' D = some (.lst acc)) → (∀ y H'', Same H' H'' → Dq (TkS.Off D H'') y (e d) → Q y H'') → te ((wipe σ vs).set j (some x)) H' Q)
    (hd : ∀ H', Same H H' → Dq H' (.ref D) (.list ((ds.filter f).map e)) → Qd H') :
    ∃ W : Nat → Nat → Hp → Prop, (∃ m, W 0 m (upd H D (.lst []))) ∧ ∀ i m H, W i m H →
      ((Itl K a).stop i H ∧ Qd H) ∨ ((Itl K a).go i H ∧ ∃ Nx : Hp → Prop, (∀ H', Nx H' → ∃ m', m' < m ∧ W (i + 1) m' H') ∧ ∀ x H', (Itl K a).yld i H x H' → gName j x (wipe σ vs) H' fun σ2 H2 => wipe σ2 vs = wipe σ vs ∧ tt σ2 H2 fun b H3 =>
        if b = true then te σ2 H3 fun y H4 => ∃ acc, H4 D = some (.lst acc) ∧ acc.length < sizeLine ∧ Nx (upd H4 D (.lst (acc ++ [y]))) else Nx H3) := by
  refine lc_list (xs := xs) (fun i H' => Acc H D (((ds.take i).filter f).map e) H') (Acc.nil nD) (fun i H' _ hP => hP.1.seq hq) (fun i x H' hxi hP => ?_) (fun H' hP => ?_)
  · obtain ⟨d, hdi, kd⟩ := hx.get hxi
    have kd1 := kd.same hP.1
    refine ⟨hw _, ht i x d H' _ hdi hP.1 kd1 fun H2 s2 => ?_⟩
    have hP2 := hP.mv s2
    cases c : f d with
    | true =>
      refine he i x d H2 _ hdi c hP2.1 (kd1.same s2) ⟨_, hP2.2.choose_spec.1⟩ fun y H3 s3 k => ?_
      rw [filter_snoc _ _ hdi, if_pos c]
      refine hP2.put nD ?_ s3 k
      have := len_ft f e (ds.take i)
      rw [List.length_take] at this
      omega
    | false =>
      show Acc _ _ _ _
      rw [filter_snoc _ _ hdi, c, if_neg Bool.false_ne_true]
      exact hP2
  · rw [hx.len, List.take_length] at hP
    exact hd H' hP.1 hP.dq
theorem lc_zipS {t1 t2 : Bool} {K : PySem.W.Frag} {a b : Addr} {xs ys : List V} {g : TG} {tt : TT} {te : TE} {vs : List Nat} {σ : L2.St} {H1 : Hp} {D : Addr} {Qd : Hp → Prop} (hl : xs.length = ys.length) (Pv : Nat → Hp → Prop) (h0 : Pv 0 (upd H1 D (.lst []))) (hq : ∀ i H, Pv i H → RZM.SqS t1 K H a xs ∧ RZM.SqS t2 K H b ys)
    (hs : ∀ (i : Nat) (x y : V) (T : Addr) (H : Hp), xs[i]? = some x → ys[i]? = some y → Pv i H → H T = none → g (.ref T) (wipe σ vs) (upd H T (.tup [x, y])) fun σ2 H2 => wipe σ2 vs = wipe σ vs ∧ tt σ2 H2 fun b H3 =>
      if b = true then te σ2 H3 fun y H4 => ∃ acc, H4 D = some (.lst acc) ∧ acc.length < sizeLine ∧ Pv (i + 1) (upd H4 D (.lst (acc ++ [y]))) else Pv (i + 1) H3) (hd : ∀ H, Pv xs.length H → Qd H) :
    ∃ W : Nat → Nat → Hp → Prop, (∃ m, W 0 m (upd H1 D (.lst []))) ∧ ∀ i m H, W i m H →
      ((RZM.ItzS t1 t2 K a b).stop i H ∧ Qd H) ∨ ((RZM.ItzS t1 t2 K a b).go i H ∧ ∃ Nx : Hp → Prop, (∀ H', Nx H' → ∃ m', m' < m ∧ W (i + 1) m' H') ∧ ∀ x H', (RZM.ItzS t1 t2 K a b).yld i H x H' → g x (wipe σ vs) H' fun σ2 H2 => wipe σ2 vs = wipe σ vs ∧ tt σ2 H2 fun b H3 =>
        if b = true then te σ2 H3 fun y H4 => ∃ acc, H4 D = some (.lst acc) ∧ acc.length < sizeLine ∧ Nx (upd H4 D (.lst (acc ++ [y]))) else Nx H3) := by
  refine ⟨fun i m H => m = xs.length - i ∧ i ≤ xs.length ∧ Pv i H, ⟨xs.length, rfl, Nat.zero_le _, h0⟩, ?_⟩
  rintro i m H ⟨rfl, hi, p⟩
  obtain ⟨qx, qy⟩ := hq i H p
  rcases Nat.lt_or_ge i xs.length with hlt | hge
  · refine .inr ⟨⟨xs, ys, _, _, qx, qy, List.getElem?_eq_getElem hlt, List.getElem?_eq_getElem (by omega)⟩, Pv (i + 1), fun H' p' => ⟨xs.length - (i + 1), by omega, rfl, hlt, p'⟩, fun v H' y => ?_⟩
    obtain ⟨T, x', y', rfl, hT, rfl, f1, f2⟩ := y
    exact hs i x' y' T H (f1 xs qx) (f2 ys qy) p hT
  · have e : i = xs.length := by omega
    subst e
    exact .inl ⟨⟨xs, ys, qx, qy, Or.inl (Nat.le_refl _)⟩, hd H p⟩
end TkS
set_option Elab.async false
set_option linter.all false
set_option maxRecDepth 100000
set_option maxHeartbeats 4000000
/-! X() of an own error without __init__; any() of whole numbers; defs and calls that know that nothing is being printed -/
namespace TkS
open PySem PySem.Spec PyProof.Rows L2
theorem pmk_own0 {X : Cx} {C : Addr} {bmB : List Value} {B newId initId : String} {x : Str} {p pos : Pos} (F : ExcBaseFacts B newId initId bmB) (q : PySem.W.excIn X.K C bmB newId = true) (gC : X.mg x = some (.ref C)) (kC : PySem.W.keepIn X.K (.ref C) = true)
    (r : Raises X (.ref C)) (hg : Gl X x) (hdb : (x == ("__debug__" : Str)) = false := by decide) : PMk X (.Call (.Name x p) [] [] pos) (fun _ H Q => Q (.ref C) none H) := by
  intro pins s σ H Q I h
  refine wpAny_Call_Name_kw (ld_glob I hg gC ?_ hdb)
  refine PySem.W.callWith_K0 I.kIn kC ?_
  show wpAny _ _ (call (.ref C) []) _ _ _
  obtain ⟨bm, N, nm, qn, bs, hdct, sn, sub, ab, col, dd, k0, k1, k2, k3, k5, mN, hC, hN, hni, T⟩ := exc_obj I.kIn q
  refine wpAny_call_exc_subT F T hC hN hni (fun h' e hm => ?_) (Nat.zero_le _)
  exact mk_of I hm r h (I.hok.gone hm.new)
theorem truth_ints {prog : Program} {w : World} {A : Around} {ns : List Int} {its : List Value} (e : Vals (ns.map V.int) its) :
    TruthOf prog w A (fun i v => its.toArray[i]? = some v) (fun i => decide (ns.getD i 0 ≠ 0)) := fun i v s Q E hv hq => by
  have hv' : its[i]? = some v := by simpa using hv
  have hi : i < ns.length := by
    have := (List.getElem?_eq_some_iff.mp hv').1
    rw [← e.length, List.length_map] at this
    exact this
  obtain ⟨u, hu, t, rfl⟩ : ∃ u, its[i]? = some u ∧ ∃ t, u = Value.int (ns.getD i 0) t := by
    have h1 : (ns.map V.int)[i]? = some (.int (ns.getD i 0)) := by
      rw [List.getElem?_map, List.getElem?_eq_getElem hi, List.getD_eq_getElem?_getD, List.getElem?_eq_getElem hi]
      rfl
    obtain ⟨u, hu, r⟩ := e.get h1
    exact ⟨u, hu, r⟩
  rw [hv'] at hu
  cases hu
  have hq2 : Q (decide (ns.getD i 0 ≠ 0)) s := hq
  generalize ns.getD i 0 = z at hq2
  have z2 : decide (z ≠ 0) = (z != 0) := by
    by_cases c : z = 0
    · subst c
      rfl
    · rw [decide_eq_true c, bne_iff_ne.mpr c]
  rw [z2] at hq2
  exact PyProof.Rows.truthy_int hq2
theorem any_rangeI : ∀ ns : List Int, (List.range ns.length).any (fun i => decide (ns.getD i 0 ≠ 0)) = ns.any fun z => decide (z ≠ 0)
  | [] => rfl
  | b :: bs => by
    rw [List.length_cons, List.range_succ_eq_map, List.any_cons, List.any_map, List.any_cons, ← any_rangeI bs]
    all_goals rfl
def rAnyI (K : PySem.W.Frag) : List V → Hp → VK → Prop := fun vs H Q => ∃ (a : Addr) (ns : List Int), vs = [V.ref a] ∧ SqL K H a (ns.map V.int) ∧ Q (.bl (ns.any fun z => decide (z ≠ 0))) H
theorem cr_anyI {X : Cx} (hc : X.calm = true) : CallR X (.builtin "any") (rAnyI X.K) := by
  intro pins s σ H vs us Q I r h
  obtain ⟨a, bs, rfl, hs, q⟩ := h
  obtain ⟨its, rv, hl, _⟩ := I.list hs
  rw [Vals.ref1 r]
  refine call_any_walk (iter_any hl.isList fun s₂ e2 st hne => ?_)
  subst e2
  refine ⟨_, _, _, _, _, _, _, rfl, Walks.list (A := X.A.in1) (I.ok.hd hc) _ a hne its.toArray, st, truth_ints rv, fun h' tk hk => ?_⟩
  refine ⟨.bl _, H, I.kept fun b o eo => hk b o (fun hmem => ?_) (Heap.get?_push_of_some _ eo), ?_, q⟩
  · rcases List.mem_cons.mp hmem with e1 | hmem
    · exact absurd (e1 ▸ Heap.lt_size eo) (Nat.lt_irrefl _)
    · cases hmem
  · show Value.bool _ = Value.bool _
    rw [← any_rangeI, List.size_toArray, ← rv.length, List.length_map]
/-- a def's promise where nothing is being printed -/
structure FnG (P : Program) (w : World) (K : PySem.W.Frag) (mg : Str → Option Value) (base : Heap) (CX : CXT) (k : Nat) (f : Addr) (fd : FuncData) (ps : List Str) (sp : Sp) : Prop where
  len : ∀ vs H Q E, sp vs H Q E → vs.length = ps.length
  run : ∀ (A : Around) (outer : List Env) (s : Shared) (H : Hp) (args : Args) (us : List Value) (vs : List V) (Q : VK) (E : XK), A.guards = some [] → Room k A → Env0 P w K mg base A outer s H → BindsTo s fd args (ps.zip us) → Vals vs us → sp vs H Q E →
    codeAny (model P w) A (.call (.ref f) args) (CR CX outer P w H s Q E) s
theorem fnG_of {CX : CXT} {P : Program} {w : World} {K : PySem.W.Frag} {mg : Str → Option Value} {base : Heap} {k : Nat} {f : Addr} {name qual : Str} {params : Arguments} {body : List Stmt} {scope : Scope} {dV kV doc pm cdv ct oc : Value} {an od : Option Addr}
    {osl : Array (Option Value)} {N ps : List Str} {sp : Sp} (lk : K.lookup f = some ⟨oc, od, .func (PySem.W.fnOf name qual params body scope dV kV doc pm an cdv ct), osl⟩) (hcd : PySem.W.codeIn K cdv qual = true) (S : FnScope N ps scope)
    (len : ∀ vs H Q E, sp vs H Q E → vs.length = ps.length)
    (hbody : ∀ (A : Around) (outer : List Env) (s : Shared) (H : Hp) (vs : List V) (Q : VK) (E : XK), A.guards = some [] → Room k (A.deeper (envOfC qual scope s.heap.objs.size f cdv)) → sp vs H Q E →
      ∃ t, PSs (cxOf CX P w K mg base N qual scope f cdv A outer s H E) body t ∧ t { nx := fun _ H' => Q .non H', rt := Q } (start N vs) H) :
    FnG P w K mg base CX (k + 1) f (PySem.W.fnOf name qual params body scope dV kV doc pm an cdv ct) ps sp := by
  refine ⟨len, fun A outer s H args us vs Q E gd hr e0 hb r hsp => ?_⟩
  have hl := len _ _ _ _ hsp
  have KX : K.In s.heap := e0.mod.kin.keeps fun b o e => (e0.bs b o e).1
  have lim : s.heap.NoLimit := e0.mod.nolimit.keeps fun b o e => (e0.bs b o e).1
  have hkind : ∀ y ∈ ps.zip us, scope.names.lookup y.1 = some .local ∨ (scope.names.lookup y.1 = some .cell ∧ ((cellsFrom (s.heap.objs.size + 1) scope.names []).lookup y.1).isSome = true) := fun ⟨n, v⟩ hy => by
    rcases S.par n (List.of_mem_zip hy).1 with q | q
    · exact .inl q
    · exact .inr ⟨q, PySem.W.cellsFrom_some _ _ _ (.inl q)⟩
  refine codeAny_call_function hr.depth (KX _ _ lk) rfl S.co S.gen rfl (PySem.W.codeRec_of KX hcd) (hb _ _ _ _ ?_)
  refine wpAny_newFunctionEnv_cells S.kind hkind fun env he s1 x => ?_
  subst he
  refine ⟨lim.keeps x.toInCall.keep, codeAny_func ?_⟩
  obtain ⟨t, ht, hq⟩ := hbody A outer s H vs Q E gd (hr.deeper _) hsp
  have I : Inv (cxOf CX P w K mg base N qual scope f cdv A outer s H E) [] (start N vs) H s1 := inv_start S hr.hd e0 hl r x
  refine wpAny_mono (ht.run [] s1 (start N vs) H _ I hq) (fun fl s' hs => ?_) fun e s' hs => hs
  have fin : ∀ {σ' : L2.St} {H' : Hp} {v : V} {u : Value}, Inv (cxOf CX P w K mg base N qual scope f cdv A outer s H E) [] σ' H' s' → RelV v u → Q v H' → CE outer P w H s Q u s' :=
    fun {σ' H' v u} J rv q => ⟨v, H', J.os, J.bare, J.base, J.hok, rv, q⟩
  cases fl with
  | ret u =>
    obtain ⟨v, σ', H', J, rv, q⟩ := hs
    exact fin J rv q
  | next =>
    obtain ⟨σ', H', J, q⟩ := hs
    exact fin (v := V.non) (u := Value.none) J rfl q
  | brk =>
    obtain ⟨_, _, _, q⟩ := hs
    exact False.elim q
  | cont =>
    obtain ⟨_, _, _, q⟩ := hs
    exact False.elim q
theorem FnG.of_fun {P : Program} {w : World} {K : PySem.W.Frag} {mg : Str → Option Value} {base : Heap} {x qual : Str} {st : Stmt} {f : Addr} {fd : FuncData} {N ps : List Str} {k : Nat} {sp : Sp} (F : Fun K x qual st f fd) (S : FnScope N ps (defScope st)) (len : ∀ vs H Q E, sp vs H Q E → vs.length = ps.length)
    (hbody : ∀ (cdv : Value) (A : Around) (outer : List Env) (s : Shared) (H : Hp) (vs : List V) (Q : VK) (E : XK), A.guards = some [] → Room k (A.deeper (envOfC qual (defScope st) s.heap.objs.size f cdv)) → sp vs H Q E →
      ∃ t, PSs (cxOf CX0 P w K mg base N qual (defScope st) f cdv A outer s H E).nox (defBody st) t ∧ t { nx := fun _ H' => Q .non H', rt := Q } (start N vs) H) : FnG P w K mg base CX0 (k + 1) f fd ps sp := by
  obtain ⟨oc, od, kV, doc, pm, an, cdv, ct, osl, rfl, lk, hcd⟩ := F.ex
  refine fnG_of lk hcd S len fun A outer s H vs Q E gd hr hsp => ?_
  obtain ⟨t, h, q⟩ := hbody cdv A outer s H vs Q E gd hr hsp
  exact ⟨t, h.nox, q⟩
section
variable {X : Cx} {CX : CXT} {k : Nat} {f : Addr} {fd : FuncData} {ps : List Str} {sp : Sp} {dvs : List V} {ds : List Value} {E : XK} {x : Str} {p pos : Pos} {e : Expr} {es : List Expr} {t : TA}
theorem pe_callG (gd : X.A.guards = some []) (F : FnG X.prog X.w X.K X.mg X.base CX k f fd ps sp) (hr : Room k X.A) (hg : Gl X x) (hm : X.mg x = some (.ref f)) (hk : PySem.W.keepIn X.K (.ref f) = true) (hb : Binds X.K fd ps ds) (hd : Vals dvs ds) (hx : Passes CX X E)
    (ha : PA X (e :: es) t) (hdb : (x == ("__debug__" : Str)) = false := by decide) (he : starEach (e :: es) X.env = (false, eval e X.env) :: starEach es X.env := by rfl) (hpl : (backTo pos (starEach es X.env)).any (·.1) = false := by rfl) :
    PE X (.Call (.Name x p) (e :: es) [] pos) (tCall sp dvs E t) := by
  refine ⟨fun pins s σ H Q I h => ?_⟩
  refine wpAny_Call_Name_kw (ld_glob I hg hm ?_ hdb)
  refine PySem.W.callWith_K (h₀ := X.base) I.ok.mod.kin hk (thn (ha.run pos pins s σ H _ I h) fun us s1 ⟨vs, H1, I1, r, q⟩ => ⟨I1.kIn, ?_⟩) he hpl
  have r2 : Vals (vs ++ dvs) (us ++ ds) := r.append hd
  have hl : (us ++ ds).length = ps.length := by rw [← r2.length]; exact F.len _ _ _ _ q
  refine wpAny_call (codeAny_mono (F.run X.A X.stack s1 H1 ⟨us, []⟩ (us ++ ds) (vs ++ dvs) Q E gd hr I1.env0 (hb s1 us I1.kIn hl) r2 q) fun r s' hq => ?_)
  cases r with
  | error e => exact hx pins σ H1 s1 e s' I1 hq
  | ok fl =>
    cases fl with
    | ret u => exact I1.after hq
    | next => exact False.elim hq
    | brk => exact False.elim hq
    | cont => exact False.elim hq
end
end TkS
set_option Elab.async false
set_option linter.all false
set_option maxRecDepth 100000
set_option maxHeartbeats 4000000
/-! comprehensions whose items are known values: over zip, over a list or a tuple, over a range -/
namespace TkS
open PySem PySem.Spec PyProof.Rows L2
theorem sqs_same {t : Bool} {K : PySem.W.Frag} {H H' : Hp} {a : Addr} {xs : List V} (s : Same H H') (h : RZM.SqS t K H a xs) : RZM.SqS t K H' a xs := by
  cases t with
  | true => exact seqT_same s h
  | false => exact s.seq h
theorem sqs_of {K : PySem.W.Frag} {H : Hp} {a : Addr} {xs : List V} (h : Sq K H a xs) : ∃ t, RZM.SqS t K H a xs := h.elim (fun z => ⟨false, z⟩) (fun z => ⟨true, z⟩)
theorem range_snoc {α : Type} (f : Nat → Bool) (e : Nat → α) (i : Nat) : ((List.range (i + 1)).filter f).map e = if f i = true then ((List.range i).filter f).map e ++ [e i] else ((List.range i).filter f).map e := by
  rw [List.range_succ, List.filter_append, List.map_append]
  cases c : f i with
  | true =>
    rw [if_pos rfl, List.filter_cons_of_pos c]
    rfl
  | false =>
    rw [if_neg Bool.false_ne_true, List.filter_cons_of_neg (by rw [c]; exact Bool.false_ne_true)]
    exact List.append_nil _
theorem range_len {α : Type} (f : Nat → Bool) (e : Nat → α) (i : Nat) : (((List.range i).filter f).map e).length ≤ i := by
  rw [List.length_map]
  exact Nat.le_trans (List.length_filter_le _ _) (by rw [List.length_range]; exact Nat.le_refl _)
/-- the list under way -/
def AccV (H0 : Hp) (D : Addr) (vs : List V) (H' : Hp) : Prop := Same H0 H' ∧ H' D = some (.lst vs)
theorem AccV.put {H0 H' H'' : Hp} {D : Addr} {vs : List V} {v : V} (a : AccV H0 D vs H') (nD : H0 D = none) (hl : vs.length ≤ 900) (s : Same H' H'') :
    ∃ acc, H'' D = some (.lst acc) ∧ acc.length < sizeLine ∧ AccV H0 D (vs ++ [v]) (upd H'' D (.lst (acc ++ [v]))) := by
  refine ⟨vs, s _ _ a.2, small1000 (by omega), fun b o e => ?_, upd_same⟩
  rw [upd_ne (ne_of_none e nD)]
  exact s _ _ (a.1 _ _ e)
theorem AccV.mv {H0 H' H'' : Hp} {D : Addr} {vs : List V} (a : AccV H0 D vs H') (s : Same H' H'') : AccV H0 D vs H'' := ⟨a.1.trans s, s _ _ a.2⟩
theorem lc_zipV {t1 t2 : Bool} {K : PySem.W.Frag} {a b : Addr} {xs ys : List V} {g : TG} {tt : TT} {te : TE} {vs : List Nat} {σ : L2.St} {H1 : Hp} {D : Addr} {Qd : Hp → Prop} (f : Nat → Bool) (e : Nat → V) (hl : xs.length = ys.length) (hn : xs.length ≤ 900) (nD : H1 D = none)
    (qx : RZM.SqS t1 K H1 a xs) (qy : RZM.SqS t2 K H1 b ys)
    (hs : ∀ (i : Nat) (x y : V) (T : Addr) (H' : Hp) (R : V → Hp → Prop) (N : Hp → Prop), xs[i]? = some x → ys[i]? = some y → Same H1 H' → H' T = some (.tup [x, y]) → (f i = true → ∀ H'', Same H' H'' → R (e i) H'') → (f i = false → ∀ H'', Same H' H'' → N H'') →
      g (.ref T) (wipe σ vs) H' fun σ2 H2 => wipe σ2 vs = wipe σ vs ∧ tt σ2 H2 fun b H3 => if b = true then te σ2 H3 R else N H3)
    (hd : ∀ H', Same H1 H' → H' D = some (.lst (((List.range xs.length).filter f).map e)) → Qd H') :
    ∃ W : Nat → Nat → Hp → Prop, (∃ m, W 0 m (upd H1 D (.lst []))) ∧ ∀ i m H, W i m H →
      ((RZM.ItzS t1 t2 K a b).stop i H ∧ Qd H) ∨ ((RZM.ItzS t1 t2 K a b).go i H ∧ ∃ Nx : Hp → Prop, (∀ H', Nx H' → ∃ m', m' < m ∧ W (i + 1) m' H') ∧ ∀ x H', (RZM.ItzS t1 t2 K a b).yld i H x H' → g x (wipe σ vs) H' fun σ2 H2 => wipe σ2 vs = wipe σ vs ∧ tt σ2 H2 fun b H3 =>
        if b = true then te σ2 H3 fun y H4 => ∃ acc, H4 D = some (.lst acc) ∧ acc.length < sizeLine ∧ Nx (upd H4 D (.lst (acc ++ [y]))) else Nx H3) := by
  refine lc_zipS hl (fun i H' => AccV H1 D (((List.range i).filter f).map e) H') ⟨same_new nD, upd_same⟩ (fun i H' hP => ⟨sqs_same hP.1 qx, sqs_same hP.1 qy⟩) (fun i x y T H' hx hy hP nT => ?_) (fun H' hP => hd H' hP.1 hP.2)
  have hi : i < xs.length := (List.getElem?_eq_some_iff.mp hx).1
  have sT : Same H' (upd H' T (.tup [x, y])) := same_new nT
  have hP2 := hP.mv sT
  refine hs i x y T _ _ _ hx hy hP2.1 upd_same (fun c H'' s => ?_) (fun c H'' s => ?_)
  · rw [range_snoc, if_pos c]
    exact hP2.put nD (Nat.le_trans (range_len _ _ _) (by omega)) s
  · show AccV _ _ _ _
    rw [range_snoc, c, if_neg Bool.false_ne_true]
    exact hP2.mv s
theorem lc_seqV {K : PySem.W.Frag} {a : Addr} {xs : List V} {tl : TE} {g : TG} {tt : TT} {te : TE} {vs : List Nat} {σ : L2.St} {H : Hp} {Q : VK} (f : Nat → Bool) (e : Nat → V)
    (ht0 : ∀ Q : VK, Q (.ref a) H → tl σ H Q) (hq : Sq K H a xs) (hn : xs.length ≤ 900)
    (hs : ∀ (i : Nat) (x : V) (H' : Hp) (R : V → Hp → Prop) (N : Hp → Prop), xs[i]? = some x → Same H H' → (f i = true → ∀ H'', Same H' H'' → R (e i) H'') → (f i = false → ∀ H'', Same H' H'' → N H'') →
      g x (wipe σ vs) H' fun σ2 H2 => wipe σ2 vs = wipe σ vs ∧ tt σ2 H2 fun b H3 => if b = true then te σ2 H3 R else N H3)
    (hd : ∀ D H', H D = none → Same H H' → H' D = some (.lst (((List.range xs.length).filter f).map e)) → Q (.ref D) H') :
    tLc (iSeq K tl) g tt te vs σ H Q := by
  refine lc_seq (fun D i H' => AccV H D (((List.range i).filter f).map e) H') ht0 hq (fun D nD => ⟨same_new nD, upd_same⟩) (fun D i H' _ _ hP => hP.1) (fun D i x H' nD hx hP => ?_) (fun D H' nD hP => hd D H' nD hP.1 hP.2)
  have hi : i < xs.length := (List.getElem?_eq_some_iff.mp hx).1
  refine hs i x _ _ _ hx hP.1 (fun c H'' s => ?_) (fun c H'' s => ?_)
  · rw [range_snoc, if_pos c]
    exact hP.put nD (Nat.le_trans (range_len _ _ _) (by omega)) s
  · show AccV _ _ _ _
    rw [range_snoc, c, if_neg Bool.false_ne_true]
    exact hP.mv s
theorem range_all {α : Type} (e : Nat → α) (n : Nat) : ((List.range n).filter fun _ => true).map e = (List.range n).map e := by
  rw [List.filter_eq_self.mpr fun _ _ => rfl]
theorem ret_cb_lc {r : List V → Hp → VK → Prop} {wi : TI} {g : TG} {tt : TT} {te : TE} {vs : List Nat} {D : Ends} {σ : L2.St} {H : Hp} (h : tLc wi g tt te vs σ H fun v H1 => r [v] H1 D.rt) : tRet (tCB r (tCons (tLc wi g tt te vs) tNil)) D σ H := h
theorem lc_tupV {K : PySem.W.Frag} {a : Addr} {xs : List V} {g : TG} {tt : TT} {te : TE} {vs : List Nat} {σ : L2.St} {H : Hp} {D : Addr} {Qd : Hp → Prop} (f : Nat → Bool) (e : Nat → V)
    (hq : SqT K H a xs) (hn : xs.length ≤ 900) (nD : H D = none)
    (hs : ∀ (i : Nat) (x : V) (H' : Hp) (R : V → Hp → Prop) (N : Hp → Prop), xs[i]? = some x → Same H H' → (f i = true → ∀ H'', Same H' H'' → R (e i) H'') → (f i = false → ∀ H'', Same H' H'' → N H'') →
      g x (wipe σ vs) H' fun σ2 H2 => wipe σ2 vs = wipe σ vs ∧ tt σ2 H2 fun b H3 => if b = true then te σ2 H3 R else N H3)
    (hd : ∀ H', Same H H' → H' D = some (.lst (((List.range xs.length).filter f).map e)) → Qd H') :
    ∃ W : Nat → Nat → Hp → Prop, (∃ m, W 0 m (upd H D (.lst []))) ∧ ∀ i m H, W i m H →
      ((Itt K a).stop i H ∧ Qd H) ∨ ((Itt K a).go i H ∧ ∃ Nx : Hp → Prop, (∀ H', Nx H' → ∃ m', m' < m ∧ W (i + 1) m' H') ∧ ∀ x H', (Itt K a).yld i H x H' → g x (wipe σ vs) H' fun σ2 H2 => wipe σ2 vs = wipe σ vs ∧ tt σ2 H2 fun b H3 =>
        if b = true then te σ2 H3 fun y H4 => ∃ acc, H4 D = some (.lst acc) ∧ acc.length < sizeLine ∧ Nx (upd H4 D (.lst (acc ++ [y]))) else Nx H3) := by
  refine lc_tup (fun i H' => AccV H D (((List.range i).filter f).map e) H') ⟨same_new nD, upd_same⟩ (fun i H' _ hP => seqT_same hP.1 hq) (fun i x H' hx hP => ?_) (fun H' hP => hd H' hP.1 hP.2)
  have hi : i < xs.length := (List.getElem?_eq_some_iff.mp hx).1
  refine hs i x _ _ _ hx hP.1 (fun c H'' s => ?_) (fun c H'' s => ?_)
  · rw [range_snoc, if_pos c]
    exact hP.put nD (Nat.le_trans (range_len _ _ _) (by omega)) s
  · show AccV _ _ _ _
    rw [range_snoc, c, if_neg Bool.false_ne_true]
    exact hP.mv s
theorem nx_go {f : L2.St → Hp → Prop} {D : Ends} {σ : L2.St} {H : Hp} (hD : D.nx = f) (h : f σ H) : tNext D σ H := by
  unfold tNext
  rw [hD]
  exact h
theorem if_lcOp {r : R2} {wi : TI} {g : TG} {tt : TT} {te tb : TE} {vs : List Nat} {t1 t2 rest : TS} {D : Ends} {σ : L2.St} {H : Hp}
    (h : tLc wi g tt te vs σ H fun x H1 => tb σ H1 fun y H2 => r x y H2 fun v H3 => ∃ b, v = .bl b ∧ if b = true then t1 { D with nx := rest D } σ H3 else t2 { D with nx := rest D } σ H3) :
    tSeq (tIfS (tTest (tOp r (tLc wi g tt te vs) tb)) t1 t2) rest D σ H := h
theorem lc_listD2 {K : PySem.W.Frag} {a : Addr} {xs : List V} {ds : List PyData} {tt : TT} {te : TE} {vs : List Nat} {σ : L2.St} {H : Hp} {D : Addr} {Qd : Hp → Prop} {j : Nat} (f : PyData → Bool) (e : PyData → PyData)
    (hq : SqL K H a xs) (hx : DqAll H xs ds) (nD : H D = none) (hl : ds.length ≤ 900) (hw : ∀ x : V, wipe ((wipe σ vs).set j (some x)) vs = wipe σ vs)
    (ht : ∀ (i : Nat) (x : V) (d : PyData) (H' : Hp) (Q : Bool → Hp → Prop), ds[i]? = some d → Same H H' → Dq H' x d → (∀ H'', Same H' H'' → Q (f d) H'') → tt ((wipe σ vs).set j (some x)) H' Q)
    (he : ∀ (i : Nat) (x : V) (d : PyData) (H' : Hp) (Q : VK), ds[i]? = some d → f d = true → Dq H x d → Same H H' → Dq H' x d → (∃ acc, H' D = some (.lst acc)) → (∀ y H'', Same H' H'' → Dq (TkS.Off D H'') y (e d) → Q y H'') → te ((wipe σ vs).set j (some x)) H' Q)
    (hd : ∀ H', Same H H' → Dq H' (.ref D) (.list ((ds.filter f).map e)) → Qd H') :
    ∃ W : Nat → Nat → Hp → Prop, (∃ m, W 0 m (upd H D (.lst []))) ∧ ∀ i m H, W i m H →
      ((Itl K a).stop i H ∧ Qd H) ∨ ((Itl K a).go i H ∧ ∃ Nx : Hp → Prop, (∀ H', Nx H' → ∃ m', m' < m ∧ W (i + 1) m' H') ∧ ∀ x H', (Itl K a).yld i H x H' → gName j x (wipe σ vs) H' fun σ2 H2 => wipe σ2 vs = wipe σ vs ∧ tt σ2 H2 fun b H3 =>
        if b = true then te σ2 H3 fun y H4 => ∃ acc, H4 D = some (.lst acc) ∧ acc.length < sizeLine ∧ Nx (upd H4 D (.lst (acc ++ [y]))) else Nx H3) := by
  refine lc_list (xs := xs) (fun i H' => Acc H D (((ds.take i).filter f).map e) H') (Acc.nil nD) (fun i H' _ hP => hP.1.seq hq) (fun i x H' hxi hP => ?_) (fun H' hP => ?_)
  · obtain ⟨d, hdi, kd⟩ := hx.get hxi
    have kd1 := kd.same hP.1
    refine ⟨hw _, ht i x d H' _ hdi hP.1 kd1 fun H2 s2 => ?_⟩
    have hP2 := hP.mv s2
    cases c : f d with
    | true =>
      refine he i x d H2 _ hdi c kd hP2.1 (kd1.same s2) ⟨_, hP2.2.choose_spec.1⟩ fun y H3 s3 k => ?_
      rw [filter_snoc _ _ hdi, if_pos c]
      refine hP2.put nD ?_ s3 k
      have := len_ft f e (ds.take i)
      rw [List.length_take] at this
      omega
    | false =>
      show Acc _ _ _ _
      rw [filter_snoc _ _ hdi, c, if_neg Bool.false_ne_true]
      exact hP2
  · rw [hx.len, List.take_length] at hP
    exact hd H' hP.1 hP.dq
theorem same_off {H H' : Hp} {D : Addr} (nD : H D = none) (s : Same H H') : Same H (TkS.Off D H') := fun b o e => off_at (ne_of_none e nD) (s _ _ e)
end TkS
set_option Elab.async false
set_option linter.all false
set_option maxRecDepth 100000
set_option maxHeartbeats 4000000
/-! errors with an own __init__ whose context is known to be None; a try whose suite raises another error -/
namespace TkS
open PySem PySem.Spec PyProof.Rows L2
theorem CX.ofN {P : Program} {w : World} {outer : List Env} {H : Hp} {s : Shared} {E : XK} {u : Value} {s' : Shared} (c : L2N.CX P w outer H s E u s') : L2.CX P w outer H s E u s' := by
  obtain ⟨a, B, H', cls, d, e, fl, r⟩ := c
  exact ⟨a, B, H', cls, d, e, L2H.flyingZ_imp (fun _ z => z.zc) fl, r⟩
theorem FnOk.ofN {P : Program} {w : World} {K : PySem.W.Frag} {mg : Str → Option Value} {base : Heap} {k : Nat} {f : Addr} {fd : FuncData} {ps : List Str} {sp : Sp} (F : FnOk P w K mg base (L2N.CX P w) k f fd ps sp) : FnOk P w K mg base (L2.CX P w) k f fd ps sp :=
  ⟨F.len, fun A outer s H args us vs Q E hr e0 hb r hsp => codeAny_mono (F.run A outer s H args us vs Q E hr e0 hb r hsp) fun r s' h => by
    cases r with
    | error e => exact CX.ofN h
    | ok fl => cases fl <;> exact h⟩
theorem Fun.okN {P : Program} {w : World} {K : PySem.W.Frag} {mg : Str → Option Value} {base : Heap} {x qual : Str} {st : Stmt} {f : Addr} {fd : FuncData} {N ps : List Str} {k : Nat} {sp : Sp} (F : Fun K x qual st f fd) (S : FnScope N ps (defScope st)) (len : ∀ vs H Q E, sp vs H Q E → vs.length = ps.length)
    (hbody : ∀ (cdv : Value) (A : Around) (outer : List Env) (s : Shared) (H : Hp) (vs : List V) (Q : VK) (E : XK), Room k (A.deeper (envOfC qual (defScope st) s.heap.objs.size f cdv)) → sp vs H Q E →
      ∃ t, PSs (cxOf (L2N.CX P w) P w K mg base N qual (defScope st) f cdv A outer s H E) (defBody st) t ∧ t { nx := fun _ H' => Q .non H', rt := Q } (start N vs) H) : FnOk P w K mg base (L2N.CX P w) (k + 1) f fd ps sp := by
  obtain ⟨oc, od, kV, doc, pm, an, cdv, ct, osl, rfl, lk, hcd⟩ := F.ex
  exact fn_of lk hcd S len fun A outer s H vs Q E hr hsp => hbody cdv A outer s H vs Q E hr hsp
section
variable {X : Cx} {e : Expr} {es : List Expr} {ta : TA} {p pos : Pos}
theorem mk_endN {pins : List (Addr × Obj)} {σ : L2.St} {H1 H2 : Hp} {Q : XK} {hp hp2 h2 : Heap} {g1 g2 : Array GenState} {d1 d2 : Drawn} {t1 t2 : Nat} {os1 os2 : OsState} {a C d p : Addr} {fs : List (Str × V)} (T : Raises X (.ref C)) (I1 : Inv X pins σ H1 ⟨hp, g1, d1, t1, os1⟩)
    (ha : hp.objs.size ≤ a) (k : ∀ b o, hp.get? b = some o → hp2.get? b = some o) (un : Un (frs X.stack) [] (upd H1 a (exo a C none)) H2 hp2 h2) (hok : HOk X.prog X.w H2 h2) (ho : os2 = os1) (hb : AllBare g2)
    (ea : H2 a = some (exo a C (some d))) (ed : H2 d = some (exd d fs)) (hd1 : H1 d = none) (q : Q (.ref C) (some d) (upd (del H2 a) d (.xd fs))) : L2N.MkP X pins σ Q (.ref a) ⟨h2, g2, d2, t2, os2⟩ := by
  obtain ⟨t0, G, J, kG, ge, hoe, na⟩ := mk_end0 (d2 := d2) (t2 := t2) I1 ha k un hok ho hb ea ed hd1
  refine ⟨a, _, _, ⟨G, g2, d2, t2, os2⟩, _, .ref C, some d, rfl, J, kG, ge, hoe, ⟨rfl, rfl, fun vs hv => ?_⟩, rfl, rfl, na, rfl, hb, T, q⟩
  cases hv
  rfl
theorem pmkN_oex {CX : CXT} {x : Str} {C fI : Addr} {k : Nat} {fd : FuncData} {ps : List Str} {sp : Sp} {ds : List Value} {dvs : List V} (T : OexC X.K C) (iC : PySem.W.findIn X.K (.ref C) "__init__" = some (some (.ref fI))) (tI : PySem.W.typeIn X.K (.ref fI) = some (.type "function"))
    (F1 : FnOk X.prog X.w X.K X.mg X.base CX k fI fd ps sp) (hr : Room (k + 1) X.A) (hb : Binds X.K fd ps ds) (hd : Vals dvs ds) (hx : Passes CX X (fun _ _ _ => False)) (hg : Gl X x) (hm : X.mg x = some (.ref C)) (ha : PA X (e :: es) ta)
    (hdb : (x == ("__debug__" : Str)) = false := by decide) (he : starEach (e :: es) X.env = (false, eval e X.env) :: starEach es X.env := by rfl) (hpl : (backTo pos (starEach es X.env)).any (·.1) = false := by rfl) :
    L2N.PMk X (.Call (.Name x p) (e :: es) [] pos) (tMkO C sp dvs ta) := by
  intro pins s σ H Q I h
  obtain ⟨nm, q, N, bs, bm, sn, sub, ab, col, dd, k0, k1, k2, k3, k5, hC, hbm⟩ := T.cls
  refine wpAny_Call_Name_kw (ld_glob I hg hm ?_ hdb)
  refine PySem.W.callWith_K (h₀ := X.base) I.ok.mod.kin T.kC (thn (ha.run pos pins s σ H _ I h) fun us s1 ⟨vs, H1, I1, r1, hz, q1⟩ => ⟨I1.kIn, ?_⟩) he hpl
  show wpAny _ _ (call (.ref C) us) _ _ _
  obtain ⟨hp, g, dr, tk, os⟩ := s1
  have hsz : hp.objs.size ≤ hp.objs.size + 1 := Nat.le_succ _
  have hn : H1 (hp.objs.size + 1) = none := I1.hok.fresh hsz
  have hq := q1 (hp.objs.size + 1) hn
  have kk : ∀ b o, hp.get? b = some o → ((hp.push (PySem.W.kdv_tup us)).push (PySem.HandSPX.excO C hp.objs.size)).get? b = some o := fun b o e => Heap.get?_push_of_some _ (Heap.get?_push_of_some _ e)
  have hget : ((hp.push (PySem.W.kdv_tup us)).push (PySem.HandSPX.excO C hp.objs.size)).get? (hp.objs.size + 1) = some (PySem.HandSPX.excO C hp.objs.size) := by heap_get
  have I2 : Inv X pins σ (upd H1 (hp.objs.size + 1) (exo (hp.objs.size + 1) C none)) ⟨(hp.push (PySem.W.kdv_tup us)).push (PySem.HandSPX.excO C hp.objs.size), g, dr, tk, os⟩ :=
    I1.laid (t' := tk) (a := hp.objs.size + 1) (o := exo (hp.objs.size + 1) C none) (h' := (hp.push (PySem.W.kdv_tup us)).push (PySem.HandSPX.excO C hp.objs.size)) kk hsz (exo_ok hget)
  have r2 : Vals (V.ref (hp.objs.size + 1) :: (vs ++ dvs)) (Value.ref (hp.objs.size + 1) :: (us ++ ds)) := .cons rfl (r1.append hd)
  have hl : (Value.ref (hp.objs.size + 1) :: us ++ ds).length = ps.length := by
    have e := r2.length
    rw [F1.len _ _ _ _ hq] at e
    exact e.symm
  have hus : us.length ≤ sizeLine := by
    rw [← Paired.length r1, sizeLine_eq]
    omega
  refine wpAny_call (PySem.HandSPX.call_own F.excBase_ValueError (fun Y => PySem.HandSPX.refsVE_contains Y bm hbm) (I1.kIn _ _ hC) (PySem.W.looks_findIn I1.kIn iC) (fun self => PySem.W.bind_fn I1.kIn self tI) hus
    (codeAny_mono (F1.run _ X.stack _ _ ⟨Value.ref (hp.objs.size + 1) :: us, []⟩ (Value.ref (hp.objs.size + 1) :: (us ++ ds)) _ _ (fun _ _ _ => False) (hr.make C us []) (I2.env0.make C us []) (hb _ (Value.ref (hp.objs.size + 1) :: us) I2.kIn hl) r2 hq) fun r s' hq' => ?_))
  cases r with
  | error er => exact hx pins σ _ _ er s' I2 hq'
  | ok fl =>
    cases fl with
    | ret u =>
      obtain ⟨v, H2, os2, bare2, un2, hok2, rv, ev, d, fs, ea, ed, hd1, q2⟩ := hq'
      subst ev
      obtain ⟨h2, g2, d2, t2, os'⟩ := s'
      exact ⟨rv, mk_endN (p := hp.objs.size) (raises_own T.exC T.tyC) I1 hsz kk un2 hok2 os2 bare2 ea ed hd1 q2⟩
    | next => exact False.elim hq'
    | brk => exact False.elim hq'
    | cont => exact False.elim hq'
end
theorem Fun.okH {P : Program} {w : World} {K : PySem.W.Frag} {mg : Str → Option Value} {base : Heap} {x qual : Str} {st : Stmt} {f : Addr} {fd : FuncData} {N ps : List Str} {k : Nat} {sp : Sp} (F : Fun K x qual st f fd) (S : FnScope N ps (defScope st)) (len : ∀ vs H Q E, sp vs H Q E → vs.length = ps.length)
    (hbody : ∀ (cdv : Value) (A : Around) (outer : List Env) (s : Shared) (H : Hp) (vs : List V) (Q : VK) (E : XK) (p : Addr × Obj), L2H.Hot1 A p → L2H.RoomH k (A.deeper (envOfC qual (defScope st) s.heap.objs.size f cdv)) → sp vs H Q E →
      ∃ t, PSs (L2H.cxH CX0 P w K mg base N qual (defScope st) f cdv A outer s H E p) (defBody st) t ∧ t { nx := fun _ H' => Q .non H', rt := Q } (start N vs) H) : L2H.FnH P w K mg base CX0 (k + 1) f fd ps sp := by
  obtain ⟨oc, od, kV, doc, pm, an, cdv, ct, osl, rfl, lk, hcd⟩ := F.ex
  exact L2H.fn_ofH lk hcd S len fun A outer s H vs Q E p hot hr hsp => hbody cdv A outer s H vs Q E p hot hr hsp
end TkS
set_option Elab.async false
set_option linter.all false
set_option maxRecDepth 100000
set_option maxHeartbeats 4000000
/-! data that the hand can't be part of: a hand's first item is a list -/
namespace TkS
open PySem PySem.Spec PyProof.Rows L2
def hdD : PyData → Bool
  | .list [.list _, .int _, .int _, .int _] => true
  | _ => false
mutual
def noHd : PyData → Bool
  | .list ds => !hdD (.list ds) && noHds ds
  | .tuple ds => noHds ds
  | _ => true
def noHds : List PyData → Bool
  | [] => true
  | d :: ds => noHd d && noHds ds
end
mutual
theorem dq_hd {H H' : Hp} {h c : Addr} {cs : List V} {p r t : Int} (hh : H h = some (.lst [.ref c, .int p, .int r, .int t])) (hc : H c = some (.lst cs)) (k : ∀ b o, b ≠ h → H b = some o → H' b = some o) : ∀ {v : V} (d : PyData), noHd d = true → Dq H v d → Dq H' v d
  | _, .none, _, .non => .non
  | _, .bool _, _, .bl b => .bl b
  | _, .int _, _, .int i => .int i
  | _, .str _, _, .str x => .str x
  | _, .list ds, n, .lst e u => by
    have n' : (!hdD (.list ds) && noHds ds) = true := n
    obtain ⟨n1, n2⟩ := Bool.and_eq_true_iff.mp n'
    refine .lst (k _ _ (fun z => ?_) e) (dqs_hd hh hc k ds n2 u)
    rw [z, hh] at e
    cases e
    cases u with
    | cons u0 u =>
      cases u with
      | cons u1 u =>
        cases u with
        | cons u2 u =>
          cases u with
          | cons u3 u =>
            cases u
            cases u1
            cases u2
            cases u3
            cases u0 with
            | lst e0 _ => exact absurd n1 (by simp [hdD])
            | tup e0 _ =>
              rw [hc] at e0
              cases e0
  | _, .tuple ds, n, .tup e u => .tup (k _ _ (fun z => by rw [z, hh] at e; cases e) e) (dqs_hd hh hc k ds n u)
theorem dqs_hd {H H' : Hp} {h c : Addr} {cs : List V} {p r t : Int} (hh : H h = some (.lst [.ref c, .int p, .int r, .int t])) (hc : H c = some (.lst cs)) (k : ∀ b o, b ≠ h → H b = some o → H' b = some o) : ∀ {vs : List V} (ds : List PyData), noHds ds = true → DqAll H vs ds → DqAll H' vs ds
  | _, [], _, .nil => .nil
  | _, d :: ds, n, .cons u v => .cons (dq_hd hh hc k d (by
      have n' : (noHd d && noHds ds) = true := n
      exact (Bool.and_eq_true_iff.mp n').1) u) (dqs_hd hh hc k ds (by
      have n' : (noHd d && noHds ds) = true := n
      exact (Bool.and_eq_true_iff.mp n').2) v)
end
theorem noHds_all {ds : List PyData} : noHds ds = true ↔ ∀ d ∈ ds, noHd d = true := by
  induction ds with
  | nil => exact ⟨(fun _ _ m => nomatch m), (fun _ => rfl)⟩
  | cons a ds ih =>
    show (noHd a && noHds ds) = true ↔ _
    rw [Bool.and_eq_true, ih]
    constructor
    · rintro ⟨h1, h2⟩ d m
      rcases List.mem_cons.mp m with e | m
      · rw [e]; exact h1
      · exact h2 d m
    · exact fun h => ⟨h a List.mem_cons_self, fun d m => h d (List.mem_cons_of_mem _ m)⟩
theorem noHd_list {ds : List PyData} (h : ∀ d ∈ ds, noHd d = true) (n : ds.length ≠ 4 ∨ ∀ d ∈ ds, ∀ es, d ≠ .list es) : noHd (.list ds) = true := by
  show (!hdD (.list ds) && noHds ds) = true
  rw [noHds_all.mpr h, Bool.and_true]
  cases c : hdD (.list ds) with
  | false => rfl
  | true =>
    exfalso
    unfold hdD at c
    split at c
    · rename_i es a b cc e
      cases e
      rcases n with n | n
      · exact n rfl
      · exact n _ List.mem_cons_self es rfl
    · cases c
theorem noHd_tup {ds : List PyData} (h : ∀ d ∈ ds, noHd d = true) : noHd (.tuple ds) = true := noHds_all.mpr h
/-! data of before stands beside a new object -/
mutual
theorem dq_new {H : Hp} {l : Addr} {o : HO} (n : H l = none) : ∀ {v : V} (d : PyData), Dq H v d → Dq (TkS.Off l (upd H l o)) v d
  | _, .none, .non => .non
  | _, .bool _, .bl b => .bl b
  | _, .int _, .int i => .int i
  | _, .str _, .str x => .str x
  | _, .list _, .lst e t => .lst (off_at (ne_of_none e n) ((same_new n) _ _ e)) (dqs_new n _ t)
  | _, .tuple _, .tup e t => .tup (off_at (ne_of_none e n) ((same_new n) _ _ e)) (dqs_new n _ t)
theorem dqs_new {H : Hp} {l : Addr} {o : HO} (n : H l = none) : ∀ {vs : List V} (ds : List PyData), DqAll H vs ds → DqAll (TkS.Off l (upd H l o)) vs ds
  | _, [], .nil => .nil
  | _, _ :: _, .cons k t => .cons (dq_new n _ k) (dqs_new n _ t)
end
end TkS
set_option Elab.async false
set_option linter.all false
set_option maxRecDepth 100000
set_option maxHeartbeats 4000000
set_option exponentiation.threshold 5000
/-! data of bounded depth, width and numbers: it can be laid, shown, compared -/
namespace TkS
open PySem PySem.Spec PyProof.Rows L2
def mild : Nat → PyData → Bool
  | _, .none => true
  | _, .bool _ => true
  | _, .int i => decide (i.natAbs < 10 ^ 121)
  | _, .str x => PyData.canLay0 (.str x) && decide ((PyData.shown (.str x)).length ≤ 130)
  | n + 1, .list ds => decide (ds.length ≤ 40) && ds.all (mild n)
  | n + 1, .tuple ds => decide (ds.length ≤ 40) && ds.all (mild n)
  | _, _ => false
theorem int_len {i : Int} (h : i.natAbs < 10 ^ 121) : (PyData.shown (.int i)).length ≤ 130 := by
  have e : PyData.shown (.int i) = Str.ofString (toString i) := by simp only [PyData.shown]
  rw [e, PySem.ofString_length]
  have nat : ∀ n : Nat, n < 10 ^ 121 → n.repr.length ≤ 121 := fun n hn => by
    have : n.repr = String.ofList (Nat.toDigits 10 n) := rfl
    rw [this, String.length_ofList]
    exact (Nat.length_toDigits_le_iff (by decide) (by decide)).mpr hn
  have e2 : toString i = i.repr := rfl
  rw [e2]
  cases i with
  | ofNat m =>
    have := nat m h
    show m.repr.length ≤ 130
    omega
  | negSucc m =>
    have := nat (m + 1) h
    show ("-" ++ (m + 1).repr).length ≤ 130
    rw [String.length_append]
    have : ("-" : String).length = 1 := by decide
    omega
def bnd : Nat → Nat
  | 0 => 130
  | n + 1 => 40 * (bnd n + 2) + 10
theorem bnd_ge : ∀ n, 130 ≤ bnd n
  | 0 => Nat.le_refl _
  | n + 1 => by
    have := bnd_ge n
    show 130 ≤ 40 * (bnd n + 2) + 10
    omega
theorem join_le (n : Nat) : ∀ ts : List Str, (∀ t ∈ ts, t.length ≤ n) → (Str.join ", " ts).length ≤ ts.length * (n + 2)
  | [], _ => by
    show (0 : Nat) ≤ _
    omega
  | [x], h => by
    show x.length ≤ _
    have := h x List.mem_cons_self
    rw [List.length_singleton]
    omega
  | x :: y :: r, h => by
    have ih := join_le n (y :: r) fun t m => h t (List.mem_cons_of_mem _ m)
    show (x ++ ", " ++ Str.join ", " (y :: r)).length ≤ _
    have e2 : ((", " : String) : Str).length = 2 := rfl
    rw [strLen_append, strLen_append, e2]
    have := h x List.mem_cons_self
    have e3 : (x :: y :: r).length * (n + 2) = (y :: r).length * (n + 2) + (n + 2) := by
      rw [List.length_cons, Nat.succ_mul]
    rw [e3]
    omega
structure Mild (n : Nat) (d : PyData) : Prop where
  lay : d.canLay0 = true
  dep : d.depth ≤ n
  sh : d.showable = true
  len : d.shown.length ≤ bnd n
theorem log_small {i : Int} (h : i.natAbs < 10 ^ 121) : i.natAbs.log2 < 1920 := by
  have : i.natAbs < 2 ^ 1920 := Nat.lt_of_lt_of_le h (by decide)
  by_cases z : i.natAbs = 0
  · rw [z]
    decide
  · exact (Nat.log2_lt z).mpr this
theorem mild_is : ∀ (n : Nat) (d : PyData), mild n d = true → Mild n d
  | n, .none, _ => ⟨by simp [PyData.canLay0], by simp [PyData.depth], by simp [PyData.showable], by
    have : (PyData.shown .none).length = 4 := by decide +kernel
    have := bnd_ge n
    omega⟩
  | n, .bool b, _ => ⟨by simp [PyData.canLay0], by simp [PyData.depth], by simp [PyData.showable], by
    have : (PyData.shown (.bool b)).length ≤ 5 := by cases b <;> decide +kernel
    have := bnd_ge n
    omega⟩
  | n, .int i, h => ⟨by simp [PyData.canLay0], by simp [PyData.depth], by
    have h' : i.natAbs < 10 ^ 121 := by
      unfold mild at h
      exact of_decide_eq_true h
    simp only [PyData.showable]
    exact decide_eq_true (log_small h'), by
    have h' : i.natAbs < 10 ^ 121 := by
      unfold mild at h
      exact of_decide_eq_true h
    exact Nat.le_trans (int_len h') (bnd_ge n)⟩
  | n, .str x, h => by
    have h' : (PyData.canLay0 (.str x) && decide ((PyData.shown (.str x)).length ≤ 130)) = true := by
      unfold mild at h
      exact h
    rw [Bool.and_eq_true] at h'
    exact ⟨h'.1, by simp [PyData.depth], by simp [PyData.showable], Nat.le_trans (of_decide_eq_true h'.2) (bnd_ge n)⟩
  | 0, .list ds, h => by
    unfold mild at h
    cases h
  | 0, .tuple ds, h => by
    unfold mild at h
    cases h
  | n, .dict k, h => by
    unfold mild at h
    cases n <;> cases h
  | n + 1, .list ds, h => by
    have h' : (decide (ds.length ≤ 40) && ds.all (mild n)) = true := by
      unfold mild at h
      exact h
    rw [Bool.and_eq_true] at h'
    have hl := of_decide_eq_true h'.1
    obtain ⟨k1, k2, k3, k4, k5⟩ := mild_all n ds (fun d m => mild_is n d (List.all_eq_true.mp h'.2 d m))
    refine ⟨by simp [PyData.canLay0, k1], by simp only [PyData.depth]; omega, by simp [PyData.showable, k3], ?_⟩
    have e1 : (PyData.list ds).shown = textFrom 0 "[" (PyData.shownAll ds) ++ "]" := by simp only [PyData.shown, listText]
    have e := textFrom_le (bnd n) (PyData.shownAll ds) 0 "[" k4
    rw [e1, strLen_append]
    have e2 : (("[" : Str)).length = 1 := rfl
    have e3 : (("]" : Str)).length = 1 := rfl
    rw [k5, e2] at e
    rw [e3]
    have : ds.length * (bnd n + 2) ≤ 40 * (bnd n + 2) := Nat.mul_le_mul_right _ hl
    show _ ≤ 40 * (bnd n + 2) + 10
    omega
  | n + 1, .tuple ds, h => by
    have h' : (decide (ds.length ≤ 40) && ds.all (mild n)) = true := by
      unfold mild at h
      exact h
    rw [Bool.and_eq_true] at h'
    have hl := of_decide_eq_true h'.1
    obtain ⟨k1, k2, k3, k4, k5⟩ := mild_all n ds (fun d m => mild_is n d (List.all_eq_true.mp h'.2 d m))
    refine ⟨by simp [PyData.canLay0, k1], by simp only [PyData.depth]; omega, by simp [PyData.showable, k3], ?_⟩
    have e := join_le (bnd n) (PyData.shownAll ds) k4
    have e1 : (PyData.tuple ds).shown = ("(" : Str) ++ Str.join ", " (PyData.shownAll ds) ++ (if (PyData.shownAll ds).length == 1 then ",)" else ")" : String) := by simp only [PyData.shown, tupleText]
    rw [e1, strLen_append, strLen_append]
    have e2 : (("(" : Str)).length = 1 := rfl
    have e3 : (((if (PyData.shownAll ds).length == 1 then ",)" else ")" : String) : Str)).length ≤ 2 := by split <;> decide
    rw [e2]
    rw [k5] at e
    have : ds.length * (bnd n + 2) ≤ 40 * (bnd n + 2) := Nat.mul_le_mul_right _ hl
    show _ ≤ 40 * (bnd n + 2) + 10
    omega
where mild_all (n : Nat) : ∀ ds : List PyData, (∀ d ∈ ds, Mild n d) → PyData.canLayAll0 ds = true ∧ PyData.depthAll ds ≤ n ∧ PyData.showableAll ds = true ∧ (∀ t ∈ PyData.shownAll ds, t.length ≤ bnd n) ∧ (PyData.shownAll ds).length = ds.length
  | [], _ => ⟨by simp [PyData.canLayAll0], by simp [PyData.depthAll], by simp [PyData.showableAll], by simp [PyData.shownAll], by simp [PyData.shownAll]⟩
  | d :: ds, h => by
    obtain ⟨k1, k2, k3, k4, k5⟩ := mild_all n ds fun x m => h x (List.mem_cons_of_mem _ m)
    obtain ⟨m1, m2, m3, m4⟩ := h d List.mem_cons_self
    refine ⟨by simp [PyData.canLayAll0, m1, k1], by simp only [PyData.depthAll]; omega, by simp [PyData.showableAll, m3, k3], fun t m => ?_, by simp [PyData.shownAll, k5]⟩
    rw [PyData.shownAll] at m
    rcases List.mem_cons.mp m with e | e
    · rw [e]
      exact m4
    · exact k4 t e
theorem Mild.shaped {n : Nat} {d : PyData} (h : Mild n d) (hn : n ≤ 60) : SeqAt.shaped d = true := by
  unfold SeqAt.shaped
  rw [h.lay, decide_eq_true (by have := h.dep; omega)]
  rfl
theorem Mild.noDict {n : Nat} {d : PyData} (h : Mild n d) : d.hasDict = false := PyData.hasDict_of_canLay d h.lay
theorem Mild.fits {d : PyData} (h : Mild 3 d) : d.shown.length ≤ sizeLine := Nat.le_trans h.len (by decide)
theorem mild_items {n : Nat} {d : PyData} {ds : List PyData} (h : mild (n + 1) d = true) (e : itemsD d = some ds) : ds.length ≤ 40 ∧ ∀ x ∈ ds, mild n x = true := by
  cases d with
  | list es =>
    cases e
    unfold mild at h
    rw [Bool.and_eq_true] at h
    exact ⟨of_decide_eq_true h.1, fun x m => List.all_eq_true.mp h.2 x m⟩
  | tuple es =>
    cases e
    unfold mild at h
    rw [Bool.and_eq_true] at h
    exact ⟨of_decide_eq_true h.1, fun x m => List.all_eq_true.mp h.2 x m⟩
  | _ => cases e
theorem mild_tup {n : Nat} {ds : List PyData} (hl : ds.length ≤ 40) (h : ∀ x ∈ ds, mild n x = true) : mild (n + 1) (.tuple ds) = true := by
  unfold mild
  rw [decide_eq_true hl, List.all_eq_true.mpr h]
  rfl
theorem mild_lst {n : Nat} {ds : List PyData} (hl : ds.length ≤ 40) (h : ∀ x ∈ ds, mild n x = true) : mild (n + 1) (.list ds) = true := by
  unfold mild
  rw [decide_eq_true hl, List.all_eq_true.mpr h]
  rfl
theorem mild_up : ∀ (n : Nat) (d : PyData), mild n d = true → mild (n + 1) d = true
  | n, .none, _ => by unfold mild; rfl
  | n, .bool b, _ => by unfold mild; rfl
  | n, .int i, h => by
    unfold mild at h ⊢
    exact h
  | n, .str x, h => by
    unfold mild at h ⊢
    exact h
  | 0, .list ds, h => by
    unfold mild at h
    cases h
  | 0, .tuple ds, h => by
    unfold mild at h
    cases h
  | n, .dict k, h => by
    unfold mild at h
    cases n <;> cases h
  | n + 1, .list ds, h => by
    obtain ⟨hl, hi⟩ := mild_items h rfl
    exact mild_lst hl fun x m => mild_up n x (hi x m)
  | n + 1, .tuple ds, h => by
    obtain ⟨hl, hi⟩ := mild_items h rfl
    exact mild_tup hl fun x m => mild_up n x (hi x m)
theorem mild_filter {n : Nat} {ds : List PyData} {f : PyData → Bool} (hl : ds.length ≤ 40) (h : ∀ x ∈ ds, mild n x = true) : mild (n + 1) (.list (ds.filter f)) = true :=
  mild_lst (Nat.le_trans (List.length_filter_le _ _) hl) fun x m => h x (List.mem_filter.mp m).1
end TkS
set_option Elab.async false
set_option linter.all false
set_option maxRecDepth 100000
set_option maxHeartbeats 4000000
/-! repr of data of bounded depth, width and numbers -/
namespace TkS
open PySem PySem.Spec PyProof.Rows L2
def rReprM : List V → Hp → VK → Prop := fun xs H Q => ∃ x d, xs = [x] ∧ Dq H x d ∧ mild 3 d = true ∧ Q (.str d.shown) H
theorem call_reprM {X : Cx} (hg : X.A.guards = some []) (hu : X.A.units + 65 < cLine) : CallR X (.builtin "repr") rReprM := by
  intro pins s σ H xs us Q I r h
  obtain ⟨x, d, rfl, k, hm, q⟩ := h
  have M := mild_is 3 d hm
  have big : ∀ a, x = .ref a → wpAny (model X.prog X.w) X.A (call (.builtin "repr") us) (EP X pins σ Q) X.xe s := fun a e => by
    subst e
    exact call_reprD hg hu pins s σ H _ us Q I r ⟨a, d, rfl, k.dp, M.sh, M.noDict, Nat.le_trans M.dep (by decide), M.fits, q⟩
  cases k with
  | non =>
    obtain ⟨u, rfl, ru⟩ := vals1 r
    cases ru
    have e : PyData.shown .none = ("None" : Str) := by simp only [PyData.shown]
    rw [e] at q
    exact PySem.P.repr_of_none ⟨.str _, H, I.tok _, ⟨_, rfl⟩, q⟩
  | bl b =>
    obtain ⟨u, rfl, ru⟩ := vals1 r
    cases ru
    have e : PyData.shown (.bool b) = if b = true then ("True" : Str) else ("False" : Str) := by simp only [PyData.shown]
    rw [e] at q
    exact PySem.P.repr_of_bool ⟨.str _, H, I.tok _, ⟨_, rfl⟩, q⟩
  | int i =>
    obtain ⟨u, rfl, t, rfl⟩ := vals1 r
    have e : PyData.shown (.int i) = Str.ofString (toString i) := by simp only [PyData.shown]
    rw [e] at q
    have hz : i.natAbs.log2 < 1920 := by
      have := M.sh
      simp only [PyData.showable] at this
      exact of_decide_eq_true this
    exact PySem.P.repr_of_int hz ⟨.str _, H, I.tok _, ⟨_, rfl⟩, q⟩
  | str z =>
    obtain ⟨u, rfl, t, rfl⟩ := vals1 r
    have e : PyData.shown (.str z) = reprText z := by simp only [PyData.shown]
    have hs := M.fits
    rw [e] at q hs
    exact PySem.P.repr_of_str ⟨.str _, H, I.tok _, ⟨_, rfl⟩, q⟩ hs
  | lst h1 h2 => exact big _ rfl
  | tup h1 h2 => exact big _ rfl
end TkS
set_option Elab.async false
set_option linter.all false
set_option maxRecDepth 100000
set_option maxHeartbeats 4000000
/-! enumerate of a tuple, and of a list or a tuple -/
namespace TkS
open PySem PySem.Spec PyProof.Rows L2
set_option maxHeartbeats 1000000 in
theorem meets_enum1 {v : Value} {o : Obj} {H : Heap → Prop} (B : Begins v o H) :
    Meets (Builtin.«enumerate.__new__» ⟨[.type "enumerate", v], []⟩) (fun _ R s => H s.heap ∧
      R (.ok (.ret (.ref (s.heap.push o).objs.size))) { s with heap := (s.heap.push o).push { cls := .type "enumerate", data := .fields #[.none, .bool false, .ref s.heap.objs.size, rawInt 0, .none, .none] } }) :=
  .of_wp fun prog w A R s h => by
    obtain ⟨hp, g, d, tk, os⟩ := s
    obtain ⟨b0, h⟩ := h
    have sube := sub_enumerate
    have go : ∀ {A' : Around} {E : Value → Shared → Prop} {Q : Value → Shared → Prop}, Q (.ref hp.objs.size) ⟨hp.push o, g, d, tk, os⟩ → wpAny (model prog w) A' (pyIter v) Q E ⟨hp, g, d, tk, os⟩ := fun q => B.iter prog w _ _ ⟨hp, g, d, tk, os⟩ _ b0 q
    wp_walk using go
    refine wpAny_stack_any fun st => wpAny_pure ?_
    split
    · rename_i k _ _ _ _ _
      cases (k == Value.type "enumerate") <;> (wp_walk using go; exact ⟨_, rfl, h⟩)
    · wp_walk using go
      exact ⟨_, rfl, h⟩
theorem enum_begins1 {prog : Program} {w : World} {A : Around} {E : Value → Shared → Prop} {s : Shared} {v : Value} {o : Obj} {H : Heap → Prop} {Q : Value → Shared → Prop} (B : Begins v o H) (b0 : H s.heap)
    (h : ∀ h', IsEnum h' (s.heap.objs.size + 1) s.heap.objs.size 0 .none → h'.get? s.heap.objs.size = some o → (∀ b ob, s.heap.get? b = some ob → h'.get? b = some ob) → Q (.ref (s.heap.objs.size + 1)) { s with heap := h' }) :
    wpAny (model prog w) A (call (.type "enumerate") [v]) Q E s := by
  refine callType_new F.called_enumerate (by decide) (F.typeCall_enumerate_1 _) (F.newCall_enumerate_1 _) (fun obj => F.args_object_init_2 obj _) F.entry_enumerate_new (meets_enum1 B) ⟨b0, ?_⟩
  have z1 : (s.heap.push o).objs.size = s.heap.objs.size + 1 := Heap.size_push ..
  have e1 : ((s.heap.push o).push { cls := .type "enumerate", data := .fields #[.none, .bool false, .ref s.heap.objs.size, rawInt 0, .none, .none] }).get? (s.heap.push o).objs.size = some _ := Heap.get?_push_size _ rfl
  show _ ∧ _
  rw [z1] at e1 ⊢
  exact ⟨⟨_, e1, rfl⟩, h _ e1 (Heap.get?_push_of_some _ (Heap.get?_push_size _ B.free)) fun b ob z => Heap.get?_push_of_some _ (Heap.get?_push_of_some _ z)⟩
def IteT (K : PySem.W.Frag) (a : Addr) : It :=
  ⟨fun i H => ∃ (xs : List V) (x : V), SqT K H a xs ∧ xs[i]? = some x, fun i H v H' => ∃ T x, v = .ref T ∧ H T = none ∧ H' = upd H T (.tup [.int (i : Nat), x]) ∧ ∀ xs, SqT K H a xs → xs[i]? = some x, fun i H => ∃ xs : List V, SqT K H a xs ∧ xs.length ≤ i⟩
theorem turn_enumT {P : Program} {w : World} {K : PySem.W.Frag} {elts : List Expr} {kk : Nat} {tpos : Pos} (a e it : Addr) (hei : e ≠ it) (hea : e ≠ a) (hai : a ≠ it) :
    Turn P w K (.Tuple elts kk tpos) (IteT K a) [e, it] e (fun i h => (∃ old, IsEnum h e it ((i : Nat) : Int) old) ∧ h.IsTupleIter it a i) where
  mem := by simp
  obj := fun i h st b hb => by
    obtain ⟨⟨old, he⟩, ⟨o, ho, _, hd⟩⟩ := st
    have hb' : b = e ∨ b = it := by simpa using hb
    rcases hb' with z | z
    · subst z
      exact ⟨_, he, fun v q => nomatch q⟩
    · subst z
      exact ⟨o, ho, fun v q => by rw [hd] at q; cases q⟩
  keep := fun i h h' st k => by
    obtain ⟨⟨old, he⟩, hi⟩ := st
    exact ⟨⟨old, k e (by simp) _ he⟩, hi.at fun o q => k it (by simp) o q⟩
  item := by
    intro X hP hw hK hc i pins s σ H E I hf st hg
    subst hP hw hK
    obtain ⟨⟨old, he⟩, hit⟩ := st
    obtain ⟨xs, x, hq, hx⟩ := hg
    obtain ⟨its, rv, p, hz⟩ := I.tuple hq
    obtain ⟨u, hu, ru⟩ := rv.get hx
    have le : e < s.heap.objs.size := Heap.lt_size he
    have li : it < s.heap.objs.size := by
      obtain ⟨_, q, _⟩ := hit
      exact Heap.lt_size q
    have lx : i < its.toArray.size := by
      have := (List.getElem?_eq_some_iff.mp hu).1
      simpa using this
    refine wpAny_pyNext_enum_itemD (Draws.tuple (prog := X.prog) (w := X.w) (A := X.A.in1) (I.ok.hd hc) it a hai its.toArray) he ⟨hit, p⟩ lx hei (by simp [hei, hea]) fun x' h' tk hP ho hst hT hsz hk => ?_
    have ex : x' = u := by
      have : its[i]? = some x' := by simpa using hP
      rw [hu] at this
      exact (Option.some.inj this).symm
    subst ex
    refine ⟨_, rfl, wpAny_letOwnedTupleGo_enum (s := { s with heap := h', toks := tk + 1 }) ho fun h'' he' sb => ?_⟩
    have hT2 : h''.get? s.heap.objs.size = some { cls := .type "tuple", data := .seq #[.int i tk, x'] } := (sb.2 _ (Nat.ne_of_gt le)).trans hT
    have new : ObjOk X.prog X.w (upd H s.heap.objs.size (.tup [.int (i : Nat), x])) h'' s.heap.objs.size (.tup [.int (i : Nat), x]) :=
      ⟨by show 2 ≤ sizeLine; decide, [.int i tk, x'], .cons ⟨_, rfl⟩ (.cons ru .nil), ⟨_, hT2, rfl, _, rfl⟩⟩
    have I1 : Inv X pins σ (upd H s.heap.objs.size (.tup [.int (i : Nat), x])) { s with heap := h'', toks := tk + 1 } :=
      I.turnedNew (ch := [e, it]) (fun b ob hb q => (sb.2 b (fun z => hb (by simp [z]))).trans (hk b ob (fun z => hb (by simp [z])) (fun z => hb (by simp [z])) q)) hf (Nat.le_refl _) new
    refine ⟨.ref s.heap.objs.size, _, I1, rfl, ⟨_, x, rfl, I.hok.fresh (Nat.le_refl _), rfl, fun ys hy => by rw [I.tuple_inj hy hq]; exact hx⟩, ⟨⟨x', ?_⟩, hst.1.at fun o q => (sb.2 it (Ne.symm hei)).trans q⟩, fun b hb => ?_⟩
    · rw [show ((i + 1 : Nat) : Int) = (i : Int) + 1 by omega]
      exact he'
    · have lb : b < s.heap.objs.size := by
        have hb' : b = e ∨ b = it := by simpa using hb
        rcases hb' with z | z <;> (subst z; assumption)
      rw [upd_ne (Nat.ne_of_lt lb)]
      exact (hf b hb).1
  done := by
    intro X hP hw hK hc i pins s σ H E I hf st hg
    subst hP hw hK
    obtain ⟨⟨old, he⟩, hit⟩ := st
    obtain ⟨xs, hq, hx⟩ := hg
    obtain ⟨its, rv, p, hz⟩ := I.tuple hq
    obtain ⟨f0, f1, f2, f3, f4, f5⟩ := hf it (by simp)
    have hl := rv.length
    have D : Draws X.prog X.w X.A.in1 it [it, a] i (fun j v => its.toArray[j]? = some v) (fun j h => j = i ∧ h.IsTupleIter it a j ∧ h.IsTuple a its.toArray) :=
      { live := fun _ _ st => let ⟨o, ho, _⟩ := st.2.1; ⟨o, ho⟩
        frame := fun j h h' st hk => ⟨st.1, (Draws.tuple (prog := X.prog) (w := X.w) (A := X.A.in1) (I.ok.hd hc) it a hai its.toArray).frame j h h' st.2 hk⟩
        item := fun j s' Q' E' hj st' hQ => absurd st'.1 (Nat.ne_of_lt hj)
        done := fun s' Q' E' st' hE => wpAny_nextOf_tuple_end (I.ok.hd hc) st'.2.1 st'.2.2 (by simp; omega) hE }
    exact wpAny_pyNext_enum_endD D he ⟨rfl, hit, p⟩ fun h' eb => ⟨rfl, I.turned (t' := s.toks) (fun b o hb q => eb b o hb q) f0 f1 f3 f4 f5⟩
  self := fun A i s Q E st h => let ⟨⟨_, he⟩, _⟩ := st; wpAny_pyIter_enum he h
def iEnumT (K : PySem.W.Frag) (ta : TA) : TI := fun σ H R => ta σ H fun vs H1 => ∃ a xs, vs = [.ref a] ∧ SqT K H1 a xs ∧ R (IteT K a) H1
theorem pi_enumT {X : Cx} {e : Expr} {ta : TA} {p pos tpos : Pos} {elts : List Expr} {kk : Nat} (hg : Gl X "enumerate") (hm : X.mg "enumerate" = none) (ha : PA X [e] ta) (hs : starEach [e] X.env = [(false, eval e X.env)] := by rfl) :
    PI X (.Tuple elts kk tpos) (.Call (.Name "enumerate" p) [e] [] pos) (iEnumT X.K ta) := by
  refine ⟨fun pins s σ H R I h => ?_⟩
  refine Call_ (ld_blt I hg hm boot_enumerate (PyProof.Rows.callWith_type1 (thn (ha.run pos pins s σ H _ I h) fun us s1 ⟨vs, H1, I1, r1, a, xs, ex, hq, q⟩ => ?_) hs rfl))
  subst ex
  obtain ⟨u, rfl, r⟩ : ∃ u, us = [u] ∧ RelV (.ref a) u := by
    cases r1 with
    | cons r rr =>
      cases rr
      exact ⟨_, rfl, r⟩
  cases r
  obtain ⟨its, rv, p', hz⟩ := I1.tuple hq
  have la : a < s1.heap.objs.size := by
    obtain ⟨_, z, _⟩ := p'
    exact Heap.lt_size z
  refine enum_begins1 (begins_tuple a its.toArray) p' fun h' he hit hk => wpAny_pyIter_enum he ?_
  have I2 : Inv X pins σ H1 { s1 with heap := h' } := I1.kept (t' := s1.toks) hk
  refine ⟨s1.heap.objs.size + 1, [s1.heap.objs.size + 1, s1.heap.objs.size], _, _, H1, rfl, I2, turn_enumT a (s1.heap.objs.size + 1) s1.heap.objs.size (Nat.succ_ne_self _) (Nat.ne_of_gt (Nat.lt_succ_of_lt la)) (Nat.ne_of_lt la), ⟨⟨.none, he⟩, ⟨_, hit, rfl, rfl⟩⟩, fun b hb => ?_, q⟩
  have lb : s1.heap.objs.size ≤ b := by
    have hb' : b = s1.heap.objs.size + 1 ∨ b = s1.heap.objs.size := by simpa using hb
    rcases hb' with z | z <;> rw [z]
    · exact Nat.le_add_right _ _
    · exact Nat.le_refl _
  exact I1.fpOk lb (I1.hok.fresh lb)
def iEnumS (K : PySem.W.Frag) (ta : TA) : TI := fun σ H R => iEnum K ta σ H R ∨ iEnumT K ta σ H R
theorem pi_enumS {X : Cx} {e : Expr} {ta : TA} {p pos tpos : Pos} {elts : List Expr} {kk : Nat} (hg : Gl X "enumerate") (hm : X.mg "enumerate" = none) (ha : PA X [e] ta) (hs : starEach [e] X.env = [(false, eval e X.env)] := by rfl) :
    PI X (.Tuple elts kk tpos) (.Call (.Name "enumerate" p) [e] [] pos) (iEnumS X.K ta) :=
  ⟨fun pins s σ H R I h => h.elim (fun h => (pi_enum hg hm ha hs).run pins s σ H R I h) (fun h => (pi_enumT hg hm ha hs).run pins s σ H R I h)⟩
theorem for_enumS {K : PySem.W.Frag} {a : Addr} {xs : List V} {ta : TA} {g : TG} {tb : TS} {D : Ends} {σ : L2.St} {H : Hp} (Pv : Nat → L2.St → Hp → Prop) (ht : ∀ Q : List V → Hp → Prop, Q [.ref a] H → ta σ H Q) (hq : Sq K H a xs) (h0 : Pv 0 σ H)
    (hl : ∀ i σ H', Pv i σ H' → Same H H')
    (hs : ∀ i x T σ H', xs[i]? = some x → Pv i σ H' → H' T = none → g (.ref T) σ (upd H' T (.tup [.int (i : Nat), x])) fun σ2 H2 => tb { D with nx := Pv (i + 1), ct := Pv (i + 1), bk := D.nx } σ2 H2) (hd : ∀ σ H', Pv xs.length σ H' → D.nx σ H') :
    tFor (iEnumS K ta) g tb D σ H := by
  have walk : ∀ {J : It} {ok : Hp → Prop}, (∀ i H', ok H' → (∀ x, xs[i]? = some x → J.go i H') ∧ (xs.length ≤ i → J.stop i H') ∧ ∀ v H'', J.yld i H' v H'' → ∃ T x, v = .ref T ∧ H' T = none ∧ H'' = upd H' T (.tup [.int (i : Nat), x]) ∧ xs[i]? = some x) → (∀ H', Same H H' → ok H') →
      ∃ W : Nat → Nat → L2.St → Hp → Prop, (∃ m, W 0 m σ H) ∧ ∀ i m σ H, W i m σ H →
        (J.stop i H ∧ D.nx σ H) ∨ (J.go i H ∧ ∃ N : L2.St → Hp → Prop, (∀ σ' H', N σ' H' → ∃ m', m' < m ∧ W (i + 1) m' σ' H') ∧ ∀ v H', J.yld i H v H' → g v σ H' fun σ2 H2 => tb { D with nx := N, ct := N, bk := D.nx } σ2 H2) := fun {J ok} hJ hok => by
    refine ⟨fun i m σ H' => m = xs.length - i ∧ i ≤ xs.length ∧ Pv i σ H', ⟨xs.length, rfl, Nat.zero_le _, h0⟩, ?_⟩
    rintro i m σ' H' ⟨rfl, hi, p⟩
    obtain ⟨j1, j2, j3⟩ := hJ i H' (hok H' (hl i σ' H' p))
    rcases Nat.lt_or_ge i xs.length with hlt | hge
    · refine .inr ⟨j1 _ (List.getElem?_eq_getElem hlt), Pv (i + 1), fun σ2 H2 p2 => ⟨xs.length - (i + 1), by omega, rfl, hlt, p2⟩, fun v H2 y => ?_⟩
      obtain ⟨T, x, rfl, hT, rfl, hx⟩ := j3 v H2 y
      exact hs i x T σ' H' hx p hT
    · have e : i = xs.length := by omega
      subst e
      exact .inl ⟨j2 (Nat.le_refl _), hd σ' H' p⟩
  rcases hq with hq | hq
  · exact .inl (ht _ ⟨a, xs, rfl, hq, walk (J := Ite K a) (ok := fun H' => SqL K H' a xs) (fun i H' z => ⟨fun x hx => ⟨xs, x, z, hx⟩, fun hi => ⟨xs, z, hi⟩, fun v H2 ⟨T, x, e1, e2, e3, e4⟩ => ⟨T, x, e1, e2, e3, e4 xs z⟩⟩) fun H' s => s.seq hq⟩)
  · exact .inr (ht _ ⟨a, xs, rfl, hq, walk (J := IteT K a) (ok := fun H' => SqT K H' a xs) (fun i H' z => ⟨fun x hx => ⟨xs, x, z, hx⟩, fun hi => ⟨xs, z, hi⟩, fun v H2 ⟨T, x, e1, e2, e3, e4⟩ => ⟨T, x, e1, e2, e3, e4 xs z⟩⟩) fun H' s => seqT_same s hq⟩)
end TkS
set_option Elab.async false
set_option linter.all false
set_option maxRecDepth 100000
set_option maxHeartbeats 4000000
/-! a tuple once or more times -/
namespace TkS
open PySem PySem.Spec PyProof.Rows L2
theorem tuple_mul1 (l : Addr) (items : Array Value) (n : Nat) (dd : Option Addr) (sl : Array (Option Value)) (u : Tok) (he : items.isEmpty = false) :
    Meets (Builtin.«tuple.__mul__» ⟨[.ref l, .int 1 u], []⟩) (fun _ R s => s.heap.get? l = some { cls := .type "tuple", dict := dd, data := .seq items n, slots := sl } ∧ R (.ok (.ret (Value.ref l))) s) :=
  .of_wp fun prog w A R s h => by
    obtain ⟨hp, g, d, tk, os⟩ := s
    obtain ⟨hl, h⟩ := h
    have f1 := AutoSeq1.idx_int
    wp_walk using wpAny_loadPart' hl
    exact ⟨_, rfl, h⟩
/-- tuple * k, k from 1 on: once is the tuple itself -/
def rRepN (K : PySem.W.Frag) : R2 := fun x y H Q => ∃ l k xs, x = .ref l ∧ y = .int k ∧ SqT K H l xs ∧ xs ≠ [] ∧ 1 ≤ k ∧ k ≤ 1000 ∧ xs.length ≤ 1000 ∧ (k = 1 → Q (.ref l) H) ∧ (2 ≤ k → ∀ p, H p = none → Q (.ref p) (upd H p (.tup (List.replicate k.toNat xs).flatten)))
theorem op_repN {X : Cx} : OpR X (binaryOp .Mult) (rRepN X.K) := by
  intro pins s σ H x y v u Q I rx ry h
  obtain ⟨l, k, xs, rfl, rfl, hT, hne, h1, h2, hz, q1, q2⟩ := h
  by_cases c : k = 1
  · subst c
    cases rx
    obtain ⟨t, rfl⟩ := ry
    obtain ⟨its, r, ⟨⟨cls, dd, data, sl⟩, ho, hc, n, hd⟩, hs⟩ := I.tuple hT
    simp only at hc hd
    subst hc hd
    have hi : its.toArray.isEmpty = false := by
      cases its with
      | nil =>
        cases r
        exact absurd rfl hne
      | cons a b => rfl
    refine wpAny_binaryOp_repeat_ref (T := "tuple") (U := "int") (by decide) ⟨_, ho, rfl⟩ (fun s' => typeIs_int s' 1 t) noFill_tuple_mul F.fills_int_mul F.slot_int_rmul repeat_tuple F.slot_int_index.lookup
      (call_meets F.slot_int_rmul (typeIs_int s 1 t) F.entry_int_rmul (F.args_int_rmul_2 _ _) (int_rmul_tuple 1 t l its.toArray n dd sl)
        ⟨ho, rfl, ⟨_, ho, rfl⟩, call_meets F.slot_tuple_mul ⟨_, ho, rfl⟩ F.entry_tuple_mul (F.args_tuple_mul_2 _ _) (tuple_mul1 l its.toArray n dd sl t hi) ⟨ho, ?_⟩⟩)
    exact ⟨.ref l, H, I, rfl, q1 rfl⟩
  · exact op_repT pins s σ H _ _ v u Q I rx ry ⟨l, k, xs, rfl, rfl, hT, hne, by omega, h2, hz, q2 (by omega)⟩
end TkS
set_option Elab.async false
set_option linter.all false
set_option maxRecDepth 100000
set_option maxHeartbeats 4000000
set_option exponentiation.threshold 5000
/-! data of bounded depth; repr of up to 64 numbers; list() of data; a callee that raises in no case -/
namespace TkS
open PySem PySem.Spec PyProof.Rows L2
def low : Nat → PyData → Bool
  | _, .none => true
  | _, .bool _ => true
  | _, .int _ => true
  | _, .str x => PyData.canLay0 (.str x)
  | n + 1, .list ds => ds.all (low n)
  | n + 1, .tuple ds => ds.all (low n)
  | _, _ => false
theorem low_is : ∀ (n : Nat) (d : PyData), low n d = true → d.canLay0 = true ∧ d.depth ≤ n
  | n, .none, _ => ⟨by simp [PyData.canLay0], by simp [PyData.depth]⟩
  | n, .bool b, _ => ⟨by simp [PyData.canLay0], by simp [PyData.depth]⟩
  | n, .int i, _ => ⟨by simp [PyData.canLay0], by simp [PyData.depth]⟩
  | n, .str x, h => by
    unfold low at h
    exact ⟨h, by simp [PyData.depth]⟩
  | 0, .list ds, h => by
    unfold low at h
    cases h
  | 0, .tuple ds, h => by
    unfold low at h
    cases h
  | n, .dict k, h => by
    unfold low at h
    cases n <;> cases h
  | n + 1, .list ds, h => by
    unfold low at h
    obtain ⟨k1, k2⟩ := low_all n ds fun d m => low_is n d (List.all_eq_true.mp h d m)
    exact ⟨by simp [PyData.canLay0, k1], by simp only [PyData.depth]; omega⟩
  | n + 1, .tuple ds, h => by
    unfold low at h
    obtain ⟨k1, k2⟩ := low_all n ds fun d m => low_is n d (List.all_eq_true.mp h d m)
    exact ⟨by simp [PyData.canLay0, k1], by simp only [PyData.depth]; omega⟩
where low_all (n : Nat) : ∀ ds : List PyData, (∀ d ∈ ds, d.canLay0 = true ∧ d.depth ≤ n) → PyData.canLayAll0 ds = true ∧ PyData.depthAll ds ≤ n
  | [], _ => ⟨by simp [PyData.canLayAll0], by simp [PyData.depthAll]⟩
  | d :: ds, h => by
    obtain ⟨k1, k2⟩ := low_all n ds fun x m => h x (List.mem_cons_of_mem _ m)
    obtain ⟨m1, m2⟩ := h d List.mem_cons_self
    exact ⟨by simp [PyData.canLayAll0, m1, k1], by simp only [PyData.depthAll]; omega⟩
theorem low_shp {n : Nat} {d : PyData} (h : low n d = true) (hn : n ≤ 60) : SeqAt.shaped d = true := by
  obtain ⟨k1, k2⟩ := low_is n d h
  unfold SeqAt.shaped
  rw [k1, decide_eq_true (by omega)]
  rfl
theorem low_refl {n : Nat} {d : PyData} (h : low n d = true) : PyData.eqv d d = true := SeqAt.eqv_refl d (low_is n d h).1
theorem low_tup {n : Nat} {ds : List PyData} (h : ∀ x ∈ ds, low n x = true) : low (n + 1) (.tuple ds) = true := by
  unfold low
  exact List.all_eq_true.mpr h
theorem low_lst {n : Nat} {ds : List PyData} (h : ∀ x ∈ ds, low n x = true) : low (n + 1) (.list ds) = true := by
  unfold low
  exact List.all_eq_true.mpr h
theorem low_up : ∀ (n : Nat) (d : PyData), low n d = true → low (n + 1) d = true
  | n, .none, _ => by unfold low; rfl
  | n, .bool b, _ => by unfold low; rfl
  | n, .int i, _ => by unfold low; rfl
  | n, .str x, h => by
    unfold low at h ⊢
    exact h
  | 0, .list ds, h => by
    unfold low at h
    cases h
  | 0, .tuple ds, h => by
    unfold low at h
    cases h
  | n, .dict k, h => by
    unfold low at h
    cases n <;> cases h
  | n + 1, .list ds, h => by
    unfold low at h
    exact low_lst fun x m => low_up n x (List.all_eq_true.mp h x m)
  | n + 1, .tuple ds, h => by
    unfold low at h
    exact low_tup fun x m => low_up n x (List.all_eq_true.mp h x m)
theorem low_int {n : Nat} {i : Int} : low n (.int i) = true := by unfold low; rfl
theorem low_ints (ns : List Int) : low 1 (.tuple (ns.map PyData.int)) = true := low_tup fun x m => by
  obtain ⟨i, _, rfl⟩ := List.mem_map.mp m
  exact low_int
theorem low_intsL (ns : List Int) : low 1 (.list (ns.map PyData.int)) = true := low_lst fun x m => by
  obtain ⟨i, _, rfl⟩ := List.mem_map.mp m
  exact low_int
def rReprI : List V → Hp → VK → Prop := fun xs H Q => ∃ (x : V) (d : PyData) (ns : List Int), xs = [x] ∧ Dq H x d ∧ itemsD d = some (ns.map PyData.int) ∧ ns.length ≤ 64 ∧ (∀ n ∈ ns, n.natAbs < 10 ^ 121) ∧ Q (.str d.shown) H
theorem call_reprI {X : Cx} (hg : X.A.guards = some []) (hu : X.A.units + 65 < cLine) : CallR X (.builtin "repr") rReprI := by
  intro pins s σ H xs us Q I r h
  obtain ⟨x, d, ns, rfl, k, e, hl, hs, q⟩ := h
  obtain ⟨k1, k2, k3, k4, k5⟩ := mild_is.mild_all 0 (ns.map PyData.int) (fun d m => by
    obtain ⟨i, hi, rfl⟩ := List.mem_map.mp m
    refine mild_is 0 _ ?_
    unfold mild
    exact decide_eq_true (hs i hi))
  have ll : (PyData.shownAll (ns.map PyData.int)).length ≤ 64 := by rw [k5, List.length_map]; exact hl
  have b0 : bnd 0 = 130 := rfl
  rw [b0] at k4
  cases k with
  | lst h1 h2 =>
    cases e
    refine call_reprD hg hu pins s σ H _ us Q I r ⟨_, _, rfl, (Dq.lst h1 h2).dp, by simp [PyData.showable, k3], PyData.hasDict_of_canLay _ (by simp [PyData.canLay0, k1]), by simp only [PyData.depth]; omega, ?_, q⟩
    have e1 : (PyData.list (ns.map PyData.int)).shown = textFrom 0 "[" (PyData.shownAll (ns.map PyData.int)) ++ "]" := by simp only [PyData.shown, listText]
    have e := textFrom_le 130 (PyData.shownAll (ns.map PyData.int)) 0 "[" k4
    rw [e1, strLen_append]
    have e2 : (("[" : Str)).length = 1 := rfl
    have e3 : (("]" : Str)).length = 1 := rfl
    rw [e2] at e
    rw [e3, sizeLine_eq]
    have : (PyData.shownAll (ns.map PyData.int)).length * (130 + 2) ≤ 64 * (130 + 2) := Nat.mul_le_mul_right _ ll
    omega
  | tup h1 h2 =>
    cases e
    refine call_reprD hg hu pins s σ H _ us Q I r ⟨_, _, rfl, (Dq.tup h1 h2).dp, by simp [PyData.showable, k3], PyData.hasDict_of_canLay _ (by simp [PyData.canLay0, k1]), by simp only [PyData.depth]; omega, ?_, q⟩
    have e := join_le 130 (PyData.shownAll (ns.map PyData.int)) k4
    have e1 : (PyData.tuple (ns.map PyData.int)).shown = ("(" : Str) ++ Str.join ", " (PyData.shownAll (ns.map PyData.int)) ++ (if (PyData.shownAll (ns.map PyData.int)).length == 1 then ",)" else ")" : String) := by simp only [PyData.shown, tupleText]
    rw [e1, strLen_append, strLen_append]
    have e2 : (("(" : Str)).length = 1 := rfl
    have e3 : (((if (PyData.shownAll (ns.map PyData.int)).length == 1 then ",)" else ")" : String) : Str)).length ≤ 2 := by split <;> decide
    rw [e2, sizeLine_eq]
    have : (PyData.shownAll (ns.map PyData.int)).length * (130 + 2) ≤ 64 * (130 + 2) := Nat.mul_le_mul_right _ ll
    omega
  | _ => cases e
/-- list(x), x a list or a tuple of data -/
def rLstD : List V → Hp → VK → Prop := fun xs H Q => ∃ x d ds, xs = [x] ∧ Dq H x d ∧ itemsD d = some ds ∧ ∀ l H', Same H H' → H l = none → Dq H' (.ref l) (.list ds) → Q (.ref l) H'
theorem call_lstD {X : Cx} : CallR X (.type "list") rLstD := by
  intro pins s σ H vs us Q I r h
  refine call_list_of pins s σ H vs us Q I r ?_
  obtain ⟨x, d, ds, rfl, k, e, q⟩ := h
  cases k with
  | lst h1 h2 =>
    cases e
    exact ⟨_, _, rfl, .inl (SqL.of h1), fun l nl => q l _ (same_new nl) nl (.lst upd_same (DqAll.same (same_new nl) _ h2))⟩
  | tup h1 h2 =>
    cases e
    exact ⟨_, _, rfl, .inr (SqT.of h1), fun l nl => q l _ (same_new nl) nl (.lst upd_same (DqAll.same (same_new nl) _ h2))⟩
  | _ => cases e
theorem passE0 {P : Program} {w : World} {X : Cx} : Passes (L2.CX P w) X E0 := fun _ _ _ _ _ _ _ h => by
  obtain ⟨_, _, _, _, _, _, _, _, _, _, _, _, z⟩ := h
  exact z.elim
end TkS
set_option Elab.async false
set_option linter.all false
set_option maxRecDepth 100000
set_option maxHeartbeats 4000000
/-! a tuple no times -/
namespace TkS
open PySem PySem.Spec PyProof.Rows L2
theorem tuple_mul0 (l : Addr) (items : Array Value) (n : Nat) (dd : Option Addr) (sl : Array (Option Value)) (u : Tok) (he : items.isEmpty = false) :
    Meets (Builtin.«tuple.__mul__» ⟨[.ref l, .int 0 u], []⟩) (fun _ R s => s.heap.get? l = some { cls := .type "tuple", dict := dd, data := .seq items n, slots := sl } ∧
      R (.ok (.ret (Value.ref s.heap.objs.size))) { s with heap := s.heap.push { cls := Value.type "tuple", data := Data.seq #[] }, toks := s.toks }) :=
  .of_wp fun prog w A R s h => by
    obtain ⟨hp, g, d, tk, os⟩ := s
    obtain ⟨hl, h⟩ := h
    have f1 := AutoSeq1.idx_int
    have c1 : (items.isEmpty || (0 : Int) == 1) = false := by rw [he]; rfl
    wp_walk using wpAny_loadPart' hl
    repeat (first
      | (refine wpAny_ite_false (decide_eq_false (by rw [c1]; exact Bool.false_ne_true)) ?_; wp_walk using wpAny_loadPart' hl))
    exact ⟨_, rfl, h⟩
def rRepA (K : PySem.W.Frag) : R2 := fun x y H Q => ∃ l k xs, x = .ref l ∧ y = .int k ∧ SqT K H l xs ∧ xs ≠ [] ∧ 0 ≤ k ∧ k ≤ 1000 ∧ xs.length ≤ 1000 ∧ (k = 1 → Q (.ref l) H) ∧ (k ≠ 1 → ∀ p, H p = none → Q (.ref p) (upd H p (.tup (List.replicate k.toNat xs).flatten)))
theorem op_repA {X : Cx} : OpR X (binaryOp .Mult) (rRepA X.K) := by
  intro pins s σ H x y v u Q I rx ry h
  obtain ⟨l, k, xs, rfl, rfl, hT, hne, h1, h2, hz, q1, q2⟩ := h
  by_cases c : k = 0
  · subst c
    cases rx
    obtain ⟨t, rfl⟩ := ry
    obtain ⟨its, r, ⟨⟨cls, dd, data, sl⟩, ho, hc, n, hd⟩, hs⟩ := I.tuple hT
    simp only at hc hd
    subst hc hd
    have hi : its.toArray.isEmpty = false := by
      cases its with
      | nil =>
        cases r
        exact absurd rfl hne
      | cons a b => rfl
    refine wpAny_binaryOp_repeat_ref (T := "tuple") (U := "int") (by decide) ⟨_, ho, rfl⟩ (fun s' => typeIs_int s' 0 t) noFill_tuple_mul F.fills_int_mul F.slot_int_rmul repeat_tuple F.slot_int_index.lookup
      (call_meets F.slot_int_rmul (typeIs_int s 0 t) F.entry_int_rmul (F.args_int_rmul_2 _ _) (int_rmul_tuple 0 t l its.toArray n dd sl)
        ⟨ho, rfl, ⟨_, ho, rfl⟩, call_meets F.slot_tuple_mul ⟨_, ho, rfl⟩ F.entry_tuple_mul (F.args_tuple_mul_2 _ _) (tuple_mul0 l its.toArray n dd sl t hi) ⟨ho, ?_⟩⟩)
    refine ⟨.ref s.heap.objs.size, _, I.laid (t' := s.toks) (o := .tup []) (fun b ob q => Heap.get?_push_of_some _ q) (Nat.le_refl _) ?_, rfl, q2 (by decide) _ (I.hok.fresh (Nat.le_refl _))⟩
    exact ⟨by rw [sizeLine_eq]; exact Nat.zero_le _, _, .nil, IsTup.new _ _⟩
  · exact op_repN pins s σ H _ _ v u Q I rx ry ⟨l, k, xs, rfl, rfl, hT, hne, by omega, h2, hz, q1, fun z => q2 (by omega)⟩
end TkS
set_option Elab.async false
set_option linter.all false
set_option maxRecDepth 100000
set_option maxHeartbeats 4000000
/-! for over enumerate of a tuple, the loop may change what stood before -/
namespace TkS
open PySem PySem.Spec PyProof.Rows L2
theorem for_enumT {K : PySem.W.Frag} {a : Addr} {xs : List V} {ta : TA} {g : TG} {tb : TS} {D : Ends} {σ : L2.St} {H : Hp} (Pv : Nat → L2.St → Hp → Prop) (ht : ∀ Q : List V → Hp → Prop, Q [.ref a] H → ta σ H Q) (h0 : Pv 0 σ H)
    (hl : ∀ i σ H', Pv i σ H' → SqT K H' a xs)
    (hs : ∀ i x T σ H', xs[i]? = some x → Pv i σ H' → H' T = none → g (.ref T) σ (upd H' T (.tup [.int (i : Nat), x])) fun σ2 H2 => tb { D with nx := Pv (i + 1), ct := Pv (i + 1), bk := D.nx } σ2 H2) (hd : ∀ σ H', Pv xs.length σ H' → D.nx σ H') :
    tFor (iEnumS K ta) g tb D σ H := by
  refine .inr (ht _ ⟨a, xs, rfl, hl 0 σ H h0, ?_⟩)
  refine ⟨fun i m σ H' => m = xs.length - i ∧ i ≤ xs.length ∧ Pv i σ H', ⟨xs.length, rfl, Nat.zero_le _, h0⟩, ?_⟩
  rintro i m σ' H' ⟨rfl, hi, p⟩
  have z := hl i σ' H' p
  rcases Nat.lt_or_ge i xs.length with hlt | hge
  · refine .inr ⟨⟨xs, _, z, List.getElem?_eq_getElem hlt⟩, Pv (i + 1), fun σ2 H2 p2 => ⟨xs.length - (i + 1), by omega, rfl, hlt, p2⟩, fun v H2 y => ?_⟩
    obtain ⟨T, x, rfl, hT, rfl, hx⟩ := y
    exact hs i x T σ' H' (hx xs z) p hT
  · have e : i = xs.length := by omega
    subst e
    exact .inl ⟨⟨xs, z, Nat.le_refl _⟩, hd σ' H' p⟩
end TkS
set_option Elab.async false
set_option linter.all false
set_option maxRecDepth 100000
set_option maxHeartbeats 4000000
/-! len(set(a list of ints)), doubles or none -/
namespace TkS
open PySem PySem.Spec PyProof.Rows L2 RZ
theorem firstMet_set (ns : List Int) : ∀ i, i ≤ ns.length → (PyProof.Rows.firstMet (fun i => ns.getD i 0) i).Nodup ∧ ∀ x, x ∈ PyProof.Rows.firstMet (fun i => ns.getD i 0) i ↔ x ∈ ns.take i
  | 0, _ => ⟨List.nodup_nil, fun x => Iff.rfl⟩
  | i + 1, h => by
    obtain ⟨n1, m1⟩ := firstMet_set ns i (by omega)
    have hlt : i < ns.length := h
    have e1 : ns.getD i 0 = ns[i] := by
      rw [List.getD_eq_getElem?_getD, List.getElem?_eq_getElem hlt] <;> rfl
    have e2 : ns.take (i + 1) = ns.take i ++ [ns[i]] := by
      rw [List.take_add_one, List.getElem?_eq_getElem hlt] <;> rfl
    have e3 : PyProof.Rows.firstMet (fun i => ns.getD i 0) (i + 1) = if (PyProof.Rows.firstMet (fun i => ns.getD i 0) i).any (· == ns.getD i 0) then PyProof.Rows.firstMet (fun i => ns.getD i 0) i else PyProof.Rows.firstMet (fun i => ns.getD i 0) i ++ [ns.getD i 0] := by
      rw [PyProof.Rows.firstMet_succ]
      rfl
    rw [e3, e2, e1]
    cases hb : (PyProof.Rows.firstMet (fun i => ns.getD i 0) i).any (· == ns[i]) with
    | true =>
      rw [if_pos rfl]
      obtain ⟨y, hy, ey⟩ := List.any_eq_true.mp hb
      have ey2 : y = ns[i] := eq_of_beq ey
      rw [ey2] at hy
      refine ⟨n1, fun x => ?_⟩
      rw [m1, List.mem_append, List.mem_singleton]
      exact ⟨.inl, fun z => z.elim id fun e => by rw [e]; exact (m1 _).mp hy⟩
    | false =>
      rw [if_neg Bool.false_ne_true]
      refine ⟨?_, fun x => by rw [List.mem_append, List.mem_append, m1]⟩
      rw [List.nodup_append]
      refine ⟨n1, List.nodup_cons.mpr ⟨by simp, List.nodup_nil⟩, fun a ha b hb2 e => ?_⟩
      rw [List.mem_singleton] at hb2
      subst hb2
      subst e
      have ht : (PyProof.Rows.firstMet (fun i => ns.getD i 0) i).any (fun x => x == ns[i]) = true := List.any_eq_true.mpr ⟨_, ha, beq_self_eq_true _⟩
      rw [hb] at ht
      cases ht
def tLenSetD (K : PySem.W.Frag) (ta : TE) : TE := fun σ H Q => ta σ H fun x H1 => ∃ (l : Addr) (ns : List Int), x = .ref l ∧ SqL K H1 l (ns.map V.int) ∧ ns.length ≤ 4000 ∧ ∀ L : List Int, L.Nodup → (∀ z, z ∈ L ↔ z ∈ ns) → Q (.int (L.length : Nat)) H1
theorem pe_lenSetD {X : Cx} {a : Expr} {ta : TE} {p p2 q pos : Pos} (hg : Gl X "len") (hm : X.mg "len" = none) (hg2 : Gl X "set") (hm2 : X.mg "set" = none) (ha : PE X a ta) (hc : X.calm = true := by rfl)
    (na : starEach [a] X.env = (false, eval a X.env) :: starEach [] X.env := by rfl) : PE X (.Call (.Name "len" p) [.Call (.Name "set" p2) [a] [] q] [] pos) (tLenSetD X.K ta) := by
  refine ⟨fun pins s σ H Q I h => ?_⟩
  refine Call_ (ld_blt I hg hm boot_len ?_)
  refine PyProof.Rows.callWith_builtin1 (PyProof.Rows.args_cons ?_ rfl) rfl rfl
  refine Call_ (ld_blt I hg2 hm2 boot_set ?_)
  refine PyProof.Rows.callWith_type1 (PyProof.Rows.args_cons (thn (ha.run pins s σ H _ I h) fun v s1 ⟨x, H1, I1, r1, q1⟩ => PyProof.Rows.args_nil ?_) na) na rfl
  obtain ⟨l, ns, rfl, hq, hl, q1⟩ := q1
  cases r1
  obtain ⟨its, r, pl, hz⟩ := I1.list hq
  have hlen : its.toArray.size = ns.length := by rw [List.size_toArray, ← r.length, List.length_map]
  refine call_set_list (I1.ok.hd hc) pl.isList (by simpa using intsAre_vals r) (by rw [hlen]; unfold scanBound; omega) fun h' tk hS hk => ?_
  refine PyProof.Rows.args_nil ?_
  obtain ⟨nd, mm⟩ := firstMet_set ns ns.length (Nat.le_refl _)
  rw [List.take_length] at mm
  rw [hlen] at hS
  have lb : (PyProof.Rows.firstMet (fun i => ns.getD i 0) ns.length).length ≤ ns.length := nd_le nd fun x hx => (mm x).mp hx
  obtain ⟨o, es, ep, t, ho, hex, hd, _, _, _, hf, hn⟩ := hS
  have I2 : Inv X pins σ H1 { s1 with heap := h', toks := tk } := I1.kept fun b o e => hk b o (Heap.lt_size e) e
  exact call_len_set ho hex hd hf (by rw [hn] <;> omega) ⟨.int ((PyProof.Rows.firstMet (fun i => ns.getD i 0) ns.length).length : Nat), H1, I2.tok _, ⟨_, by rw [hn]⟩, q1 _ nd mm⟩
end TkS
set_option Elab.async false
set_option linter.all false
set_option maxRecDepth 100000
set_option maxHeartbeats 4000000
set_option exponentiation.threshold 5000
namespace K03
open PySem PySem.Spec PyProof.Rows L2 TkS
/-! the text -/
def topS (i : Nat) : Stmt := PySem.Challenge.pw_sheetproofs_k03_whole_one_tour_for_each.main.body.getD i (.Pass ⟨0, 0, 0, 0⟩)
abbrev s_BadPicture_init : Stmt := inClass (topS 3) 0
theorem sc_BadPicture_init : FnScope ["self", "what"] ["self", "what"] (defScope s_BadPicture_init) := ⟨rfl, rfl, rfl, by decide +kernel, rfl, by decide +kernel, by decide +kernel⟩
abbrev s_BadTour_init : Stmt := inClass (topS 4) 0
theorem sc_BadTour_init : FnScope ["self", "what"] ["self", "what"] (defScope s_BadTour_init) := ⟨rfl, rfl, rfl, by decide +kernel, rfl, by decide +kernel, by decide +kernel⟩
abbrev s_is_whole : Stmt := topS 7
theorem sc_is_whole : FnScope ["thing", "low", "high"] ["thing", "low", "high"] (defScope s_is_whole) := ⟨rfl, rfl, rfl, by decide +kernel, rfl, by decide +kernel, by decide +kernel⟩
abbrev s_is_sequence : Stmt := topS 9
theorem sc_is_sequence : FnScope ["thing", "length"] ["thing", "length"] (defScope s_is_sequence) := ⟨rfl, rfl, rfl, by decide +kernel, rfl, by decide +kernel, by decide +kernel⟩
abbrev s_wrong_index : Stmt := topS 10
theorem sc_wrong_index : FnScope ["thing", "length", "is_good", "index", "item"] ["thing", "length", "is_good"] (defScope s_wrong_index) := ⟨rfl, rfl, rfl, by decide +kernel, rfl, by decide +kernel, by decide +kernel⟩
abbrev s_is_whole_row : Stmt := topS 11
theorem sc_is_whole_row : FnScope ["thing", "length"] ["thing", "length"] (defScope s_is_whole_row) := ⟨rfl, rfl, rfl, by decide +kernel, rfl, by decide +kernel, by decide +kernel⟩
abbrev s_check_tour : Stmt := topS 13
theorem sc_check_tour : FnScope ["picture", "tour", "number", "point_sums", "wall_sums", "point", "wall"] ["picture", "tour"] (defScope s_check_tour) := ⟨rfl, rfl, rfl, by decide +kernel, rfl, by decide +kernel, by decide +kernel⟩
abbrev s_no_tour : Stmt := topS 14
theorem sc_no_tour : FnScope ["picture"] ["picture"] (defScope s_no_tour) := ⟨rfl, rfl, rfl, by decide +kernel, rfl, by decide +kernel, by decide +kernel⟩
abbrev s_row_minus : Stmt := topS 16
theorem sc_row_minus : FnScope ["one", "other", "number", "taken"] ["one", "other"] (defScope s_row_minus) := ⟨rfl, rfl, rfl, by decide +kernel, rfl, by decide +kernel, by decide +kernel⟩
abbrev s_tree_and_basis : Stmt := topS 17
theorem sc_tree_and_basis : FnScope ["picture", "roots", "walks", "tree", "tours", "place", "point", "wall", "far", "gap", "moved", "corner", "_"] ["picture"] (defScope s_tree_and_basis) := ⟨rfl, rfl, rfl, by decide +kernel, rfl, by decide +kernel, by decide +kernel⟩
abbrev s_tree_places : Stmt := topS 18
theorem sc_tree_places : FnScope ["picture", "tree", "_"] ["picture"] (defScope s_tree_places) := ⟨rfl, rfl, rfl, by decide +kernel, rfl, by decide +kernel, by decide +kernel⟩
abbrev s_other_places : Stmt := topS 19
theorem sc_other_places : FnScope ["picture", "tree", "place"] ["picture"] (defScope s_other_places) := ⟨rfl, rfl, rfl, by decide +kernel, rfl, by decide +kernel, by decide +kernel⟩
abbrev s_basis_tours : Stmt := topS 20
theorem sc_basis_tours : FnScope ["picture", "_", "tours"] ["picture"] (defScope s_basis_tours) := ⟨rfl, rfl, rfl, by decide +kernel, rfl, by decide +kernel, by decide +kernel⟩
abbrev s_tour_of : Stmt := topS 21
theorem sc_tour_of : FnScope ["picture", "row", "tours", "numbers", "times", "tour", "place"] ["picture", "row"] (defScope s_tour_of) := ⟨rfl, rfl, rfl, by decide +kernel, rfl, by decide +kernel, by decide +kernel⟩
abbrev s_row_of : Stmt := topS 22
theorem sc_row_of : FnScope ["picture", "tour", "numbers", "place"] ["picture", "tour"] (defScope s_row_of) := ⟨rfl, rfl, rfl, by decide +kernel, rfl, by decide +kernel, by decide +kernel⟩
abbrev s_merged_labels : Stmt := topS 25
theorem sc_merged_labels : FnScope ["labels", "one", "other", "least", "label"] ["labels", "one", "other"] (defScope s_merged_labels) := ⟨rfl, rfl, rfl, by decide +kernel, rfl, by decide +kernel, by decide +kernel⟩
abbrev s_piece_labels : Stmt := topS 26
theorem sc_piece_labels : FnScope ["points", "walls", "pairs", "labels", "point", "wall"] ["points", "walls", "pairs"] (defScope s_piece_labels) := ⟨rfl, rfl, rfl, by decide +kernel, rfl, by decide +kernel, by decide +kernel⟩
abbrev s_pieces_by_labels : Stmt := topS 27
theorem sc_pieces_by_labels : FnScope ["points", "labels", "pieces", "label", "corners", "inside", "corner"] ["points", "labels"] (defScope s_pieces_by_labels) := ⟨rfl, rfl, rfl, by decide +kernel, rfl, by decide +kernel, by decide +kernel⟩
abbrev s_Picture_init : Stmt := inClass (topS 28) 0
theorem sc_Picture_init : FnScope ["self", "points", "walls", "pairs", "pair", "kept", "at"] ["self", "points", "walls", "pairs"] (defScope s_Picture_init) := ⟨rfl, rfl, rfl, by decide +kernel, rfl, by decide +kernel, by decide +kernel⟩
abbrev s_Picture_eq : Stmt := inClass (topS 28) 1
theorem sc_Picture_eq : FnScope ["self", "other"] ["self", "other"] (defScope s_Picture_eq) := ⟨rfl, rfl, rfl, by decide +kernel, rfl, by decide +kernel, by decide +kernel⟩
abbrev s_Picture_len : Stmt := inClass (topS 28) 2
theorem sc_Picture_len : FnScope ["self"] ["self"] (defScope s_Picture_len) := ⟨rfl, rfl, rfl, by decide +kernel, rfl, by decide +kernel, by decide +kernel⟩
abbrev s_Picture_pieces : Stmt := inClass (topS 28) 3
theorem sc_Picture_pieces : FnScope ["self"] ["self"] (defScope s_Picture_pieces) := ⟨rfl, rfl, rfl, by decide +kernel, rfl, by decide +kernel, by decide +kernel⟩
abbrev s_Pictureis_pair : Stmt := inClass (topS 28) 4
theorem sc_Pictureis_pair : FnScope ["self", "thing"] ["self", "thing"] (defScope s_Pictureis_pair) := ⟨rfl, rfl, rfl, by decide +kernel, rfl, by decide +kernel, by decide +kernel⟩
abbrev s_law_hand : Stmt := topS 30
theorem sc_law_hand : FnScope ["_law_script", "_law_total", "_law_cells", "_law_cell"] ["_law_script"] (defScope s_law_hand) := ⟨rfl, rfl, rfl, by decide +kernel, rfl, by decide +kernel, by decide +kernel⟩
abbrev s_law_mixed : Stmt := topS 31
theorem sc_law_mixed : FnScope ["_law_number", "_law_turn", "_law_once", "_law_twice"] ["_law_number", "_law_turn"] (defScope s_law_mixed) := ⟨rfl, rfl, rfl, by decide +kernel, rfl, by decide +kernel, by decide +kernel⟩
abbrev s_law_take : Stmt := topS 32
theorem sc_law_take : FnScope ["_law_hand_here", "_law_many", "_law_cell", "_law_rest"] ["_law_hand_here", "_law_many"] (defScope s_law_take) := ⟨rfl, rfl, rfl, by decide +kernel, rfl, by decide +kernel, by decide +kernel⟩
abbrev s_law_whole : Stmt := topS 33
theorem sc_law_whole : FnScope ["_law_thing"] ["_law_thing"] (defScope s_law_whole) := ⟨rfl, rfl, rfl, by decide +kernel, rfl, by decide +kernel, by decide +kernel⟩
abbrev s_law_full : Stmt := topS 34
theorem sc_law_full : FnScope ["_law_points", "_law_shuts", "_law_told", "_law_point", "_law_shut_here"] ["_law_points", "_law_shuts"] (defScope s_law_full) := ⟨rfl, rfl, rfl, by decide +kernel, rfl, by decide +kernel, by decide +kernel⟩
abbrev s_law_picture : Stmt := topS 35
theorem sc_law_picture : FnScope ["_law_hand_here", "_law_pick", "_law_shut", "_law_shuts", "_law_pairs", "_law_k", "_law_pair"] ["_law_hand_here"] (defScope s_law_picture) := ⟨rfl, rfl, rfl, by decide +kernel, rfl, by decide +kernel, by decide +kernel⟩
abbrev s_law_marks : Stmt := topS 36
theorem sc_law_marks : FnScope ["_law_points", "_law_shuts", "_law_pairs", "_law_marks_here", "_law_point", "_law_shut_here", "_law_one", "_law_other", "_law_mark"] ["_law_points", "_law_shuts", "_law_pairs"] (defScope s_law_marks) := ⟨rfl, rfl, rfl, by decide +kernel, rfl, by decide +kernel, by decide +kernel⟩
abbrev s_law_pieces : Stmt := topS 37
theorem sc_law_pieces : FnScope ["_law_points", "_law_shuts", "_law_pairs"] ["_law_points", "_law_shuts", "_law_pairs"] (defScope s_law_pieces) := ⟨rfl, rfl, rfl, by decide +kernel, rfl, by decide +kernel, by decide +kernel⟩
abbrev s_law_tree : Stmt := topS 38
theorem sc_law_tree : FnScope ["_law_points", "_law_shuts", "_law_pairs", "_law_tree_here", "_law_rest", "_law_k", "_law_marks_here", "_law_j"] ["_law_points", "_law_shuts", "_law_pairs"] (defScope s_law_tree) := ⟨rfl, rfl, rfl, by decide +kernel, rfl, by decide +kernel, by decide +kernel⟩
abbrev s_law_tour_of : Stmt := topS 39
theorem sc_law_tour_of : FnScope ["_law_points", "_law_shuts", "_law_pairs", "_law_row", "_law_tree_here", "_law_rest", "_law_told", "_law_k", "_law_number", "_law_due", "_law_j", "_law_marks_here", "_law_side", "_law_total", "_law_here", "_law_there"] ["_law_points", "_law_shuts", "_law_pairs", "_law_row"] (defScope s_law_tour_of) := ⟨rfl, rfl, rfl, by decide +kernel, rfl, by decide +kernel, by decide +kernel⟩
abbrev s_law_basis : Stmt := topS 40
theorem sc_law_basis : FnScope ["_law_points", "_law_shuts", "_law_pairs", "_law_rest", "_law_k", "_law_j"] ["_law_points", "_law_shuts", "_law_pairs"] (defScope s_law_basis) := ⟨rfl, rfl, rfl, by decide +kernel, rfl, by decide +kernel, by decide +kernel⟩
abbrev s_law_tuple : Stmt := topS 41
theorem sc_law_tuple : FnScope ["_law_told", "_law_due", "_law_x"] ["_law_told", "_law_due"] (defScope s_law_tuple) := ⟨rfl, rfl, rfl, by decide +kernel, rfl, by decide +kernel, by decide +kernel⟩
abbrev s_law_refused : Stmt := topS 42
theorem sc_law_refused : FnScope ["_law_picture_here", "_law_row", "_law_word", "e"] ["_law_picture_here", "_law_row"] (defScope s_law_refused) := ⟨rfl, rfl, rfl, by decide +kernel, rfl, by decide +kernel, by decide +kernel⟩
abbrev s_law_tour_word : Stmt := topS 43
theorem sc_law_tour_word : FnScope ["_law_picture_here", "_law_tour", "_law_word", "e"] ["_law_picture_here", "_law_tour"] (defScope s_law_tour_word) := ⟨rfl, rfl, rfl, by decide +kernel, rfl, by decide +kernel, by decide +kernel⟩
abbrev s_law_any_picture : Stmt := topS 44
theorem sc_law_any_picture : FnScope ["_law_hand_here", "_law_points", "_law_shuts", "_law_share", "_law_pairs", "_law_pair"] ["_law_hand_here"] (defScope s_law_any_picture) := ⟨rfl, rfl, rfl, by decide +kernel, rfl, by decide +kernel, by decide +kernel⟩
abbrev s_law : Stmt := topS 45
theorem sc_law : FnScope ["_law_script", "_law_hand_here", "_law_points", "_law_shuts", "_law_pairs", "_law_picture_here", "_law_tree_here", "_law_rest", "_law_row", "_law_k", "_law_number", "_law_due", "_law_kept", "_law_tour", "_law_basis_here", "_law_told", "_law_total", "_law_odd", "_law_at", "_law_bad", "_law_a", "_law_b", "_law_x"] ["_law_script"] (defScope s_law) := ⟨rfl, rfl, rfl, by decide +kernel, rfl, by decide +kernel, by decide +kernel⟩
/-! what the top leaves -/
structure Txt (K : PySem.W.Frag) (mg : Str → Option Value) where
  f_BadPicture_init : Addr
  d_BadPicture_init : FuncData
  F_BadPicture_init : Fun K "__init__" "BadPicture.__init__" s_BadPicture_init f_BadPicture_init d_BadPicture_init
  b_BadPicture_init : Binds K d_BadPicture_init ["self", "what"] []
  f_BadTour_init : Addr
  d_BadTour_init : FuncData
  F_BadTour_init : Fun K "__init__" "BadTour.__init__" s_BadTour_init f_BadTour_init d_BadTour_init
  b_BadTour_init : Binds K d_BadTour_init ["self", "what"] []
  f_is_whole : Addr
  d_is_whole : FuncData
  F_is_whole : FunD K "is_whole" "is_whole" (defArgs s_is_whole) (defBody s_is_whole) (defScope s_is_whole) [.non, .non] [] f_is_whole d_is_whole
  b2_is_whole : Binds K d_is_whole ["thing", "low", "high"] [.none, .none]
  b_is_whole : Binds K d_is_whole ["thing", "low", "high"] []
  g_is_whole : mg "is_whole" = some (.ref f_is_whole)
  f_is_sequence : Addr
  d_is_sequence : FuncData
  F_is_sequence : FunD K "is_sequence" "is_sequence" (defArgs s_is_sequence) (defBody s_is_sequence) (defScope s_is_sequence) [.non] [] f_is_sequence d_is_sequence
  b1_is_sequence : Binds K d_is_sequence ["thing", "length"] [.none]
  b_is_sequence : Binds K d_is_sequence ["thing", "length"] []
  g_is_sequence : mg "is_sequence" = some (.ref f_is_sequence)
  f_wrong_index : Addr
  d_wrong_index : FuncData
  F_wrong_index : Fun K "wrong_index" "wrong_index" s_wrong_index f_wrong_index d_wrong_index
  b_wrong_index : Binds K d_wrong_index ["thing", "length", "is_good"] []
  g_wrong_index : mg "wrong_index" = some (.ref f_wrong_index)
  f_is_whole_row : Addr
  d_is_whole_row : FuncData
  F_is_whole_row : Fun K "is_whole_row" "is_whole_row" s_is_whole_row f_is_whole_row d_is_whole_row
  b_is_whole_row : Binds K d_is_whole_row ["thing", "length"] []
  g_is_whole_row : mg "is_whole_row" = some (.ref f_is_whole_row)
  f_check_tour : Addr
  d_check_tour : FuncData
  F_check_tour : Fun K "check_tour" "check_tour" s_check_tour f_check_tour d_check_tour
  b_check_tour : Binds K d_check_tour ["picture", "tour"] []
  g_check_tour : mg "check_tour" = some (.ref f_check_tour)
  f_no_tour : Addr
  d_no_tour : FuncData
  F_no_tour : Fun K "no_tour" "no_tour" s_no_tour f_no_tour d_no_tour
  b_no_tour : Binds K d_no_tour ["picture"] []
  g_no_tour : mg "no_tour" = some (.ref f_no_tour)
  f_row_minus : Addr
  d_row_minus : FuncData
  F_row_minus : Fun K "_row_minus" "_row_minus" s_row_minus f_row_minus d_row_minus
  b_row_minus : Binds K d_row_minus ["one", "other"] []
  g_row_minus : mg "_row_minus" = some (.ref f_row_minus)
  f_tree_and_basis : Addr
  d_tree_and_basis : FuncData
  F_tree_and_basis : Fun K "_tree_and_basis" "_tree_and_basis" s_tree_and_basis f_tree_and_basis d_tree_and_basis
  b_tree_and_basis : Binds K d_tree_and_basis ["picture"] []
  g_tree_and_basis : mg "_tree_and_basis" = some (.ref f_tree_and_basis)
  f_tree_places : Addr
  d_tree_places : FuncData
  F_tree_places : Fun K "tree_places" "tree_places" s_tree_places f_tree_places d_tree_places
  b_tree_places : Binds K d_tree_places ["picture"] []
  g_tree_places : mg "tree_places" = some (.ref f_tree_places)
  f_other_places : Addr
  d_other_places : FuncData
  F_other_places : Fun K "other_places" "other_places" s_other_places f_other_places d_other_places
  b_other_places : Binds K d_other_places ["picture"] []
  g_other_places : mg "other_places" = some (.ref f_other_places)
  f_basis_tours : Addr
  d_basis_tours : FuncData
  F_basis_tours : Fun K "basis_tours" "basis_tours" s_basis_tours f_basis_tours d_basis_tours
  b_basis_tours : Binds K d_basis_tours ["picture"] []
  g_basis_tours : mg "basis_tours" = some (.ref f_basis_tours)
  f_tour_of : Addr
  d_tour_of : FuncData
  F_tour_of : Fun K "tour_of" "tour_of" s_tour_of f_tour_of d_tour_of
  b_tour_of : Binds K d_tour_of ["picture", "row"] []
  g_tour_of : mg "tour_of" = some (.ref f_tour_of)
  f_row_of : Addr
  d_row_of : FuncData
  F_row_of : Fun K "row_of" "row_of" s_row_of f_row_of d_row_of
  b_row_of : Binds K d_row_of ["picture", "tour"] []
  g_row_of : mg "row_of" = some (.ref f_row_of)
  f_merged_labels : Addr
  d_merged_labels : FuncData
  F_merged_labels : Fun K "merged_labels" "merged_labels" s_merged_labels f_merged_labels d_merged_labels
  b_merged_labels : Binds K d_merged_labels ["labels", "one", "other"] []
  g_merged_labels : mg "merged_labels" = some (.ref f_merged_labels)
  f_piece_labels : Addr
  d_piece_labels : FuncData
  F_piece_labels : Fun K "_piece_labels" "_piece_labels" s_piece_labels f_piece_labels d_piece_labels
  b_piece_labels : Binds K d_piece_labels ["points", "walls", "pairs"] []
  g_piece_labels : mg "_piece_labels" = some (.ref f_piece_labels)
  f_pieces_by_labels : Addr
  d_pieces_by_labels : FuncData
  F_pieces_by_labels : Fun K "_pieces_by_labels" "_pieces_by_labels" s_pieces_by_labels f_pieces_by_labels d_pieces_by_labels
  b_pieces_by_labels : Binds K d_pieces_by_labels ["points", "labels"] []
  g_pieces_by_labels : mg "_pieces_by_labels" = some (.ref f_pieces_by_labels)
  f_Picture_init : Addr
  d_Picture_init : FuncData
  F_Picture_init : Fun K "__init__" "Picture.__init__" s_Picture_init f_Picture_init d_Picture_init
  b_Picture_init : Binds K d_Picture_init ["self", "points", "walls", "pairs"] []
  f_Picture_eq : Addr
  d_Picture_eq : FuncData
  F_Picture_eq : Fun K "__eq__" "Picture.__eq__" s_Picture_eq f_Picture_eq d_Picture_eq
  b_Picture_eq : Binds K d_Picture_eq ["self", "other"] []
  f_Picture_len : Addr
  d_Picture_len : FuncData
  F_Picture_len : Fun K "__len__" "Picture.__len__" s_Picture_len f_Picture_len d_Picture_len
  b_Picture_len : Binds K d_Picture_len ["self"] []
  f_Picture_pieces : Addr
  d_Picture_pieces : FuncData
  F_Picture_pieces : Fun K "pieces" "Picture.pieces" s_Picture_pieces f_Picture_pieces d_Picture_pieces
  b_Picture_pieces : Binds K d_Picture_pieces ["self"] []
  f_Pictureis_pair : Addr
  d_Pictureis_pair : FuncData
  F_Pictureis_pair : Fun K "_is_pair" "Picture._is_pair" s_Pictureis_pair f_Pictureis_pair d_Pictureis_pair
  b_Pictureis_pair : Binds K d_Pictureis_pair ["self", "thing"] []
  f_law_hand : Addr
  d_law_hand : FuncData
  F_law_hand : Fun K "_law_hand" "_law_hand" s_law_hand f_law_hand d_law_hand
  b_law_hand : Binds K d_law_hand ["_law_script"] []
  g_law_hand : mg "_law_hand" = some (.ref f_law_hand)
  f_law_mixed : Addr
  d_law_mixed : FuncData
  F_law_mixed : Fun K "_law_mixed" "_law_mixed" s_law_mixed f_law_mixed d_law_mixed
  b_law_mixed : Binds K d_law_mixed ["_law_number", "_law_turn"] []
  g_law_mixed : mg "_law_mixed" = some (.ref f_law_mixed)
  f_law_take : Addr
  d_law_take : FuncData
  F_law_take : Fun K "_law_take" "_law_take" s_law_take f_law_take d_law_take
  b_law_take : Binds K d_law_take ["_law_hand_here", "_law_many"] []
  g_law_take : mg "_law_take" = some (.ref f_law_take)
  f_law_whole : Addr
  d_law_whole : FuncData
  F_law_whole : Fun K "_law_whole" "_law_whole" s_law_whole f_law_whole d_law_whole
  b_law_whole : Binds K d_law_whole ["_law_thing"] []
  g_law_whole : mg "_law_whole" = some (.ref f_law_whole)
  f_law_full : Addr
  d_law_full : FuncData
  F_law_full : Fun K "_law_full" "_law_full" s_law_full f_law_full d_law_full
  b_law_full : Binds K d_law_full ["_law_points", "_law_shuts"] []
  g_law_full : mg "_law_full" = some (.ref f_law_full)
  f_law_picture : Addr
  d_law_picture : FuncData
  F_law_picture : Fun K "_law_picture" "_law_picture" s_law_picture f_law_picture d_law_picture
  b_law_picture : Binds K d_law_picture ["_law_hand_here"] []
  g_law_picture : mg "_law_picture" = some (.ref f_law_picture)
  f_law_marks : Addr
  d_law_marks : FuncData
  F_law_marks : Fun K "_law_marks" "_law_marks" s_law_marks f_law_marks d_law_marks
  b_law_marks : Binds K d_law_marks ["_law_points", "_law_shuts", "_law_pairs"] []
  g_law_marks : mg "_law_marks" = some (.ref f_law_marks)
  f_law_pieces : Addr
  d_law_pieces : FuncData
  F_law_pieces : Fun K "_law_pieces" "_law_pieces" s_law_pieces f_law_pieces d_law_pieces
  b_law_pieces : Binds K d_law_pieces ["_law_points", "_law_shuts", "_law_pairs"] []
  g_law_pieces : mg "_law_pieces" = some (.ref f_law_pieces)
  f_law_tree : Addr
  d_law_tree : FuncData
  F_law_tree : Fun K "_law_tree" "_law_tree" s_law_tree f_law_tree d_law_tree
  b_law_tree : Binds K d_law_tree ["_law_points", "_law_shuts", "_law_pairs"] []
  g_law_tree : mg "_law_tree" = some (.ref f_law_tree)
  f_law_tour_of : Addr
  d_law_tour_of : FuncData
  F_law_tour_of : Fun K "_law_tour_of" "_law_tour_of" s_law_tour_of f_law_tour_of d_law_tour_of
  b_law_tour_of : Binds K d_law_tour_of ["_law_points", "_law_shuts", "_law_pairs", "_law_row"] []
  g_law_tour_of : mg "_law_tour_of" = some (.ref f_law_tour_of)
  f_law_basis : Addr
  d_law_basis : FuncData
  F_law_basis : Fun K "_law_basis" "_law_basis" s_law_basis f_law_basis d_law_basis
  b_law_basis : Binds K d_law_basis ["_law_points", "_law_shuts", "_law_pairs"] []
  g_law_basis : mg "_law_basis" = some (.ref f_law_basis)
  f_law_tuple : Addr
  d_law_tuple : FuncData
  F_law_tuple : Fun K "_law_tuple" "_law_tuple" s_law_tuple f_law_tuple d_law_tuple
  b_law_tuple : Binds K d_law_tuple ["_law_told", "_law_due"] []
  g_law_tuple : mg "_law_tuple" = some (.ref f_law_tuple)
  f_law_refused : Addr
  d_law_refused : FuncData
  F_law_refused : Fun K "_law_refused" "_law_refused" s_law_refused f_law_refused d_law_refused
  b_law_refused : Binds K d_law_refused ["_law_picture_here", "_law_row"] []
  g_law_refused : mg "_law_refused" = some (.ref f_law_refused)
  f_law_tour_word : Addr
  d_law_tour_word : FuncData
  F_law_tour_word : Fun K "_law_tour_word" "_law_tour_word" s_law_tour_word f_law_tour_word d_law_tour_word
  b_law_tour_word : Binds K d_law_tour_word ["_law_picture_here", "_law_tour"] []
  g_law_tour_word : mg "_law_tour_word" = some (.ref f_law_tour_word)
  f_law_any_picture : Addr
  d_law_any_picture : FuncData
  F_law_any_picture : Fun K "_law_any_picture" "_law_any_picture" s_law_any_picture f_law_any_picture d_law_any_picture
  b_law_any_picture : Binds K d_law_any_picture ["_law_hand_here"] []
  g_law_any_picture : mg "_law_any_picture" = some (.ref f_law_any_picture)
  f_law : Addr
  d_law : FuncData
  F_law : Fun K "law" "law" s_law f_law d_law
  m_abs : mg "abs" = none
  m_any : mg "any" = none
  m_bool : mg "bool" = none
  m_enumerate : mg "enumerate" = none
  m_int : mg "int" = none
  m_isinstance : mg "isinstance" = none
  m_len : mg "len" = none
  m_list : mg "list" = none
  m_min : mg "min" = none
  m_property : mg "property" = none
  m_range : mg "range" = none
  m_set : mg "set" = none
  m_sorted : mg "sorted" = none
  m_tuple : mg "tuple" = none
  m_zip : mg "zip" = none
  tk_MOST_CORNERS : Tok
  c_MOST_CORNERS : mg "MOST_CORNERS" = some (.int 5 tk_MOST_CORNERS)
  C_SheetError : Addr
  g_SheetError : mg "SheetError" = some (.ref C_SheetError)
  C_BadPicture : Addr
  g_BadPicture : mg "BadPicture" = some (.ref C_BadPicture)
  x_BadPicture : XfC K C_BadPicture
  e_BadPicture : ExcC K C_BadPicture
  o_BadPicture : OexC K C_BadPicture
  i_BadPicture : PySem.W.findIn K (.ref C_BadPicture) "__init__" = some (some (.ref f_BadPicture_init))
  t_BadPicture : PySem.W.typeIn K (.ref f_BadPicture_init) = some (.type "function")
  n_BadPicture : PySem.W.findIn K (.ref C_BadPicture) "what" = some none
  C_BadTour : Addr
  g_BadTour : mg "BadTour" = some (.ref C_BadTour)
  x_BadTour : XfC K C_BadTour
  e_BadTour : ExcC K C_BadTour
  o_BadTour : OexC K C_BadTour
  i_BadTour : PySem.W.findIn K (.ref C_BadTour) "__init__" = some (some (.ref f_BadTour_init))
  t_BadTour : PySem.W.typeIn K (.ref f_BadTour_init) = some (.type "function")
  n_BadTour : PySem.W.findIn K (.ref C_BadTour) "what" = some none
  C_BadRow : Addr
  g_BadRow : mg "BadRow" = some (.ref C_BadRow)
  x_BadRow : XfC K C_BadRow
  e_BadRow : ExcC K C_BadRow
  q_BadRow : PySem.W.excIn K C_BadRow [Value.type "ValueError", Value.type "Exception", Value.type "BaseException", Value.type "object"] "ValueError.__new__" = true
  k_BadRow : PySem.W.keepIn K (.ref C_BadRow) = true
  b_BadRow : PySem.W.subIn K (.ref C_BadRow) (.type "BaseException") = some true
  ty_BadRow : PySem.W.typeIn K (.ref C_BadRow) = some (.type "type")
  mm_BadPicture_BadRow : PySem.W.exmOne K (.ref C_BadPicture) (.ref C_BadRow) = some false
  mm_BadTour_BadRow : PySem.W.exmOne K (.ref C_BadTour) (.ref C_BadRow) = some false
  mm_BadRow_BadRow : PySem.W.exmOne K (.ref C_BadRow) (.ref C_BadRow) = some true
  mm_BadPicture_BadTour : PySem.W.exmOne K (.ref C_BadPicture) (.ref C_BadTour) = some false
  mm_BadTour_BadTour : PySem.W.exmOne K (.ref C_BadTour) (.ref C_BadTour) = some true
  mm_BadRow_BadTour : PySem.W.exmOne K (.ref C_BadRow) (.ref C_BadTour) = some false
  kit_BadRow_SheetError : PySem.W.kitOne K (.ref C_BadRow) (.ref C_SheetError) = some true
  kit_BadRow_BadTour : PySem.W.kitOne K (.ref C_BadRow) (.ref C_BadTour) = some false
  kit_BadTour_SheetError : PySem.W.kitOne K (.ref C_BadTour) (.ref C_SheetError) = some true
  kit_BadTour_BadRow : PySem.W.kitOne K (.ref C_BadTour) (.ref C_BadRow) = some false
  C_Picture : Addr
  g_Picture : mg "Picture" = some (.ref C_Picture)
  cl_Picture : Cls K C_Picture
  M_Picture : Mk K C_Picture f_Picture_init
  na_points : NoAttr K C_Picture "points"
  na_walls : NoAttr K C_Picture "walls"
  na_pairs : NoAttr K C_Picture "pairs"
  na_pieces : NoAttr K C_Picture "_pieces"
  eq_at : PySem.W.findIn K (.ref C_Picture) "__eq__" = some (some (.ref f_Picture_eq))
  eq_fn : PySem.W.isFn K (.ref f_Picture_eq) = true
  len_at : PySem.W.findIn K (.ref C_Picture) "__len__" = some (some (.ref f_Picture_len))
  len_fn : PySem.W.isFn K (.ref f_Picture_len) = true
  p_pieces : Addr
  pr_pieces : PropOf K C_Picture "pieces" p_pieces f_Picture_pieces
  M_is_pair : Meth K C_Picture "_is_pair" f_Pictureis_pair
  k_class : PySem.W.findIn K (.ref C_Picture) "__class__" = some (some (.builtin "object.__class__"))
  k_get : PySem.W.specialIn K (.builtin "object.__class__") "__get__" = some (some (.builtin "getset_descriptor.__get__"))
  k_takes : PySem.W.takesIn K (.builtin "object.__class__") = some true
  k_mro : PySem.W.mroIn K C_Picture (.type "object") = some true
  k_isp : PySem.W.kitOne K (.ref C_Picture) (.ref C_Picture) = some true
def Raised (C : Addr) (f : Str) (v : V) (H : Hp) (E : XK) : Prop := ∀ d H', Same H H' → H d = none → H' d = some (.xd [(f, v)]) → E (.ref C) (some d) H'
/-- the promise of an error's __init__ that stores its one argument -/
def sp_exc (C : Addr) (f : Str) : Sp := fun vs H Q _ => ∃ (a : Addr) (v : V), vs = [.ref a, v] ∧ H a = some (exo a C none) ∧ ∀ dx, H dx = none → dx ≠ a → Q .non (upd (upd H dx (exd dx [(f, v)])) a (exo a C (some dx)))
theorem mk_exc {C : Addr} {f : Str} {w : V} {H : Hp} {Q : XK} (h : ∀ d H', Same H H' → H d = none → H' d = some (.xd [(f, w)]) → Q (.ref C) (some d) H') :
    [w].length ≤ 1000 ∧ ∀ a, H a = none → sp_exc C f (.ref a :: ([w] ++ [])) (upd H a (exo a C none))
      (fun v H2 => v = .non ∧ ∃ (d : Addr) (fs : List (Str × V)), H2 a = some (exo a C (some d)) ∧ H2 d = some (exd d fs) ∧ H d = none ∧ Q (.ref C) (some d) (upd (del H2 a) d (.xd fs))) (fun _ _ _ => False) := by
  refine ⟨by simp, fun a na => ⟨a, w, rfl, upd_same, fun dx nd ne => ⟨rfl, dx, _, upd_same, by rw [upd_ne ne, upd_same], ?_, ?_⟩⟩⟩
  · rw [upd_ne ne] at nd
    exact nd
  · rw [upd_ne ne] at nd
    refine h dx _ (fun b o e => ?_) nd upd_same
    have hb : b ≠ dx := ne_of_none e nd
    have hb2 : b ≠ a := ne_of_none e na
    rw [upd_ne hb, del_ne hb2, upd_ne hb2, upd_ne hb, upd_ne hb2]
    exact e
section
variable {P : Program} {w : World} {K : PySem.W.Frag} {mg : Str → Option Value} {base : Heap}
theorem ok_BadPicture_init (T : Txt K mg) : FnOk P w K mg base CX0 1 T.f_BadPicture_init T.d_BadPicture_init ["self", "what"] (sp_exc T.C_BadPicture "what") := by
  refine T.F_BadPicture_init.ok sc_BadPicture_init (fun vs H Q E h => ?_) (fun cdv A outer s H vs Q E hr h => ?_)
  · obtain ⟨a, v, rfl, _⟩ := h
    rfl
  · obtain ⟨a, v, rfl, ha, q⟩ := h
    refine ⟨_, pss_one (ps_ost (pv 0) (pv 1)), ?_⟩
    exact ⟨v, rfl, _, rfl, a, T.C_BadPicture, rfl, T.o_BadPicture, T.n_BadPicture, .inl ⟨ha, fun dx n ne => q dx n ne⟩⟩
theorem ok_BadTour_init (T : Txt K mg) : FnOk P w K mg base CX0 1 T.f_BadTour_init T.d_BadTour_init ["self", "what"] (sp_exc T.C_BadTour "what") := by
  refine T.F_BadTour_init.ok sc_BadTour_init (fun vs H Q E h => ?_) (fun cdv A outer s H vs Q E hr h => ?_)
  · obtain ⟨a, v, rfl, _⟩ := h
    rfl
  · obtain ⟨a, v, rfl, ha, q⟩ := h
    refine ⟨_, pss_one (ps_ost (pv 0) (pv 1)), ?_⟩
    exact ⟨v, rfl, _, rfl, a, T.C_BadTour, rfl, T.o_BadTour, T.n_BadTour, .inl ⟨ha, fun dx n ne => q dx n ne⟩⟩
end
end K03
set_option Elab.async false
set_option linter.all false
set_option maxRecDepth 100000
set_option maxHeartbeats 4000000
set_option exponentiation.threshold 5000
namespace K03
open PySem PySem.Spec PyProof.Rows L2 TkS
/-! bounds, sequences -/
def Lim (v : V) : Prop := v = .non ∨ ∃ l : Int, v = .int l
def wholeIn : V → V → V → Bool
  | .int i, lo, hi => (match lo with | .int l => decide (l ≤ i) | _ => true) && (match hi with | .int h => decide (i ≤ h) | _ => true)
  | _, _, _ => false
theorem wi_low {i l : Int} {hi : V} : wholeIn (.int i) (.int l) hi = (decide (l ≤ i) && wholeIn (.int i) .non hi) := by
  simp [wholeIn]
theorem wi_high {i m : Int} : wholeIn (.int i) .non (.int m) = decide (i ≤ m) := by
  simp [wholeIn]
def seqIs (d : PyData) (n : V) : Bool := match itemsD d with
  | none => false
  | some ds => match n with
    | .int k => decide ((ds.length : Int) = k)
    | _ => true
theorem int_dec {a b : Int} : decide (V.int a = V.int b) = decide (a = b) := by
  by_cases h : a = b
  · subst h
    simp
  · rw [decide_eq_false h, decide_eq_false fun z => h (V.int.inj z)]
def sp_is_whole : Sp := fun vs H Q _ => ∃ x lo hi d, vs = [x, lo, hi] ∧ Dq H x d ∧ Lim lo ∧ Lim hi ∧ Q (.bl (wholeIn x lo hi)) H
def sp_is_sequence : Sp := fun vs H Q _ => ∃ x n d, vs = [x, n] ∧ Dq H x d ∧ (n = .non ∨ ∃ k : Int, n = .int k) ∧ ∀ H', Same H H' → Q (.bl (seqIs d n)) H'
section
variable {P : Program} {w : World} {K : PySem.W.Frag} {mg : Str → Option Value} {base : Heap}
theorem ok_is_whole (T : Txt K mg) : FnOk P w K mg base CX0 1 T.f_is_whole T.d_is_whole ["thing", "low", "high"] sp_is_whole := by
  refine T.F_is_whole.ok sc_is_whole (fun vs H Q E h => ?_) (fun cdv A outer s H vs Q E hr h => ?_)
  · obtain ⟨x, lo, hi, d, rfl, _⟩ := h
    rfl
  · obtain ⟨x, lo, hi, d, rfl, hk, hl, hh, q⟩ := h
    obtain ⟨t, ty, k1, k2, _⟩ := dq_ty (K := K) hk
    refine ⟨_, (pss_cons (ps_if (PW.pt (pw_or (pt_val (pe_callB call_isi (by rfl) T.m_isinstance (by decide +kernel) (pa_cons (pv 0) (pa_cons (pe_bltn (v := .ty "bool") (u := .type "bool") (by rfl) T.m_bool (by decide +kernel) rfl) pa_nil)))) (pw_or1 (pt_not (pt_val (pe_callB call_isi (by rfl) T.m_isinstance (by decide +kernel) (pa_cons (pv 0) (pa_cons (pe_bltn (v := .ty "int") (u := .type "int") (by rfl) T.m_int (by decide +kernel) rfl) pa_nil))))))))
        (pss_one (ps_ret pe_bl))
        pss_nil)
      (pss_cons (ps_if (PW.pt (pw_and (pt_cmpR op_notN (pv 1) pe_non (nomark _)) (pw_and1 (pt_cmpR op_lt (pv 0) (pv 1) (nomark _)))))
        (pss_one (ps_ret pe_bl))
        pss_nil)
      (pss_one (ps_ret (pe_or (pe_cmpR op_isN (pv 2) pe_non (nomark _)) (pe_one (pe_cmpR op_le (pv 0) (pv 2) (nomark _)))))))), ?_⟩
    refine ⟨x, rfl, x, .ty "bool", t, _, isBlV x, rfl, .ty _, ty, k1, isBlV x, rfl, ?_⟩
    have tail : ∀ i : Int, Q (.bl (wholeIn (.int i) .non hi)) H → tRet (tOrV (tOp (fun x y H Q => y = V.non ∧ Q (V.bl (decide (x = V.non))) H) (tVar 2) (tC V.non)) (tOp (rI0 fun i j => V.bl (decide (i ≤ j))) (tVar 0) (tVar 2))) { nx := fun x H' => Q V.non H', rt := Q } (L2.start ["thing", "low", "high"] [V.int i, lo, hi]) H := by
      intro i q
      rcases hh with rfl | ⟨m, rfl⟩
      · exact ⟨.non, rfl, rfl, _, rfl, iteT q⟩
      · refine ⟨.int m, rfl, rfl, _, rfl, iteF ?_⟩
        rw [wi_high] at q
        exact ⟨_, rfl, _, rfl, i, m, rfl, rfl, q⟩
    cases hk with
    | bl b => exact iteT (iteT q)
    | int i =>
      refine iteF ⟨_, rfl, _, .ty "int", t, _, true, rfl, .ty _, ty, k2, true, rfl, iteF ?_⟩
      rcases hl with rfl | ⟨l, rfl⟩
      · exact ⟨.non, rfl, rfl, _, rfl, iteF (iteF (tail i q))⟩
      · rw [wi_low] at q
        refine ⟨.int l, rfl, rfl, _, rfl, iteT ⟨.int i, rfl, .int l, rfl, i, l, rfl, rfl, _, rfl, ite2 (fun e => ?_) (fun e => ?_)⟩⟩
        · have e2 := of_decide_eq_true e
          rw [decide_eq_false (by omega : ¬ l ≤ i)] at q
          exact q
        · have e2 : l ≤ i := Int.not_lt.mp fun z => e (decide_eq_true z)
          rw [decide_eq_true e2] at q
          exact tail i q
    | non => exact iteF ⟨_, rfl, _, .ty "int", t, _, false, rfl, .ty _, ty, k2, false, rfl, iteT q⟩
    | str z => exact iteF ⟨_, rfl, _, .ty "int", t, _, false, rfl, .ty _, ty, k2, false, rfl, iteT q⟩
    | lst z y => exact iteF ⟨_, rfl, _, .ty "int", t, _, false, rfl, .ty _, ty, k2, false, rfl, iteT q⟩
    | tup z y => exact iteF ⟨_, rfl, _, .ty "int", t, _, false, rfl, .ty _, ty, k2, false, rfl, iteT q⟩
theorem ok_is_sequence (T : Txt K mg) : FnOk P w K mg base CX0 1 T.f_is_sequence T.d_is_sequence ["thing", "length"] sp_is_sequence := by
  refine T.F_is_sequence.ok sc_is_sequence (fun vs H Q E h => ?_) (fun cdv A outer s H vs Q E hr h => ?_)
  · obtain ⟨x, n, d, rfl, _⟩ := h
    rfl
  · obtain ⟨x, n, d, rfl, hk, hn, q⟩ := h
    refine ⟨_, (pss_cons (ps_if (pt_not (pt_val (pe_callB call_isiT (by rfl) T.m_isinstance (by decide +kernel) (pa_cons (pv 0) (pa_cons (pe_tup (pa_cons (pe_bltn (v := .ty "list") (u := .type "list") (by rfl) T.m_list (by decide +kernel) rfl) (pa_cons (pe_bltn (v := .ty "tuple") (u := .type "tuple") (by rfl) T.m_tuple (by decide +kernel) rfl) pa_nil))) pa_nil)))))
        (pss_one (ps_ret pe_bl))
        pss_nil)
      (pss_one (ps_ret (pe_or (pe_cmpR op_isN (pv 1) pe_non (nomark _)) (pe_one (pe_cmpR op_eq (pe_callB call_len_seq (by rfl) T.m_len (by decide +kernel) (pa_cons (pv 0) pa_nil)) (pv 1) (nomark _))))))), ?_⟩
    refine ⟨x, rfl, (by show 2 ≤ sizeLine; decide), fun u nu => ?_⟩
    have sm : Same H (upd H u (.tup [.ty "list", .ty "tuple"])) := same_new nu
    obtain ⟨t, ty, _, _, k3, _⟩ := dq_ty (K := K) (Dq.same sm d hk)
    have q' := q _ sm
    refine ⟨x, u, _, t, _, (itemsD d).isSome, rfl, upd_same, .cons (.ty _) (.cons (.ty _) .nil), ty, k3, _, rfl, ?_⟩
    have no : itemsD d = none → (if (!(itemsD d).isSome) = true then tRet (tC (V.bl false)) { nx := tRet (tOrV (tOp (fun x y H Q => y = V.non ∧ Q (V.bl (decide (x = V.non))) H) (tVar 1) (tC V.non)) (tOp rEq (tCB (fun xs H Q => ∃ p ys, xs = [V.ref p] ∧ (SqL K H p ys ∨ SqT K H p ys) ∧ Q (V.int ↑ys.length) H) (tCons (tVar 0) tNil)) (tVar 1))) { nx := fun x H' => Q V.non H', rt := Q }, rt := Q } (L2.start ["thing", "length"] [x, n]) (upd H u (.tup [.ty "list", .ty "tuple"]))
        else tNext { nx := tRet (tOrV (tOp (fun x y H Q => y = V.non ∧ Q (V.bl (decide (x = V.non))) H) (tVar 1) (tC V.non)) (tOp rEq (tCB (fun xs H Q => ∃ p ys, xs = [V.ref p] ∧ (SqL K H p ys ∨ SqT K H p ys) ∧ Q (V.int ↑ys.length) H) (tCons (tVar 0) tNil)) (tVar 1))) { nx := fun x H' => Q V.non H', rt := Q }, rt := Q } (L2.start ["thing", "length"] [x, n]) (upd H u (.tup [.ty "list", .ty "tuple"]))) := fun e => by
      unfold seqIs at q'
      rw [e] at q' ⊢
      exact iteT q'
    have yes : ∀ (a : Addr) (xs : List V) (ds : List PyData), x = .ref a → itemsD d = some ds → xs.length = ds.length → (SqL K (upd H u (.tup [.ty "list", .ty "tuple"])) a xs ∨ SqT K (upd H u (.tup [.ty "list", .ty "tuple"])) a xs) →
        tRet (tOrV (tOp (fun x y H Q => y = V.non ∧ Q (V.bl (decide (x = V.non))) H) (tVar 1) (tC V.non)) (tOp rEq (tCB (fun xs H Q => ∃ p ys, xs = [V.ref p] ∧ (SqL K H p ys ∨ SqT K H p ys) ∧ Q (V.int ↑ys.length) H) (tCons (tVar 0) tNil)) (tVar 1))) { nx := fun x H' => Q V.non H', rt := Q } (L2.start ["thing", "length"] [x, n]) (upd H u (.tup [.ty "list", .ty "tuple"])) := fun a xs ds ex ed el hs => by
      unfold seqIs at q'
      rw [ed] at q'
      rcases hn with rfl | ⟨k, rfl⟩
      · exact ⟨.non, rfl, rfl, _, rfl, iteT q'⟩
      · refine ⟨.int k, rfl, rfl, _, rfl, iteF ⟨_, rfl, a, xs, by rw [ex], hs, _, rfl, rfl, ?_⟩⟩
        rw [el, int_dec]
        exact q'
    cases hk with
    | lst h1 h2 => exact iteF (yes _ _ _ rfl rfl h2.len (.inl (SqL.of (sm _ _ h1))))
    | tup h1 h2 => exact iteF (yes _ _ _ rfl rfl h2.len (.inr (SqT.of (sm _ _ h1))))
    | non => exact no rfl
    | bl b => exact no rfl
    | int b => exact no rfl
    | str b => exact no rfl
end
/-! labels -/
def mrg (ls : List Int) (a b : Int) : List Int := ls.map fun l => if l = a ∨ l = b then (if b < a then b else a) else l
theorem mrg_len (ls : List Int) (a b : Int) : (mrg ls a b).length = ls.length := by
  unfold mrg
  rw [List.length_map]
def row0 (n : Nat) : List Int := (List.range n).map fun (i : Nat) => (i : Int)
theorem row0_len (n : Nat) : (row0 n).length = n := by
  unfold row0
  rw [List.length_map, List.length_range]
def stepM (P : Int) (ls : List Int) (p : Int × Int) : List Int := mrg ls (ls.getD p.1.toNat 0) (ls.getD (P + p.2).toNat 0)
def marks (P W : Int) (ps : List (Int × Int)) : List Int := ps.foldl (stepM P) (row0 (P + W).toNat)
theorem fold_len (P : Int) : ∀ (ps : List (Int × Int)) (ls : List Int), (ps.foldl (stepM P) ls).length = ls.length
  | [], _ => rfl
  | p :: ps, ls => by
    show (ps.foldl (stepM P) (stepM P ls p)).length = _
    rw [fold_len P ps]
    exact mrg_len _ _ _
theorem marks_len (P W : Int) (ps : List (Int × Int)) : (marks P W ps).length = (P + W).toNat := by
  unfold marks
  rw [fold_len, row0_len]
/-- the pairs lie in the picture -/
def Ins (P W : Int) (ps : List (Int × Int)) : Prop := ∀ p ∈ ps, 0 ≤ p.1 ∧ p.1 < P ∧ 0 ≤ p.2 ∧ p.2 < W
def prD (p : Int × Int) : PyData := .tuple [.int p.1, .int p.2]
theorem pr_items {H : Hp} {xs : List V} {ps : List (Int × Int)} {i : Nat} {x : V} (h : DqAll H xs (ps.map prD)) (hx : xs[i]? = some x) : ∃ (t : Addr) (p : Int × Int), x = .ref t ∧ ps[i]? = some p ∧ H t = some (.tup [.int p.1, .int p.2]) := by
  obtain ⟨d, h1, h2⟩ := h.get hx
  rw [List.getElem?_map] at h1
  obtain ⟨p, hp, rfl⟩ := Option.map_eq_some_iff.mp h1
  cases h2 with
  | tup ht ha =>
    cases ha with
    | cons u v =>
      cases v with
      | cons u' v' =>
        cases v'
        cases u
        cases u'
        exact ⟨_, p, rfl, hp, ht⟩
def sp_merged_labels (K : PySem.W.Frag) : Sp := fun vs H Q _ => ∃ (l : Addr) (ls : List Int) (a b : Int), vs = [.ref l, .int a, .int b] ∧ SqL K H l (ls.map V.int) ∧ ls.length ≤ 100 ∧ ∀ H' p, Same H H' → H p = none → H' p = some (.lst ((mrg ls a b).map V.int)) → Q (.ref p) H'
def sp_piece_labels (K : PySem.W.Frag) : Sp := fun vs H Q _ => ∃ (P W : Int) (l : Addr) (xs : List V) (ps : List (Int × Int)), vs = [.int P, .int W, .ref l] ∧ 0 ≤ P ∧ 0 ≤ W ∧ P + W ≤ 100 ∧ SqL K H l xs ∧ DqAll H xs (ps.map prD) ∧ Ins P W ps ∧
  ∀ H' p, Same H H' → H' p = some (.lst ((marks P W ps).map V.int)) → Q (.ref p) H'
theorem in2 {l a b : Int} : inV (.int l) [.int a, .int b] = decide (l = a ∨ l = b) := by
  have e : inV (.int l) [.int a, .int b] = ((a == l) || ((b == l) || false)) := rfl
  rw [e]
  by_cases h1 : l = a
  · subst h1
    simp
  · by_cases h2 : l = b
    · subst h2
      simp
    · have n1 : (a == l) = false := beq_eq_false_iff_ne.mpr fun z => h1 z.symm
      have n2 : (b == l) = false := beq_eq_false_iff_ne.mpr fun z => h2 z.symm
      rw [n1, n2, decide_eq_false (by intro z; rcases z with z | z <;> contradiction)]
      rfl
theorem map_at {ls : List Int} {i : Nat} {x : V} (h : (ls.map V.int)[i]? = some x) : ∃ n, ls[i]? = some n ∧ x = .int n := by
  rw [List.getElem?_map] at h
  obtain ⟨n, hn, e⟩ := Option.map_eq_some_iff.mp h
  exact ⟨n, hn, e.symm⟩
theorem take_snoc {α β : Type} (f : α → β) {l : List α} {i : Nat} {x : α} (h : l[i]? = some x) : (l.take (i + 1)).map f = (l.take i).map f ++ [f x] := by
  rw [List.take_add_one, h, List.map_append]
  rfl
section
variable {P : Program} {w : World} {K : PySem.W.Frag} {mg : Str → Option Value} {base : Heap}
theorem ok_merged_labels (T : Txt K mg) : FnOk P w K mg base CX0 1 T.f_merged_labels T.d_merged_labels ["labels", "one", "other"] (sp_merged_labels K) := by
  refine T.F_merged_labels.ok sc_merged_labels (fun vs H Q E h => ?_) (fun cdv A outer s H vs Q E hr h => ?_)
  · obtain ⟨l, ls, a, b, rfl, _⟩ := h
    rfl
  · obtain ⟨l, ls, a, b, rfl, hS, hlen, q⟩ := h
    refine ⟨_, (pss_cons (ps_set (i := 3) sc_merged_labels.nd rfl (.inr rfl) (pe_callB (call_min2 rfl) (by rfl) T.m_min (by decide +kernel) (pa_cons (pv 1) (pa_cons (pv 2) pa_nil))))
      (pss_one (ps_ret (pe_lc rfl sc_merged_labels.nd (pi_list (pv 0)) (blkOk_by (own := [("label", 4)]) (N := ["labels", "one", "other", "least", "label"]) (sc := defScope s_merged_labels) (by decide +kernel)) (fun _ _ _ _ _ => (pg_name (i := 4) sc_merged_labels.nd rfl (.inl rfl))) (fun _ _ _ _ _ => pts_nil) (fun _ _ _ _ _ => (pe_ifExp (pt_cmpR (show OpR _ (compareOp .In) (rIn K false) from op_in_seq) (pv 4) (pe_tup (pa_cons (pv 1) (pa_cons (pv 2) pa_nil))) rfl) (pv 3) (pv 4))))))), ?_⟩
    refine ⟨_, rfl, _, rfl, a, b, rfl, _, rfl, l, rfl, ⟨_, hS⟩, fun D nD => ?_⟩
    refine lc_list (xs := ls.map V.int) (fun i H' => Same H H' ∧ H' D = some (.lst (((ls.take i).map fun l => if l = a ∨ l = b then (if b < a then b else a) else l).map V.int)))
      ⟨same_new nD, upd_same⟩ (fun i H' _ hP => hP.1.seq hS) (fun i x H' hx hP => ?_) (fun H' hP => ?_)
    · obtain ⟨sm, hD⟩ := hP
      obtain ⟨n, hn, rfl⟩ := map_at hx
      have hi : i < ls.length := (List.getElem?_eq_some_iff.mp hn).1
      refine ⟨rfl, ?_⟩
      refine ⟨_, rfl, _, rfl, _, rfl, (by show 2 ≤ sizeLine; decide), fun u nu => ⟨u, _, rfl, .inr (SqT.of upd_same), rfl, rfl, _, rfl, ?_⟩⟩
      have nDu : D ≠ u := ne_of_none hD nu
      have sm2 : Same H (upd H' u (.tup [.int a, .int b])) := fun c o e => (same_new nu) _ _ (sm _ _ e)
      have fin : ∀ z : Int, z = (if n = a ∨ n = b then (if b < a then b else a) else n) → ∃ acc, (upd H' u (.tup [.int a, .int b])) D = some (.lst acc) ∧ acc.length < sizeLine ∧
          (Same H (upd (upd H' u (.tup [.int a, .int b])) D (.lst (acc ++ [.int z]))) ∧ (upd (upd H' u (.tup [.int a, .int b])) D (.lst (acc ++ [.int z]))) D = some (.lst (((ls.take (i + 1)).map fun l => if l = a ∨ l = b then (if b < a then b else a) else l).map V.int))) := fun z ez => by
        refine ⟨_, by rw [upd_ne nDu]; exact hD, ?_, fun c o e => ?_, ?_⟩
        · rw [List.length_map, List.length_map, List.length_take]
          exact small1000 (by omega)
        · rw [upd_ne (ne_of_none e nD)]
          exact sm2 _ _ e
        · rw [upd_same, take_snoc _ hn, List.map_append, ez]
          rfl
      by_cases c : n = a ∨ n = b
      · refine (show (if (if false = true then !inV (V.int n) [V.int a, V.int b] else inV (V.int n) [V.int a, V.int b]) = true then _ else _) from ?_)
        rw [if_neg Bool.false_ne_true, in2, decide_eq_true c]
        exact iteT ⟨_, rfl, fin _ (by rw [if_pos c])⟩
      · refine (show (if (if false = true then !inV (V.int n) [V.int a, V.int b] else inV (V.int n) [V.int a, V.int b]) = true then _ else _) from ?_)
        rw [if_neg Bool.false_ne_true, in2, decide_eq_false c]
        exact iteF ⟨_, rfl, fin _ (by rw [if_neg c])⟩
    · obtain ⟨sm, hD⟩ := hP
      rw [List.length_map, List.take_length] at hD
      exact q H' D sm nD hD
end
end K03
set_option Elab.async false
set_option linter.all false
set_option maxRecDepth 100000
set_option maxHeartbeats 4000000
set_option exponentiation.threshold 5000
namespace K03
open PySem PySem.Spec PyProof.Rows L2 TkS
/-! comprehensions of ints -/
theorem filter_snoc {α β : Type} (p : α → Bool) (f : α → β) {l : List α} {i : Nat} {x : α} (h : l[i]? = some x) :
    ((l.take (i + 1)).filter p).map f = if p x = true then ((l.take i).filter p).map f ++ [f x] else ((l.take i).filter p).map f := by
  rw [List.take_add_one, h]
  show ((l.take i ++ [x]).filter p).map f = _
  rw [List.filter_append, List.map_append, List.filter_cons]
  by_cases c : p x = true
  · rw [if_pos c, if_pos c]
    rfl
  · rw [if_neg c, if_neg c]
    show ((l.take i).filter p).map f ++ [] = _
    rw [List.append_nil]
theorem filter_range {β : Type} (p : Nat → Bool) (f : Nat → β) (i : Nat) :
    ((List.range (i + 1)).filter p).map f = if p i = true then ((List.range i).filter p).map f ++ [f i] else ((List.range i).filter p).map f := by
  rw [List.range_succ, List.filter_append, List.map_append, List.filter_cons]
  by_cases c : p i = true
  · rw [if_pos c, if_pos c]
    rfl
  · rw [if_neg c, if_neg c]
    show ((List.range i).filter p).map f ++ [] = _
    rw [List.append_nil]
theorem len_filter_take {α β : Type} (p : α → Bool) (f : α → β) (l : List α) (i : Nat) : (((l.take i).filter p).map f).length ≤ l.length := by
  rw [List.length_map]
  exact Nat.le_trans (List.length_filter_le _ _) (by rw [List.length_take]; omega)
theorem len_filter_range {β : Type} (p : Nat → Bool) (f : Nat → β) (i : Nat) : (((List.range i).filter p).map f).length ≤ i := by
  rw [List.length_map]
  exact Nat.le_trans (List.length_filter_le _ _) (by rw [List.length_range]; exact Nat.le_refl _)
/-- a comprehension over any items, each turn told by f (kept) and e (the new item), which leave the heap -/
theorem lc_vals {α : Type} {K : PySem.W.Frag} {a : Addr} {ns : List α} {h : α → V} {tt : TT} {te : TE} {vs : List Nat} {σ : L2.St} {H0 H1 : Hp} {D : Addr} {Qd : Hp → Prop} {j : Nat} (f : α → Bool) (e : α → V)
    (sm : Same H0 H1) (nD : H1 D = none) (hl : ns.length ≤ 1000) (hS : ∀ H', Same H0 H' → SqL K H' a (ns.map h)) (hw : ∀ x : V, wipe ((wipe σ vs).set j (some x)) vs = wipe σ vs)
    (ht : ∀ (i : Nat) (n : α) (H' : Hp) (Q : Bool → Hp → Prop), ns[i]? = some n → Same H0 H' → (∀ H'', Same H' H'' → Q (f n) H'') → tt ((wipe σ vs).set j (some (h n))) H' Q)
    (he : ∀ (i : Nat) (n : α) (H' : Hp) (Q : VK), ns[i]? = some n → f n = true → Same H0 H' → (∀ H'', Same H' H'' → Q (e n) H'') → te ((wipe σ vs).set j (some (h n))) H' Q)
    (hd : ∀ H', Same H0 H' → H' D = some (.lst ((ns.filter f).map e)) → Qd H') :
    ∃ W : Nat → Nat → Hp → Prop, (∃ m, W 0 m (upd H1 D (.lst []))) ∧ ∀ i m H, W i m H →
      ((Itl K a).stop i H ∧ Qd H) ∨ ((Itl K a).go i H ∧ ∃ Nx : Hp → Prop, (∀ H', Nx H' → ∃ m', m' < m ∧ W (i + 1) m' H') ∧ ∀ x H', (Itl K a).yld i H x H' → gName j x (wipe σ vs) H' fun σ2 H2 => wipe σ2 vs = wipe σ vs ∧ tt σ2 H2 fun b H3 =>
        if b = true then te σ2 H3 fun y H4 => ∃ acc, H4 D = some (.lst acc) ∧ acc.length < sizeLine ∧ Nx (upd H4 D (.lst (acc ++ [y]))) else Nx H3) := by
  refine lc_list (xs := ns.map h) (fun i H' => Same H0 H' ∧ H' D = some (.lst (((ns.take i).filter f).map e)) ∧ ∀ b o, H0 b = some o → b ≠ D) ⟨sm.trans (same_new nD), upd_same, fun b o z => ne_of_none (sm _ _ z) nD⟩ (fun i H' _ hP => hS _ hP.1) (fun i x H' hx hP => ?_) (fun H' hP => ?_)
  · obtain ⟨s, hD, ap⟩ := hP
    rw [List.getElem?_map] at hx
    obtain ⟨n, hn, rfl⟩ := Option.map_eq_some_iff.mp hx
    refine ⟨hw _, ht i n H' _ hn s fun H2 s2 => ?_⟩
    have hD2 := s2 _ _ hD
    cases c : f n with
    | true =>
      refine he i n H2 _ hn c (s.trans s2) fun H3 s3 => ⟨_, s3 _ _ hD2, ?_, fun b o z => ?_, ?_, ap⟩
      · exact small1000 (Nat.le_trans (len_filter_take _ _ _ _) hl)
      · rw [upd_ne (ap b o z)]
        exact s3 _ _ (s2 _ _ (s _ _ z))
      · rw [upd_same, filter_snoc _ _ hn, if_pos c]
    | false =>
      refine ⟨s.trans s2, ?_, ap⟩
      rw [filter_snoc _ _ hn, c, if_neg Bool.false_ne_true]
      exact hD2
  · obtain ⟨s, hD, _⟩ := hP
    rw [List.length_map, List.take_length] at hD
    exact hd H' s hD
/-- the same over a range -/
theorem lc_rng {tt : TT} {te : TE} {vs : List Nat} {σ : L2.St} {H0 H1 : Hp} {D : Addr} {Qd : Hp → Prop} {j n : Nat} (f : Nat → Bool) (e : Nat → V)
    (sm : Same H0 H1) (nD : H1 D = none) (hl : n ≤ 1000) (hw : ∀ x : V, wipe ((wipe σ vs).set j (some x)) vs = wipe σ vs)
    (ht : ∀ (i : Nat) (H' : Hp) (Q : Bool → Hp → Prop), i < n → Same H0 H' → (∀ H'', Same H' H'' → Q (f i) H'') → tt ((wipe σ vs).set j (some (.int (0 + (i : Int))))) H' Q)
    (he : ∀ (i : Nat) (H' : Hp) (Q : VK), i < n → f i = true → Same H0 H' → (∀ H'', Same H' H'' → Q (e i) H'') → te ((wipe σ vs).set j (some (.int (0 + (i : Int))))) H' Q)
    (hd : ∀ H', Same H0 H' → H' D = some (.lst (((List.range n).filter f).map e)) → Qd H') :
    ∃ W : Nat → Nat → Hp → Prop, (∃ m, W 0 m (upd H1 D (.lst []))) ∧ ∀ i m H, W i m H →
      ((Itr 0 n).stop i H ∧ Qd H) ∨ ((Itr 0 n).go i H ∧ ∃ Nx : Hp → Prop, (∀ H', Nx H' → ∃ m', m' < m ∧ W (i + 1) m' H') ∧ ∀ x H', (Itr 0 n).yld i H x H' → gName j x (wipe σ vs) H' fun σ2 H2 => wipe σ2 vs = wipe σ vs ∧ tt σ2 H2 fun b H3 =>
        if b = true then te σ2 H3 fun y H4 => ∃ acc, H4 D = some (.lst acc) ∧ acc.length < sizeLine ∧ Nx (upd H4 D (.lst (acc ++ [y]))) else Nx H3) := by
  refine lc_range (lo := 0) (n := n) (fun i H' => Same H0 H' ∧ H' D = some (.lst (((List.range i).filter f).map e)) ∧ ∀ b o, H0 b = some o → b ≠ D) ⟨sm.trans (same_new nD), upd_same, fun b o z => ne_of_none (sm _ _ z) nD⟩ (fun i H' hi hP => ?_) (fun H' hP => ?_)
  · obtain ⟨s, hD, ap⟩ := hP
    refine ⟨hw _, ht i H' _ hi s fun H2 s2 => ?_⟩
    have hD2 := s2 _ _ hD
    cases c : f i with
    | true =>
      refine he i H2 _ hi c (s.trans s2) fun H3 s3 => ⟨_, s3 _ _ hD2, ?_, fun b o z => ?_, ?_, ap⟩
      · exact small1000 (Nat.le_trans (len_filter_range _ _ _) (by omega))
      · rw [upd_ne (ap b o z)]
        exact s3 _ _ (s2 _ _ (s _ _ z))
      · rw [upd_same, filter_range, if_pos c]
    | false =>
      refine ⟨s.trans s2, ?_, ap⟩
      rw [filter_range, c, if_neg Bool.false_ne_true]
      exact hD2
  · exact hd H' hP.1 hP.2.1
/-! pieces -/
def cs (ls : List Int) (label : Nat) : List Nat := (List.range ls.length).filter fun c => decide (ls.getD c 0 = (label : Int))
def pieceD (P : Int) (c : List Nat) : PyData := .tuple [.tuple ((c.filter fun (k : Nat) => decide ((k : Int) < P)).map fun (k : Nat) => .int (k : Int)), .tuple ((c.filter fun (k : Nat) => decide (P ≤ (k : Int))).map fun (k : Nat) => .int ((k : Int) - P))]
def piecesD (P : Int) (ls : List Int) : List PyData := ((List.range ls.length).filter fun l => !(cs ls l).isEmpty).map fun l => pieceD P (cs ls l)
theorem dq_ints {H : Hp} {α : Type} (f : α → Int) : ∀ l : List α, DqAll H (l.map fun x => .int (f x)) (l.map fun x => .int (f x))
  | [] => .nil
  | _ :: l => .cons (.int _) (dq_ints f l)
theorem off_upd {h : Addr} {H : Hp} {o : HO} : TkS.Off h (upd H h o) = TkS.Off h H := by
  funext b
  unfold TkS.Off
  by_cases z : b = h
  · rw [if_pos z, if_pos z]
  · rw [if_neg z, if_neg z, upd_ne z]
theorem ix_at {ls : List Int} {z : Int} (h0 : 0 ≤ z) (h1 : z < ls.length) : atI (ls.map V.int) z = some (.int (ls.getD z.toNat 0)) := by
  have hp : z.toNat < ls.length := by omega
  refine at_of (j := z.toNat) (by omega) ?_
  rw [List.getElem?_map, List.getElem?_eq_getElem hp]
  show some (V.int ls[z.toNat]) = _
  rw [List.getD_eq_getElem?_getD, List.getElem?_eq_getElem hp]
  rfl
def sp_pieces_by_labels (K : PySem.W.Frag) : Sp := fun vs H Q _ => ∃ (P : Int) (l : Addr) (ls : List Int), vs = [.int P, .ref l] ∧ SqL K H l (ls.map V.int) ∧ ls.length ≤ 100 ∧ ∀ H' v, Same H H' → Dq H' v (.tuple (piecesD P ls)) → Q v H'
section
variable {P : Program} {w : World} {K : PySem.W.Frag} {mg : Str → Option Value} {base : Heap}
theorem rg_row {a b : Int} (h : 0 ≤ b) : rgV 0 b = (row0 b.toNat).map V.int := by
  unfold rgV row0
  rw [List.map_map, Int.sub_zero]
  refine List.map_congr_left fun i _ => ?_
  show V.int (0 + (i : Int)) = V.int (i : Int)
  rw [Int.zero_add]
theorem ok_piece_labels (T : Txt K mg) : FnOk P w K mg base CX0 2 T.f_piece_labels T.d_piece_labels ["points", "walls", "pairs"] (sp_piece_labels K) := by
  refine T.F_piece_labels.ok sc_piece_labels (fun vs H Q E h => ?_) (fun cdv A outer s H vs Q E hr h => ?_)
  · obtain ⟨P', W, l, xs, ps, rfl, _⟩ := h
    rfl
  · obtain ⟨P', W, l, xs, ps, rfl, p0, w0, pw, hS, hD, hin, q⟩ := h
    refine ⟨_, (pss_cons (ps_set (i := 3) sc_piece_labels.nd rfl (.inl rfl) (pe_listRg rfl (by rfl) T.m_list (prg_1 (by rfl) T.m_range (pe_op op_add (pv 0) (pv 1)))))
      (pss_cons (ps_for PassesOwn.never rfl (pi_list (pv 2)) (pg_tup rfl (pgs_cons (pg_name (i := 4) sc_piece_labels.nd rfl (.inl rfl)) (pgs_cons (pg_name (i := 5) sc_piece_labels.nd rfl (.inl rfl)) pgs_nil)))
        (pss_one (ps_set (i := 3) sc_piece_labels.nd rfl (.inl rfl) (pe_call (ok_merged_labels T) (hr.mono (by decide)) (by rfl) T.g_merged_labels T.F_merged_labels.kp T.b_merged_labels .nil pass0 (pa_cons (pv 3) (pa_cons (pe_ix ix_list (pv 3) (pv 4) (fun _ _ => rfl)) (pa_cons (pe_ix ix_list (pv 3) (pe_op op_add (pv 0) (pv 5)) (fun _ _ => rfl)) pa_nil)))))))
      (pss_one (ps_ret (pv 3))))), ?_⟩
    refine ⟨_, rfl, _, rfl, P', W, rfl, rfl, P' + W, rfl, RgOk.of_le (by decide) (by omega) (by decide) (by omega), fun l0 n0 => ?_⟩
    have hlen : xs.length = ps.length := by
      rw [hD.len, List.length_map]
    refine ⟨_, rfl, l, rfl, ⟨_, (same_new n0).seq hS⟩, for_list (xs := xs) (fun i σ H' => ∃ (a : Addr) (y4 y5 : Option V), σ = [some (.int P'), some (.int W), some (.ref l), some (.ref a), y4, y5] ∧ Same H H' ∧ H' a = some (.lst (((ps.take i).foldl (stepM P') (row0 (P' + W).toNat)).map V.int)))
      ⟨l0, none, none, rfl, same_new n0, ?_⟩ (fun i σ H' _ hP => by obtain ⟨_, _, _, _, sm, _⟩ := hP; exact sm.seq hS) (fun i x σ H' hx hP => ?_) (fun σ H' hP => ?_)⟩
    · rw [upd_same, rg_row (a := 0) (by omega)]
      rfl
    · obtain ⟨a, y4, y5, rfl, sm, ha⟩ := hP
      obtain ⟨t, p, rfl, hp, ht⟩ := pr_items hD hx
      obtain ⟨b1, b2, b3, b4⟩ := hin p (List.mem_of_getElem? hp)
      generalize el : (ps.take i).foldl (stepM P') (row0 (P' + W).toNat) = ls at ha
      have ll : ls.length = (P' + W).toNat := by rw [← el, fold_len, row0_len]
      refine ⟨t, _, rfl, SqT.of (sm _ _ ht), rfl, _, _, rfl, _, _, rfl, rfl, ?_⟩
      refine ⟨_, rfl, _, rfl, _, rfl, a, _, p.1, _, rfl, rfl, SqL.of ha, ix_at b1 (by omega), _, rfl, _, rfl, _, rfl, P', p.2, rfl, rfl, a, _, P' + p.2, _, rfl, rfl, SqL.of ha, ix_at (by omega) (by omega), ?_⟩
      refine ⟨a, ls, _, _, rfl, SqL.of ha, by omega, fun H2 b s2 nb hb => ⟨b, _, _, rfl, sm.trans s2, ?_⟩⟩
      rw [hb, List.take_add_one, hp, List.foldl_append, el]
      rfl
    · obtain ⟨a, y4, y5, rfl, sm, ha⟩ := hP
      refine ⟨_, rfl, q H' a sm ?_⟩
      rw [hlen, List.take_length] at ha
      exact ha
theorem ok_pieces_by_labels (T : Txt K mg) : FnOk P w K mg base CX0 1 T.f_pieces_by_labels T.d_pieces_by_labels ["points", "labels"] (sp_pieces_by_labels K) := by
  refine T.F_pieces_by_labels.ok sc_pieces_by_labels (fun vs H Q E h => ?_) (fun cdv A outer s H vs Q E hr h => ?_)
  · obtain ⟨P', l, ls, rfl, _⟩ := h
    rfl
  · obtain ⟨P', l, ls, rfl, hS, hlen, q⟩ := h
    refine ⟨_, (pss_cons (ps_set (i := 2) sc_pieces_by_labels.nd rfl (.inl rfl) (pe_lst pa_nil))
      (pss_cons (ps_for PassesOwn.never rfl (pi_range1 (by rfl) T.m_range (pa_cons (pe_callB call_len_seq (by rfl) T.m_len (by decide +kernel) (pa_cons (pv 1) pa_nil)) pa_nil)) (pg_name (i := 3) sc_pieces_by_labels.nd rfl (.inr rfl))
        (pss_cons (ps_setLc (i := 4) rfl sc_pieces_by_labels.nd rfl rfl (sw_true rfl rfl rfl (by decide +kernel)) (pi_range1 (by rfl) T.m_range (pa_cons (pe_callB call_len_seq (by rfl) T.m_len (by decide +kernel) (pa_cons (pv 1) pa_nil)) pa_nil)) (blkOk_by (own := [("corner", 6)]) (N := ["points", "labels", "pieces", "label", "corners", "inside", "corner"]) (sc := defScope s_pieces_by_labels) (by decide +kernel)) (fun _ _ _ _ _ => (pg_name (i := 6) sc_pieces_by_labels.nd rfl (.inl rfl))) (fun _ _ _ _ _ => (pts_one (pt_cmpR op_eq (pe_ix (show IxR _ (rIxL K) from ix_list) (pv 1) (pv 6) (fun _ _ => rfl)) (pv 3) (nomark _)))) (fun _ _ _ _ _ => (pv 6)))
        (pss_one (ps_if (pt_truth (pv 4) (by intro _; rfl))
          (pss_cons (ps_set (i := 5) sc_pieces_by_labels.nd rfl (.inl rfl) (pe_callTy call_tuple_of (by rfl) T.m_tuple (by decide +kernel) (pa_cons (pe_lc rfl sc_pieces_by_labels.nd (pi_list (pv 4)) (blkOk_by (own := [("corner", 6)]) (N := ["points", "labels", "pieces", "label", "corners", "inside", "corner"]) (sc := defScope s_pieces_by_labels) (by decide +kernel)) (fun _ _ _ _ _ => (pg_name (i := 6) sc_pieces_by_labels.nd rfl (.inl rfl))) (fun _ _ _ _ _ => (pts_one (pt_cmpR op_lt (pv 6) (pv 0) (nomark _)))) (fun _ _ _ _ _ => (pv 6))) pa_nil)))
          (pss_one (ps_expr (pe_bm PySem.F.plainAttrs_list PySem.F.slot_list_append PySem.F.type_list_append mt_append (pv 2) (pa_cons (pe_tup (pa_cons (pv 5) (pa_cons (pe_callTy call_tuple_of (by rfl) T.m_tuple (by decide +kernel) (pa_cons (pe_lc rfl sc_pieces_by_labels.nd (pi_list (pv 4)) (blkOk_by (own := [("corner", 6)]) (N := ["points", "labels", "pieces", "label", "corners", "inside", "corner"]) (sc := defScope s_pieces_by_labels) (by decide +kernel)) (fun _ _ _ _ _ => (pg_name (i := 6) sc_pieces_by_labels.nd rfl (.inl rfl))) (fun _ _ _ _ _ => (pts_one (pt_cmpR op_ge (pv 6) (pv 0) (nomark _)))) (fun _ _ _ _ _ => (pe_op op_sub (pv 6) (pv 0)))) pa_nil)) pa_nil))) pa_nil)))))
          pss_nil))))
      (pss_one (ps_ret (pe_callTy call_tuple_of (by rfl) T.m_tuple (by decide +kernel) (pa_cons (pv 2) pa_nil)))))), ?_⟩
    refine ⟨Nat.zero_le _, fun pp np => ?_⟩
    have sm0 : Same H (upd H pp (.lst [])) := same_new np
    refine ⟨_, rfl, l, _, rfl, .inl (sm0.seq hS), _, rfl, by omega, by rw [List.length_map]; omega, for_range (n := ((ls.map V.int).length : Int).toNat)
      (fun i σ H' => ∃ (xs : List V) (y3 y4 y5 : Option V), σ = [some (.int P'), some (.ref l), some (.ref pp), y3, y4, y5, none] ∧ Same H H' ∧ H' pp = some (.lst xs) ∧ DqAll (TkS.Off pp H') xs (((List.range i).filter fun l => !(cs ls l).isEmpty).map fun l => pieceD P' (cs ls l)))
      ⟨[], none, none, none, rfl, sm0, upd_same, .nil⟩ (fun i σ H' hi hP => ?_) (fun σ H' hP => ?_)⟩
    · obtain ⟨xs, y3, y4, y5, rfl, sm, hpp, hd⟩ := hP
      have hi' : i < ls.length := by simpa using hi
      have lx : xs.length ≤ ls.length := by
        rw [hd.len]
        exact Nat.le_trans (len_filter_range _ _ _) (by omega)
      refine ⟨_, rfl, l, _, rfl, .inl (sm.seq hS), _, rfl, by omega, by rw [List.length_map]; omega, fun D nD => ?_⟩
      refine lc_rng (fun k => decide (ls.getD k 0 = (i : Int))) (fun k => .int (k : Int)) (H0 := H') (fun _ _ h => h) nD (by rw [List.length_map]; omega) (fun _ => rfl)
        (fun k H2 Q hk s2 q2 => ?_) (fun k H2 Q hk _ s2 q2 => ?_) (fun H2 s2 hD => ?_)
      · have hk' : k < ls.length := by simpa using hk
        refine ⟨_, rfl, _, rfl, l, ls.map V.int, (k : Int), .int (ls.getD k 0), rfl, by rw [Int.zero_add], (sm.trans s2).seq hS, ix_at (z := (k : Int)) (by omega) (by omega), _, rfl, rfl, _, rfl, ?_⟩
        rw [int_dec, Int.zero_add]
        exact q2 _ (fun _ _ h => h)
      · refine ⟨_, rfl, ?_⟩
        rw [Int.zero_add]
        exact q2 _ (fun _ _ h => h)
      · have e : ((ls.map V.int).length : Int).toNat = ls.length := by simp
        rw [e] at hD
        refine ⟨_, rfl, _, .inl ⟨_, SqL.of hD, rfl⟩, ?_⟩
        have hD' : H2 D = some (.lst ((cs ls i).map fun (k : Nat) => .int (k : Int))) := hD
        have cl : (cs ls i).length ≤ 100 := Nat.le_trans (List.length_filter_le _ _) (by rw [List.length_range]; exact hlen)
        refine (show (if (!((cs ls i).map fun (k : Nat) => V.int (k : Int)).isEmpty) = true then _ else _) from ?_)
        rw [show ((cs ls i).map fun (k : Nat) => V.int (k : Int)).isEmpty = (cs ls i).isEmpty from List.isEmpty_map]
        cases hc : (cs ls i).isEmpty with
        | true =>
          refine iteF ⟨xs, _, _, _, rfl, sm.trans s2, s2 _ _ hpp, ?_⟩
          rw [filter_range, hc, if_neg (by decide)]
          exact DqAll.same (off_of s2) _ hd
        | false =>
          refine iteT ⟨_, rfl, D, rfl, ⟨_, SqL.of hD'⟩, fun D2 nD2 => ?_⟩
          refine lc_vals (ns := cs ls i) (h := fun (k : Nat) => .int (k : Int)) (fun k => decide ((k : Int) < P')) (fun k => .int (k : Int)) (H0 := H2) (fun _ _ h => h) nD2 (by omega) (fun H3 s3 => SqL.of (s3 _ _ hD')) (fun _ => rfl)
            (fun j k H3 Q hk s3 q3 => ?_) (fun j k H3 Q hk _ s3 q3 => ?_) (fun H3 s3 hD2 => ?_)
          · exact ⟨_, rfl, _, rfl, _, _, rfl, rfl, _, rfl, q3 _ (fun _ _ h => h)⟩
          · exact ⟨_, rfl, q3 _ (fun _ _ h => h)⟩
          · refine ⟨D2, _, rfl, .inl ⟨SqL.of hD2, fun t1 n1 => ?_⟩⟩
            have m1 : Same H2 (upd H3 t1 (.tup (((cs ls i).filter fun (k : Nat) => decide ((k : Int) < P')).map fun (k : Nat) => .int (k : Int)))) := s3.trans (same_new n1)
            generalize e4 : upd H3 t1 (.tup (((cs ls i).filter fun (k : Nat) => decide ((k : Int) < P')).map fun (k : Nat) => .int (k : Int))) = H4 at m1
            have t1e : H4 t1 = some (.tup (((cs ls i).filter fun (k : Nat) => decide ((k : Int) < P')).map fun (k : Nat) => .int (k : Int))) := by rw [← e4, upd_same]
            refine ⟨_, rfl, by rw [← e4]; exact .inl ⟨rfl, xs, SqL.of ((s3.trans (same_new n1)) _ _ (s2 _ _ hpp))⟩, _, rfl, _, rfl, D, rfl, ⟨_, SqL.of (m1 _ _ hD')⟩, fun D3 nD3 => ?_⟩
            refine lc_vals (ns := cs ls i) (h := fun (k : Nat) => .int (k : Int)) (fun k => decide (P' ≤ (k : Int))) (fun k => .int ((k : Int) - P')) (H0 := H4) (fun _ _ h => h) nD3 (by omega) (fun H5 s5 => SqL.of (s5 _ _ (m1 _ _ hD'))) (fun _ => rfl)
              (fun j k H5 Q hk s5 q5 => ?_) (fun j k H5 Q hk _ s5 q5 => ?_) (fun H5 s5 hD3 => ?_)
            · exact ⟨_, rfl, _, rfl, _, _, rfl, rfl, _, rfl, q5 _ (fun _ _ h => h)⟩
            · exact ⟨_, rfl, _, rfl, _, _, rfl, rfl, q5 _ (fun _ _ h => h)⟩
            · refine ⟨D3, _, rfl, .inl ⟨SqL.of hD3, fun t2 n2 => ?_⟩⟩
              generalize e6 : upd H5 t2 (.tup (((cs ls i).filter fun (k : Nat) => decide (P' ≤ (k : Int))).map fun (k : Nat) => .int ((k : Int) - P'))) = H6
              have m6 : Same H4 H6 := by rw [← e6]; exact s5.trans (same_new n2)
              have t2e : H6 t2 = some (.tup (((cs ls i).filter fun (k : Nat) => decide (P' ≤ (k : Int))).map fun (k : Nat) => .int ((k : Int) - P'))) := by rw [← e6, upd_same]
              have p4 : H4 pp = some (.lst xs) := m1 _ _ (s2 _ _ hpp)
              have p6 : H6 pp = some (.lst xs) := m6 _ _ p4
              have ne1 : t1 ≠ pp := fun z => by
                subst z
                rw [t1e] at p4
                cases p4
              have ne2 : t2 ≠ pp := fun z => by
                subst z
                rw [t2e] at p6
                cases p6
              refine ⟨(by show 2 ≤ sizeLine; decide), fun t3 n3 => ⟨pp, xs, _, rfl, rfl, (same_new n3) _ _ p6, small1000 (by omega), ?_⟩⟩
              have ne3 : t3 ≠ pp := (ne_of_none p6 n3).symm
              have all : Same H (upd H6 t3 (.tup [.ref t1, .ref t2])) := (((sm.trans s2).trans m1).trans m6).trans (same_new n3)
              refine ⟨xs ++ [.ref t3], _, _, _, rfl, fun b o z => ?_, upd_same, ?_⟩
              · rw [upd_ne (ne_of_none z np)]
                exact all b o z
              · rw [off_upd, filter_range, hc, if_pos (by decide)]
                refine (DqAll.same (off_of (((s2.trans m1).trans m6).trans (same_new n3))) _ hd).snoc (.tup (off_at ne3 upd_same) (.cons (.tup (off_at ne1 ((same_new n3) _ _ (m6 _ _ t1e))) ?_) (.cons (.tup (off_at ne2 ((same_new n3) _ _ t2e)) ?_) .nil)))
                · exact dq_ints (fun (k : Nat) => (k : Int)) _
                · exact dq_ints (fun (k : Nat) => (k : Int) - P') _
    · obtain ⟨xs, y3, y4, y5, rfl, sm, hpp, hd⟩ := hP
      refine ⟨_, rfl, pp, xs, rfl, .inl ⟨SqL.of hpp, fun t nt => ?_⟩⟩
      refine q _ _ (sm.trans (same_new nt)) (.tup upd_same ?_)
      have e : ((ls.map V.int).length : Int).toNat = ls.length := by simp
      rw [e] at hd
      exact DqAll.same ((off_same).trans (same_new nt)) _ hd
end
end K03
set_option Elab.async false
set_option linter.all false
set_option maxRecDepth 100000
set_option maxHeartbeats 4000000
set_option exponentiation.threshold 5000
namespace K03
open PySem PySem.Spec PyProof.Rows L2 TkS
/-! pairs as data -/
theorem prD_datum (p : Int × Int) : prD p = PySem.W.Datum.toD p := rfl
theorem eqv_pr (p q : Int × Int) : PyData.eqv (prD p) (prD q) = decide (p = q) := PySem.W.Datum.eqv p q
theorem eqv_prs (ps qs : List (Int × Int)) : PyData.eqvAll (ps.map prD) (qs.map prD) = decide (ps = qs) := PySem.W.eqvAll_map ps qs
theorem any_pr (ps : List (Int × Int)) (p : Int × Int) : ((ps.map prD).any fun d => PyData.eqv d (prD p)) = decide (p ∈ ps) := (PySem.W.any_datum ps p).trans (decide_eq_decide.mpr Iff.rfl)
theorem shaped_pr (p : Int × Int) : SeqAt.shaped (prD p) = true := by
  simp [SeqAt.shaped, prD, PyData.canLay0, PyData.canLayAll0, PyData.depth, PyData.depthAll]
theorem lay_prs : ∀ ps : List (Int × Int), PyData.canLayAll0 (ps.map prD) = true ∧ PyData.depthAll (ps.map prD) ≤ 1
  | [] => ⟨rfl, Nat.zero_le _⟩
  | p :: ps => by
    have h := lay_prs ps
    constructor
    · simp [PyData.canLayAll0, prD, PyData.canLay0] at h ⊢
      exact h.1
    · simp [PyData.depthAll, prD, PyData.depth] at h ⊢
      exact Nat.max_le.mpr ⟨Nat.le_refl _, h.2⟩
theorem shaped_prs (ps : List (Int × Int)) : SeqAt.shaped (.tuple (ps.map prD)) = true := by
  have h := lay_prs ps
  simp [SeqAt.shaped, PyData.canLay0, PyData.depth, h.1]
  omega
theorem shaped_prs_l (ps : List (Int × Int)) : SeqAt.shaped (.list (ps.map prD)) = true := by
  have h := lay_prs ps
  simp [SeqAt.shaped, PyData.canLay0, PyData.depth, h.1]
  omega
def wholeD (d : PyData) (lo hi : Int) : Bool := match d with | .int i => decide (lo ≤ i) && decide (i ≤ hi) | _ => false
theorem wi_dq {H : Hp} {x : V} {d : PyData} {lo hi : Int} (k : Dq H x d) : wholeIn x (.int lo) (.int hi) = wholeD d lo hi := by cases k <;> rfl
theorem wholeD_of {d : PyData} {lo hi : Int} (h : wholeD d lo hi = true) : ∃ i, d = .int i ∧ lo ≤ i ∧ i ≤ hi := by
  cases d with
  | int i =>
    have h' : (decide (lo ≤ i) && decide (i ≤ hi)) = true := h
    rw [Bool.and_eq_true, decide_eq_true_iff, decide_eq_true_iff] at h'
    exact ⟨i, rfl, h'⟩
  | _ => cases h
def isPair (P W : Int) (d : PyData) : Bool := match itemsD d with | some [a, b] => wholeD a 0 (P - 1) && wholeD b 0 (W - 1) | _ => false
def prOf (d : PyData) : Int × Int := match itemsD d with | some [.int a, .int b] => (a, b) | _ => (0, 0)
theorem prOf_prD (p : Int × Int) : prOf (prD p) = p := rfl
theorem isPair_of {P W : Int} {d : PyData} (h : isPair P W d = true) : itemsD d = some [.int (prOf d).1, .int (prOf d).2] ∧ 0 ≤ (prOf d).1 ∧ (prOf d).1 < P ∧ 0 ≤ (prOf d).2 ∧ (prOf d).2 < W := by
  unfold isPair at h
  split at h
  · rename_i a b e
    rw [Bool.and_eq_true] at h
    obtain ⟨i, rfl, h1, h2⟩ := wholeD_of h.1
    obtain ⟨j, rfl, h3, h4⟩ := wholeD_of h.2
    unfold prOf
    rw [e]
    exact ⟨rfl, h1, by show i < P; omega, h3, by show j < W; omega⟩
  · cases h
theorem isPair_prD {P W : Int} {p : Int × Int} : isPair P W (prD p) = true ↔ 0 ≤ p.1 ∧ p.1 < P ∧ 0 ≤ p.2 ∧ p.2 < W := by
  constructor
  · intro h
    exact (isPair_of h).2
  · rintro ⟨h1, h2, h3, h4⟩
    show (decide (0 ≤ p.1) && decide (p.1 ≤ P - 1) && (decide (0 ≤ p.2) && decide (p.2 ≤ W - 1))) = true
    simp
    omega
/-! sorted lists of pairs -/
def leP (p q : Int × Int) : Prop := SrtO.lexB q p = false
theorem leP_iff {p q : Int × Int} : leP p q ↔ p.1 < q.1 ∨ (p.1 = q.1 ∧ p.2 ≤ q.2) := by
  unfold leP
  rw [SrtO.lexB_no]
  omega
def leB (p q : Int × Int) : Bool := !SrtO.lexB q p
def srt (l : List (Int × Int)) : List (Int × Int) := l.mergeSort leB
theorem leB_iff {p q : Int × Int} : leB p q = true ↔ leP p q := by
  unfold leB leP
  cases SrtO.lexB q p <;> simp
theorem srt_sorted (l : List (Int × Int)) : (srt l).Pairwise leP := by
  have h := List.pairwise_mergeSort (le := leB) (fun a b c h1 h2 => leB_iff.mpr (by
    have a1 := leP_iff.mp (leB_iff.mp h1)
    have a2 := leP_iff.mp (leB_iff.mp h2)
    exact leP_iff.mpr (by omega))) (fun a b => by
    by_cases h : leB a b = true
    · rw [h]
      rfl
    · have h2 : leB b a = true := leB_iff.mpr (leP_iff.mpr (by
        have n : ¬ leP a b := fun z => h (leB_iff.mpr z)
        rw [leP_iff] at n
        omega))
      rw [h2]
      simp) l
  exact h.imp fun z => leB_iff.mp z
theorem srt_perm (l : List (Int × Int)) : (srt l).Perm l := List.mergeSort_perm l leB
theorem srt_len (l : List (Int × Int)) : (srt l).length = l.length := (srt_perm l).length_eq
theorem srt_uniq {l m : List (Int × Int)} (h : l.Pairwise leP) (p : l.Perm m) : l = srt m :=
  List.Perm.eq_of_pairwise (le := leP) (fun a b _ _ h1 h2 => by
    have a1 := leP_iff.mp h1
    have a2 := leP_iff.mp h2
    exact Prod.ext (by omega) (by omega)) h (srt_sorted m) (p.trans (srt_perm m).symm)
def Asc (l : List (Int × Int)) : Prop := l.Pairwise fun p q => SrtO.lexB p q = true
theorem asc_le {l : List (Int × Int)} (h : Asc l) : l.Pairwise leP := h.imp fun z => leP_iff.mpr (by
  have := SrtO.lexB_iff.mp z
  omega)
theorem asc_nodup {l : List (Int × Int)} (h : Asc l) : l.Nodup := h.imp fun {a b} z e => by
  subst e
  have := SrtO.lexB_iff.mp z
  omega
theorem asc_of {l : List (Int × Int)} (h : l.Pairwise leP) (n : l.Nodup) : Asc l := by
  have := List.Pairwise.and h n
  exact this.imp fun {a b} z => SrtO.lexB_iff.mpr (by
    have z1 := leP_iff.mp z.1
    have z2 : ¬ (a.1 = b.1 ∧ a.2 = b.2) := fun e => z.2 (Prod.ext e.1 e.2)
    omega)
/-- equal neighbours tell of a double -/
theorem twins {l : List (Int × Int)} (h : l.Pairwise leP) (n : ∀ i, 1 ≤ i → i < l.length → l.getD (i - 1) (0, 0) ≠ l.getD i (0, 0)) : l.Nodup := by
  induction l with
  | nil => exact .nil
  | cons a r ih =>
    cases r with
    | nil => exact List.pairwise_singleton _ _
    | cons b r =>
      have h2 := (List.pairwise_cons.mp h).2
      have nd : (b :: r).Nodup := ih h2 fun i i1 i2 => by
        have := n (i + 1) (by omega) (by simp at i2 ⊢; omega)
        have e : i + 1 - 1 = (i - 1) + 1 := by omega
        rw [e] at this
        exact this
      refine List.nodup_cons.mpr ⟨fun m => ?_, nd⟩
      have hab : a ≠ b := n 1 (by omega) (by simp)
      have l1 : leP a b := (List.pairwise_cons.mp h).1 b List.mem_cons_self
      rcases List.mem_cons.mp m with e | e
      · exact hab e
      · have l2 : leP b a := (List.pairwise_cons.mp h2).1 a e
        have z1 := leP_iff.mp l1
        have z2 := leP_iff.mp l2
        exact hab (Prod.ext (by omega) (by omega))
/-! pictures -/
structure Pic (C : Addr) (H : Hp) (a : Addr) (P W : Int) (ps : List (Int × Int)) : Prop where
  at_ : ∃ (dx t : Addr) (v : V) (xs : List V), H a = some (.ins C dx [("points", .int P), ("walls", .int W), ("pairs", .ref t), ("_pieces", v)]) ∧ Frz H t xs ∧ DqAll H xs (ps.map prD) ∧ Dq H v (.tuple (piecesD P (marks P W ps)))
  ok : 1 ≤ P ∧ P ≤ 5 ∧ 1 ≤ W ∧ W ≤ 5
  ins : Ins P W ps
  asc : Asc ps
theorem Pic.same {C : Addr} {H H' : Hp} {a : Addr} {P W : Int} {ps : List (Int × Int)} (h : Pic C H a P W ps) (s : Same H H') : Pic C H' a P W ps := by
  obtain ⟨⟨dx, t, v, xs, h1, h2, h2', h3⟩, h4, h5, h6⟩ := h
  exact ⟨⟨dx, t, v, xs, s _ _ h1, h2.same s, DqAll.same s _ h2', h3.same s⟩, h4, h5, h6⟩
def wordD (p w ps : PyData) : Option Str :=
  if wholeD p 1 5 = true then
    if wholeD w 1 5 = true then
      match p, w, itemsD ps with
      | .int P, .int W, some ds => if ds.all (isPair P W) = true then (if (ds.map prOf).Nodup then none else some "double") else some "pair"
      | _, _, _ => some "pair"
    else some "walls"
  else some "points"
def sp_is_pair (C : Addr) : Sp := fun vs H Q _ => ∃ (a dx : Addr) (x : V) (d : PyData) (P W : Int) (fs : List (Str × V)), vs = [.ref a, x] ∧ H a = some (.ins C dx fs) ∧ fs.lookup ("points" : Str) = some (.int P) ∧ fs.lookup ("walls" : Str) = some (.int W) ∧ Dq H x d ∧
  ∀ H', Same H H' → Q (.bl (isPair P W d)) H'
section
variable {P : Program} {w : World} {K : PySem.W.Frag} {mg : Str → Option Value} {base : Heap}
theorem ok_is_pair (T : Txt K mg) : FnOk P w K mg base CX0 2 T.f_Pictureis_pair T.d_Pictureis_pair ["self", "thing"] (sp_is_pair T.C_Picture) := by
  refine T.F_Pictureis_pair.ok sc_Pictureis_pair (fun vs H Q E h => ?_) (fun cdv A outer s H vs Q E hr h => ?_)
  · obtain ⟨a, dx, x, d, P', W, fs, rfl, _⟩ := h
    rfl
  · obtain ⟨a, dx, x, d, P', W, fs, rfl, ha, hp, hw, hk, q⟩ := h
    refine ⟨_, (pss_one (ps_ret (pe_and (pe_call (ok_is_sequence T) (hr.mono (by decide)) (by rfl) T.g_is_sequence T.F_is_sequence.kp T.b_is_sequence .nil pass0 (pa_cons (pv 1) (pa_cons pe_int pa_nil))) (pe_and (pe_call (ok_is_whole T) (hr.mono (by decide)) (by rfl) T.g_is_whole T.F_is_whole.kp T.b_is_whole .nil pass0 (pa_cons (pe_ix ix_seq (pv 1) pe_int (fun _ _ => rfl)) (pa_cons pe_int (pa_cons (pe_op op_sub (pe_fld (pv 0) rfl) pe_int) pa_nil)))) (pe_one (pe_call (ok_is_whole T) (hr.mono (by decide)) (by rfl) T.g_is_whole T.F_is_whole.kp T.b_is_whole .nil pass0 (pa_cons (pe_ix ix_seq (pv 1) pe_int (fun _ _ => rfl)) (pa_cons pe_int (pa_cons (pe_op op_sub (pe_fld (pv 0) rfl) pe_int) pa_nil))))))))), ?_⟩
    refine ⟨x, rfl, x, .int 2, d, rfl, hk, .inr ⟨2, rfl⟩, fun H1 s1 => ?_⟩
    have hk1 := hk.same s1
    have no : seqIs d (.int 2) = false → isPair P' W d = false := fun z => by
      unfold seqIs at z
      unfold isPair
      cases e : itemsD d with
      | none => rfl
      | some ds =>
        rw [e] at z
        match ds, z with
        | [], _ => rfl
        | [_], _ => rfl
        | [_, _], z => exact (of_decide_eq_false z rfl).elim
        | _ :: _ :: _ :: _, _ => rfl
    cases hz : seqIs d (.int 2) with
    | false =>
      have q' := q _ s1
      rw [no hz] at q'
      exact ⟨_, rfl, iteF q'⟩
    | true =>
      obtain ⟨a0, a1, e⟩ : ∃ a0 a1, itemsD d = some [a0, a1] := by
        unfold seqIs at hz
        cases e : itemsD d with
        | none =>
          rw [e] at hz
          cases hz
        | some ds =>
          rw [e] at hz
          match ds, hz with
          | [], z => exact absurd z (by decide)
          | [_], z => exact absurd (show ((1 : Nat) : Int) = 2 from of_decide_eq_true z) (by decide)
          | [a, b], _ => exact ⟨a, b, rfl⟩
          | a :: b :: c :: r, z =>
            exfalso
            have z' : ((r.length + 1 + 1 + 1 : Nat) : Int) = 2 := of_decide_eq_true z
            omega
      obtain ⟨p, xs, rfl, hxs, hsq⟩ := sq_of (K := K) hk1 e
      cases hxs with
      | cons k0 t =>
        cases t with
        | cons k1 t =>
          cases t
          rename_i v0 v1
          have ix : ∀ (i : Int) (v : V) (Q' : VK), atI [v0, v1] i = some v → Q' v H1 → rIx K (.ref p) (.int i) H1 Q' := fun i v Q' hv qv =>
            hsq.elim (fun h => .inl ⟨p, _, i, v, rfl, rfl, h, hv, qv⟩) (fun h => .inr (.inl ⟨p, _, i, v, rfl, rfl, h, hv, qv⟩))
          have e2 : isPair P' W d = (wholeD a0 0 (P' - 1) && wholeD a1 0 (W - 1)) := by
            unfold isPair
            rw [e]
          have ha1 := s1 _ _ ha
          refine ⟨_, rfl, iteT ⟨_, rfl, ix 0 v0 _ rfl ⟨_, rfl, a, T.C_Picture, dx, fs, _, rfl, ha1, T.cl_Picture, T.na_points, hp, P', 1, rfl, rfl, v0, .int 0, .int (P' - 1), a0, rfl, k0, .inr ⟨0, rfl⟩, .inr ⟨_, rfl⟩, ?_⟩⟩⟩
          rw [wi_dq k0]
          have q' := q _ s1
          rw [e2] at q'
          cases b0 : wholeD a0 0 (P' - 1) with
          | false =>
            rw [b0] at q'
            exact ⟨_, rfl, iteF q'⟩
          | true =>
            rw [b0] at q'
            refine ⟨_, rfl, iteT ⟨_, rfl, ix 1 v1 _ rfl ⟨_, rfl, a, T.C_Picture, dx, fs, _, rfl, ha1, T.cl_Picture, T.na_walls, hw, W, 1, rfl, rfl, v1, .int 0, .int (W - 1), a1, rfl, k1, .inr ⟨0, rfl⟩, .inr ⟨_, rfl⟩, ?_⟩⟩⟩
            rw [wi_dq k1]
            exact q'
end
end K03
set_option Elab.async false
set_option linter.all false
set_option maxRecDepth 100000
set_option maxHeartbeats 4000000
set_option exponentiation.threshold 5000
namespace K03
open PySem PySem.Spec PyProof.Rows L2 TkS
/-! stores to an instance leave data as it is -/
mutual
theorem dq_put {H : Hp} {a C dx : Addr} {fs : List (Str × V)} {o : HO} (h : H a = some (.ins C dx fs)) : ∀ {v : V} (d : PyData), Dq H v d → Dq (upd H a o) v d
  | _, .none, .non => .non
  | _, .bool _, .bl b => .bl b
  | _, .int _, .int i => .int i
  | _, .str _, .str x => .str x
  | _, .list _, .lst e t => .lst (by
      rw [upd_ne (fun z => by rw [z, h] at e; cases e)]
      exact e) (dqAll_put h _ t)
  | _, .tuple _, .tup e t => .tup (by
      rw [upd_ne (fun z => by rw [z, h] at e; cases e)]
      exact e) (dqAll_put h _ t)
theorem dqAll_put {H : Hp} {a C dx : Addr} {fs : List (Str × V)} {o : HO} (h : H a = some (.ins C dx fs)) : ∀ {vs : List V} (ds : List PyData), DqAll H vs ds → DqAll (upd H a o) vs ds
  | _, [], .nil => .nil
  | _, _ :: _, .cons k t => .cons (dq_put h _ k) (dqAll_put h _ t)
end
theorem sq_put {K : PySem.W.Frag} {H : Hp} {a C dx p : Addr} {fs : List (Str × V)} {o : HO} {d : PyData} {ds : List PyData} (h : H a = some (.ins C dx fs)) (k : Dq H (.ref p) d) (e : itemsD d = some ds) : ∃ xs, DqAll (upd H a o) xs ds ∧ Sq K (upd H a o) p xs := by
  obtain ⟨p', xs, z, h1, h2⟩ := sq_of (K := K) (dq_put (o := o) h _ k) e
  cases z
  exact ⟨xs, h1, h2⟩
def KeepA (a : Addr) (H H' : Hp) : Prop := ∀ b o, H b = some o → b ≠ a → H' b = some o
theorem KeepA.same {a : Addr} {H H1 H2 : Hp} (k : KeepA a H H1) (s : Same H1 H2) : KeepA a H H2 := fun b o e n => s _ _ (k b o e n)
theorem KeepA.put {a : Addr} {H H1 : Hp} {o : HO} (k : KeepA a H H1) : KeepA a H (upd H1 a o) := fun b x e n => by
  rw [upd_ne n]
  exact k b x e n
def prV (H : Hp) : V → Int × Int
  | .ref t => match H t with
    | some (.tup [.int a, .int b]) => (a, b)
    | _ => (0, 0)
  | _ => (0, 0)
theorem prV_of {H : Hp} {x : V} {p : Int × Int} (k : Dq H x (prD p)) : prV H x = p ∧ ∃ t, x = .ref t ∧ H t = some (.tup [.int p.1, .int p.2]) := by
  cases k with
  | tup e t =>
    cases t with
    | cons u v =>
      cases v with
      | cons u' v' =>
        cases v'
        cases u
        cases u'
        refine ⟨?_, _, rfl, e⟩
        unfold prV
        simp only [e]
theorem prV_map {H : Hp} : ∀ {xs : List V} {l : List (Int × Int)}, DqAll H xs (l.map prD) → xs.map (prV H) = l ∧ ∀ x ∈ xs, Dq H x (prD (prV H x)) ∧ ∃ t, x = .ref t ∧ H t = some (.tup [.int (prV H x).1, .int (prV H x).2])
  | _, [], .nil => ⟨rfl, fun x m => nomatch m⟩
  | _, p :: l, .cons k t => by
    obtain ⟨e1, t1, e2, e3⟩ := prV_of k
    obtain ⟨f1, f2⟩ := prV_map t
    refine ⟨by rw [List.map_cons, e1, f1], fun x m => ?_⟩
    rcases List.mem_cons.mp m with z | m
    · subst z
      rw [e1]
      exact ⟨k, t1, e2, e3⟩
    · exact f2 x m
theorem dqAll_by {H : Hp} {k : V → Int × Int} : ∀ {xs : List V}, (∀ x ∈ xs, Dq H x (prD (k x))) → DqAll H xs ((xs.map k).map prD)
  | [], _ => .nil
  | x :: xs, h => .cons (h x List.mem_cons_self) (dqAll_by fun y m => h y (List.mem_cons_of_mem _ m))
theorem two_ints {H H' : Hp} {xs : List V} {i j : Int} (h : DqAll H xs [.int i, .int j]) : xs = [.int i, .int j] ∧ DqAll H' xs [.int i, .int j] := by
  cases h with
  | cons u v =>
    cases v with
    | cons u' v' =>
      cases v'
      cases u
      cases u'
      exact ⟨rfl, .cons (.int _) (.cons (.int _) .nil)⟩
theorem sorted_is {k : V → Int × Int} {ys zs : List V} {l : List (Int × Int)} (e : ys.map k = l) (s : SrtO.Srtd (ltP k) zs) (b : SrtO.Stb (ltP k) zs ys) : zs.map k = srt l := by
  refine srt_uniq ?_ (by rw [← e]; exact b.perm.map k)
  rw [List.pairwise_map]
  exact s
theorem asg_cb_lc {r : List V → Hp → VK → Prop} {wi : TI} {g : TG} {tt : TT} {te : TE} {vs : List Nat} {gi : TG} {rest : TS} {D : Ends} {σ : L2.St} {H : Hp} (h : tLc wi g tt te vs σ H fun v H1 => r [v] H1 fun x H2 => gi x σ H2 fun σ' H' => rest D σ' H') :
    tSeq (tAsg (tCB r (tCons (tLc wi g tt te vs) tNil)) gi) rest D σ H := h
def sp_Picture_init (C CB : Addr) : Sp := fun vs H Q E => ∃ (a dx : Addr) (p w ps : V) (dp dw dps : PyData), vs = [.ref a, p, w, ps] ∧ H a = some (.ins C dx []) ∧ Dq H p dp ∧ Dq H w dw ∧ Dq H ps dps ∧ (∀ ds, itemsD dps = some ds → ds.length ≤ 200) ∧
  (∀ e, wordD dp dw dps = some e → ∀ d H', KeepA a H H' → H' d = some (.xd [("what", .str e)]) → E (.ref CB) (some d) H') ∧
  (∀ P W ds, dp = .int P → dw = .int W → itemsD dps = some ds → wordD dp dw dps = none → ∀ H', KeepA a H H' → Pic C H' a P W (srt (ds.map prOf)) → Q .non H')
section
variable {P : Program} {w : World} {K : PySem.W.Frag} {mg : Str → Option Value} {base : Heap}
theorem ok_Picture_init (T : Txt K mg) : FnOk P w K mg base (L2.CX P w) 4 T.f_Picture_init T.d_Picture_init ["self", "points", "walls", "pairs"] (sp_Picture_init T.C_Picture T.C_BadPicture) := by
  refine T.F_Picture_init.okX sc_Picture_init (fun vs H Q E h => ?_) (fun cdv A outer s H vs Q E hr h => ?_)
  · obtain ⟨a, dx, p, w, ps, dp, dw, dps, rfl, _⟩ := h
    rfl
  · obtain ⟨a, dx, p, w, ps, dp, dw, dps, rfl, ha, kp, kw, kps, hlen, hE, hQ⟩ := h
    refine ⟨_, (pss_cons (ps_if (pt_not (pt_val (pe_call (ok_is_whole T) (hr.mono (by decide)) (by rfl) T.g_is_whole T.F_is_whole.kp T.b_is_whole .nil pass0 (pa_cons (pv 1) (pa_cons pe_int (pa_cons (pe_glob (v := .int 5) rfl T.c_MOST_CORNERS ⟨_, rfl⟩) pa_nil))))))
        (pss_one (ps_raise (W := fun cls d _ H => E cls d H) rfl (takes_of rfl rfl rfl rfl) (pmk_oex T.o_BadPicture T.i_BadPicture T.t_BadPicture (ok_BadPicture_init T) (hr.mono (by decide)) T.b_BadPicture_init .nil pass0 (by rfl) T.g_BadPicture (pa_cons pe_str pa_nil))))
        pss_nil)
      (pss_cons (ps_if (pt_not (pt_val (pe_call (ok_is_whole T) (hr.mono (by decide)) (by rfl) T.g_is_whole T.F_is_whole.kp T.b_is_whole .nil pass0 (pa_cons (pv 2) (pa_cons pe_int (pa_cons (pe_glob (v := .int 5) rfl T.c_MOST_CORNERS ⟨_, rfl⟩) pa_nil))))))
        (pss_one (ps_raise (W := fun cls d _ H => E cls d H) rfl (takes_of rfl rfl rfl rfl) (pmk_oex T.o_BadPicture T.i_BadPicture T.t_BadPicture (ok_BadPicture_init T) (hr.mono (by decide)) T.b_BadPicture_init .nil pass0 (by rfl) T.g_BadPicture (pa_cons pe_str pa_nil))))
        pss_nil)
      (pss_cons (ps_fld (pv 0) (pv 1) rfl)
      (pss_cons (ps_fld (pv 0) (pv 2) rfl)
      (pss_cons (ps_if (pt_not (pt_val (pe_call (ok_is_sequence T) (hr.mono (by decide)) (by rfl) T.g_is_sequence T.F_is_sequence.kp T.b1_is_sequence (show L2.Vals [.non] [.none] from .cons rfl .nil) pass0 (pa_cons (pv 3) pa_nil))))
        (pss_one (ps_raise (W := fun cls d _ H => E cls d H) rfl (takes_of rfl rfl rfl rfl) (pmk_oex T.o_BadPicture T.i_BadPicture T.t_BadPicture (ok_BadPicture_init T) (hr.mono (by decide)) T.b_BadPicture_init .nil pass0 (by rfl) T.g_BadPicture (pa_cons pe_str pa_nil))))
        pss_nil)
      (pss_cons (ps_for (by exact passes_of rfl) rfl (pi_seq (pv 3)) (pg_name (i := 4) sc_Picture_init.nd rfl (.inl rfl))
        (pss_one (ps_if (pt_not (pt_val (pe_meth (pv 0) T.cl_Picture T.M_is_pair (ok_is_pair T) (hr.mono (by decide)) T.b_Pictureis_pair .nil pass0 (pa_cons (pv 4) pa_nil))))
          (pss_one (ps_raise (W := fun cls d _ H => E cls d H) rfl (takes_of rfl rfl rfl rfl) (pmk_oex T.o_BadPicture T.i_BadPicture T.t_BadPicture (ok_BadPicture_init T) (hr.mono (by decide)) T.b_BadPicture_init .nil pass0 (by rfl) T.g_BadPicture (pa_cons pe_str pa_nil))))
          pss_nil)))
      (pss_cons (ps_set (i := 5) sc_Picture_init.nd rfl (.inl rfl) (pe_callB cr_sortedPO (by rfl) T.m_sorted (by decide +kernel) (pa_cons (pe_lc rfl sc_Picture_init.nd (pi_seq (pv 3)) (blkOk_by (own := [("pair", 4)]) (N := ["self", "points", "walls", "pairs", "pair", "kept", "at"]) (sc := defScope s_Picture_init) (by decide +kernel)) (fun _ _ _ _ _ => (pg_name (i := 4) sc_Picture_init.nd rfl (.inl rfl))) (fun _ _ _ _ _ => pts_nil) (fun _ _ _ _ _ => (pe_callTy call_tupD (by rfl) T.m_tuple (by decide +kernel) (pa_cons (pv 4) pa_nil)))) pa_nil)))
      (pss_cons (ps_for (by exact passes_of rfl) rfl (pi_range2 (by rfl) T.m_range (pa_cons pe_int (pa_cons (pe_callB call_len_seq (by rfl) T.m_len (by decide +kernel) (pa_cons (pv 5) pa_nil)) pa_nil))) (pg_name (i := 6) sc_Picture_init.nd rfl (.inl rfl))
        (pss_one (ps_if (pt_cmpR (op_eqD hr.units) (pe_ix ix_list (pv 5) (pe_op op_sub (pv 6) pe_int) (fun _ _ => rfl)) (pe_ix ix_list (pv 5) (pv 6) (fun _ _ => rfl)) (nomark _))
          (pss_one (ps_raise (W := fun cls d _ H => E cls d H) rfl (takes_of rfl rfl rfl rfl) (pmk_oex T.o_BadPicture T.i_BadPicture T.t_BadPicture (ok_BadPicture_init T) (hr.mono (by decide)) T.b_BadPicture_init .nil pass0 (by rfl) T.g_BadPicture (pa_cons pe_str pa_nil))))
          pss_nil)))
      (pss_cons (ps_fld (pv 0) (pe_callTy call_tupF (by rfl) T.m_tuple (by decide +kernel) (pa_cons (pv 5) pa_nil)) rfl)
      (pss_one (ps_fld (pv 0) (pe_call (ok_pieces_by_labels T) (hr.mono (by decide)) (by rfl) T.g_pieces_by_labels T.F_pieces_by_labels.kp T.b_pieces_by_labels .nil pass0 (pa_cons (pv 1) (pa_cons (pe_call (ok_piece_labels T) (hr.mono (by decide)) (by rfl) T.g_piece_labels T.F_piece_labels.kp T.b_piece_labels .nil pass0 (pa_cons (pv 1) (pa_cons (pv 2) (pa_cons (pv 5) pa_nil)))) pa_nil))) rfl))))))))))), ?_⟩
    refine ⟨p, rfl, p, .int 1, .int 5, dp, rfl, kp, .inr ⟨_, rfl⟩, .inr ⟨_, rfl⟩, ?_⟩
    rw [wi_dq kp]
    cases b1 : wholeD dp 1 5 with
    | false =>
      exact ⟨_, rfl, iteT (mk_exc fun d H' s nd hd => hE _ (by unfold wordD; rw [b1]; rfl) d H' (fun b o e _ => s b o e) hd)⟩
    | true =>
      refine ⟨_, rfl, iteF ?_⟩
      refine ⟨w, rfl, w, .int 1, .int 5, dw, rfl, kw, .inr ⟨_, rfl⟩, .inr ⟨_, rfl⟩, ?_⟩
      rw [wi_dq kw]
      cases b2 : wholeD dw 1 5 with
      | false =>
        exact ⟨_, rfl, iteT (mk_exc fun d H' s nd hd => hE _ (by unfold wordD; rw [b1, b2]; rfl) d H' (fun b o e _ => s b o e) hd)⟩
      | true =>
        obtain ⟨P', rfl, p1, p2⟩ := wholeD_of b1
        obtain ⟨W, rfl, w1, w2⟩ := wholeD_of b2
        cases kp
        cases kw
        refine ⟨_, rfl, iteF ?_⟩
        refine ⟨_, rfl, _, rfl, a, T.C_Picture, dx, [], rfl, ha, T.cl_Picture, T.na_points, by decide, ?_⟩
        refine ⟨_, rfl, _, rfl, a, T.C_Picture, dx, _, rfl, upd_same, T.cl_Picture, T.na_walls, by simp [putF], ?_⟩
        generalize eH2 : upd (upd H a (.ins T.C_Picture dx (putF "points" (.int P') []))) a (.ins T.C_Picture dx (putF "walls" (.int W) (putF "points" (.int P') []))) = H2
        have a2 : H2 a = some (.ins T.C_Picture dx [("points", .int P'), ("walls", .int W)]) := by
          rw [← eH2, upd_same]
          rfl
        have k2 : KeepA a H H2 := by
          rw [← eH2]
          exact KeepA.put (KeepA.put fun b o e _ => e)
        have kps2 : Dq H2 ps dps := by
          rw [← eH2]
          exact dq_put upd_same _ (dq_put ha _ kps)
        refine ⟨ps, rfl, ps, .non, dps, rfl, kps2, .inl rfl, fun H3 s3 => ?_⟩
        cases e3 : itemsD dps with
        | none =>
          refine ⟨_, rfl, ?_⟩
          unfold seqIs
          rw [e3]
          exact iteT (mk_exc fun d H' s nd hd => hE _ (by unfold wordD; rw [b1, b2, e3]; rfl) d H' ((k2.same s3).same s) hd)
        | some ds =>
          have wd : wordD (.int P') (.int W) dps = if ds.all (isPair P' W) = true then (if (ds.map prOf).Nodup then (none : Option Str) else some ("double" : Str)) else some ("pair" : Str) := by
            unfold wordD
            rw [b1, b2, e3]
            rfl
          have ld := hlen ds e3
          refine ⟨_, rfl, ?_⟩
          unfold seqIs
          rw [e3]
          refine iteF ?_
          obtain ⟨pp, xs, rfl, hxs, hq⟩ := sq_of (K := K) (kps2.same s3) e3
          have a3 := s3 _ _ a2
          have k3 := k2.same s3
          have lx := hxs.len
          refine for_seq (xs := xs) (a := pp) (fun i σ H' => ∃ y4, σ = [some (.ref a), some (.int P'), some (.int W), some (.ref pp), y4, none, none] ∧ Same H3 H' ∧ ∀ d ∈ ds.take i, isPair P' W d = true) (fun Q h => ⟨_, rfl, h⟩) hq
            ⟨none, rfl, fun _ _ h => h, fun d m => by simp at m⟩ (fun i σ H' _ hP => by obtain ⟨_, _, sm, _⟩ := hP; exact sm) (fun i x σ H4 hx hP => ?_) (fun σ H4 hP => ?_)
          · obtain ⟨y4, rfl, s4, hall⟩ := hP
            obtain ⟨d, hd, kd⟩ := hxs.get hx
            refine ⟨_, rfl, a, dx, _, rfl, s4 _ _ a3, rfl, ?_⟩
            refine ⟨_, rfl, a, dx, x, d, P', W, _, rfl, s4 _ _ a3, rfl, rfl, kd.same s4, fun H5 s5 => ⟨_, rfl, ?_⟩⟩
            cases hb : isPair P' W d with
            | false =>
              refine iteT (mk_exc fun dd H' s nd hdd => hE _ ?_ dd H' ((k3.same (s4.trans s5)).same s) hdd)
              rw [wd, if_neg]
              intro z
              have := List.all_eq_true.mp z d (List.mem_of_getElem? hd)
              rw [hb] at this
              cases this
            | true =>
              refine iteF ⟨_, rfl, s4.trans s5, fun d' m => ?_⟩
              rw [List.take_add_one, hd] at m
              rcases List.mem_append.mp m with m | m
              · exact hall d' m
              · have : d' = d := by simpa using m
                rw [this]
                exact hb
          · obtain ⟨y4, rfl, s4, hall⟩ := hP
            rw [lx, List.take_length] at hall
            have k4 := k3.same s4
            have a4 := s4 _ _ a3
            have hxs4 := DqAll.same s4 _ hxs
            have hq4 := hq.same s4
            dsimp only
            refine asg_cb_lc ?_
            refine lc_seq (xs := xs) (a := pp) (fun D i H' => Same H4 H' ∧ ∃ ys, H' D = some (.lst ys) ∧ DqAll (TkS.Off D H') ys (((ds.take i).map prOf).map prD)) (fun Q h => ⟨_, rfl, h⟩) hq4
              (fun D nD => ⟨same_new nD, [], upd_same, .nil⟩) (fun D i H' nD _ hP => hP.1) (fun D i x H' nD hx hP => ?_) (fun D H' nD hP => ?_)
            · obtain ⟨s5, ys, hD, hy⟩ := hP
              obtain ⟨d, hd, kd⟩ := hxs4.get hx
              obtain ⟨f1, f2⟩ := isPair_of (hall d (List.mem_of_getElem? hd))
              have ly := hy.len
              rw [List.length_map, List.length_map, List.length_take] at ly
              refine ⟨rfl, x, rfl, x, d, _, rfl, kd.same s5, f1, fun l H6 s6 k6 => ⟨ys, s6 _ _ hD, small1000 (by omega), fun b o e => ?_, ys ++ [.ref l], upd_same, ?_⟩⟩
              · rw [upd_ne (ne_of_none e nD)]
                exact s6 _ _ (s5 _ _ e)
              · rw [off_upd, List.take_add_one, hd]
                show DqAll _ _ (((ds.take i ++ [d]).map prOf).map prD)
                rw [List.map_append, List.map_append]
                refine (DqAll.same (off_of s6) _ hy).snoc ?_
                have n6 : l ≠ D := fun z => by
                  subst z
                  have e6 := s6 _ _ hD
                  cases k6 with
                  | tup e7 _ =>
                    rw [e6] at e7
                    cases e7
                cases k6 with
                | tup e7 t7 =>
                  exact .tup (off_at n6 e7) (two_ints t7).2
            · obtain ⟨s5, ys, hD, hy⟩ := hP
              rw [lx, List.take_length] at hy
              have hy' : DqAll H' ys ((ds.map prOf).map prD) := DqAll.same off_same _ hy
              obtain ⟨m1, m2⟩ := prV_map hy'
              refine ⟨D, ys, prV H', rfl, SqL.of hD, fun x m => (m2 x m).2, fun zs p srt1 stb1 np => ?_⟩
              have hz := sorted_is m1 srt1 stb1
              have hz2 : DqAll (upd H' p (.lst zs)) zs ((srt (ds.map prOf)).map prD) := by
                rw [← hz]
                exact DqAll.same (same_new np) _ (dqAll_by fun x m => (m2 x (stb1.perm.mem_iff.mp m)).1)
              have s6 : Same H4 (upd H' p (.lst zs)) := s5.trans (same_new np)
              have hp6 : (upd H' p (.lst zs)) p = some (.lst zs) := upd_same
              generalize upd H' p (.lst zs) = H6 at hz2 s6 hp6
              have lz : zs.length = ds.length := by rw [stb1.perm.length_eq, ← lx, lx, hy'.len, List.length_map, List.length_map]
              have nds : ∀ i, 1 ≤ i → i < (srt (ds.map prOf)).length → (srt (ds.map prOf)).getD (i - 1) (0, 0) = (srt (ds.map prOf)).getD i (0, 0) → ¬ (ds.map prOf).Nodup := fun i h1 h2 he nd => by
                have nd2 : (srt (ds.map prOf)).Nodup := (srt_perm _).nodup_iff.mpr nd
                rw [List.getD_eq_getElem?_getD, List.getD_eq_getElem?_getD, List.getElem?_eq_getElem (by omega : i - 1 < _), List.getElem?_eq_getElem h2] at he
                exact List.pairwise_iff_getElem.mp nd2 (i - 1) i (by omega) h2 (by omega) he
              have kall : ds.all (isPair P' W) = true := List.all_eq_true.mpr hall
              have lsr : (srt (ds.map prOf)).length = zs.length := by rw [srt_len, List.length_map, lz]
              refine ⟨_, rfl, p, zs, rfl, .inl (SqL.of hp6), 1, (zs.length : Int), rfl, ⟨by decide, by decide, by omega, by omega⟩, for_range (lo := 1) (n := ((zs.length : Int) - 1).toNat)
                (fun i σ H7 => ∃ y6, σ = [some (.ref a), some (.int P'), some (.int W), some (.ref pp), y4, some (.ref p), y6] ∧ H6 = H7 ∧ ∀ j, 1 ≤ j → j < i + 1 → (srt (ds.map prOf)).getD (j - 1) (0, 0) ≠ (srt (ds.map prOf)).getD j (0, 0))
                ⟨none, rfl, rfl, fun j h1 h2 => by omega⟩ (fun i σ H7 hi hP => ?_) (fun σ H7 hP => ?_)⟩
              · obtain ⟨y6, rfl, rfl, nt⟩ := hP
                have hi' : i + 1 < zs.length := by omega
                have at_ : ∀ j, j < zs.length → ∃ z, zs[j]? = some z ∧ Dq H6 z (prD ((srt (ds.map prOf)).getD j (0, 0))) := fun j hj => by
                  obtain ⟨d, e1, e2⟩ := hz2.get (List.getElem?_eq_getElem hj)
                  refine ⟨_, List.getElem?_eq_getElem hj, ?_⟩
                  rw [List.getElem?_map] at e1
                  obtain ⟨q, e3, rfl⟩ := Option.map_eq_some_iff.mp e1
                  rw [List.getD_eq_getElem?_getD, e3]
                  exact e2
                obtain ⟨z0, g0, k0⟩ := at_ i (by omega)
                obtain ⟨z1, g1, k1⟩ := at_ (i + 1) hi'
                refine ⟨_, rfl, _, rfl, (1 + (i : Int)), 1, rfl, rfl, p, zs, (i : Int), z0, rfl, by show V.int (1 + (i : Int) - 1) = _; rw [show (1 + (i : Int) - 1) = (i : Int) by omega], SqL.of hp6, at_of (j := i) (by omega) g0, ?_⟩
                refine ⟨_, rfl, _, rfl, p, zs, (1 + (i : Int)), z1, rfl, rfl, SqL.of hp6, at_of (j := i + 1) (by omega) g1, ?_⟩
                refine ⟨_, _, k0.dp, k1.dp, shaped_pr _, shaped_pr _, _, rfl, ?_⟩
                rw [eqv_pr]
                by_cases c : (srt (ds.map prOf)).getD i (0, 0) = (srt (ds.map prOf)).getD (i + 1) (0, 0)
                · rw [decide_eq_true c]
                  refine iteT (mk_exc fun dd H' s nd hdd => hE _ ?_ dd H' ((k4.same s6).same s) hdd)
                  rw [wd, if_pos kall, if_neg (nds (i + 1) (by omega) (by omega) c)]
                · rw [decide_eq_false c]
                  refine iteF ⟨_, rfl, rfl, fun j h1 h2 => ?_⟩
                  by_cases e : j = i + 1
                  · subst e
                    exact c
                  · exact nt j h1 (by omega)
              · obtain ⟨y6, rfl, rfl, nt⟩ := hP
                have nd0 : (srt (ds.map prOf)).Nodup := twins (srt_sorted _) fun j h1 h2 => nt j h1 (by omega)
                have nd : (ds.map prOf).Nodup := (srt_perm _).nodup_iff.mp nd0
                have hins : Ins P' W (srt (ds.map prOf)) := fun q m => by
                  obtain ⟨d, md, rfl⟩ := List.mem_map.mp ((srt_perm _).mem_iff.mp m)
                  exact (isPair_of (hall d md)).2
                have a6 := s6 _ _ (s4 _ _ a3)
                have k6 := k4.same s6
                refine ⟨_, rfl, p, zs, rfl, SqL.of hp6, fun t H7 s7 nt ft => ?_⟩
                have a7 := s7 _ _ a6
                refine ⟨_, rfl, a, T.C_Picture, dx, _, rfl, a7, T.cl_Picture, T.na_pairs, by simp, ?_⟩
                have nta : t ≠ a := fun z => by
                  obtain ⟨o, f1, _⟩ := ft
                  rw [z, a7] at f1
                  cases f1
                have ft8 : Frz (upd H7 a (.ins T.C_Picture dx (putF "pairs" (.ref t) [("points", .int P'), ("walls", .int W)]))) t zs := by
                  obtain ⟨o, f1, f2⟩ := ft
                  exact ⟨o, by rw [upd_ne nta]; exact f1, f2⟩
                have hp8 : (upd H7 a (.ins T.C_Picture dx (putF "pairs" (.ref t) [("points", .int P'), ("walls", .int W)]))) p = some (.lst zs) := by
                  rw [upd_ne (fun z => by
                    have q9 := s7 _ _ hp6
                    rw [z, a7] at q9
                    cases q9)]
                  exact s7 _ _ hp6
                have hz8 := dqAll_put (o := .ins T.C_Picture dx (putF "pairs" (.ref t) [("points", .int P'), ("walls", .int W)])) a7 _ (DqAll.same s7 _ hz2)
                have k8 : KeepA a H (upd H7 a (.ins T.C_Picture dx (putF "pairs" (.ref t) [("points", .int P'), ("walls", .int W)]))) := (k6.same s7).put
                have a8 : (upd H7 a (.ins T.C_Picture dx (putF "pairs" (.ref t) [("points", .int P'), ("walls", .int W)]))) a = some (.ins T.C_Picture dx [("points", .int P'), ("walls", .int W), ("pairs", .ref t)]) := upd_same
                generalize upd H7 a (.ins T.C_Picture dx (putF "pairs" (.ref t) [("points", .int P'), ("walls", .int W)])) = H8 at ft8 hp8 hz8 k8 a8
                refine ⟨_, rfl, _, rfl, _, rfl, _, rfl, P', W, p, zs, srt (ds.map prOf), rfl, by omega, by omega, by omega, SqL.of hp8, hz8, hins, fun H9 q9 s9 hq9 => ?_⟩
                refine ⟨P', q9, marks P' W (srt (ds.map prOf)), rfl, SqL.of hq9, by rw [marks_len]; omega, fun H10 v s10 kv => ?_⟩
                have a10 := s10 _ _ (s9 _ _ a8)
                have s8 : Same H8 H10 := s9.trans s10
                refine ⟨_, rfl, a, T.C_Picture, dx, _, rfl, a10, T.cl_Picture, T.na_pieces, by simp, ?_⟩
                refine hQ P' W ds rfl rfl e3 (by rw [wd, if_pos kall, if_pos nd]) _ (((k8.same s9).same s10).put) ⟨⟨dx, t, v, zs, upd_same, ?_, dqAll_put a10 _ (DqAll.same s8 _ hz8), dq_put a10 _ kv⟩, ⟨p1, p2, w1, w2⟩, hins, asc_of (srt_sorted _) nd0⟩
                obtain ⟨o, f1, f2⟩ := ft8.same s8
                exact ⟨o, by rw [upd_ne nta]; exact f1, f2⟩
end
end K03
set_option Elab.async false
set_option linter.all false
set_option maxRecDepth 100000
set_option maxHeartbeats 4000000
set_option exponentiation.threshold 5000
namespace K03
open PySem PySem.Spec PyProof.Rows L2 TkS
/-- all pairs -/
def fullPs (p w : Nat) : List (Int × Int) := (List.range p).flatMap fun (i : Nat) => (List.range w).map fun (j : Nat) => ((i : Int), (j : Int))
def isOpen (P W : Int) (ps : List (Int × Int)) (d : PyData) : Bool := isPair P W d && decide (prOf d ∈ ps)
theorem isOpen_of {P W : Int} {ps : List (Int × Int)} {d : PyData} (h : isOpen P W ps d = true) : isPair P W d = true ∧ prOf d ∈ ps := by
  unfold isOpen at h
  rw [Bool.and_eq_true, decide_eq_true_iff] at h
  exact h
theorem tup_items {P W : Int} {d : PyData} (h : isPair P W d = true) : itemsD d = some [.int (prOf d).1, .int (prOf d).2] := (isPair_of h).1
theorem word_none {P W : Int} {ps : List (Int × Int)} {dps : PyData} (ok : 1 ≤ P ∧ P ≤ 5 ∧ 1 ≤ W ∧ W ≤ 5) (hi : Ins P W ps) (nd : ps.Nodup) (e : itemsD dps = some (ps.map prD)) : wordD (.int P) (.int W) dps = none := by
  have b1 : wholeD (.int P) 1 5 = true := by
    show (decide (1 ≤ P) && decide (P ≤ 5)) = true
    simp
    omega
  have b2 : wholeD (.int W) 1 5 = true := by
    show (decide (1 ≤ W) && decide (W ≤ 5)) = true
    simp
    omega
  have b3 : (ps.map prD).all (isPair P W) = true := by
    rw [List.all_map, List.all_eq_true]
    exact fun p m => isPair_prD.mpr (hi p m)
  have b4 : ((ps.map prD).map prOf) = ps := by
    rw [List.map_map, show (prOf ∘ prD) = id from rfl, List.map_id]
  unfold wordD
  rw [b1, b2, e]
  show (if (ps.map prD).all (isPair P W) = true then (if ((ps.map prD).map prOf).Nodup then (none : Option Str) else some ("double" : Str)) else some ("pair" : Str)) = none
  rw [if_pos b3, b4, if_pos nd]
theorem rm_at : ∀ {ps : List (Int × Int)} {j : Nat} {q : Int × Int}, ps.Nodup → ps[j]? = some q → ps.take j ++ ps.drop (j + 1) = ps.filter fun p => decide (p ≠ q)
  | p :: ps, 0, q, nd, e => by
    have e' : p = q := Option.some.inj e
    subst e'
    have n := (List.nodup_cons.mp nd).1
    rw [List.filter_cons_of_neg (by simp)]
    show ps = _
    exact (List.filter_eq_self.mpr fun x m => by
      simp
      intro z
      subst z
      exact n m).symm
  | p :: ps, j + 1, q, nd, e => by
    have m : q ∈ ps := List.mem_of_getElem? (i := j) (by simpa using e)
    have n : p ≠ q := fun z => (List.nodup_cons.mp nd).1 (z ▸ m)
    rw [List.filter_cons_of_pos (by simpa using n), ← rm_at (j := j) (List.nodup_cons.mp nd).2 (by simpa using e)]
    rfl
theorem asc_filter {ps : List (Int × Int)} (f : Int × Int → Bool) (h : Asc ps) : Asc (ps.filter f) := List.Pairwise.sublist List.filter_sublist h
theorem srt_asc {ps : List (Int × Int)} (h : Asc ps) : srt ps = ps := (srt_uniq (asc_le h) (List.Perm.refl _)).symm
/-- a new picture, as the caller of the class sees it -/
theorem mk_pic {C CB : Addr} {H1 : Hp} {R : Addr → Hp → Prop} {E : XK} {p w ps : V} {dp dw dps : PyData} (kp : Dq H1 p dp) (kw : Dq H1 w dw) (kps : Dq H1 ps dps) (hlen : ∀ ds, itemsD dps = some ds → ds.length ≤ 200)
    (hE : ∀ e, wordD dp dw dps = some e → ∀ d H', Same H1 H' → H' d = some (.xd [("what", .str e)]) → E (.ref CB) (some d) H')
    (hQ : ∀ P W ds, dp = .int P → dw = .int W → itemsD dps = some ds → wordD dp dw dps = none → ∀ H' y, Same H1 H' → H1 y = none → Pic C H' y P W (srt (ds.map prOf)) → R y H') :
    ∀ x dx, H1 x = none → H1 dx = none → dx ≠ x → sp_Picture_init C CB (.ref x :: ([p, w, ps] ++ [])) (upd (upd H1 dx (.own x)) x (.ins C dx [])) (fun v H2 => v = .non ∧ R x H2) E := fun x dx nx nd ne => by
  have s0 : Same H1 (upd (upd H1 dx (.own x)) x (.ins C dx [])) := Same.made nx nd fun b o e _ => e
  have sm : ∀ H', KeepA x (upd (upd H1 dx (.own x)) x (.ins C dx [])) H' → Same H1 H' := fun H' k => Same.made nx nd k
  exact ⟨x, dx, p, w, ps, dp, dw, dps, rfl, upd_same, kp.same s0, kw.same s0, kps.same s0, hlen, fun e he d H' k hd => hE e he d H' (sm H' k) hd, fun P W ds e1 e2 e3 e4 H' k hp => ⟨rfl, hQ P W ds e1 e2 e3 e4 H' x (sm H' k) nx hp⟩⟩
def sp_is_open (C : Addr) : Sp := fun vs H Q _ => ∃ (a : Addr) (x : V) (d : PyData) (P W : Int) (ps : List (Int × Int)), vs = [.ref a, x] ∧ Pic C H a P W ps ∧ Dq H x d ∧ ∀ H', Same H H' → Q (.bl (isOpen P W ps d)) H'
def sp_place_of (C CN : Addr) : Sp := fun vs H Q E => ∃ (a : Addr) (x : V) (d : PyData) (P W : Int) (ps : List (Int × Int)), vs = [.ref a, x] ∧ Pic C H a P W ps ∧ Dq H x d ∧
  (isOpen P W ps d = false → ∀ e H', Same H H' → H' e = some (.xd [("pair", x)]) → E (.ref CN) (some e) H') ∧
  (isOpen P W ps d = true → ∀ (j : Nat) H', ps[j]? = some (prOf d) → Same H H' → Q (.int (j : Int)) H')
def sp_Picture_len (C : Addr) : Sp := fun vs H Q _ => ∃ (a : Addr) (P W : Int) (ps : List (Int × Int)), vs = [.ref a] ∧ Pic C H a P W ps ∧ ∀ H', Same H H' → Q (.int (ps.length : Int)) H'
def sp_Picture_pieces (C : Addr) : Sp := fun vs H Q _ => ∃ (a : Addr) (P W : Int) (ps : List (Int × Int)), vs = [.ref a] ∧ Pic C H a P W ps ∧ ∀ v, Dq H v (.tuple (piecesD P (marks P W ps))) → Q v H
def sp_Picture_eq (C : Addr) : Sp := fun vs H Q _ => ∃ (a b : Addr) (P W : Int) (ps : List (Int × Int)) (P' W' : Int) (ps' : List (Int × Int)), vs = [.ref a, .ref b] ∧ Pic C H a P W ps ∧ Pic C H b P' W' ps' ∧ ∀ H', Same H H' → Q (.bl (decide (P = P' ∧ W = W' ∧ ps = ps'))) H'
section
variable {P : Program} {w : World} {K : PySem.W.Frag} {mg : Str → Option Value} {base : Heap}
theorem hu65 {k : Nat} {A : Around} (hr : Room k A) : A.units + 65 < cLine := by
  have := hr.un
  omega
theorem ok_Picture_pieces (T : Txt K mg) : FnOk P w K mg base CX0 1 T.f_Picture_pieces T.d_Picture_pieces ["self"] (sp_Picture_pieces T.C_Picture) := by
  refine T.F_Picture_pieces.ok sc_Picture_pieces (fun vs H Q E h => ?_) (fun cdv A outer s H vs Q E hr h => ?_)
  · obtain ⟨a, P', W, ps, rfl, _⟩ := h
    rfl
  · obtain ⟨a, P', W, ps, rfl, pic, q⟩ := h
    obtain ⟨dx, t, v, xs, ha, ht, hx, hv⟩ := pic.at_
    refine ⟨_, (pss_one (ps_ret (pe_fld (pv 0) rfl))), ?_⟩
    exact ⟨_, rfl, a, T.C_Picture, dx, _, v, rfl, ha, T.cl_Picture, T.na_pieces, rfl, q v hv⟩
theorem ok_Picture_len (T : Txt K mg) : FnOk P w K mg base CX0 1 T.f_Picture_len T.d_Picture_len ["self"] (sp_Picture_len T.C_Picture) := by
  refine T.F_Picture_len.ok sc_Picture_len (fun vs H Q E h => ?_) (fun cdv A outer s H vs Q E hr h => ?_)
  · obtain ⟨a, P', W, ps, rfl, _⟩ := h
    rfl
  · obtain ⟨a, P', W, ps, rfl, pic, q⟩ := h
    obtain ⟨dx, t, v, xs, ha, ht, hx, hv⟩ := pic.at_
    refine ⟨_, (pss_one (ps_ret (pe_callB call_len_seq (by rfl) T.m_len (by decide +kernel) (pa_cons (pe_fld (pv 0) rfl) pa_nil)))), ?_⟩
    refine ⟨_, rfl, a, T.C_Picture, dx, _, _, rfl, ha, T.cl_Picture, T.na_pairs, rfl, t, _, rfl, .inr ht.seq, ?_⟩
    have l := hx.len
    rw [List.length_map] at l
    rw [l]
    exact q H fun _ _ z => z
theorem ok_Picture_eq (T : Txt K mg) : FnOk P w K mg base CX0 1 T.f_Picture_eq T.d_Picture_eq ["self", "other"] (sp_Picture_eq T.C_Picture) := by
  refine T.F_Picture_eq.ok sc_Picture_eq (fun vs H Q E h => ?_) (fun cdv A outer s H vs Q E hr h => ?_)
  · obtain ⟨a, b, P', W, ps, P2, W2, ps2, rfl, _⟩ := h
    rfl
  · obtain ⟨a, b, P', W, ps, P2, W2, ps2, rfl, pa, pb, q⟩ := h
    obtain ⟨dx, t, v, xs, ha, ht, hx, hv⟩ := pa.at_
    obtain ⟨dy, t2, v2, xs2, hb, ht2, hx2, hv2⟩ := pb.at_
    refine ⟨_, (pss_one (ps_ret (pe_and (pe_callB call_isi (by rfl) T.m_isinstance (by decide +kernel) (pa_cons (pv 1) (pa_cons (pe_glob (v := .ref T.C_Picture) rfl T.g_Picture rfl) pa_nil))) (pe_and (pe_cmpR op_eq (pe_fld (pv 0) rfl) (pe_fld (pv 1) rfl) (nomark _)) (pe_and (pe_cmpR op_eq (pe_fld (pv 0) rfl) (pe_fld (pv 1) rfl) (nomark _)) (pe_one (pe_cmpR (op_eqD hr.units) (pe_fld (pv 0) rfl) (pe_fld (pv 1) rfl) (nomark _)))))))), ?_⟩
    refine ⟨_, rfl, .ref b, .ref T.C_Picture, .ref T.C_Picture, .ref T.C_Picture, true, rfl, .own _, .base (.ins hb T.cl_Picture T.k_class T.k_get T.k_takes T.k_mro), T.k_isp, true, rfl, iteT ?_⟩
    refine ⟨_, rfl, a, T.C_Picture, dx, _, _, rfl, ha, T.cl_Picture, T.na_points, rfl, _, rfl, b, T.C_Picture, dy, _, _, rfl, hb, T.cl_Picture, T.na_points, rfl, rfl, _, rfl, ?_⟩
    have q' := q H fun _ _ z => z
    by_cases c1 : P' = P2
    · subst c1
      rw [decide_eq_true (rfl : V.int P' = V.int P')]
      refine iteT ?_
      refine ⟨_, rfl, a, T.C_Picture, dx, _, _, rfl, ha, T.cl_Picture, T.na_walls, rfl, _, rfl, b, T.C_Picture, dy, _, _, rfl, hb, T.cl_Picture, T.na_walls, rfl, rfl, _, rfl, ?_⟩
      by_cases c2 : W = W2
      · subst c2
        rw [decide_eq_true (rfl : V.int W = V.int W)]
        refine iteT ?_
        refine ⟨_, rfl, a, T.C_Picture, dx, _, _, rfl, ha, T.cl_Picture, T.na_pairs, rfl, _, rfl, b, T.C_Picture, dy, _, _, rfl, hb, T.cl_Picture, T.na_pairs, rfl, _, _, ht.dp hx, ht2.dp hx2, shaped_prs _, shaped_prs _, ?_⟩
        have e : PyData.eqv (.tuple (ps.map prD)) (.tuple (ps2.map prD)) = decide (P' = P' ∧ W = W ∧ ps = ps2) := by
          rw [PyData.eqv, eqv_prs]
          exact decide_eq_decide.mpr ⟨fun z => ⟨rfl, rfl, z⟩, fun z => z.2.2⟩
        rw [e]
        exact q'
      · rw [int_dec, decide_eq_false c2]
        refine iteF ?_
        rw [decide_eq_false fun z => c2 z.2.1] at q'
        exact q'
    · rw [int_dec, decide_eq_false c1]
      refine iteF ?_
      rw [decide_eq_false fun z => c1 z.1] at q'
      exact q'
theorem at_of_mem {ps : List (Int × Int)} {q : Int × Int} (h : q ∈ ps) : ∃ j : Nat, ps[j]? = some q ∧ ∀ m, m < j → ps[m]? ≠ some q := by
  induction ps with
  | nil => cases h
  | cons p ps ih =>
    by_cases e : p = q
    · exact ⟨0, by rw [e]; rfl, fun m hm => absurd hm (Nat.not_lt_zero _)⟩
    · rcases List.mem_cons.mp h with z | z
      · exact absurd z.symm e
      · obtain ⟨j, h1, h2⟩ := ih z
        refine ⟨j + 1, h1, fun m hm => ?_⟩
        cases m with
        | zero => exact fun z => e (Option.some.inj z)
        | succ m => exact h2 m (by omega)
end
end K03
set_option Elab.async false
set_option linter.all false
set_option maxRecDepth 100000
set_option maxHeartbeats 4000000
set_option exponentiation.threshold 5000
namespace K03
open PySem PySem.Spec PyProof.Rows L2 TkS
def rowPs (i w : Nat) : List (Int × Int) := (List.range w).map fun (j : Nat) => ((i : Int), (j : Int))
theorem fullPs_eq (p w : Nat) : fullPs p w = (List.range p).flatMap fun i => rowPs i w := rfl
theorem fullPs_succ (p w : Nat) : fullPs (p + 1) w = fullPs p w ++ rowPs p w := by
  rw [fullPs_eq, fullPs_eq, List.range_succ, List.flatMap_append]
  simp
theorem rowPs_succ (i j : Nat) : rowPs i (j + 1) = rowPs i j ++ [((i : Int), (j : Int))] := by
  unfold rowPs
  rw [List.range_succ, List.map_append]
  rfl
theorem fullPs_len (p w : Nat) : (fullPs p w).length = p * w := by
  induction p with
  | zero => simp [fullPs]
  | succ p ih =>
    rw [fullPs_succ, List.length_append, ih, Nat.succ_mul]
    congr 1
    unfold rowPs
    simp
theorem mem_fullPs {p w : Nat} {q : Int × Int} : q ∈ fullPs p w ↔ 0 ≤ q.1 ∧ q.1 < p ∧ 0 ≤ q.2 ∧ q.2 < w := by
  unfold fullPs
  simp only [List.mem_flatMap, List.mem_map, List.mem_range]
  constructor
  · rintro ⟨i, hi, j, hj, rfl⟩
    refine ⟨?_, ?_, ?_, ?_⟩ <;> simp <;> omega
  · rintro ⟨h1, h2, h3, h4⟩
    exact ⟨q.1.toNat, by omega, q.2.toNat, by omega, Prod.ext (by simp; omega) (by simp; omega)⟩
theorem fullPs_asc (p w : Nat) : Asc (fullPs p w) := by
  unfold fullPs Asc
  rw [List.pairwise_flatMap]
  refine ⟨fun i _ => ?_, ?_⟩
  · rw [List.pairwise_map]
    refine List.Pairwise.imp (R := fun (a b : Nat) => a < b) ?_ List.pairwise_lt_range
    intro a b h
    exact SrtO.lexB_iff.mpr (.inr ⟨rfl, Int.ofNat_lt.mpr h⟩)
  · refine List.pairwise_lt_range.imp fun {a b} h => ?_
    intro x hx y hy
    obtain ⟨j, _, rfl⟩ := List.mem_map.mp hx
    obtain ⟨k, _, rfl⟩ := List.mem_map.mp hy
    exact SrtO.lexB_iff.mpr (.inl (Int.ofNat_lt.mpr h))
theorem fullPs_ins {P W : Int} (p0 : 0 ≤ P) (w0 : 0 ≤ W) : Ins P W (fullPs P.toNat W.toNat) := fun q m => by
  have := mem_fullPs.mp m
  omega
/-- two ranges in a comprehension -/
theorem lc2_rr {n m : Nat} {g g1 : TG} {tt tt1 : TT} {te : TE} {vs vs1 : List Nat} {wi wi1 : TI} {σ : L2.St} {H : Hp} {Q : VK} (Pv : Addr → Nat → Nat → Hp → Prop)
    (hi : ∀ R, R (Itr 0 n) H → wi σ H R) (h0 : ∀ D, H D = none → Pv D 0 0 (upd H D (.lst [])))
    (hs : ∀ D i H', H D = none → i < n → Pv D i 0 H' → g (.int (0 + (i : Int))) (wipe σ vs) H' fun σ2 H2 => wipe σ2 vs = wipe σ vs ∧ tt σ2 H2 fun b H3 => b = true ∧ wi1 σ2 H3 fun J1 H4 => J1 = Itr 0 m ∧ Pv D i 0 H4 ∧
      ∀ j H5, j < m → Pv D i j H5 → g1 (.int (0 + (j : Int))) (wipe σ2 vs1) H5 fun σ3 H6 => wipe σ3 vs1 = wipe σ2 vs1 ∧ tt1 σ3 H6 fun b H7 => b = true ∧ te σ3 H7 fun y H8 => ∃ acc, H8 D = some (.lst acc) ∧ acc.length < sizeLine ∧ Pv D i (j + 1) (upd H8 D (.lst (acc ++ [y]))))
    (hrow : ∀ D i H', i < n → Pv D i m H' → Pv D (i + 1) 0 H') (hd : ∀ D H', H D = none → Pv D n 0 H' → Q (.ref D) H')
    (mono : ∀ σ H (R R' : It → Hp → Prop), (∀ J H, R J H → R' J H) → wi1 σ H R → wi1 σ H R')
    (mg : ∀ x σ H (R R' : L2.St → Hp → Prop), (∀ σ H, R σ H → R' σ H) → g x σ H R → g x σ H R') (mg1 : ∀ x σ H (R R' : L2.St → Hp → Prop), (∀ σ H, R σ H → R' σ H) → g1 x σ H R → g1 x σ H R')
    (mt : ∀ σ H (R R' : Bool → Hp → Prop), (∀ b H, R b H → R' b H) → tt σ H R → tt σ H R') (mt1 : ∀ σ H (R R' : Bool → Hp → Prop), (∀ b H, R b H → R' b H) → tt1 σ H R → tt1 σ H R') :
    tLc2 wi g tt wi1 g1 tt1 te vs vs1 σ H Q := by
  refine hi _ fun D nD => ⟨fun i k H' => k = n - i ∧ i ≤ n ∧ Pv D i 0 H', ⟨n, by simp, Nat.zero_le _, h0 D nD⟩, ?_⟩
  rintro i k H' ⟨rfl, hin, p⟩
  by_cases hlt : i < n
  · refine .inr ⟨hlt, Pv D (i + 1) 0, fun H2 p' => ⟨n - (i + 1), by omega, rfl, hlt, p'⟩, fun x H2 y => ?_⟩
    obtain ⟨e, y⟩ := y
    subst e y
    refine mg _ _ _ _ _ (fun σ2 H3 h => ⟨h.1, mt _ _ _ _ (fun b H4 h => ?_) h.2⟩) (hs D i _ nD hlt p)
    obtain ⟨rfl, h⟩ := h
    rw [if_pos rfl]
    refine mono _ _ _ _ (fun J H5 h => ?_) h
    obtain ⟨rfl, q0, h⟩ := h
    refine ⟨fun j k H6 => k = m - j ∧ j ≤ m ∧ Pv D i j H6, ⟨m, by simp, Nat.zero_le _, q0⟩, ?_⟩
    rintro j k H6 ⟨rfl, hjm, p2⟩
    by_cases hj : j < m
    · refine .inr ⟨hj, Pv D i (j + 1), fun H7 p' => ⟨m - (j + 1), by omega, rfl, hj, p'⟩, fun x H7 y => ?_⟩
      obtain ⟨e, y⟩ := y
      subst e y
      refine mg1 _ _ _ _ _ (fun σ3 H8 h => ⟨h.1, mt1 _ _ _ _ (fun b H9 h => ?_) h.2⟩) (h j _ hj p2)
      obtain ⟨rfl, h⟩ := h
      rw [if_pos rfl]
      exact h
    · have e : j = m := by omega
      subst e
      exact .inl ⟨Nat.le_refl _, hrow D i _ hlt p2⟩
  · have e : i = n := by omega
    subst e
    exact .inl ⟨Nat.le_refl _, hd D _ nD p⟩
theorem asg_next {i : Nat} {x : V} {t : TE} {g : TG} {rest : TS} {D : Ends} {σ : L2.St} {H : Hp} (h : t (σ.set i (some x)) H fun y H2 => g y (σ.set i (some x)) H2 (rest D)) : gName i x σ H (tSeq (tAsg t g) rest D) := h
section
variable {P : Program} {w : World} {K : PySem.W.Frag} {mg : Str → Option Value} {base : Heap}
end
end K03
set_option Elab.async false
set_option linter.all false
set_option maxRecDepth 100000
set_option maxHeartbeats 4000000
set_option exponentiation.threshold 5000
namespace K03
open PySem PySem.Spec PyProof.Rows L2 TkS
/-! the hand -/
structure Hand (H : Hp) (h : Addr) : Prop where
  ex : ∃ (c : Addr) (cells : List Int) (p r t : Int), H h = some (.lst [.ref c, .int p, .int r, .int t]) ∧ H c = some (.lst (cells.map V.int)) ∧ c ≠ h ∧ 0 ≤ p ∧ 0 ≤ r ∧ ∀ z ∈ cells, (0 : Int) ≤ z
structure Keep (h : Addr) (H H' : Hp) : Prop where
  kp : ∀ b o, b ≠ h → H b = some o → H' b = some o
  cc : ∀ (c : Addr) (p r t : Int), H h = some (.lst [.ref c, .int p, .int r, .int t]) → ∃ p' r' t' : Int, H' h = some (.lst [.ref c, .int p', .int r', .int t'])
instance {h : Addr} {H H' : Hp} : CoeFun (Keep h H H') (fun _ => ∀ b o, b ≠ h → H b = some o → H' b = some o) := ⟨Keep.kp⟩
theorem Keep.trans {h : Addr} {H H1 H2 : Hp} (a : Keep h H H1) (b : Keep h H1 H2) : Keep h H H2 := ⟨fun c o n e => b c o n (a c o n e), fun c p r t e => by
  obtain ⟨p', r', t', e'⟩ := a.cc c p r t e
  exact b.cc c p' r' t' e'⟩
theorem Keep.refl {h : Addr} {H : Hp} : Keep h H H := ⟨fun _ _ _ e => e, fun c p r t e => ⟨p, r, t, e⟩⟩
theorem Keep.of {h : Addr} {H H' : Hp} (s : Same H H') : Keep h H H' := ⟨fun b o _ e => s b o e, fun c p r t e => ⟨p, r, t, s _ _ e⟩⟩
theorem keep_put {h : Addr} {H : Hp} {c : Addr} {p r t p' r' t' : Int} (e : H h = some (.lst [.ref c, .int p, .int r, .int t])) : Keep h H (upd H h (.lst [.ref c, .int p', .int r', .int t'])) :=
  ⟨fun b u n e => by rw [upd_ne n]; exact e, fun c2 p2 r2 t2 e2 => by
    rw [e] at e2
    cases e2
    exact ⟨p', r', t', upd_same⟩⟩
theorem Hand.same {H H' : Hp} {h : Addr} (e : Same H H') (x : Hand H h) : Hand H' h := by
  obtain ⟨c, cells, p, r, t, h1, h2, q⟩ := x.ex
  exact ⟨c, cells, p, r, t, e _ _ h1, e _ _ h2, q⟩
def sp_law_hand (K : PySem.W.Frag) : Sp := fun vs H Q _ => ∃ (a : Addr) (ns : List Int), vs = [.ref a] ∧ SqL K H a (ns.map V.int) ∧ ns.length ≤ 63 ∧ ∀ H' h, Same H H' → H h = none → Hand H' h → Q (.ref h) H'
def sp_law_mixed (K : PySem.W.Frag) : Sp := fun vs H Q _ => ∃ a b : Int, vs = [.int a, .int b] ∧ ∀ r : Int, 0 ≤ r → Q (.int r) H
def sp_law_take (K : PySem.W.Frag) : Sp := fun vs H Q _ => ∃ (h : Addr) (m : Int), vs = [.ref h, .int m] ∧ Hand H h ∧ 0 < m ∧ m.natAbs < 2 ^ 100 ∧ ∀ H' r, Keep h H H' → Hand H' h → 0 ≤ r → r < m → Q (.int r) H'
section
variable {P : Program} {w : World} {K : PySem.W.Frag} {mg : Str → Option Value} {base : Heap}
theorem ok_law_mixed (T : Txt K mg) : FnOk P w K mg base CX0 1 T.f_law_mixed T.d_law_mixed ["_law_number", "_law_turn"] (sp_law_mixed K) := by
  refine T.F_law_mixed.ok sc_law_mixed (fun vs H Q E h => ?_) (fun cdv A outer s H vs Q E hr h => ?_)
  · obtain ⟨a, b, rfl, _⟩ := h
    rfl
  · obtain ⟨a, b, rfl, q⟩ := h
    refine ⟨_, (pss_cons (ps_set (i := 2) sc_law_mixed.nd rfl (.inl rfl) (pe_op op_mod (pe_callTy call_int1 (by rfl) T.m_int (by decide +kernel) (pa_cons (pe_op op_add (pe_op op_add (pe_op op_mul (pv 0) pe_int) (pe_op op_mul (pv 1) pe_int)) pe_int) pa_nil)) pe_int))
      (pss_cons (ps_set (i := 3) sc_law_mixed.nd rfl (.inl rfl) (pe_op op_mod (pe_callTy call_int1 (by rfl) T.m_int (by decide +kernel) (pa_cons (pe_op op_add (pe_op op_add (pe_op op_mul (pv 2) (pv 2)) (pe_op op_mul (pv 1) pe_int)) (pe_op op_fdiv (pv 2) pe_int)) pa_nil)) pe_int))
      (pss_one (ps_ret (pe_op op_fdiv (pe_callTy call_int1 (by rfl) T.m_int (by decide +kernel) (pa_cons (pe_op op_mod (pe_callTy call_int1 (by rfl) T.m_int (by decide +kernel) (pa_cons (pe_op op_add (pe_op op_mul (pv 3) pe_int) (pe_op op_fdiv (pv 2) pe_int)) pa_nil)) pe_int) pa_nil)) pe_int))))), ?_⟩
    refine ⟨_, rfl, a, 40692, rfl, rfl, .inr (by decide), _, rfl, b, 7177, rfl, rfl, .inr (by decide), _, _, rfl, rfl, _, _, rfl, rfl, .inl ⟨_, rfl, _, _, rfl, rfl, (by show (0 : Int) < _; decide), ?_⟩⟩
    generalize (a * 40692 + b * 7177 + 60013 : Int) = z
    have z0 : (0 : Int) ≤ z % 2147483399 := Int.emod_nonneg _ (by decide)
    have z1 : z % 2147483399 < 2147483399 := Int.emod_lt_of_pos _ (by decide)
    refine ⟨_, rfl, _, rfl, z % 2147483399, z % 2147483399, rfl, rfl, .inl ⟨by omega, by omega⟩, _, rfl, b, 90523, rfl, rfl, .inr (by decide), _, _, rfl, rfl, _, rfl, z % 2147483399, 149, rfl, rfl, ⟨by decide, by decide⟩, _, _, rfl, rfl, .inl ⟨_, rfl, _, _, rfl, rfl, (by show (0 : Int) < _; decide), ?_⟩⟩
    generalize (z % 2147483399 * (z % 2147483399) + b * 90523 + z % 2147483399 / 149 : Int) = y
    have y0 : (0 : Int) ≤ y % 2147483629 := Int.emod_nonneg _ (by decide)
    have y1 : y % 2147483629 < 2147483629 := Int.emod_lt_of_pos _ (by decide)
    refine ⟨_, rfl, y % 2147483629, 52774, rfl, rfl, .inl ⟨by omega, by omega⟩, _, rfl, z % 2147483399, 13, rfl, rfl, ⟨by decide, by decide⟩, _, _, rfl, rfl, .inl ⟨_, rfl, _, _, rfl, rfl, (by show (0 : Int) < _; decide), .inl ⟨_, rfl, _, _, rfl, rfl, ⟨by decide, by decide⟩, q _ ?_⟩⟩⟩
    have x0 : (0 : Int) ≤ (y % 2147483629 * 52774 + z % 2147483399 / 13) % 2147483587 := Int.emod_nonneg _ (by decide)
    exact Int.ediv_nonneg x0 (by decide)
theorem all_push {cells : List Int} {z : Int} (h : ∀ x ∈ cells, (0 : Int) ≤ x) (hz : 0 ≤ z) : ∀ x ∈ cells ++ [z], (0 : Int) ≤ x := by
  intro x hx
  rcases List.mem_append.mp hx with e | e
  · exact h x e
  · rw [List.mem_singleton.mp e]
    exact hz
theorem ok_law_hand (T : Txt K mg) : FnOk P w K mg base CX0 1 T.f_law_hand T.d_law_hand ["_law_script"] (sp_law_hand K) := by
  refine T.F_law_hand.ok sc_law_hand (fun vs H Q E h => ?_) (fun cdv A outer s H vs Q E hr h => ?_)
  · obtain ⟨a, b, rfl, _⟩ := h
    rfl
  · obtain ⟨a, ns, rfl, hS, hlen, q⟩ := h
    refine ⟨_, (pss_cons (ps_set (i := 1) sc_law_hand.nd rfl (.inl rfl) (pe_op op_add (pe_callB call_len_seq (by rfl) T.m_len (by decide +kernel) (pa_cons (pv 0) pa_nil)) pe_int))
      (pss_cons (ps_set (i := 2) sc_law_hand.nd rfl (.inl rfl) (pe_lst pa_nil))
      (pss_cons (ps_for PassesOwn.never rfl (pi_list (pv 0)) (pg_name (i := 3) sc_law_hand.nd rfl (.inl rfl))
        (pss_cons (ps_set (i := 1) sc_law_hand.nd rfl (.inl rfl) (pe_op op_mod (pe_callTy call_int1 (by rfl) T.m_int (by decide +kernel) (pa_cons (pe_op op_add (pe_op op_mul (pv 1) pe_int) (pe_callTy call_int1 (by rfl) T.m_int (by decide +kernel) (pa_cons (pv 3) pa_nil))) pa_nil)) pe_int))
        (pss_one (ps_expr (pe_bm PySem.F.plainAttrs_list PySem.F.slot_list_append PySem.F.type_list_append mt_append (pv 2) (pa_cons (pe_callB call_abs (by rfl) T.m_abs (by decide +kernel) (pa_cons (pe_callTy call_int1 (by rfl) T.m_int (by decide +kernel) (pa_cons (pv 3) pa_nil)) pa_nil)) pa_nil))))))
      (pss_one (ps_ret (pe_lst (pa_cons (pv 2) (pa_cons pe_int (pa_cons pe_int (pa_cons (pv 1) pa_nil)))))))))), ?_⟩
    refine ⟨_, rfl, a, _, rfl, .inl hS, _, _, rfl, rfl, Nat.zero_le _, fun c nc => ?_⟩
    have s1 : Same H (upd H c (.lst [])) := fun b x e => by
      rw [upd_ne (ne_of_none e nc)]
      exact e
    refine ⟨_, rfl, a, rfl, ⟨_, s1.seq hS⟩, for_list (xs := ns.map V.int) (fun i σ H' => ∃ (t : Int) (y : Option V) (cells : List Int), σ = [some (.ref a), some (.int t), some (.ref c), y] ∧ Same H H' ∧ H' c = some (.lst (cells.map V.int)) ∧ cells.length = i ∧ ∀ z ∈ cells, (0 : Int) ≤ z)
      ⟨_, none, [], rfl, s1, upd_same, rfl, fun z hz => by cases hz⟩ (fun i σ H' _ hP => by obtain ⟨_, _, _, _, sm, _⟩ := hP; exact sm.seq hS) (fun i x σ H' hx hP => ?_) (fun σ H' hP => ?_)⟩
    · obtain ⟨t, y, cells, rfl, sm, ec, el, hz⟩ := hP
      obtain ⟨n, hn, rfl⟩ : ∃ n, ns[i]? = some n ∧ V.int n = x := by
        rw [List.getElem?_map] at hx
        exact Option.map_eq_some_iff.mp hx
      have hi : i < ns.length := (List.getElem?_eq_some_iff.mp hn).1
      have nca : c ≠ a → True := fun _ => trivial
      refine ⟨_, rfl, t, 2011, rfl, rfl, .inr (by decide), _, rfl, .inl ⟨_, rfl, _, _, rfl, rfl, .inl ⟨_, rfl, _, _, rfl, rfl, (by show (0 : Int) < _; decide), ?_⟩⟩⟩
      refine ⟨_, rfl, .inl ⟨rfl, _, .inl (.inl ec)⟩, _, rfl, .inl ⟨_, rfl, _, rfl, c, _, _, rfl, rfl, ec, ?_, ?_⟩⟩
      · rw [List.length_map, el]
        exact small1000 (by omega)
      · refine ⟨_, _, cells ++ [(if n < 0 then -n else n)], rfl, fun b u e => ?_, ?_, ?_, all_push hz (by split <;> omega)⟩
        · rw [upd_ne (ne_of_none e nc)]
          exact sm _ _ e
        · rw [upd_same, List.map_append]
          rfl
        · rw [List.length_append, el]
          rfl
    · obtain ⟨t, y, cells, rfl, sm, ec, el, hz⟩ := hP
      refine ⟨_, rfl, _, rfl, (by show 4 ≤ sizeLine; decide), fun h nh => ?_⟩
      have nch : c ≠ h := ne_of_none ec nh
      refine q _ h (fun b u e => ?_) (sm.free nh) ⟨c, cells, 0, 0, t, upd_same, ?_, nch, Int.le_refl _, Int.le_refl _, hz⟩
      · rw [upd_ne (ne_of_none (sm _ _ e) nh)]
        exact sm _ _ e
      · rw [upd_ne nch]
        exact ec
theorem cells_at {cells : List Int} {p : Int} (h0 : 0 ≤ p) (h : p < ((cells.map V.int).length : Int)) : ∃ z, z ∈ cells ∧ atI (cells.map V.int) p = some (.int z) := by
  rw [List.length_map] at h
  have hp : p.toNat < cells.length := by omega
  refine ⟨cells[p.toNat], List.getElem_mem hp, at_of (j := p.toNat) (by omega) ?_⟩
  rw [List.getElem?_map, List.getElem?_eq_getElem hp]
  rfl
theorem ok_law_take (T : Txt K mg) : FnOk P w K mg base CX0 2 T.f_law_take T.d_law_take ["_law_hand_here", "_law_many"] (sp_law_take K) := by
  refine T.F_law_take.ok sc_law_take (fun vs H Q E h => ?_) (fun cdv A outer s H vs Q E hr h => ?_)
  · obtain ⟨a, b, rfl, _⟩ := h
    rfl
  · obtain ⟨h, m, rfl, ⟨c, cells, p, r, t, hh, hc, nch, hp, hr0, hz⟩, hm, hmb, q⟩ := h
    refine ⟨_, (Evl.pss_cut (ps_if (PW.pt (pw_and (pt_cmpR op_eq (pe_ix ix_list (pv 0) pe_int (fun _ _ => rfl)) pe_int (nomark _)) (pw_and1 (pt_cmpR op_lt (pe_ix ix_list (pv 0) pe_int (fun _ _ => rfl)) (pe_callB call_len_seq (by rfl) T.m_len (by decide +kernel) (pa_cons (pe_ix ix_list (pv 0) pe_int (fun _ _ => rfl)) pa_nil)) (nomark _)))))
        (pss_cons (ps_set (i := 2) sc_law_take.nd rfl (.inl rfl) (pe_ix ix_list (pe_ix ix_list (pv 0) pe_int (fun _ _ => rfl)) (pe_ix ix_list (pv 0) pe_int (fun _ _ => rfl)) (fun _ _ => rfl)))
        (pss_cons (ps_asg (pe_op op_add (pe_ix ix_list (pv 0) pe_int (fun _ _ => rfl)) pe_int) (pg_sub (pv 0) pe_int set_list))
        (pss_cons (ps_if (pt_cmpR op_lt (pv 2) (pe_op op_pow pe_int pe_int) (nomark _))
          (pss_one (ps_ret (pe_op op_mod (pe_callTy call_int1 (by rfl) T.m_int (by decide +kernel) (pa_cons (pe_call (ok_law_mixed T) (hr.mono (by decide)) (by rfl) T.g_law_mixed T.F_law_mixed.kp T.b_law_mixed .nil pass0 (pa_cons (pe_op op_mod (pe_callTy call_int1 (by rfl) T.m_int (by decide +kernel) (pa_cons (pv 2) pa_nil)) pe_int) (pa_cons (pe_ix ix_list (pv 0) pe_int (fun _ _ => rfl)) pa_nil))) pa_nil)) (pv 1))))
          pss_nil)
        (pss_one (ps_asg (pv 2) (pg_sub (pv 0) pe_int set_list))))))
        pss_nil)
      (pss_cons (ps_if (pt_cmpR op_gt (pe_ix ix_list (pv 0) pe_int (fun _ _ => rfl)) pe_int (nomark _))
        (pss_cons (ps_set (i := 3) sc_law_take.nd rfl (.inl rfl) (pe_ix ix_list (pv 0) pe_int (fun _ _ => rfl)))
        (pss_cons (ps_asg (pe_op op_fdivW (pe_callTy call_int1 (by rfl) T.m_int (by decide +kernel) (pa_cons (pv 3) pa_nil)) (pv 1)) (pg_sub (pv 0) pe_int set_list))
        (pss_one (ps_ret (pe_op op_mod (pe_callTy call_int1 (by rfl) T.m_int (by decide +kernel) (pa_cons (pv 3) pa_nil)) (pv 1))))))
        pss_nil)
      (pss_cons (ps_asg (pe_op op_mod (pe_callTy call_int1 (by rfl) T.m_int (by decide +kernel) (pa_cons (pe_op op_add (pe_ix ix_list (pv 0) pe_int (fun _ _ => rfl)) pe_int) pa_nil)) pe_int) (pg_sub (pv 0) pe_int set_list))
      (pss_one (ps_ret (pe_op op_mod (pe_callTy call_int1 (by rfl) T.m_int (by decide +kernel) (pa_cons (pe_call (ok_law_mixed T) (hr.mono (by decide)) (by rfl) T.g_law_mixed T.F_law_mixed.kp T.b_law_mixed .nil pass0 (pa_cons (pe_ix ix_list (pv 0) pe_int (fun _ _ => rfl)) (pa_cons (pe_ix ix_list (pv 0) pe_int (fun _ _ => rfl)) pa_nil))) pa_nil)) (pv 1))))))), ?_⟩
    refine ⟨fun σ' H' => ∃ (y : Option V) (p r t : Int), σ' = [some (.ref h), some (.int m), y, none] ∧ Keep h H H' ∧ H' h = some (.lst [.ref c, .int p, .int r, .int t]) ∧ 0 ≤ p ∧ 0 ≤ r, ?_, fun σ' H' hM => ?_⟩
    · -- the first if
      refine ⟨_, rfl, h, _, 2, .int r, rfl, rfl, SqL.of hh, rfl, rfl, _, rfl, ite2 (fun c1 => ?_) (fun c1 => ?_)⟩
      · refine ⟨_, rfl, h, _, 1, .int p, rfl, rfl, SqL.of hh, rfl, _, rfl, h, _, 0, .ref c, rfl, rfl, SqL.of hh, rfl, c, _, rfl, .inl (SqL.of hc), p, _, rfl, rfl, _, rfl, ite2 (fun c2 => ?_) (fun c2 => ?_)⟩
        · obtain ⟨z, hzm, hza⟩ := cells_at hp (of_decide_eq_true c2)
          refine ⟨_, rfl, h, _, 0, .ref c, rfl, rfl, SqL.of hh, rfl, _, rfl, h, _, 1, .int p, rfl, rfl, SqL.of hh, rfl, c, _, p, .int z, rfl, rfl, SqL.of hc, hza, ?_⟩
          refine ⟨_, rfl, h, _, 1, .int p, rfl, rfl, SqL.of hh, rfl, p, 1, rfl, rfl, _, rfl, h, _, 1, 1, rfl, rfl, hh, rfl, ?_⟩
          have e1 : (upd H h (.lst ([V.ref c, .int p, .int r, .int t].set 1 (.int (p + 1))))) h = some (.lst [.ref c, .int (p + 1), .int r, .int t]) := upd_same
          refine ⟨_, rfl, 10, 18, rfl, rfl, ⟨by decide, by decide, by decide⟩, _, _, rfl, rfl, _, rfl, ite2 (fun c3 => ?_) (fun c3 => ?_)⟩
          · refine ⟨_, rfl, .inl ⟨_, rfl, z, 2147483399, rfl, rfl, (by show (0 : Int) < _; decide), _, rfl, h, _, 1, .int (p + 1), rfl, rfl, SqL.of e1, rfl, _, _, rfl, fun x hx => .inl ⟨x, rfl, _, rfl, x, m, rfl, rfl, hm, ?_⟩⟩⟩
            refine q _ _ (keep_put hh) ⟨c, cells, p + 1, r, t, e1, ?_, nch, by omega, hr0, hz⟩ (Int.emod_nonneg _ (by omega)) (Int.emod_lt_of_pos _ hm)
            rw [upd_ne nch]
            exact hc
          · refine ⟨_, rfl, _, rfl, h, _, 2, 2, rfl, rfl, e1, rfl, some (.int z), p + 1, z, t, rfl, ?_, upd_same, by omega, hz z hzm⟩
            rw [upd_upd]
            exact (keep_put hh)
        · exact ⟨none, p, r, t, rfl, Keep.refl, hh, hp, hr0⟩
      · exact ⟨none, p, r, t, rfl, Keep.refl, hh, hp, hr0⟩
    · -- what follows it
      obtain ⟨y, p, r, t, rfl, kp, hh, hp, hr0⟩ := hM
      have hc' : H' c = some (.lst (cells.map V.int)) := kp _ _ nch hc
      have hcu : ∀ o, (upd H' h o) c = some (.lst (cells.map V.int)) := fun o => by
        rw [upd_ne nch]
        exact hc'
      refine ⟨_, rfl, h, _, 2, .int r, rfl, rfl, SqL.of hh, rfl, r, 0, rfl, rfl, _, rfl, ite2 (fun c1 => ?_) (fun c1 => ?_)⟩
      · have hrp : 0 < r := of_decide_eq_true c1
        refine ⟨_, rfl, h, _, 2, .int r, rfl, rfl, SqL.of hh, rfl, ?_⟩
        refine ⟨_, rfl, .inl ⟨_, rfl, _, rfl, r, m, rfl, rfl, wide_div hm hmb (by decide) (by decide), _, rfl, h, _, 2, 2, rfl, rfl, hh, rfl, ?_⟩⟩
        refine ⟨_, rfl, .inl ⟨_, rfl, _, rfl, r, m, rfl, rfl, hm, ?_⟩⟩
        exact q _ _ (kp.trans (keep_put hh)) ⟨c, cells, p, r / m, t, upd_same, hcu _, nch, hp, Int.ediv_nonneg hr0 (by omega), hz⟩ (Int.emod_nonneg _ (by omega)) (Int.emod_lt_of_pos _ hm)
      · refine ⟨_, rfl, h, _, 3, .int t, rfl, rfl, SqL.of hh, rfl, t, 1, rfl, rfl, .inl ⟨_, rfl, _, _, rfl, rfl, (by show (0 : Int) < _; decide), _, rfl, h, _, 3, 3, rfl, rfl, hh, rfl, ?_⟩⟩
        have e1 : (upd H' h (.lst ([V.ref c, .int p, .int r, .int t].set 3 (.int ((t + 1) % 2147483549))))) h = some (.lst [.ref c, .int p, .int r, .int ((t + 1) % 2147483549)]) := upd_same
        refine ⟨_, rfl, h, _, 3, _, rfl, rfl, SqL.of e1, rfl, _, rfl, h, _, 1, _, rfl, rfl, SqL.of e1, rfl, _, _, rfl, fun x hx => .inl ⟨x, rfl, _, rfl, x, m, rfl, rfl, hm, ?_⟩⟩
        exact q _ _ (kp.trans (keep_put hh)) ⟨c, cells, p, r, _, e1, hcu _, nch, hp, hr0, hz⟩ (Int.emod_nonneg _ (by omega)) (Int.emod_lt_of_pos _ hm)
end
end K03
set_option Elab.async false
set_option linter.all false
set_option maxRecDepth 100000
set_option maxHeartbeats 4000000
set_option exponentiation.threshold 5000
namespace K03
open PySem PySem.Spec PyProof.Rows L2 TkS
def isIntD : PyData → Bool
  | .int _ => true
  | _ => false
def sp_law_whole : Sp := fun vs H Q _ => ∃ x d, vs = [x] ∧ Dq H x d ∧ Q (.bl (isIntD d)) H
def sp_law_full : Sp := fun vs H Q _ => ∃ (p s : Int), vs = [.int p, .int s] ∧ 0 ≤ p ∧ p ≤ 5 ∧ 0 ≤ s ∧ s ≤ 5 ∧ ∀ l H', Same H H' → H l = none → Dq H' (.ref l) (.list ((fullPs p.toNat s.toNat).map prD)) → Q (.ref l) H'
def sp_law_couple : Sp := fun vs H Q _ => ∃ (P W : Int) (x : V) (d : PyData), vs = [.int P, .int W, x] ∧ Dq H x d ∧ ∀ H', Same H H' → Q (.bl (isPair P W d)) H'
theorem noList_pr (p : Int × Int) : noList (prD p) = true := rfl
theorem range_full (n : Nat) : (List.range n).filter (fun _ => true) = List.range n := List.filter_eq_self.mpr fun _ _ => rfl
section
variable {P : Program} {w : World} {K : PySem.W.Frag} {mg : Str → Option Value} {base : Heap}
theorem ok_law_whole (T : Txt K mg) : FnOk P w K mg base CX0 1 T.f_law_whole T.d_law_whole ["_law_thing"] sp_law_whole := by
  refine T.F_law_whole.ok sc_law_whole (fun vs H Q E h => ?_) (fun cdv A outer s H vs Q E hr h => ?_)
  · obtain ⟨x, d, rfl, _⟩ := h
    rfl
  · obtain ⟨x, d, rfl, hk, q⟩ := h
    obtain ⟨t, ty, k1, k2, _⟩ := dq_ty (K := K) hk
    refine ⟨_, (pss_one (ps_ret (pe_and (pe_callB call_isi (by rfl) T.m_isinstance (by decide +kernel) (pa_cons (pv 0) (pa_cons (pe_bltn (v := .ty "int") (u := .type "int") (by rfl) T.m_int (by decide +kernel) rfl) pa_nil))) (pe_one (pe_not (pe_callB call_isi (by rfl) T.m_isinstance (by decide +kernel) (pa_cons (pv 0) (pa_cons (pe_bltn (v := .ty "bool") (u := .type "bool") (by rfl) T.m_bool (by decide +kernel) rfl) pa_nil)))))))), ?_⟩
    refine ⟨x, rfl, x, .ty "int", t, _, isNumV x, rfl, .ty _, ty, k2, _, rfl, ?_⟩
    have two : Q (.bl (!isBlV x)) H → tNotV (tCB (rIsi K) (tCons (tVar 0) (tCons (tC (.ty "bool")) tNil))) (L2.start ["_law_thing"] [x]) H Q := fun z => ⟨x, rfl, x, .ty "bool", t, _, isBlV x, rfl, .ty _, ty, k1, _, rfl, z⟩
    cases hk with
    | non => exact iteF q
    | bl b => exact iteT (two q)
    | int i => exact iteT (two q)
    | str z => exact iteF q
    | lst z y => exact iteF q
    | tup z y => exact iteF q
theorem ok_law_full (T : Txt K mg) : FnOk P w K mg base CX0 1 T.f_law_full T.d_law_full ["_law_points", "_law_shuts"] sp_law_full := by
  refine T.F_law_full.ok sc_law_full (fun vs H Q E h => ?_) (fun cdv A outer s H vs Q E hr h => ?_)
  · obtain ⟨p, s, rfl, _⟩ := h
    rfl
  · obtain ⟨p, s', rfl, p0, p1, s0, s1, q⟩ := h
    refine ⟨_, (pss_cons (ps_set (i := 2) sc_law_full.nd rfl (.inl rfl) (pe_lst pa_nil))
      (pss_cons (ps_for PassesOwn.never rfl (pi_range1 (by rfl) T.m_range (pa_cons (pv 0) pa_nil)) (pg_name (i := 3) sc_law_full.nd rfl (.inr rfl))
        (pss_one (ps_set (i := 2) sc_law_full.nd rfl (.inl rfl) (pe_op op_catDL (pv 2) (pe_lc rfl sc_law_full.nd (pi_range1 (by rfl) T.m_range (pa_cons (pv 1) pa_nil)) (blkOk_by (own := [("_law_shut_here", 4)]) (N := ["_law_points", "_law_shuts", "_law_told", "_law_point", "_law_shut_here"]) (sc := defScope s_law_full) (by decide +kernel)) (fun _ _ _ _ _ => (pg_name (i := 4) sc_law_full.nd rfl (.inl rfl))) (fun _ _ _ _ _ => pts_nil) (fun _ _ _ _ _ => (pe_tup (pa_cons (pv 3) (pa_cons (pv 4) pa_nil)))))))))
      (pss_one (ps_ret (pv 2))))), ?_⟩
    refine ⟨Nat.zero_le _, fun t0 n0 => ⟨_, rfl, p, rfl, by omega, by omega, for_range (n := p.toNat) (fun i σ H' => ∃ (t : Addr) (y3 : Option V), σ = [some (.int p), some (.int s'), some (.ref t), y3, none] ∧ Same H H' ∧ H t = none ∧ Dq H' (.ref t) (.list ((fullPs i s'.toNat).map prD)))
      ⟨t0, none, rfl, same_new n0, n0, .lst upd_same .nil⟩ (fun i σ H' hi hP => ?_) (fun σ H' hP => ?_)⟩⟩
    · obtain ⟨t, y3, rfl, sm, nt, kt⟩ := hP
      refine ⟨_, rfl, _, rfl, s', rfl, by omega, by omega, fun D nD => ?_⟩
      refine lc_rngD (fun _ => true) (fun j => prD ((i : Int), (j : Int))) nD (by omega) (fun _ => rfl) (fun j H2 Q2 hj s2 q2 => q2 _ (fun _ _ z => z)) (fun j H2 Q2 hj _ s2 hD q2 => ?_) (fun H2 s2 kD => ?_)
      · refine ⟨_, rfl, _, rfl, (by show 2 ≤ sizeLine; decide), fun u nu => q2 _ _ (same_new nu) ?_⟩
        obtain ⟨acc, hD⟩ := hD
        rw [Int.zero_add, Int.zero_add]
        exact .tup (off_at (ne_of_none hD nu).symm upd_same) (.cons (.int _) (.cons (.int _) .nil))
      · rw [range_full] at kD
        have kD' : Dq H2 (.ref D) (.list ((rowPs i s'.toNat).map prD)) := by
          unfold rowPs
          rw [List.map_map]
          exact kD
        have hsz : i * s'.toNat ≤ 5 * 5 := Nat.mul_le_mul (by omega) (by omega)
        refine ⟨_, _, kt.same s2, kD', ?_, fun l H3 s3 nl kl => ⟨l, _, rfl, (sm.trans s2).trans s3, (sm.trans s2).free nl, ?_⟩⟩
        · rw [List.length_map, List.length_map, fullPs_len]
          have : (rowPs i s'.toNat).length = s'.toNat := by
            unfold rowPs
            simp
          omega
        · rw [fullPs_succ, List.map_append]
          exact kl
    · obtain ⟨t, y3, rfl, sm, nt, kt⟩ := hP
      exact ⟨_, rfl, q t H' sm nt kt⟩
end
end K03
set_option Elab.async false
set_option linter.all false
set_option maxRecDepth 100000
set_option maxHeartbeats 4000000
set_option exponentiation.threshold 5000
namespace K03
open PySem PySem.Spec PyProof.Rows L2 TkS
section
variable {P : Program} {w : World} {K : PySem.W.Frag} {mg : Str → Option Value} {base : Heap}
theorem asg_last {i : Nat} {x : V} {t : TE} {g : TG} {D : Ends} {σ : L2.St} {H : Hp} (h : t (σ.set i (some x)) H fun y H2 => g y (σ.set i (some x)) H2 D.nx) : gName i x σ H (tAsg t g D) := h
def mrgD (a b : Int) : PyData → PyData
  | .int n => .int (if n = a ∨ n = b then (if b < a then b else a) else n)
  | d => d
theorem mrgD_int {a b n : Int} : mrgD a b (.int n) = .int (if n = a ∨ n = b then (if b < a then b else a) else n) := rfl
theorem dq_intl {H : Hp} : ∀ ls : List Int, DqAll H (ls.map V.int) (ls.map PyData.int)
  | [] => .nil
  | _ :: ls => .cons (.int _) (dq_intl ls)
theorem intl_dq {H : Hp} : ∀ {ls : List Int} {xs : List V}, DqAll H xs (ls.map PyData.int) → xs = ls.map V.int
  | [], _, .nil => rfl
  | _ :: ls, _, .cons k t => by
    cases k
    rw [intl_dq t]
    rfl
theorem mrg_data (ls : List Int) (a b : Int) : ((ls.map PyData.int).filter fun _ => true).map (mrgD a b) = (mrg ls a b).map PyData.int := by
  rw [List.filter_eq_self.mpr fun _ _ => rfl]
  unfold mrg
  rw [List.map_map, List.map_map]
  rfl
theorem ok_law_marks (T : Txt K mg) : FnOk P w K mg base CX0 1 T.f_law_marks T.d_law_marks ["_law_points", "_law_shuts", "_law_pairs"] (sp_piece_labels K) := by
  refine T.F_law_marks.ok sc_law_marks (fun vs H Q E h => ?_) (fun cdv A outer s H vs Q E hr h => ?_)
  · obtain ⟨P', W, l, xs, ps, rfl, _⟩ := h
    rfl
  · obtain ⟨P', W, l, xs, ps, rfl, p0, w0, pw, hS, hD, hin, q⟩ := h
    refine ⟨_, (pss_cons (ps_set (i := 3) sc_law_marks.nd rfl (.inl rfl) (pe_listRg rfl (by rfl) T.m_list (prg_1 (by rfl) T.m_range (pe_op op_add (pv 0) (pv 1)))))
      (pss_cons (ps_for PassesOwn.never rfl (pi_list (pv 2)) (pg_tup rfl (pgs_cons (pg_name (i := 4) sc_law_marks.nd rfl (.inl rfl)) (pgs_cons (pg_name (i := 5) sc_law_marks.nd rfl (.inl rfl)) pgs_nil)))
        (pss_cons (ps_set (i := 6) sc_law_marks.nd rfl (.inr rfl) (pe_ix ix_list (pv 3) (pv 4) (fun _ _ => rfl)))
        (pss_cons (ps_set (i := 7) sc_law_marks.nd rfl (.inr rfl) (pe_ix ix_list (pv 3) (pe_op op_add (pv 0) (pv 5)) (fun _ _ => rfl)))
        (pss_one (ps_setLc (i := 3) rfl sc_law_marks.nd rfl rfl (sw_true rfl rfl rfl (by decide +kernel)) (pi_seq (pv 3)) (blkOk_by (own := [("_law_mark", 8)]) (N := ["_law_points", "_law_shuts", "_law_pairs", "_law_marks_here", "_law_point", "_law_shut_here", "_law_one", "_law_other", "_law_mark"]) (sc := defScope s_law_marks) (by decide +kernel)) (fun _ _ _ _ _ => (pg_name (i := 8) sc_law_marks.nd rfl (.inl rfl))) (fun _ _ _ _ _ => pts_nil) (fun _ _ _ _ _ => (pe_ifExp (pt_cmpR (show OpR _ (compareOp .In) (rIn K false) from op_in_seq) (pv 8) (pe_tup (pa_cons (pv 6) (pa_cons (pv 7) pa_nil))) rfl) (pe_callB (call_min2 rfl) (by rfl) T.m_min (by decide +kernel) (pa_cons (pv 6) (pa_cons (pv 7) pa_nil))) (pv 8))))))))
      (pss_one (ps_ret (pv 3))))), ?_⟩
    refine ⟨_, rfl, _, rfl, P', W, rfl, rfl, P' + W, rfl, RgOk.of_le (by decide) (by omega) (by decide) (by omega), fun l0 n0 => ?_⟩
    have hlen : xs.length = ps.length := by
      rw [hD.len, List.length_map]
    refine ⟨_, rfl, l, rfl, ⟨_, (same_new n0).seq hS⟩, for_list (xs := xs) (fun i σ H' => ∃ (a : Addr) (y4 y5 y6 y7 : Option V), σ = [some (.int P'), some (.int W), some (.ref l), some (.ref a), y4, y5, y6, y7, none] ∧ Same H H' ∧ H' a = some (.lst (((ps.take i).foldl (stepM P') (row0 (P' + W).toNat)).map V.int)))
      ⟨l0, none, none, none, none, rfl, same_new n0, ?_⟩ (fun i σ H' _ hP => by obtain ⟨_, _, _, _, _, _, sm, _⟩ := hP; exact sm.seq hS) (fun i x σ H' hx hP => ?_) (fun σ H' hP => ?_)⟩
    · rw [upd_same, rg_row (a := 0) (by omega)]
      rfl
    · obtain ⟨a, y4, y5, y6, y7, rfl, sm, ha⟩ := hP
      obtain ⟨t, p, rfl, hp, ht⟩ := pr_items hD hx
      obtain ⟨b1, b2, b3, b4⟩ := hin p (List.mem_of_getElem? hp)
      generalize el : (ps.take i).foldl (stepM P') (row0 (P' + W).toNat) = ls at ha
      have ll : ls.length = (P' + W).toNat := by rw [← el, fold_len, row0_len]
      refine ⟨t, _, rfl, SqT.of (sm _ _ ht), rfl, _, _, rfl, _, _, rfl, rfl, ?_⟩
      refine ⟨_, rfl, _, rfl, a, _, p.1, _, rfl, rfl, SqL.of ha, ix_at b1 (by omega), ?_⟩
      refine ⟨_, rfl, _, rfl, _, rfl, P', p.2, rfl, rfl, a, _, P' + p.2, _, rfl, rfl, SqL.of ha, ix_at (by omega) (by omega), ?_⟩
      dsimp only
      refine asg_last ?_
      refine lc_seqD (a := a) (j := 8) (ds := ls.map PyData.int) (fun _ => true) (mrgD (ls.getD p.1.toNat 0) (ls.getD (P' + p.2).toNat 0)) (fun Q2 z => ⟨_, rfl, z⟩) (.inl (SqL.of ha)) (dq_intl ls) (by rw [List.length_map]; omega) (fun _ => rfl)
        (fun i x d H2 Q2 _ _ _ q2 => q2 _ (fun _ _ z => z)) (fun D i x d H2 Q2 nD hd _ s2 kd hDl q2 => ?_) (fun D H2 nD s2 kD => ?_)
      · rw [List.getElem?_map] at hd
        obtain ⟨n, _, rfl⟩ := Option.map_eq_some_iff.mp hd
        cases kd
        refine ⟨_, rfl, _, rfl, _, rfl, (by show 2 ≤ sizeLine; decide), fun u nu => ⟨u, _, rfl, .inr (SqT.of upd_same), rfl, rfl, _, rfl, ?_⟩⟩
        refine (show (if (if false = true then !inV (V.int n) [V.int (ls.getD p.1.toNat 0), V.int (ls.getD (P' + p.2).toNat 0)] else inV (V.int n) [V.int (ls.getD p.1.toNat 0), V.int (ls.getD (P' + p.2).toNat 0)]) = true then _ else _) from ?_)
        rw [if_neg Bool.false_ne_true, in2]
        by_cases c : n = ls.getD p.1.toNat 0 ∨ n = ls.getD (P' + p.2).toNat 0
        · rw [decide_eq_true c]
          refine iteT ⟨_, rfl, _, rfl, _, _, rfl, q2 _ _ (same_new nu) ?_⟩
          rw [mrgD_int, if_pos c]
          exact .int _
        · rw [decide_eq_false c]
          refine iteF ⟨_, rfl, q2 _ _ (same_new nu) ?_⟩
          rw [mrgD_int, if_neg c]
          exact .int _
      · rw [mrg_data] at kD
        cases kD with
        | lst e1 e2 =>
          rw [intl_dq e2] at e1
          refine ⟨D, _, _, _, _, rfl, sm.trans s2, ?_⟩
          rw [e1, List.take_add_one, hp, List.foldl_append, el]
          rfl
    · obtain ⟨a, y4, y5, y6, y7, rfl, sm, ha⟩ := hP
      refine ⟨_, rfl, q H' a sm ?_⟩
      rw [hlen, List.take_length] at ha
      exact ha
end
end K03
set_option Elab.async false
set_option linter.all false
set_option maxRecDepth 100000
set_option maxHeartbeats 4000000
set_option exponentiation.threshold 5000
namespace K03
open PySem PySem.Spec PyProof.Rows L2 TkS
/-! sums -/
def S {α : Type} (l : List α) (f : α → Int) : Int := l.foldr (fun x a => f x + a) 0
theorem S_nil {α : Type} (f : α → Int) : S [] f = 0 := rfl
theorem S_cons {α : Type} (x : α) (l : List α) (f : α → Int) : S (x :: l) f = f x + S l f := rfl
theorem S_append {α : Type} (f : α → Int) : ∀ l m : List α, S (l ++ m) f = S l f + S m f
  | [], m => by rw [List.nil_append, S_nil, Int.zero_add]
  | x :: l, m => by
    rw [List.cons_append, S_cons, S_cons, S_append f l m, Int.add_assoc]
theorem S_add {α : Type} (f g : α → Int) : ∀ l : List α, S l (fun x => f x + g x) = S l f + S l g
  | [] => rfl
  | x :: l => by
    rw [S_cons, S_cons, S_cons, S_add f g l]
    omega
theorem S_mul {α : Type} (c : Int) (f : α → Int) : ∀ l : List α, S l (fun x => c * f x) = c * S l f
  | [] => by rw [S_nil, S_nil, Int.mul_zero]
  | x :: l => by
    rw [S_cons, S_cons, S_mul c f l, Int.mul_add]
theorem S_congr {α : Type} {f g : α → Int} : ∀ {l : List α}, (∀ x ∈ l, f x = g x) → S l f = S l g
  | [], _ => rfl
  | x :: l, h => by
    rw [S_cons, S_cons, h x List.mem_cons_self, S_congr fun y hy => h y (List.mem_cons_of_mem _ hy)]
theorem S_zero {α : Type} {f : α → Int} : ∀ {l : List α}, (∀ x ∈ l, f x = 0) → S l f = 0
  | [], _ => rfl
  | x :: l, h => by
    rw [S_cons, h x List.mem_cons_self, S_zero fun y hy => h y (List.mem_cons_of_mem _ hy)]
    rfl
theorem S_comm {α β : Type} (f : α → β → Int) : ∀ (l : List α) (m : List β), S l (fun x => S m (fun y => f x y)) = S m (fun y => S l (fun x => f x y))
  | [], m => (S_zero fun _ _ => rfl).symm
  | x :: l, m => by
    rw [S_cons, S_comm f l m]
    exact (S_add (fun y => f x y) (fun y => S l fun x => f x y) m).symm
theorem S_map {α β : Type} (g : α → β) (f : β → Int) : ∀ l : List α, S (l.map g) f = S l fun x => f (g x)
  | [] => rfl
  | x :: l => by rw [List.map_cons, S_cons, S_cons, S_map g f l]
/-- all but one are 0 -/
theorem S_one {α : Type} {f : α → Int} {k : α} : ∀ {l : List α}, l.Nodup → k ∈ l → (∀ x ∈ l, x ≠ k → f x = 0) → S l f = f k
  | x :: l, n, h, z => by
    rw [S_cons]
    obtain ⟨n1, n2⟩ := List.nodup_cons.mp n
    by_cases e : x = k
    · subst e
      rw [S_zero fun y hy => z y (List.mem_cons_of_mem _ hy) fun e => n1 (e ▸ hy), Int.add_zero]
    · have h2 : k ∈ l := by
        rcases List.mem_cons.mp h with h | h
        · exact absurd h.symm e
        · exact h
      rw [z x List.mem_cons_self e, S_one n2 h2 fun y hy => z y (List.mem_cons_of_mem _ hy), Int.zero_add]
/-! labels -/
def eu (p : Int × Int) : Nat := p.1.toNat
def ev (P : Int) (p : Int × Int) : Nat := (P + p.2).toNat
theorem getD_map0 {α : Type} {f : α → Int} {l : List α} {i : Nat} {d : α} (h : i < l.length) : (l.map f).getD i 0 = f (l.getD i d) := by
  rw [List.getD_eq_getElem?_getD, List.getElem?_map, List.getD_eq_getElem?_getD, List.getElem?_eq_getElem h]
  rfl
theorem mrg_at {ls : List Int} {a b : Int} {k : Nat} (h : k < ls.length) : (mrg ls a b).getD k 0 = if ls.getD k 0 = a ∨ ls.getD k 0 = b then (if b < a then b else a) else ls.getD k 0 := by
  unfold mrg
  rw [getD_map0 (d := 0) h]
theorem min_or (a b : Int) : (if b < a then b else a) = a ∨ (if b < a then b else a) = b := by
  by_cases h : b < a
  · rw [if_pos h]
    exact .inr rfl
  · rw [if_neg h]
    exact .inl rfl
/-- two labels that a merging makes alike -/
theorem mrg_alike {ls : List Int} {a b : Int} {i j : Nat} (hi : i < ls.length) (hj : j < ls.length) (e : (mrg ls a b).getD i 0 = (mrg ls a b).getD j 0) :
    ls.getD i 0 = ls.getD j 0 ∨ ((ls.getD i 0 = a ∨ ls.getD i 0 = b) ∧ (ls.getD j 0 = a ∨ ls.getD j 0 = b)) := by
  rw [mrg_at hi, mrg_at hj] at e
  by_cases ci : ls.getD i 0 = a ∨ ls.getD i 0 = b
  · by_cases cj : ls.getD j 0 = a ∨ ls.getD j 0 = b
    · exact .inr ⟨ci, cj⟩
    · rw [if_pos ci, if_neg cj] at e
      rcases min_or a b with m | m
      · exact absurd (.inl (e.symm.trans m)) cj
      · exact absurd (.inr (e.symm.trans m)) cj
  · by_cases cj : ls.getD j 0 = a ∨ ls.getD j 0 = b
    · rw [if_neg ci, if_pos cj] at e
      rcases min_or a b with m | m
      · exact absurd (.inl (e.trans m)) ci
      · exact absurd (.inr (e.trans m)) ci
    · rw [if_neg ci, if_neg cj] at e
      exact .inl e
theorem step_len {P : Int} {ls : List Int} {p : Int × Int} : (stepM P ls p).length = ls.length := mrg_len _ _ _
theorem step_eq {P : Int} {ls : List Int} {p : Int × Int} {i j : Nat} (hi : i < ls.length) (hj : j < ls.length) (e : ls.getD i 0 = ls.getD j 0) : (stepM P ls p).getD i 0 = (stepM P ls p).getD j 0 := by
  unfold stepM
  rw [mrg_at hi, mrg_at hj, e]
theorem step_ends {P : Int} {ls : List Int} {p : Int × Int} (hi : eu p < ls.length) (hj : ev P p < ls.length) : (stepM P ls p).getD (eu p) 0 = (stepM P ls p).getD (ev P p) 0 := by
  show (mrg ls (ls.getD (eu p) 0) (ls.getD (ev P p) 0)).getD (eu p) 0 = (mrg ls (ls.getD (eu p) 0) (ls.getD (ev P p) 0)).getD (ev P p) 0
  rw [mrg_at hi, mrg_at hj]
  exact (if_pos (Or.inl rfl)).trans (if_pos (Or.inr rfl)).symm
theorem fold_eq {P : Int} : ∀ {ps : List (Int × Int)} {ls : List Int} {i j : Nat}, i < ls.length → j < ls.length → ls.getD i 0 = ls.getD j 0 → (ps.foldl (stepM P) ls).getD i 0 = (ps.foldl (stepM P) ls).getD j 0
  | [], _, _, _, _, _, e => e
  | p :: ps, ls, i, j, hi, hj, e => fold_eq (ps := ps) (ls := stepM P ls p) (by rw [step_len]; exact hi) (by rw [step_len]; exact hj) (step_eq hi hj e)
theorem fold_const {P : Int} : ∀ {ps : List (Int × Int)} {ls : List Int}, (∀ p ∈ ps, eu p < ls.length ∧ ev P p < ls.length) → ∀ p ∈ ps, (ps.foldl (stepM P) ls).getD (eu p) 0 = (ps.foldl (stepM P) ls).getD (ev P p) 0
  | q :: ps, ls, h, p, hp => by
    have hq := h q List.mem_cons_self
    rcases List.mem_cons.mp hp with e | e
    · subst e
      exact fold_eq (ls := stepM P ls p) (by rw [step_len]; exact hq.1) (by rw [step_len]; exact hq.2) (step_ends hq.1 hq.2)
    · exact fold_const (ls := stepM P ls q) (fun r hr => by rw [step_len]; exact h r (List.mem_cons_of_mem _ hr)) p e
theorem fold_conn {P : Int} {α : Type} {h : Nat → α} : ∀ {ps : List (Int × Int)} {ls : List Int}, (∀ p ∈ ps, eu p < ls.length ∧ ev P p < ls.length) → (∀ p ∈ ps, h (eu p) = h (ev P p)) →
    (∀ i j, i < ls.length → j < ls.length → ls.getD i 0 = ls.getD j 0 → h i = h j) → ∀ i j, i < ls.length → j < ls.length → (ps.foldl (stepM P) ls).getD i 0 = (ps.foldl (stepM P) ls).getD j 0 → h i = h j
  | [], _, _, _, k => k
  | p :: ps, ls, hl, hc, k => fun i j hi hj e => by
    have hp := hl p List.mem_cons_self
    have cp := hc p List.mem_cons_self
    refine fold_conn (ps := ps) (ls := stepM P ls p) (fun r hr => by rw [step_len]; exact hl r (List.mem_cons_of_mem _ hr)) (fun r hr => hc r (List.mem_cons_of_mem _ hr)) (fun a b ha hb e => ?_) i j (by rw [step_len]; exact hi) (by rw [step_len]; exact hj) e
    rw [step_len] at ha hb
    have to : ∀ c, c < ls.length → (ls.getD c 0 = ls.getD (eu p) 0 ∨ ls.getD c 0 = ls.getD (ev P p) 0) → h c = h (eu p) := fun c hc' z => by
      rcases z with z | z
      · exact k _ _ hc' hp.1 z
      · exact (k _ _ hc' hp.2 z).trans cp.symm
    rcases mrg_alike ha hb e with e | ⟨ea, eb⟩
    · exact k _ _ ha hb e
    · exact (to _ ha ea).trans (to _ hb eb).symm
theorem row0_at {n i : Nat} (h : i < n) : (row0 n).getD i 0 = (i : Int) := by
  unfold row0
  rw [getD_map0 (d := 0) (by rw [List.length_range]; exact h)]
  rw [List.getD_eq_getElem?_getD, List.getElem?_range h]
  rfl
theorem ins_ends {P W : Int} {ps : List (Int × Int)} (h : Ins P W ps) : ∀ p ∈ ps, eu p < (P + W).toNat ∧ ev P p < (P + W).toNat := fun p hp => by
  obtain ⟨a, b, c, d⟩ := h p hp
  unfold eu ev
  omega
theorem marks_const {P W : Int} {ps : List (Int × Int)} (h : Ins P W ps) : ∀ p ∈ ps, (marks P W ps).getD (eu p) 0 = (marks P W ps).getD (ev P p) 0 :=
  fold_const fun p hp => by rw [row0_len]; exact ins_ends h p hp
theorem marks_conn {P W : Int} {ps : List (Int × Int)} {α : Type} {f : Nat → α} (h : Ins P W ps) (hc : ∀ p ∈ ps, f (eu p) = f (ev P p)) {i j : Nat} (hi : i < (P + W).toNat) (hj : j < (P + W).toNat) (e : (marks P W ps).getD i 0 = (marks P W ps).getD j 0) : f i = f j := by
  refine fold_conn (h := f) (ls := row0 (P + W).toNat) (fun p hp => by rw [row0_len]; exact ins_ends h p hp) hc (fun a b ha hb e => ?_) i j (by rw [row0_len]; exact hi) (by rw [row0_len]; exact hj) e
  rw [row0_len] at ha hb
  rw [row0_at ha, row0_at hb] at e
  have : a = b := by omega
  rw [this]
theorem marks_snoc (P W : Int) (ps : List (Int × Int)) (p : Int × Int) : marks P W (ps ++ [p]) = stepM P (marks P W ps) p := by
  unfold marks
  rw [List.foldl_append]
  rfl
/-! trees -/
def Diff (P W : Int) (ps : List (Int × Int)) (p : Int × Int) : Prop := (marks P W ps).getD (eu p) 0 ≠ (marks P W ps).getD (ev P p) 0
theorem bridge {P W : Int} {T : List (Int × Int)} (ins : Ins P W T) (h : ∀ (i : Nat) (e : Int × Int), T[i]? = some e → Diff P W (T.take i) e) :
    ∀ m, m ≤ T.length → ∀ (i : Nat) (e : Int × Int), i < m → T[i]? = some e → Diff P W ((T.take m).eraseIdx i) e
  | 0, _, i, _, hi, _ => absurd hi (Nat.not_lt_zero _)
  | m + 1, hm, i, e, hi, he => by
    have hm' : m < T.length := by omega
    have tk : T.take (m + 1) = T.take m ++ [T[m]] := by
      rw [List.take_add_one, List.getElem?_eq_getElem hm']
      rfl
    have lm : (T.take m).length = m := by rw [List.length_take]; omega
    rw [tk]
    rcases Nat.lt_or_ge i m with c | c
    · have ih := bridge ins h m (by omega) i e c he
      rw [List.eraseIdx_append_of_lt_length (by rw [lm]; exact c)]
      have hx := h m T[m] (List.getElem?_eq_getElem hm')
      generalize hL : (T.take m).eraseIdx i = L at ih
      have insM : Ins P W (T.take m) := fun p hp => ins p (List.mem_of_mem_take hp)
      have subL : ∀ p ∈ L, p ∈ T.take m := fun p hp => by
        rw [← hL] at hp
        exact List.mem_of_mem_eraseIdx hp
      have insL : Ins P W L := fun p hp => insM p (subL p hp)
      have eM : e ∈ T.take m := by
        refine List.mem_of_getElem? (i := i) ?_
        rw [List.getElem?_take, if_pos c]
        exact he
      have bx := ins_ends ins T[m] (List.getElem_mem hm')
      have be := ins_ends insM e eM
      intro z
      rw [marks_snoc] at z
      have ll : (marks P W L).length = (P + W).toNat := marks_len _ _ _
      have cn : ∀ {a b : Nat}, a < (P + W).toNat → b < (P + W).toNat → (marks P W L).getD a 0 = (marks P W L).getD b 0 → (marks P W (T.take m)).getD a 0 = (marks P W (T.take m)).getD b 0 := fun {a b} ha hb q =>
        marks_conn (f := fun k => (marks P W (T.take m)).getD k 0) insL (fun p hp => marks_const insM p (subL p hp)) ha hb q
      have ee := marks_const insM e eM
      rcases mrg_alike (by rw [ll]; exact be.1) (by rw [ll]; exact be.2) z with z | ⟨z1, z2⟩
      · exact ih z
      · refine hx ?_
        rcases z1 with z1 | z1
        · rcases z2 with z2 | z2
          · exact absurd (z1.trans z2.symm) ih
          · exact (cn be.1 bx.1 z1).symm.trans (ee.trans (cn be.2 bx.2 z2))
        · rcases z2 with z2 | z2
          · exact (cn be.2 bx.1 z2).symm.trans (ee.symm.trans (cn be.1 bx.2 z1))
          · exact absurd (z1.trans z2.symm) ih
    · have : i = m := by omega
      subst this
      rw [List.eraseIdx_append_of_length_le (by rw [lm]; omega), lm, Nat.sub_self]
      show Diff P W (T.take i ++ []) e
      rw [List.append_nil]
      exact h i e he
/-- tree places and other places among the first -/
def trees (P W : Int) (ps : List (Int × Int)) : Nat → List Nat × List Nat
  | 0 => ([], [])
  | i + 1 => if (marks P W ((trees P W ps i).1.map fun k => ps.getD k (0, 0))).getD (eu (ps.getD i (0, 0))) 0 = (marks P W ((trees P W ps i).1.map fun k => ps.getD k (0, 0))).getD (ev P (ps.getD i (0, 0))) 0
      then ((trees P W ps i).1, (trees P W ps i).2 ++ [i]) else ((trees P W ps i).1 ++ [i], (trees P W ps i).2)
def pe (ps : List (Int × Int)) (k : Nat) : Int × Int := ps.getD k (0, 0)
theorem pe_mem {ps : List (Int × Int)} {k : Nat} (h : k < ps.length) : pe ps k ∈ ps := by
  unfold pe
  rw [List.getD_eq_getElem?_getD, List.getElem?_eq_getElem h]
  exact List.getElem_mem h
structure TreeInv (P W : Int) (ps : List (Int × Int)) (n : Nat) (T R : List Nat) : Prop where
  lt : ∀ k ∈ T, k < n
  ltR : ∀ k ∈ R, k < n
  nd : T.Nodup
  ndR : R.Nodup
  dj : ∀ k ∈ T, k ∉ R
  sum : ∀ f : Nat → Int, S T f + S R f = S (List.range n) f
  df : ∀ (a k : Nat), T[a]? = some k → Diff P W ((T.map (pe ps)).take a) (pe ps k)
  al : ∀ r ∈ R, ∃ a, ¬ Diff P W ((T.map (pe ps)).take a) (pe ps r)
theorem nodup_snoc {l : List Nat} {n : Nat} (h : l.Nodup) (hl : ∀ k ∈ l, k < n) : (l ++ [n]).Nodup := by
  rw [List.nodup_append]
  refine ⟨h, List.nodup_cons.mpr ⟨by simp, List.nodup_nil⟩, fun a ha b hb e => ?_⟩
  rw [List.mem_singleton] at hb
  subst hb
  have := hl a ha
  omega
theorem mem_snoc {l : List Nat} {n k : Nat} (h : k ∈ l ++ [n]) : k ∈ l ∨ k = n := by
  rcases List.mem_append.mp h with h | h
  · exact .inl h
  · exact .inr (List.mem_singleton.mp h)
theorem trees_inv (P W : Int) (ps : List (Int × Int)) : ∀ n, TreeInv P W ps n (trees P W ps n).1 (trees P W ps n).2
  | 0 => ⟨(fun _ h => nomatch h), (fun _ h => nomatch h), List.nodup_nil, List.nodup_nil, (fun _ h => nomatch h), (fun f => rfl), (fun a k h => nomatch h), (fun r h => nomatch h)⟩
  | n + 1 => by
    have I := trees_inv P W ps n
    unfold trees
    generalize (trees P W ps n).1 = T at I
    generalize (trees P W ps n).2 = R at I
    have rs : ∀ f : Nat → Int, S (List.range (n + 1)) f = S (List.range n) f + f n := fun f => by
      rw [List.range_succ, S_append, S_cons, S_nil, Int.add_zero]
    by_cases c : (marks P W (T.map fun k => ps.getD k (0, 0))).getD (eu (ps.getD n (0, 0))) 0 = (marks P W (T.map fun k => ps.getD k (0, 0))).getD (ev P (ps.getD n (0, 0))) 0
    · rw [if_pos c]
      refine ⟨fun k h => Nat.lt_succ_of_lt (I.lt k h), fun k h => ?_, I.nd, nodup_snoc I.ndR I.ltR, fun k h h2 => ?_, fun f => ?_, I.df, fun r hr => ?_⟩
      · rcases mem_snoc h with h | h
        · exact Nat.lt_succ_of_lt (I.ltR k h)
        · omega
      · rcases mem_snoc h2 with h2 | h2
        · exact I.dj k h h2
        · have := I.lt k h
          omega
      · show S T f + S (R ++ [n]) f = _
        rw [S_append, S_cons, S_nil, Int.add_zero, rs, ← I.sum f]
        omega
      · rcases mem_snoc hr with hr | hr
        · exact I.al r hr
        · subst hr
          refine ⟨T.length, fun z => z ?_⟩
          rw [List.take_of_length_le (by rw [List.length_map]; exact Nat.le_refl _)]
          exact c
    · rw [if_neg c]
      have len : (T.map (pe ps)).length = T.length := List.length_map _
      have take_le : ∀ a, a ≤ T.length → ((T ++ [n]).map (pe ps)).take a = (T.map (pe ps)).take a := fun a ha => by
        rw [List.map_append, List.take_append_of_le_length (by rw [len]; exact ha)]
      refine ⟨fun k h => ?_, fun k h => Nat.lt_succ_of_lt (I.ltR k h), nodup_snoc I.nd I.lt, I.ndR, fun k h h2 => ?_, fun f => ?_, fun a k hk => ?_, fun r hr => ?_⟩
      · rcases mem_snoc h with h | h
        · exact Nat.lt_succ_of_lt (I.lt k h)
        · omega
      · rcases mem_snoc h with h | h
        · exact I.dj k h h2
        · have := I.ltR k h2
          omega
      · show S (T ++ [n]) f + S R f = _
        rw [S_append, S_cons, S_nil, Int.add_zero, rs, ← I.sum f]
        omega
      · have ha : a < (T ++ [n]).length := (List.getElem?_eq_some_iff.mp hk).1
        rw [List.length_append, List.length_singleton] at ha
        show Diff P W (((T ++ [n]).map (pe ps)).take a) (pe ps k)
        rw [take_le a (by omega)]
        rcases Nat.lt_or_ge a T.length with l | l
        · rw [List.getElem?_append_left l] at hk
          exact I.df a k hk
        · have : a = T.length := by omega
          subst this
          rw [List.getElem?_append_right (Nat.le_refl _), Nat.sub_self] at hk
          cases hk
          rw [List.take_of_length_le (by rw [len]; exact Nat.le_refl _)]
          exact c
      · obtain ⟨a, ha⟩ := I.al r hr
        refine ⟨min a T.length, ?_⟩
        show ¬ Diff P W (((T ++ [n]).map (pe ps)).take (min a T.length)) (pe ps r)
        rw [take_le _ (Nat.min_le_right _ _)]
        rcases Nat.le_total a T.length with l | l
        · rw [Nat.min_eq_left l]
          exact ha
        · rw [Nat.min_eq_right l]
          rw [List.take_of_length_le (by rw [len]; exact l)] at ha
          rw [List.take_of_length_le (by rw [len]; exact Nat.le_refl _)]
          exact ha
theorem erase_filter : ∀ {l : List Nat} {a k : Nat}, l.Nodup → l[a]? = some k → l.eraseIdx a = l.filter fun j => decide (j ≠ k)
  | x :: l, 0, k, n, h => by
    cases h
    obtain ⟨n1, _⟩ := List.nodup_cons.mp n
    have e1 : l.filter (fun j => decide (j ≠ x)) = l := List.filter_eq_self.mpr fun y hy => decide_eq_true (p := y ≠ x) fun e => n1 (e ▸ hy)
    show l = _
    rw [List.filter_cons, if_neg (by simp), e1]
  | x :: l, a + 1, k, n, h => by
    obtain ⟨n1, n2⟩ := List.nodup_cons.mp n
    have h' : l[a]? = some k := h
    have hx : x ≠ k := fun e => n1 (e ▸ List.mem_of_getElem? h')
    show x :: l.eraseIdx a = _
    rw [List.filter_cons, if_pos (decide_eq_true hx), erase_filter n2 h']
theorem map_erase {α β : Type} (f : α → β) : ∀ (l : List α) (a : Nat), (l.map f).eraseIdx a = (l.eraseIdx a).map f
  | [], _ => rfl
  | _ :: _, 0 => rfl
  | x :: l, a + 1 => congrArg (f x :: ·) (map_erase f l a)
/-- the side of a tree place's point when it is taken away -/
def sideM (P W : Int) (ps : List (Int × Int)) (T : List Nat) (k : Nat) : List Int := marks P W ((T.filter fun j => decide (j ≠ k)).map (pe ps))
def inSide (P W : Int) (ps : List (Int × Int)) (T : List Nat) (k v : Nat) : Bool := decide ((sideM P W ps T k).getD v 0 = (sideM P W ps T k).getD (eu (pe ps k)) 0)
def cut (P W : Int) (ps : List (Int × Int)) (T : List Nat) (k j : Nat) : Int :=
  (if inSide P W ps T k (eu (pe ps j)) = true then 1 else 0) - (if inSide P W ps T k (ev P (pe ps j)) = true then 1 else 0)
theorem closed {P W : Int} {ps : List (Int × Int)} {n : Nat} {T R : List Nat} (I : TreeInv P W ps n T R) (ins : Ins P W ps) (hn : n ≤ ps.length) {due : Nat → Int} (hT : ∀ k ∈ T, due k = - S R fun j => due j * cut P W ps T k j) (f : Nat → Int) :
    S (List.range n) (fun i => due i * (f (eu (pe ps i)) - f (ev P (pe ps i)))) = 0 := by
  have mT : ∀ k ∈ T, pe ps k ∈ ps := fun k h => pe_mem (Nat.lt_of_lt_of_le (I.lt k h) hn)
  have mR : ∀ k ∈ R, pe ps k ∈ ps := fun k h => pe_mem (Nat.lt_of_lt_of_le (I.ltR k h) hn)
  have insT : Ins P W (T.map (pe ps)) := fun p hp => by
    obtain ⟨k, hk, rfl⟩ := List.mem_map.mp hp
    exact ins _ (mT k hk)
  -- the cut of one tree place at another
  have ct : ∀ k ∈ T, ∀ e ∈ T, cut P W ps T k e = if e = k then 1 else 0 := fun k hk e he => by
    have insK : Ins P W ((T.filter fun j => decide (j ≠ k)).map (pe ps)) := fun p hp => by
      obtain ⟨j, hj, rfl⟩ := List.mem_map.mp hp
      exact ins _ (mT j (List.mem_filter.mp hj).1)
    by_cases c : e = k
    · subst e
      rw [if_pos rfl]
      unfold cut
      have d : Diff P W ((T.filter fun j => decide (j ≠ k)).map (pe ps)) (pe ps k) := by
        obtain ⟨a, ha⟩ := List.getElem?_of_mem hk
        have al : a < T.length := (List.getElem?_eq_some_iff.mp ha).1
        have b := bridge insT (fun i e he => by
          rw [List.getElem?_map] at he
          obtain ⟨k', hk', rfl⟩ := Option.map_eq_some_iff.mp he
          exact I.df i k' hk') T.length (by rw [List.length_map]; exact Nat.le_refl _) a (pe ps k) al (by rw [List.getElem?_map, ha]; rfl)
        rw [List.take_of_length_le (by rw [List.length_map]; exact Nat.le_refl _), map_erase, erase_filter I.nd ha] at b
        exact b
      have e1 : inSide P W ps T k (eu (pe ps k)) = true := decide_eq_true rfl
      have e2 : inSide P W ps T k (ev P (pe ps k)) = false := decide_eq_false fun z => d z.symm
      rw [e1, e2, if_pos rfl, if_neg Bool.false_ne_true]
      rfl
    · rw [if_neg c]
      have z := marks_const insK (pe ps e) (List.mem_map.mpr ⟨e, List.mem_filter.mpr ⟨he, decide_eq_true c⟩, rfl⟩)
      unfold cut inSide sideM
      rw [z]
      omega
  -- g of every place by g of the tree places
  have gR : ∀ j ∈ R, f (eu (pe ps j)) - f (ev P (pe ps j)) = S T fun k => (f (eu (pe ps k)) - f (ev P (pe ps k))) * cut P W ps T k j := fun j hj => by
    obtain ⟨a, ha⟩ := I.al j hj
    have ha : (marks P W ((T.map (pe ps)).take a)).getD (eu (pe ps j)) 0 = (marks P W ((T.map (pe ps)).take a)).getD (ev P (pe ps j)) 0 := Decidable.not_not.mp ha
    have bj := ins_ends ins _ (mR j hj)
    have q := marks_conn (f := fun v => f v - S T fun k => (f (eu (pe ps k)) - f (ev P (pe ps k))) * (if inSide P W ps T k v = true then 1 else 0)) (fun p hp => insT p (List.mem_of_mem_take hp)) (fun p hp => ?_) bj.1 bj.2 ha
    · have q' : f (eu (pe ps j)) - f (ev P (pe ps j)) = (S T fun k => (f (eu (pe ps k)) - f (ev P (pe ps k))) * (if inSide P W ps T k (eu (pe ps j)) = true then 1 else 0)) - (S T fun k => (f (eu (pe ps k)) - f (ev P (pe ps k))) * (if inSide P W ps T k (ev P (pe ps j)) = true then 1 else 0)) := by
        have q2 : f (eu (pe ps j)) - (S T fun k => (f (eu (pe ps k)) - f (ev P (pe ps k))) * (if inSide P W ps T k (eu (pe ps j)) = true then 1 else 0)) = f (ev P (pe ps j)) - (S T fun k => (f (eu (pe ps k)) - f (ev P (pe ps k))) * (if inSide P W ps T k (ev P (pe ps j)) = true then 1 else 0)) := q
        omega
      rw [q']
      have ad := S_add (fun k => (f (eu (pe ps k)) - f (ev P (pe ps k))) * cut P W ps T k j) (fun k => (f (eu (pe ps k)) - f (ev P (pe ps k))) * (if inSide P W ps T k (ev P (pe ps j)) = true then 1 else 0)) T
      have eq : (S T fun k => (f (eu (pe ps k)) - f (ev P (pe ps k))) * cut P W ps T k j + (f (eu (pe ps k)) - f (ev P (pe ps k))) * (if inSide P W ps T k (ev P (pe ps j)) = true then 1 else 0)) = S T fun k => (f (eu (pe ps k)) - f (ev P (pe ps k))) * (if inSide P W ps T k (eu (pe ps j)) = true then 1 else 0) := S_congr fun k _ => by
        rw [← Int.mul_add]
        unfold cut
        rw [Int.sub_add_cancel]
      rw [eq] at ad
      omega
    · have hp2 := List.mem_of_mem_take hp
      obtain ⟨e, he, rfl⟩ := List.mem_map.mp hp2
      show f (eu (pe ps e)) - _ = f (ev P (pe ps e)) - _
      have ad := S_add (fun k => (f (eu (pe ps k)) - f (ev P (pe ps k))) * cut P W ps T k e) (fun k => (f (eu (pe ps k)) - f (ev P (pe ps k))) * (if inSide P W ps T k (ev P (pe ps e)) = true then 1 else 0)) T
      have eq : (S T fun k => (f (eu (pe ps k)) - f (ev P (pe ps k))) * cut P W ps T k e + (f (eu (pe ps k)) - f (ev P (pe ps k))) * (if inSide P W ps T k (ev P (pe ps e)) = true then 1 else 0)) = S T fun k => (f (eu (pe ps k)) - f (ev P (pe ps k))) * (if inSide P W ps T k (eu (pe ps e)) = true then 1 else 0) := S_congr fun k _ => by
        rw [← Int.mul_add]
        unfold cut
        rw [Int.sub_add_cancel]
      have on : (S T fun k => (f (eu (pe ps k)) - f (ev P (pe ps k))) * cut P W ps T k e) = f (eu (pe ps e)) - f (ev P (pe ps e)) := by
        rw [S_one (k := e) I.nd he fun k hk ne => by
          rw [ct k hk e he, if_neg fun z => ne z.symm, Int.mul_zero]]
        rw [ct e he e he, if_pos rfl, Int.mul_one]
      rw [eq, on] at ad
      omega
  rw [← I.sum]
  have sR : (S R fun i => due i * (f (eu (pe ps i)) - f (ev P (pe ps i)))) = S T fun k => S R fun j => due j * ((f (eu (pe ps k)) - f (ev P (pe ps k))) * cut P W ps T k j) := by
    rw [← S_comm]
    refine S_congr fun j hj => ?_
    rw [gR j hj]
    exact (S_mul _ _ _).symm
  have sT : (S T fun i => due i * (f (eu (pe ps i)) - f (ev P (pe ps i)))) = S T fun k => - (S R fun j => due j * ((f (eu (pe ps k)) - f (ev P (pe ps k))) * cut P W ps T k j)) := S_congr fun k hk => by
    rw [hT k hk]
    have : (S R fun j => due j * ((f (eu (pe ps k)) - f (ev P (pe ps k))) * cut P W ps T k j)) = (f (eu (pe ps k)) - f (ev P (pe ps k))) * S R fun j => due j * cut P W ps T k j := by
      rw [← S_mul]
      exact S_congr fun j _ => by rw [Int.mul_left_comm]
    rw [this, Int.neg_mul, Int.mul_comm]
  rw [sR, sT, ← S_add]
  exact S_zero fun k _ => Int.add_left_neg _
/-! the tour by its numbers at the other places -/
def puts (l : List Int) : List (Nat × Int) → List Int := fun q => q.foldl (fun l p => l.set p.1 p.2) l
theorem puts_len : ∀ (q : List (Nat × Int)) (l : List Int), (puts l q).length = l.length
  | [], _ => rfl
  | p :: q, l => by
    show (puts (l.set p.1 p.2) q).length = _
    rw [puts_len q, List.length_set]
theorem puts_off : ∀ {q : List (Nat × Int)} {l : List Int} {j : Nat}, (∀ p ∈ q, p.1 ≠ j) → (puts l q).getD j 0 = l.getD j 0
  | [], _, _, _ => rfl
  | p :: q, l, j, h => by
    show (puts (l.set p.1 p.2) q).getD j 0 = _
    rw [puts_off fun r hr => h r (List.mem_cons_of_mem _ hr), List.getD_eq_getElem?_getD, List.getElem?_set_ne (h p List.mem_cons_self), ← List.getD_eq_getElem?_getD]
theorem puts_at {v : Nat → Int} : ∀ {T : List Nat} {l : List Int} {k : Nat}, T.Nodup → k ∈ T → (∀ j ∈ T, j < l.length) → (puts l (T.map fun k => (k, v k))).getD k 0 = v k
  | x :: T, l, k, n, h, hl => by
    obtain ⟨n1, n2⟩ := List.nodup_cons.mp n
    show (puts (l.set x (v x)) (T.map fun k => (k, v k))).getD k 0 = _
    by_cases e : k = x
    · subst e
      rw [puts_off fun p hp => by
        obtain ⟨j, hj, rfl⟩ := List.mem_map.mp hp
        exact fun (e : j = k) => n1 (e ▸ hj)]
      rw [List.getD_eq_getElem?_getD, List.getElem?_set_self (hl k List.mem_cons_self)]
      rfl
    · have h2 : k ∈ T := by
        rcases List.mem_cons.mp h with h | h
        · exact absurd h e
        · exact h
      exact puts_at n2 h2 fun j hj => by
        rw [List.length_set]
        exact hl j (List.mem_cons_of_mem _ hj)
def toldL (n : Nat) (R : List Nat) (row : List Int) : List Int := puts (List.replicate n 0) (R.zip row)
def totalI (P W : Int) (ps : List (Int × Int)) (T R : List Nat) (told : List Int) (k : Nat) : Int := S R fun j => told.getD j 0 * cut P W ps T k j
def dueL (P W : Int) (ps : List (Int × Int)) (T R : List Nat) (told : List Int) : List Int := puts told (T.map fun k => (k, 0 - totalI P W ps T R told k))
def tourOf (P W : Int) (ps : List (Int × Int)) (row : List Int) : List Int :=
  dueL P W ps (trees P W ps ps.length).1 (trees P W ps ps.length).2 (toldL ps.length (trees P W ps ps.length).2 row)
theorem told_len {n : Nat} {R : List Nat} {row : List Int} : (toldL n R row).length = n := by
  unfold toldL
  rw [puts_len, List.length_replicate]
theorem tourOf_len {P W : Int} {ps : List (Int × Int)} {row : List Int} : (tourOf P W ps row).length = ps.length := by
  unfold tourOf dueL
  rw [puts_len, told_len]
/-- S over the places -/
theorem S_range_succ (n : Nat) (f : Nat → Int) : S (List.range (n + 1)) f = f 0 + S (List.range n) fun i => f (i + 1) := by
  rw [List.range_succ_eq_map, S_cons, S_map]
theorem S_zip {F : Int × Int → Int → Int} : ∀ {ps : List (Int × Int)} {ns : List Int}, ns.length = ps.length → S (ps.zip ns) (fun q => F q.1 q.2) = S (List.range ps.length) fun i => F (pe ps i) (ns.getD i 0)
  | [], [], _ => rfl
  | p :: ps, x :: ns, h => by
    rw [List.zip_cons_cons, S_cons, S_zip (ps := ps) (ns := ns) (Nat.succ.inj h), List.length_cons, S_range_succ]
    rfl
def ptSum (ps : List (Int × Int)) (ns : List Int) (x : Int) : Int := S (ps.zip ns) fun q => if q.1.1 = x then q.2 else 0
def wlSum (ps : List (Int × Int)) (ns : List Int) (y : Int) : Int := S (ps.zip ns) fun q => if q.1.2 = y then q.2 else 0
structure Tour (P W : Int) (ps : List (Int × Int)) (ns : List Int) : Prop where
  len : ns.length = ps.length
  pt : ∀ x : Int, 0 ≤ x → x < P → ptSum ps ns x = 0
  wl : ∀ y : Int, 0 ≤ y → y < W → wlSum ps ns y = 0
theorem pe_at {ps : List (Int × Int)} {i : Nat} (h : i < ps.length) : ps[i]? = some (pe ps i) := by
  unfold pe
  rw [List.getD_eq_getElem?_getD, List.getElem?_eq_getElem h]
  rfl
theorem tour_by {P W : Int} {ps : List (Int × Int)} {ns : List Int} (ins : Ins P W ps) (hl : ns.length = ps.length)
    (h : ∀ f : Nat → Int, S (List.range ps.length) (fun i => ns.getD i 0 * (f (eu (pe ps i)) - f (ev P (pe ps i)))) = 0) : Tour P W ps ns := by
  refine ⟨hl, fun x x0 x1 => ?_, fun y y0 y1 => ?_⟩
  · refine (S_zip (F := fun p n => if p.1 = x then n else 0) hl).trans ?_
    refine Eq.trans ?_ (h fun v => if v = x.toNat then 1 else 0)
    refine S_congr fun i hi => ?_
    obtain ⟨a, b, c, d⟩ := ins _ (pe_mem (List.mem_range.mp hi))
    rw [if_neg (show ¬ ev P (pe ps i) = x.toNat from by unfold ev; omega)]
    by_cases e : (pe ps i).1 = x
    · rw [if_pos e, if_pos (show eu (pe ps i) = x.toNat from by unfold eu; rw [e])]
      omega
    · rw [if_neg e, if_neg (show ¬ eu (pe ps i) = x.toNat from by unfold eu; omega)]
      omega
  · refine (S_zip (F := fun p n => if p.2 = y then n else 0) hl).trans ?_
    refine Eq.trans ?_ (h fun v => if v = (P + y).toNat then -1 else 0)
    refine S_congr fun i hi => ?_
    obtain ⟨a, b, c, d⟩ := ins _ (pe_mem (List.mem_range.mp hi))
    rw [if_neg (show ¬ eu (pe ps i) = (P + y).toNat from by unfold eu; omega)]
    by_cases e : (pe ps i).2 = y
    · rw [if_pos e, if_pos (show ev P (pe ps i) = (P + y).toNat from by unfold ev; rw [e])]
      omega
    · rw [if_neg e, if_neg (show ¬ ev P (pe ps i) = (P + y).toNat from by unfold ev; omega)]
      omega
theorem tourOf_tour {P W : Int} {ps : List (Int × Int)} {row : List Int} (ins : Ins P W ps) : Tour P W ps (tourOf P W ps row) := by
  refine tour_by ins tourOf_len fun f => ?_
  have I := trees_inv P W ps ps.length
  unfold tourOf
  generalize (trees P W ps ps.length).1 = T at I
  generalize (trees P W ps ps.length).2 = R at I
  have lt : (toldL ps.length R row).length = ps.length := told_len
  generalize toldL ps.length R row = told at lt
  have onR : ∀ j ∈ R, (dueL P W ps T R told).getD j 0 = told.getD j 0 := fun j hj => puts_off fun p hp => by
    obtain ⟨k, hk, rfl⟩ := List.mem_map.mp hp
    exact fun (e : k = j) => I.dj k hk (e ▸ hj)
  have onT : ∀ k ∈ T, (dueL P W ps T R told).getD k 0 = 0 - totalI P W ps T R told k := fun k hk => puts_at I.nd hk fun j hj => by
    rw [lt]
    exact I.lt j hj
  refine closed (due := fun i => (dueL P W ps T R told).getD i 0) I ins (Nat.le_refl _) (fun k hk => ?_) f
  rw [onT k hk, Int.zero_sub]
  refine congrArg _ (S_congr fun j hj => ?_)
  rw [onR j hj]
/-! sizes -/
def Bnd (B : Int) (l : List Int) : Prop := ∀ x ∈ l, -B ≤ x ∧ x ≤ B
theorem bnd_at {B : Int} (hB : 0 ≤ B) {l : List Int} (h : Bnd B l) (i : Nat) : -B ≤ l.getD i 0 ∧ l.getD i 0 ≤ B := by
  rw [List.getD_eq_getElem?_getD]
  cases e : l[i]? with
  | none => exact ⟨by show -B ≤ 0; omega, by show (0 : Int) ≤ B; omega⟩
  | some x => exact h x (List.mem_of_getElem? e)
theorem puts_bnd {B : Int} : ∀ {q : List (Nat × Int)} {l : List Int}, Bnd B l → (∀ p ∈ q, -B ≤ p.2 ∧ p.2 ≤ B) → Bnd B (puts l q)
  | [], _, h, _ => h
  | p :: q, l, h, hq => puts_bnd (q := q) (l := l.set p.1 p.2) (fun x hx => by
      rcases List.mem_or_eq_of_mem_set hx with e | e
      · exact h x e
      · rw [e]
        exact hq p List.mem_cons_self) fun r hr => hq r (List.mem_cons_of_mem _ hr)
theorem S_bnd {α : Type} {f : α → Int} {B : Int} : ∀ {l : List α}, (∀ x ∈ l, -B ≤ f x ∧ f x ≤ B) → -(l.length * B) ≤ S l f ∧ S l f ≤ l.length * B
  | [], _ => by
    rw [S_nil, List.length_nil]
    simp
  | x :: l, h => by
    obtain ⟨a, b⟩ := h x List.mem_cons_self
    obtain ⟨c, d⟩ := S_bnd (l := l) fun y hy => h y (List.mem_cons_of_mem _ hy)
    rw [S_cons, List.length_cons]
    have e : ((l.length + 1 : Nat) : Int) * B = l.length * B + B := by
      rw [Int.natCast_add, Int.add_mul]
      show _ + 1 * B = _
      rw [Int.one_mul]
    rw [e]
    omega
theorem cut_range {P W : Int} {ps : List (Int × Int)} {T : List Nat} {k j : Nat} : cut P W ps T k j = 0 ∨ cut P W ps T k j = 1 ∨ cut P W ps T k j = -1 := by
  unfold cut
  cases inSide P W ps T k (eu (pe ps j)) <;> cases inSide P W ps T k (ev P (pe ps j)) <;> simp
theorem tourOf_bnd {P W : Int} {ps : List (Int × Int)} {row : List Int} {B : Int} (hB : 0 ≤ B) (h : Bnd B row) (hn : ps.length ≤ 25) : Bnd (25 * B) (tourOf P W ps row) := by
  have I := trees_inv P W ps ps.length
  unfold tourOf
  generalize (trees P W ps ps.length).1 = T at I
  generalize (trees P W ps ps.length).2 = R at I
  have z : Bnd B (toldL ps.length R row) := puts_bnd (fun x hx => by
    rw [List.eq_of_mem_replicate hx]
    omega) fun p hp => h _ (List.of_mem_zip hp).2
  have lR : R.length ≤ 25 := by
    have hs := I.sum fun _ => 1
    have cnt : ∀ l : List Nat, S l (fun _ => 1) = (l.length : Int) := fun l => by
      induction l with
      | nil => rfl
      | cons x l ih =>
        rw [S_cons, ih, List.length_cons]
        omega
    rw [cnt, cnt, cnt, List.length_range] at hs
    omega
  generalize toldL ps.length R row = told at z
  refine puts_bnd (fun x hx => ?_) fun p hp => ?_
  · have := z x hx
    omega
  · obtain ⟨k, _, rfl⟩ := List.mem_map.mp hp
    have b := S_bnd (l := R) (f := fun j => told.getD j 0 * cut P W ps T k j) (B := B) fun j _ => by
      obtain ⟨a, b⟩ := bnd_at hB z j
      rcases cut_range (P := P) (W := W) (ps := ps) (T := T) (k := k) (j := j) with e | e | e
      · rw [e, Int.mul_zero]; omega
      · rw [e, Int.mul_one]; omega
      · rw [e, Int.mul_neg, Int.mul_one]; omega
    have m : (R.length : Int) * B ≤ 25 * B := Int.mul_le_mul_of_nonneg_right (by omega) hB
    dsimp only [totalI]
    omega
/-! spoiled tours -/
theorem tour_set {P W : Int} {ps : List (Int × Int)} {ns ms : List Int} {i : Nat} (ins : Ins P W ps) (t : Tour P W ps ns) (hi : i < ps.length) (off : ∀ j, j ≠ i → ms.getD j 0 = ns.getD j 0) (at_ : ms.getD i 0 ≠ ns.getD i 0) : ¬ Tour P W ps ms := fun z => by
  obtain ⟨a, b, c, d⟩ := ins _ (pe_mem hi)
  have h1 := t.pt _ a b
  have h2 := z.pt _ a b
  have e1 := (S_zip (F := fun p n => if p.1 = (pe ps i).1 then n else 0) t.len).symm.trans h1
  have e2 := (S_zip (F := fun p n => if p.1 = (pe ps i).1 then n else 0) z.len).symm.trans h2
  have e3 := S_add (fun j => if (pe ps j).1 = (pe ps i).1 then ns.getD j 0 else 0) (fun j => if (pe ps j).1 = (pe ps i).1 then ms.getD j 0 - ns.getD j 0 else 0) (List.range ps.length)
  have e4 : S (List.range ps.length) (fun j => (if (pe ps j).1 = (pe ps i).1 then ns.getD j 0 else 0) + (if (pe ps j).1 = (pe ps i).1 then ms.getD j 0 - ns.getD j 0 else 0)) = S (List.range ps.length) fun j => if (pe ps j).1 = (pe ps i).1 then ms.getD j 0 else 0 := S_congr fun j _ => by
    by_cases e : (pe ps j).1 = (pe ps i).1
    · rw [if_pos e, if_pos e, if_pos e]; omega
    · rw [if_neg e, if_neg e, if_neg e]; rfl
  have e5 := S_one (f := fun j => if (pe ps j).1 = (pe ps i).1 then ms.getD j 0 - ns.getD j 0 else 0) (k := i) List.nodup_range (List.mem_range.mpr hi) fun j _ ne => by
    rw [off j ne, Int.sub_self]
    exact ite_self _
  rw [e4, e5] at e3
  rw [if_pos rfl] at e3
  have e1' : S (List.range ps.length) (fun j => if (pe ps j).1 = (pe ps i).1 then ns.getD j 0 else 0) = 0 := e1
  have e2' : S (List.range ps.length) (fun j => if (pe ps j).1 = (pe ps i).1 then ms.getD j 0 else 0) = 0 := e2
  omega
theorem tour_mate {P W : Int} {ps : List (Int × Int)} {ns ms : List Int} {i m : Nat} {s : Int} (ins : Ins P W ps) (nd : ps.Nodup) (t : Tour P W ps ns) (hi : i < ps.length) (hm : m < ps.length) (ne : m ≠ i) (row : (pe ps m).1 = (pe ps i).1) (hs : s ≠ 0)
    (val : ∀ j, j < ps.length → ms.getD j 0 = ns.getD j 0 + (if j = i then s else 0) - (if j = m then s else 0)) : ¬ Tour P W ps ms := fun z => by
  obtain ⟨a, b, c, d⟩ := ins _ (pe_mem hi)
  have col : (pe ps m).2 ≠ (pe ps i).2 := fun e => by
    have : pe ps m = pe ps i := Prod.ext row e
    have h1 := pe_at hm
    have h2 := pe_at hi
    rw [this, ← h2] at h1
    exact ne ((List.getElem?_inj hm nd).mp h1)
  have h1 := t.wl _ c d
  have h2 := z.wl _ c d
  have e1 := (S_zip (F := fun p n => if p.2 = (pe ps i).2 then n else 0) t.len).symm.trans h1
  have e2 := (S_zip (F := fun p n => if p.2 = (pe ps i).2 then n else 0) z.len).symm.trans h2
  have e3 := S_add (fun j => if (pe ps j).2 = (pe ps i).2 then ns.getD j 0 else 0) (fun j => if (pe ps j).2 = (pe ps i).2 then (if j = i then s else 0) - (if j = m then s else 0) else 0) (List.range ps.length)
  have e4 : S (List.range ps.length) (fun j => (if (pe ps j).2 = (pe ps i).2 then ns.getD j 0 else 0) + (if (pe ps j).2 = (pe ps i).2 then (if j = i then s else 0) - (if j = m then s else 0) else 0)) = S (List.range ps.length) fun j => if (pe ps j).2 = (pe ps i).2 then ms.getD j 0 else 0 := S_congr fun j hj => by
    rw [val j (List.mem_range.mp hj)]
    by_cases e : (pe ps j).2 = (pe ps i).2
    · rw [if_pos e, if_pos e, if_pos e]; omega
    · rw [if_neg e, if_neg e, if_neg e]; rfl
  have e5 := S_one (f := fun j => if (pe ps j).2 = (pe ps i).2 then (if j = i then s else 0) - (if j = m then s else 0) else 0) (k := i) List.nodup_range (List.mem_range.mpr hi) fun j _ nj => by
    by_cases e : (pe ps j).2 = (pe ps i).2
    · rw [if_pos e, if_neg nj, if_neg fun (q : j = m) => col (q ▸ e)]
      rfl
    · rw [if_neg e]
  rw [e4, e5] at e3
  rw [if_pos rfl, if_pos rfl, if_neg fun q => ne q.symm] at e3
  have e1' : S (List.range ps.length) (fun j => if (pe ps j).2 = (pe ps i).2 then ns.getD j 0 else 0) = 0 := e1
  have e2' : S (List.range ps.length) (fun j => if (pe ps j).2 = (pe ps i).2 then ms.getD j 0 else 0) = 0 := e2
  omega
end K03
set_option Elab.async false
set_option linter.all false
set_option maxRecDepth 100000
set_option maxHeartbeats 4000000
set_option exponentiation.threshold 5000
namespace K03
open PySem PySem.Spec PyProof.Rows L2 TkS
/-! the word due of a tour -/
def intD : PyData → Int
  | .int i => i
  | _ => 0
def ptL (P : Int) (ps : List (Int × Int)) (ns : List Int) : List Int := (List.range P.toNat).map fun (x : Nat) => ptSum ps ns (x : Int)
def wlL (W : Int) (ps : List (Int × Int)) (ns : List Int) : List Int := (List.range W.toNat).map fun (y : Nat) => wlSum ps ns (y : Int)
def anyNz (l : List Int) : Bool := l.any fun z => decide (z ≠ 0)
def tourW (P W : Int) (ps : List (Int × Int)) (d : PyData) : Option Str :=
  match itemsD d with
  | none => some "length"
  | some ds => if ds.length = ps.length then
      if ds.all isIntD = true then
        if anyNz (ptL P ps (ds.map intD)) = true then some "point"
        else if anyNz (wlL W ps (ds.map intD)) = true then some "wall" else none
      else some "number"
    else some "length"
theorem ints_of : ∀ {ds : List PyData}, ds.all isIntD = true → ds = (ds.map intD).map PyData.int
  | [], _ => rfl
  | d :: ds, h => by
    rw [List.all_cons, Bool.and_eq_true] at h
    rw [List.map_cons, List.map_cons, ← ints_of h.2]
    cases d with
    | int i => rfl
    | _ => exact absurd h.1 (fun z => by cases z)
theorem any_false {l : List Int} (h : anyNz l = false) : ∀ z ∈ l, z = 0 := fun z hz => by
  have := List.any_eq_false.mp h z hz
  exact Decidable.not_not.mp fun c => this (decide_eq_true c)
theorem any_of {l : List Int} (h : ∀ z ∈ l, z = 0) : anyNz l = false := List.any_eq_false.mpr fun z hz => by
  rw [decide_eq_false (by rw [h z hz]; simp)]
  exact Bool.false_ne_true
theorem pt_all {P : Int} {ps : List (Int × Int)} {ns : List Int} : anyNz (ptL P ps ns) = false ↔ ∀ x : Int, 0 ≤ x → x < P → ptSum ps ns x = 0 := by
  constructor
  · intro h x x0 x1
    have := any_false h (ptSum ps ns x) (List.mem_map.mpr ⟨x.toNat, List.mem_range.mpr (by omega), by rw [Int.toNat_of_nonneg x0]⟩)
    exact this
  · intro h
    refine any_of fun z hz => ?_
    obtain ⟨k, hk, rfl⟩ := List.mem_map.mp hz
    have := List.mem_range.mp hk
    exact h _ (by omega) (by omega)
theorem wl_all {W : Int} {ps : List (Int × Int)} {ns : List Int} : anyNz (wlL W ps ns) = false ↔ ∀ y : Int, 0 ≤ y → y < W → wlSum ps ns y = 0 := by
  constructor
  · intro h x x0 x1
    have := any_false h (wlSum ps ns x) (List.mem_map.mpr ⟨x.toNat, List.mem_range.mpr (by omega), by rw [Int.toNat_of_nonneg x0]⟩)
    exact this
  · intro h
    refine any_of fun z hz => ?_
    obtain ⟨k, hk, rfl⟩ := List.mem_map.mp hz
    have := List.mem_range.mp hk
    exact h _ (by omega) (by omega)
theorem map_intD (ns : List Int) : (ns.map PyData.int).map intD = ns := by
  rw [List.map_map, show (intD ∘ PyData.int) = id from rfl, List.map_id]
theorem all_int (ns : List Int) : (ns.map PyData.int).all isIntD = true := by
  rw [List.all_map, List.all_eq_true]
  exact fun _ _ => rfl
/-- just the tours have no word -/
theorem tourW_none {P W : Int} {ps : List (Int × Int)} {d : PyData} : tourW P W ps d = none ↔ ∃ ns : List Int, itemsD d = some (ns.map PyData.int) ∧ Tour P W ps ns := by
  constructor
  · intro h
    unfold tourW at h
    cases e : itemsD d with
    | none =>
      rw [e] at h
      cases h
    | some ds =>
      rw [e] at h
      dsimp only at h
      by_cases c1 : ds.length = ps.length
      · rw [if_pos c1] at h
        cases c2 : ds.all isIntD with
        | false =>
          rw [c2, if_neg Bool.false_ne_true] at h
          cases h
        | true =>
          rw [c2, if_pos rfl] at h
          cases c3 : anyNz (ptL P ps (ds.map intD)) with
          | true =>
            rw [c3, if_pos rfl] at h
            cases h
          | false =>
            rw [c3, if_neg Bool.false_ne_true] at h
            cases c4 : anyNz (wlL W ps (ds.map intD)) with
            | true =>
              rw [c4, if_pos rfl] at h
              cases h
            | false =>
              exact ⟨ds.map intD, congrArg some (ints_of c2), by rw [List.length_map]; exact c1, pt_all.mp c3, wl_all.mp c4⟩
      · rw [if_neg c1] at h
        cases h
  · rintro ⟨ns, e, t⟩
    unfold tourW
    rw [e]
    dsimp only
    rw [if_pos (by rw [List.length_map]; exact t.len), if_pos (all_int ns), map_intD, pt_all.mpr t.pt, wl_all.mpr t.wl]
    rfl
/-! the sums under way -/
theorem S_snoc {α : Type} (l : List α) (x : α) (f : α → Int) : S (l ++ [x]) f = S l f + f x := by
  rw [S_append, S_cons, S_nil, Int.add_zero]
theorem zip_take {ps : List (Int × Int)} {ns : List Int} {i : Nat} {p : Int × Int} {n : Int} (hp : ps[i]? = some p) (hn : ns[i]? = some n) : (ps.take (i + 1)).zip (ns.take (i + 1)) = (ps.take i).zip (ns.take i) ++ [(p, n)] := by
  have lp := (List.getElem?_eq_some_iff.mp hp).1
  have ln := (List.getElem?_eq_some_iff.mp hn).1
  rw [List.take_add_one, List.take_add_one, hp, hn, List.zip_append (by rw [List.length_take, List.length_take]; omega)]
  rfl
theorem ptL_step {P : Int} {ps : List (Int × Int)} {ns : List Int} {i : Nat} {p : Int × Int} {n : Int} (hp : ps[i]? = some p) (hn : ns[i]? = some n) (p0 : 0 ≤ p.1) (p1 : p.1 < P) :
    ptL P (ps.take (i + 1)) (ns.take (i + 1)) = (ptL P (ps.take i) (ns.take i)).set p.1.toNat (ptSum (ps.take i) (ns.take i) p.1 + n) := by
  refine List.ext_getElem? fun j => ?_
  unfold ptL
  rw [List.getElem?_map, List.getElem?_set, List.getElem?_map, List.length_map, List.length_range]
  by_cases c : j < P.toNat
  · rw [List.getElem?_range c]
    by_cases e : p.1.toNat = j
    · rw [if_pos e, if_pos (by omega)]
      show some (ptSum _ _ (j : Int)) = _
      have ej : (j : Int) = p.1 := by omega
      rw [ej]
      unfold ptSum
      rw [zip_take hp hn, S_snoc]
      dsimp only
      rw [if_pos rfl]
    · rw [if_neg e]
      show some (ptSum _ _ (j : Int)) = some (ptSum _ _ (j : Int))
      unfold ptSum
      rw [zip_take hp hn, S_snoc]
      dsimp only
      rw [if_neg (by omega), Int.add_zero]
  · have z : (List.range P.toNat)[j]? = none := List.getElem?_eq_none (by rw [List.length_range]; omega)
    rw [z]
    by_cases e : p.1.toNat = j
    · omega
    · rw [if_neg e]
      rfl
theorem wlL_step {W : Int} {ps : List (Int × Int)} {ns : List Int} {i : Nat} {p : Int × Int} {n : Int} (hp : ps[i]? = some p) (hn : ns[i]? = some n) (p0 : 0 ≤ p.2) (p1 : p.2 < W) :
    wlL W (ps.take (i + 1)) (ns.take (i + 1)) = (wlL W (ps.take i) (ns.take i)).set p.2.toNat (wlSum (ps.take i) (ns.take i) p.2 + n) := by
  refine List.ext_getElem? fun j => ?_
  unfold wlL
  rw [List.getElem?_map, List.getElem?_set, List.getElem?_map, List.length_map, List.length_range]
  by_cases c : j < W.toNat
  · rw [List.getElem?_range c]
    by_cases e : p.2.toNat = j
    · rw [if_pos e, if_pos (by omega)]
      show some (wlSum _ _ (j : Int)) = _
      have ej : (j : Int) = p.2 := by omega
      rw [ej]
      unfold wlSum
      rw [zip_take hp hn, S_snoc]
      dsimp only
      rw [if_pos rfl]
    · rw [if_neg e]
      show some (wlSum _ _ (j : Int)) = some (wlSum _ _ (j : Int))
      unfold wlSum
      rw [zip_take hp hn, S_snoc]
      dsimp only
      rw [if_neg (by omega), Int.add_zero]
  · have z : (List.range W.toNat)[j]? = none := List.getElem?_eq_none (by rw [List.length_range]; omega)
    rw [z]
    by_cases e : p.2.toNat = j
    · omega
    · rw [if_neg e]
      rfl
theorem ptL_at {P : Int} {ps : List (Int × Int)} {ns : List Int} {x : Int} (x0 : 0 ≤ x) (x1 : x < P) : atI ((ptL P ps ns).map V.int) x = some (.int (ptSum ps ns x)) := by
  refine at_of (j := x.toNat) (by omega) ?_
  unfold ptL
  rw [List.getElem?_map, List.getElem?_map, List.getElem?_range (by omega)]
  show some (V.int (ptSum ps ns (x.toNat : Int))) = _
  rw [Int.toNat_of_nonneg x0]
theorem wlL_at {W : Int} {ps : List (Int × Int)} {ns : List Int} {y : Int} (y0 : 0 ≤ y) (y1 : y < W) : atI ((wlL W ps ns).map V.int) y = some (.int (wlSum ps ns y)) := by
  refine at_of (j := y.toNat) (by omega) ?_
  unfold wlL
  rw [List.getElem?_map, List.getElem?_map, List.getElem?_range (by omega)]
  show some (V.int (wlSum ps ns (y.toNat : Int))) = _
  rw [Int.toNat_of_nonneg y0]
theorem ptL_nil {P : Int} : ptL P [] [] = List.replicate P.toNat 0 := by
  unfold ptL ptSum
  refine List.ext_getElem? fun j => ?_
  rw [List.getElem?_map, List.getElem?_replicate]
  by_cases c : j < P.toNat
  · rw [List.getElem?_range c, if_pos c]
    rfl
  · rw [List.getElem?_eq_none (by rw [List.length_range]; omega), if_neg c]
    rfl
theorem wlL_nil {W : Int} : wlL W [] [] = List.replicate W.toNat 0 := by
  unfold wlL wlSum
  refine List.ext_getElem? fun j => ?_
  rw [List.getElem?_map, List.getElem?_replicate]
  by_cases c : j < W.toNat
  · rw [List.getElem?_range c, if_pos c]
    rfl
  · rw [List.getElem?_eq_none (by rw [List.length_range]; omega), if_neg c]
    rfl
end K03
set_option Elab.async false
set_option linter.all false
set_option maxRecDepth 100000
set_option maxHeartbeats 4000000
set_option exponentiation.threshold 5000
namespace K03
open PySem PySem.Spec PyProof.Rows L2 TkS
def Told (C : Addr) (e : Str) (H : Hp) (E : XK) : Prop := ∀ b H', Same H H' → H' b = some (.xd [("what", .str e)]) → E (.ref C) (some b) H'
def sp_check_tour (C CT : Addr) : Sp := fun vs H Q E => ∃ (a : Addr) (x : V) (d : PyData) (P W : Int) (ps : List (Int × Int)), vs = [.ref a, x] ∧ Pic C H a P W ps ∧ Dq H x d ∧
  (∀ e, tourW P W ps d = some e → Told CT e H E) ∧ (∀ ds, tourW P W ps d = none → itemsD d = some ds → ∀ l H', Same H H' → Dq H' (.ref l) (.tuple ds) → Q (.ref l) H')
section
variable {P : Program} {w : World} {K : PySem.W.Frag} {mg : Str → Option Value} {base : Heap}
theorem pic_len {C a : Addr} {H : Hp} {P W : Int} {ps : List (Int × Int)} (h : Pic C H a P W ps) : ps.length ≤ 25 := by
  obtain ⟨h1, h2, h3, h4⟩ := h.ok
  have n := asc_nodup h.asc
  have l := nd_le n (B := fullPs P.toNat W.toNat) (fun p hp => mem_fullPs.mpr (by have := h.ins p hp; omega))
  rw [fullPs_len] at l
  have : P.toNat * W.toNat ≤ 5 * 5 := Nat.mul_le_mul (by omega) (by omega)
  omega
theorem ixN_of {n : Nat} {k : Int} (h0 : 0 ≤ k) (h1 : k < n) : ixN n k = some k.toNat := by
  unfold ixN
  rw [if_pos h0, if_pos h1]
theorem ptL_len {P : Int} {ps : List (Int × Int)} {ns : List Int} : (ptL P ps ns).length = P.toNat := by
  unfold ptL
  rw [List.length_map, List.length_range]
theorem wlL_len {W : Int} {ps : List (Int × Int)} {ns : List Int} : (wlL W ps ns).length = W.toNat := by
  unfold wlL
  rw [List.length_map, List.length_range]
theorem wi_any {x : V} {H : Hp} {d : PyData} (k : Dq H x d) : wholeIn x .non .non = isIntD d := by cases k <;> rfl
theorem prs_get {H : Hp} {xs : List V} {ps : List (Int × Int)} {i : Nat} {x : V} (h : DqAll H xs (ps.map prD)) (hx : xs[i]? = some x) : ∃ (t : Addr) (p : Int × Int), x = .ref t ∧ ps[i]? = some p ∧ H t = some (.tup [.int p.1, .int p.2]) := pr_items h hx
theorem ok_check_tourN (T : Txt K mg) : FnOk P w K mg base (L2N.CX P w) 3 T.f_check_tour T.d_check_tour ["picture", "tour"] (sp_check_tour T.C_Picture T.C_BadTour) := by
  refine Fun.okN T.F_check_tour sc_check_tour (fun vs H Q E h => ?_) (fun cdv A outer s H vs Q E hr h => ?_)
  · obtain ⟨a, x, d, P', W, ps, rfl, _⟩ := h
    rfl
  · obtain ⟨a, x, d, P', W, ps, rfl, hp, hk, hE, hQ⟩ := h
    refine ⟨_, (pss_cons (ps_if (pt_not (pt_val (pe_call (ok_is_sequence T) (hr.mono (by decide)) (by rfl) T.g_is_sequence T.F_is_sequence.kp T.b_is_sequence .nil pass0 (pa_cons (pv 1) (pa_cons (pe_callB (call_lenOwn (ok_Picture_len T) (hr.mono (by decide)) T.len_at T.len_fn T.b_Picture_len pass0) (by rfl) T.m_len (by decide +kernel) (pa_cons (pv 0) pa_nil)) pa_nil)))))
        (pss_one (L2N.ps_raise (W := fun cls d _ H => E cls d H) rfl (L2N.takes_of rfl rfl rfl rfl) (pmkN_oex T.o_BadTour T.i_BadTour T.t_BadTour (ok_BadTour_init T) (hr.mono (by decide)) T.b_BadTour_init .nil pass0 (by rfl) T.g_BadTour (pa_cons pe_str pa_nil))))
        pss_nil)
      (pss_cons (ps_for (by exact passes_of rfl) rfl (pi_seq (pv 1)) (pg_name (i := 2) sc_check_tour.nd rfl (.inl rfl))
        (pss_one (ps_if (pt_not (pt_val (pe_call (ok_is_whole T) (hr.mono (by decide)) (by rfl) T.g_is_whole T.F_is_whole.kp T.b2_is_whole (dvs := [.non, .non]) (.cons rfl (.cons rfl .nil)) pass0 (pa_cons (pv 2) pa_nil))))
          (pss_one (L2N.ps_raise (W := fun cls d _ H => E cls d H) rfl (L2N.takes_of rfl rfl rfl rfl) (pmkN_oex T.o_BadTour T.i_BadTour T.t_BadTour (ok_BadTour_init T) (hr.mono (by decide)) T.b_BadTour_init .nil pass0 (by rfl) T.g_BadTour (pa_cons pe_str pa_nil))))
          pss_nil)))
      (pss_cons (ps_set (i := 3) sc_check_tour.nd rfl (.inl rfl) (pe_op op_rep (pe_lst (pa_cons pe_int pa_nil)) (pe_fld (pv 0) rfl)))
      (pss_cons (ps_set (i := 4) sc_check_tour.nd rfl (.inl rfl) (pe_op op_rep (pe_lst (pa_cons pe_int pa_nil)) (pe_fld (pv 0) rfl)))
      (pss_cons (ps_for (by exact passes_of rfl) rfl (RZM.pi_zipS (by rfl) T.m_zip (pa_cons (pe_fld (pv 0) rfl) (pa_cons (pv 1) pa_nil))) (pg_tup rfl (pgs_cons (pg_tup rfl (pgs_cons (pg_name (i := 5) sc_check_tour.nd rfl (.inl rfl)) (pgs_cons (pg_name (i := 6) sc_check_tour.nd rfl (.inl rfl)) pgs_nil))) (pgs_cons (pg_name (i := 2) sc_check_tour.nd rfl (.inl rfl)) pgs_nil)))
        (pss_cons (ps_asg (pe_op op_add (pe_ix ix_list (pv 3) (pv 5) (fun _ _ => rfl)) (pv 2)) (pg_sub (pv 3) (pv 5) set_list))
        (pss_one (ps_asg (pe_op op_add (pe_ix ix_list (pv 4) (pv 6) (fun _ _ => rfl)) (pv 2)) (pg_sub (pv 4) (pv 6) set_list)))))
      (pss_cons (ps_if (pt_val (pe_callB (cr_anyI rfl) (by rfl) T.m_any (by decide +kernel) (pa_cons (pv 3) pa_nil)))
        (pss_one (L2N.ps_raise (W := fun cls d _ H => E cls d H) rfl (L2N.takes_of rfl rfl rfl rfl) (pmkN_oex T.o_BadTour T.i_BadTour T.t_BadTour (ok_BadTour_init T) (hr.mono (by decide)) T.b_BadTour_init .nil pass0 (by rfl) T.g_BadTour (pa_cons pe_str pa_nil))))
        pss_nil)
      (pss_cons (ps_if (pt_val (pe_callB (cr_anyI rfl) (by rfl) T.m_any (by decide +kernel) (pa_cons (pv 4) pa_nil)))
        (pss_one (L2N.ps_raise (W := fun cls d _ H => E cls d H) rfl (L2N.takes_of rfl rfl rfl rfl) (pmkN_oex T.o_BadTour T.i_BadTour T.t_BadTour (ok_BadTour_init T) (hr.mono (by decide)) T.b_BadTour_init .nil pass0 (by rfl) T.g_BadTour (pa_cons pe_str pa_nil))))
        pss_nil)
      (pss_one (ps_ret (pe_callTy call_tupD (by rfl) T.m_tuple (by decide +kernel) (pa_cons (pv 1) pa_nil))))))))))), ?_⟩
    obtain ⟨⟨dx, tp, pv_, pxs, ha, hfr, hps, _⟩, okP, hins, hasc⟩ := id hp
    have lps : pxs.length = ps.length := by rw [hps.len, List.length_map]
    have l25 := pic_len hp
    refine ⟨_, rfl, _, rfl, a, dx, _, ps.length, rfl, ha, by omega, a, P', W, ps, rfl, hp, fun H1 s1 => ⟨rfl, x, .int ps.length, d, rfl, hk.same s1, .inr ⟨_, rfl⟩, fun H2 s2 => ⟨_, rfl, ?_⟩⟩⟩
    have s12 := s1.trans s2
    have hk2 := hk.same s12
    cases e : itemsD d with
    | none =>
      have z : seqIs d (.int (ps.length : Int)) = false := by unfold seqIs; rw [e]
      rw [z]
      exact iteT (mk_exc fun b H' s nb hb => hE "length" (by unfold tourW; rw [e]) b H' (s12.trans s) hb)
    | some ds =>
      obtain ⟨p, xs, rfl, hxs, hsq⟩ := sq_of (K := K) hk2 e
      have lx := hxs.len
      have z0 : seqIs d (.int (ps.length : Int)) = decide (((ds.length : Nat) : Int) = (ps.length : Int)) := by unfold seqIs; rw [e]
      rw [z0]
      by_cases c : ds.length = ps.length
      · rw [decide_eq_true (by omega)]
        refine iteF ?_
        refine for_seq (xs := xs) (a := p) (fun i σ H' => ∃ y2, σ = [some (.ref a), some (.ref p), y2, none, none, none, none] ∧ Same H2 H' ∧ ∀ d' ∈ ds.take i, isIntD d' = true) (fun Q h => ⟨_, rfl, h⟩) hsq
          ⟨none, rfl, fun _ _ h => h, fun d m => by simp at m⟩ (fun i σ H' _ hP => by obtain ⟨_, _, sm, _⟩ := hP; exact sm) (fun i x σ H' hx hP => ?_) (fun σ H' hP => ?_)
        · obtain ⟨y2, rfl, s3, hall⟩ := hP
          obtain ⟨d', hd', kd⟩ := hxs.get hx
          have kd3 := kd.same s3
          refine ⟨_, rfl, x, .non, .non, d', rfl, kd3, .inl rfl, .inl rfl, _, rfl, ?_⟩
          rw [wi_any kd3]
          cases hb : isIntD d' with
          | false =>
            refine iteT (mk_exc fun b H4 s4 nb hb4 => hE "number" ?_ b H4 ((s12.trans s3).trans s4) hb4)
            unfold tourW
            rw [e]
            dsimp only
            rw [if_pos c, if_neg]
            intro q
            rw [List.all_eq_true.mp q d' (List.mem_of_getElem? hd')] at hb
            cases hb
          | true =>
            refine iteF ⟨_, rfl, s3, fun d2 m2 => ?_⟩
            rw [List.take_add_one, hd'] at m2
            rcases List.mem_append.mp m2 with m2 | m2
            · exact hall d2 m2
            · rw [List.mem_singleton.mp (show d2 ∈ [d'] from m2)]
              exact hb
        · obtain ⟨y2, rfl, s3, hall⟩ := hP
          rw [lx, List.take_length] at hall
          have hints : ds.all isIntD = true := List.all_eq_true.mpr hall
          generalize en : ds.map intD = ns at *
          have eds : ds = ns.map PyData.int := by rw [← en]; exact ints_of hints
          subst eds
          have exs : xs = ns.map V.int := intl_dq hxs
          subst exs
          have ln : ns.length = ps.length := by rw [List.length_map] at c; exact c
          have s13 := s12.trans s3
          have ha3 := s13 _ _ ha
          refine ⟨(by show 1 ≤ sizeLine; decide), fun l0 n0 => ?_⟩
          have s4 : Same H' (upd H' l0 (.lst [.int 0])) := same_new n0
          refine ⟨_, rfl, a, T.C_Picture, dx, _, _, rfl, s4 _ _ ha3, T.cl_Picture, T.na_points, rfl, l0, P', [.int 0], rfl, rfl, upd_same, by omega, by omega, (by show 1 * P'.toNat ≤ sizeLine; exact Nat.le_of_lt (small1000 (by omega))), fun l1 n1 => ?_⟩
          have s5 : Same H' (upd (upd H' l0 (.lst [.int 0])) l1 (.lst (List.replicate P'.toNat [V.int 0]).flatten)) := s4.trans (same_new n1)
          have h1 : (upd (upd H' l0 (.lst [.int 0])) l1 (.lst (List.replicate P'.toNat [V.int 0]).flatten)) l1 = some (.lst ((ptL P' [] []).map V.int)) := by
            rw [upd_same, List.flatten_replicate_singleton, ptL_nil, List.map_replicate]
          refine ⟨(by show 1 ≤ sizeLine; decide), fun l2 n2 => ?_⟩
          generalize upd (upd H' l0 (.lst [.int 0])) l1 (.lst (List.replicate P'.toNat [V.int 0]).flatten) = H5 at s5 h1 n2
          have s6 : Same H5 (upd H5 l2 (.lst [.int 0])) := same_new n2
          refine ⟨_, rfl, a, T.C_Picture, dx, _, _, rfl, s6 _ _ (s5 _ _ ha3), T.cl_Picture, T.na_walls, rfl, l2, W, [.int 0], rfl, rfl, upd_same, by omega, by omega, (by show 1 * W.toNat ≤ sizeLine; exact Nat.le_of_lt (small1000 (by omega))), fun l3 n3 => ?_⟩
          have s7 : Same H5 (upd (upd H5 l2 (.lst [.int 0])) l3 (.lst (List.replicate W.toNat [V.int 0]).flatten)) := s6.trans (same_new n3)
          have h3 : (upd (upd H5 l2 (.lst [.int 0])) l3 (.lst (List.replicate W.toNat [V.int 0]).flatten)) l3 = some (.lst ((wlL W [] []).map V.int)) := by
            rw [upd_same, List.flatten_replicate_singleton, wlL_nil, List.map_replicate]
          have n31 : l3 ≠ l1 := (ne_of_none (s6 _ _ h1) n3).symm
          have f1 : H' l1 = none := s4.free n1
          have f3 : H5 l3 = none := s6.free n3
          have f3' : H' l3 = none := s5.free f3
          generalize upd (upd H5 l2 (.lst [.int 0])) l3 (.lst (List.replicate W.toNat [V.int 0]).flatten) = H7 at s7 h3
          have s8 := s5.trans s7
          have hfr3 := hfr.same s13
          obtain ⟨t1, ht1⟩ := sqs_of (hsq.same s3)
          refine ⟨_, rfl, a, T.C_Picture, dx, _, _, rfl, s8 _ _ ha3, T.cl_Picture, T.na_pairs, rfl, _, rfl, true, t1, tp, p, pxs, ns.map V.int, rfl, (hfr3.same s8).seq, sqs_same s8 ht1, ?_⟩
          refine RZM.for_zipS (xs := pxs) (ys := ns.map V.int) (by rw [lps, List.length_map, ln]) (fun i σ H8 => ∃ y2 y5 y6, σ = [some (.ref a), some (.ref p), y2, some (.ref l1), some (.ref l3), y5, y6] ∧ Same H' H8 ∧ H8 l1 = some (.lst ((ptL P' (ps.take i) (ns.take i)).map V.int)) ∧ H8 l3 = some (.lst ((wlL W (ps.take i) (ns.take i)).map V.int)))
            ⟨_, _, _, rfl, s8, s7 _ _ h1, h3⟩ (fun i σ H8 hP => ?_) (fun i x y Z σ H8 hx hy hP nZ => ?_) (fun σ H8 hP => ?_)
          · obtain ⟨_, _, _, _, s9, _⟩ := hP
            exact ⟨(hfr3.same s9).seq, sqs_same s9 ht1⟩
          · obtain ⟨z2, z5, z6, rfl, s9, g1, g3⟩ := hP
            obtain ⟨t, q, rfl, hq, ht⟩ := prs_get hps hx
            obtain ⟨n, hn, rfl⟩ := map_at hy
            obtain ⟨b1, b2, b3, b4⟩ := hins q (List.mem_of_getElem? hq)
            have sZ : Same H8 (upd H8 Z (.tup [.ref t, .int n])) := same_new nZ
            have htZ := sZ _ _ (s9 _ _ (s13 _ _ ht))
            have g1' := sZ _ _ g1
            have g3' := sZ _ _ g3
            refine ⟨Z, _, rfl, SqT.of upd_same, rfl, _, _, rfl, ⟨t, _, rfl, SqT.of htZ, rfl, _, _, rfl, _, _, rfl, rfl, ?_⟩⟩
            refine ⟨_, _, rfl, rfl, ?_⟩
            refine ⟨_, rfl, _, rfl, l1, _, q.1, _, rfl, rfl, SqL.of g1', ptL_at b1 b2, _, rfl, _, n, rfl, rfl, _, rfl, _, rfl, l1, _, q.1, q.1.toNat, rfl, rfl, g1', ixN_of b1 (by rw [List.length_map, ptL_len]; omega), ?_⟩
            have g3'' : (upd (upd H8 Z (.tup [.ref t, .int n])) l1 (.lst (((ptL P' (ps.take i) (ns.take i)).map V.int).set q.1.toNat (V.int (ptSum (ps.take i) (ns.take i) q.1 + n))))) l3 = some (.lst ((wlL W (ps.take i) (ns.take i)).map V.int)) := by
              rw [upd_ne n31]
              exact g3'
            refine ⟨_, rfl, _, rfl, l3, _, q.2, _, rfl, rfl, SqL.of g3'', wlL_at b3 b4, _, rfl, _, n, rfl, rfl, _, rfl, _, rfl, l3, _, q.2, q.2.toNat, rfl, rfl, g3'', ixN_of b3 (by rw [List.length_map, wlL_len]; omega), ?_⟩
            refine ⟨_, _, _, rfl, fun b o eo => ?_, ?_, ?_⟩
            · rw [upd_ne (ne_of_none eo f3'), upd_ne (ne_of_none eo f1)]
              exact sZ _ _ (s9 _ _ eo)
            · rw [upd_ne n31.symm, upd_same, ptL_step hq hn b1 b2, List.map_set]
            · rw [upd_same, wlL_step hq hn b3 b4, List.map_set]
          · obtain ⟨z2, z5, z6, rfl, s9, g1, g3⟩ := hP
            rw [lps, List.take_length, ← ln, List.take_length] at g1 g3
            have s19 := s13.trans s9
            have tw : tourW P' W ps d = if anyNz (ptL P' ps ns) = true then some ("point" : Str) else if anyNz (wlL W ps ns) = true then some ("wall" : Str) else (none : Option Str) := by
              unfold tourW
              rw [e]
              dsimp only
              rw [if_pos c, if_pos hints, map_intD]
            refine ⟨_, rfl, l1, _, rfl, SqL.of g1, _, rfl, ?_⟩
            show (if anyNz (ptL P' ps ns) = true then _ else _)
            cases c1 : anyNz (ptL P' ps ns) with
            | true => exact iteT (mk_exc fun b H4 s4 nb hb4 => hE "point" (by rw [tw, c1]; rfl) b H4 (s19.trans s4) hb4)
            | false =>
              refine iteF ⟨_, rfl, l3, _, rfl, SqL.of g3, _, rfl, ?_⟩
              show (if anyNz (wlL W ps ns) = true then _ else _)
              cases c2 : anyNz (wlL W ps ns) with
              | true => exact iteT (mk_exc fun b H4 s4 nb hb4 => hE "wall" (by rw [tw, c1, c2]; rfl) b H4 (s19.trans s4) hb4)
              | false =>
                exact iteF ⟨_, rfl, .ref p, d, _, rfl, hk.same s19, e, fun l H9 s9' k9 => hQ _ (by rw [tw, c1, c2]; rfl) e l H9 (s19.trans s9') k9⟩
      · rw [decide_eq_false (by omega)]
        exact iteT (mk_exc fun b H' s nb hb => hE "length" (by unfold tourW; rw [e]; dsimp only; rw [if_neg c]) b H' (s12.trans s) hb)
theorem ok_check_tour (T : Txt K mg) : FnOk P w K mg base (L2.CX P w) 3 T.f_check_tour T.d_check_tour ["picture", "tour"] (sp_check_tour T.C_Picture T.C_BadTour) := FnOk.ofN (ok_check_tourN T)
end
end K03
set_option Elab.async false
set_option linter.all false
set_option maxRecDepth 100000
set_option maxHeartbeats 4000000
set_option exponentiation.threshold 5000
namespace K03
open PySem PySem.Spec PyProof.Rows L2 TkS
theorem Told.same {C : Addr} {e : Str} {H H1 : Hp} {E : XK} (h : Told C e H E) (s : Same H H1) : Told C e H1 E := fun b H' s' hb => h b H' (s.trans s') hb
def addL (ns ms : List Int) : List Int := (List.range ns.length).map fun i => ns.getD i 0 + ms.getD i 0
def mulL (ns : List Int) (m : Int) : List Int := (List.range ns.length).map fun i => ns.getD i 0 * m
def absI (n : Int) : Int := if n < 0 then -n else n
def absL (ns : List Int) : List Int := (List.range ns.length).map fun i => absI (ns.getD i 0)
def Sml (z : Int) : Prop := z.natAbs < 2 ^ 400
theorem sml_mul {a b : Int} (ha : Sml a) (hb : Sml b) : CMulW a b := wide_mul ha hb (by decide) (by decide) (by decide)
/-- the data is this tour -/
def IsT (P W : Int) (ps : List (Int × Int)) (d : PyData) (ns : List Int) : Prop := itemsD d = some (ns.map PyData.int) ∧ Tour P W ps ns
theorem isT_of {P W : Int} {ps : List (Int × Int)} {d : PyData} (h : tourW P W ps d = none) : ∃ ns, IsT P W ps d ns := tourW_none.mp h
theorem IsT.none {P W : Int} {ps : List (Int × Int)} {d : PyData} {ns : List Int} (h : IsT P W ps d ns) : tourW P W ps d = none := tourW_none.mpr ⟨ns, h⟩
def sp_no_tour (C : Addr) : Sp := fun vs H Q _ => ∃ (a : Addr) (P W : Int) (ps : List (Int × Int)), vs = [.ref a] ∧ Pic C H a P W ps ∧ ∀ l H', Same H H' → Dq H' (.ref l) (.tuple ((List.replicate ps.length (0 : Int)).map PyData.int)) → Q (.ref l) H'
def sp_tour_sum (C CT : Addr) : Sp := fun vs H Q E => ∃ (a : Addr) (x y : V) (d d' : PyData) (P W : Int) (ps : List (Int × Int)), vs = [.ref a, x, y] ∧ Pic C H a P W ps ∧ Dq H x d ∧ Dq H y d' ∧
  (∀ e, tourW P W ps d = some e → Told CT e H E) ∧ (∀ e, tourW P W ps d = none → tourW P W ps d' = some e → Told CT e H E) ∧
  (∀ ns ms, IsT P W ps d ns → IsT P W ps d' ms → ∀ l H', Same H H' → Dq H' (.ref l) (.tuple ((addL ns ms).map PyData.int)) → Q (.ref l) H')
def sp_tour_times (C CT CW : Addr) : Sp := fun vs H Q E => ∃ (a : Addr) (x y : V) (d d' : PyData) (P W : Int) (ps : List (Int × Int)), vs = [.ref a, x, y] ∧ Pic C H a P W ps ∧ Dq H x d ∧ Dq H y d' ∧
  (∀ e, tourW P W ps d = some e → Told CT e H E) ∧ (tourW P W ps d = none → isIntD d' = false → ∀ H', Same H H' → E (.ref CW) none H') ∧
  (∀ ns m, IsT P W ps d ns → d' = .int m → (∀ z ∈ ns, Sml z) ∧ Sml m ∧ ∀ l H', Same H H' → Dq H' (.ref l) (.tuple ((mulL ns m).map PyData.int)) → Q (.ref l) H')
def sp_tour_size (C CT : Addr) : Sp := fun vs H Q E => ∃ (a : Addr) (x : V) (d : PyData) (P W : Int) (ps : List (Int × Int)), vs = [.ref a, x] ∧ Pic C H a P W ps ∧ Dq H x d ∧
  (∀ e, tourW P W ps d = some e → Told CT e H E) ∧ (∀ ns, IsT P W ps d ns → ∀ H', Same H H' → Q (.int (absL ns).sum) H')
theorem dq_tupI {H : Hp} {v : V} {ns : List Int} (k : Dq H v (.tuple (ns.map PyData.int))) : ∃ a, v = .ref a ∧ H a = some (.tup (ns.map V.int)) := by
  cases k with
  | tup e t =>
    rw [intl_dq t] at e
    exact ⟨_, rfl, e⟩
theorem tupI {H : Hp} {a : Addr} {ns : List Int} (h : H a = some (.tup (ns.map V.int))) : Dq H (.ref a) (.tuple (ns.map PyData.int)) := .tup h (dq_intl ns)
theorem map_getD {ns : List Int} {i : Nat} {x : V} (h : (ns.map V.int)[i]? = some x) : x = .int (ns.getD i 0) ∧ i < ns.length := by
  obtain ⟨n, hn, rfl⟩ := map_at h
  refine ⟨?_, (List.getElem?_eq_some_iff.mp hn).1⟩
  rw [List.getD_eq_getElem?_getD, hn]
  rfl
theorem mem_getD {ns : List Int} {i : Nat} (h : i < ns.length) : ns.getD i 0 ∈ ns := by
  rw [List.getD_eq_getElem?_getD, List.getElem?_eq_getElem h]
  exact List.getElem_mem h
theorem map_rng (f : Nat → Int) (n : Nat) : ((List.range n).filter fun _ => true).map (fun i => V.int (f i)) = ((List.range n).map f).map V.int := by
  rw [range_all, List.map_map]
  rfl
section
variable {P : Program} {w : World} {K : PySem.W.Frag} {mg : Str → Option Value} {base : Heap}
theorem ok_no_tour (T : Txt K mg) : FnOk P w K mg base CX0 3 T.f_no_tour T.d_no_tour ["picture"] (sp_no_tour T.C_Picture) := by
  refine T.F_no_tour.ok sc_no_tour (fun vs H Q E h => ?_) (fun cdv A outer s H vs Q E hr h => ?_)
  · obtain ⟨a, P', W, ps, rfl, _⟩ := h
    rfl
  · obtain ⟨a, P', W, ps, rfl, hp, hQ⟩ := h
    refine ⟨_, (pss_one (ps_ret (pe_op op_repA (pe_tup (pa_cons pe_int pa_nil)) (pe_callB (call_lenOwn (ok_Picture_len T) (hr.mono (by decide)) T.len_at T.len_fn T.b_Picture_len pass0) (by rfl) T.m_len (by decide +kernel) (pa_cons (pv 0) pa_nil))))), ?_⟩
    obtain ⟨dx, tp, pv_, pxs, ha, hfr, hps, _⟩ := hp.at_
    have l25 := pic_len hp
    refine ⟨(by show 1 ≤ sizeLine; decide), fun l0 n0 => ?_⟩
    have s0 : Same H (upd H l0 (.tup [.int 0])) := same_new n0
    refine ⟨_, rfl, a, dx, _, ps.length, rfl, s0 _ _ ha, by omega, a, P', W, ps, rfl, hp.same s0, fun H1 s1 => ⟨rfl, l0, _, [.int 0], rfl, rfl, SqT.of (s1 _ _ upd_same), by simp, by omega, by omega, by simp, fun z => ?_, fun _ l n => ?_⟩⟩
    · have z1 : ps.length = 1 := by omega
      refine hQ l0 _ (s0.trans s1) (tupI ?_)
      rw [s1 _ _ upd_same, z1]
      rfl
    · refine hQ l _ ((s0.trans s1).trans (same_new n)) (tupI ?_)
      rw [upd_same, List.flatten_replicate_singleton, List.map_replicate]
      rfl
end
end K03
set_option Elab.async false
set_option linter.all false
set_option maxRecDepth 100000
set_option maxHeartbeats 4000000
set_option exponentiation.threshold 5000
namespace K03
open PySem PySem.Spec PyProof.Rows L2 TkS
/-! just one tour -/
theorem cut_tree {P W : Int} {ps : List (Int × Int)} {n : Nat} {T R : List Nat} (I : TreeInv P W ps n T R) (ins : Ins P W ps) (hn : n ≤ ps.length) : ∀ k ∈ T, ∀ e ∈ T, cut P W ps T k e = if e = k then 1 else 0 := fun k hk e he => by
  have mT : ∀ k ∈ T, pe ps k ∈ ps := fun k h => pe_mem (Nat.lt_of_lt_of_le (I.lt k h) hn)
  have insT : Ins P W (T.map (pe ps)) := fun p hp => by
    obtain ⟨k, hk, rfl⟩ := List.mem_map.mp hp
    exact ins _ (mT k hk)
  have insK : Ins P W ((T.filter fun j => decide (j ≠ k)).map (pe ps)) := fun p hp => by
    obtain ⟨j, hj, rfl⟩ := List.mem_map.mp hp
    exact ins _ (mT j (List.mem_filter.mp hj).1)
  by_cases c : e = k
  · subst e
    rw [if_pos rfl]
    unfold cut
    have d : Diff P W ((T.filter fun j => decide (j ≠ k)).map (pe ps)) (pe ps k) := by
      obtain ⟨a, ha⟩ := List.getElem?_of_mem hk
      have al : a < T.length := (List.getElem?_eq_some_iff.mp ha).1
      have b := bridge insT (fun i e he => by
        rw [List.getElem?_map] at he
        obtain ⟨k', hk', rfl⟩ := Option.map_eq_some_iff.mp he
        exact I.df i k' hk') T.length (by rw [List.length_map]; exact Nat.le_refl _) a (pe ps k) al (by rw [List.getElem?_map, ha]; rfl)
      rw [List.take_of_length_le (by rw [List.length_map]; exact Nat.le_refl _), map_erase, erase_filter I.nd ha] at b
      exact b
    have e1 : inSide P W ps T k (eu (pe ps k)) = true := decide_eq_true rfl
    have e2 : inSide P W ps T k (ev P (pe ps k)) = false := decide_eq_false fun z => d z.symm
    rw [e1, e2, if_pos rfl, if_neg Bool.false_ne_true]
    rfl
  · rw [if_neg c]
    have z := marks_const insK (pe ps e) (List.mem_map.mpr ⟨e, List.mem_filter.mpr ⟨he, decide_eq_true c⟩, rfl⟩)
    unfold cut inSide sideM
    rw [z]
    omega
/-- what a vector gives along a function of points and walls -/
def Df (P : Int) (ps : List (Int × Int)) (x : List Int) (f : Nat → Int) : Int := S (List.range ps.length) fun i => x.getD i 0 * (f (eu (pe ps i)) - f (ev P (pe ps i)))
theorem S_sub {α : Type} (f g : α → Int) : ∀ l : List α, S l (fun x => f x - g x) = S l f - S l g
  | [] => rfl
  | x :: l => by
    rw [S_cons, S_cons, S_cons, S_sub f g l]
    omega
theorem tour_df {P W : Int} {ps : List (Int × Int)} {ns : List Int} (ins : Ins P W ps) (t : Tour P W ps ns) (f : Nat → Int) : Df P ps ns f = 0 := by
  have hp : S (List.range ps.length) (fun i => ns.getD i 0 * f (eu (pe ps i))) = 0 := by
    have e : S (List.range P.toNat) (fun x => f x * ptSum ps ns (x : Int)) = S (List.range ps.length) (fun i => ns.getD i 0 * f (eu (pe ps i))) := by
      have e1 : ∀ x ∈ List.range P.toNat, f x * ptSum ps ns (x : Int) = S (List.range ps.length) fun i => f x * (if (pe ps i).1 = (x : Int) then ns.getD i 0 else 0) := fun x _ => by
        rw [S_mul]
        congr 1
        exact S_zip (F := fun p n => if p.1 = (x : Int) then n else 0) t.len
      rw [S_congr e1, S_comm]
      refine S_congr fun i hi => ?_
      obtain ⟨a, b, c, d⟩ := ins _ (pe_mem (List.mem_range.mp hi))
      rw [S_one (k := eu (pe ps i)) List.nodup_range (List.mem_range.mpr (by unfold eu; omega)) fun x _ ne => by
        rw [if_neg (fun z => ne (by unfold eu; omega)), Int.mul_zero]]
      rw [if_pos (by unfold eu; omega), Int.mul_comm]
    rw [← e]
    exact S_zero fun x hx => by
      have := List.mem_range.mp hx
      rw [t.pt _ (by omega) (by omega), Int.mul_zero]
  have hw : S (List.range ps.length) (fun i => ns.getD i 0 * f (ev P (pe ps i))) = 0 := by
    have e : S (List.range W.toNat) (fun y => f (P + (y : Int)).toNat * wlSum ps ns (y : Int)) = S (List.range ps.length) (fun i => ns.getD i 0 * f (ev P (pe ps i))) := by
      have e1 : ∀ x ∈ List.range W.toNat, f (P + (x : Int)).toNat * wlSum ps ns (x : Int) = S (List.range ps.length) fun i => f (P + (x : Int)).toNat * (if (pe ps i).2 = (x : Int) then ns.getD i 0 else 0) := fun x _ => by
        rw [S_mul]
        congr 1
        exact S_zip (F := fun p n => if p.2 = (x : Int) then n else 0) t.len
      rw [S_congr e1, S_comm]
      refine S_congr fun i hi => ?_
      obtain ⟨a, b, c, d⟩ := ins _ (pe_mem (List.mem_range.mp hi))
      rw [S_one (k := (pe ps i).2.toNat) List.nodup_range (List.mem_range.mpr (by omega)) fun x _ ne => by
        rw [if_neg (fun z => ne (by omega)), Int.mul_zero]]
      rw [if_pos (by omega), Int.mul_comm]
      congr 2
      unfold ev
      congr 1
      omega
    rw [← e]
    exact S_zero fun x hx => by
      have := List.mem_range.mp hx
      rw [t.wl _ (by omega) (by omega), Int.mul_zero]
  unfold Df
  have e : ∀ i ∈ List.range ps.length, ns.getD i 0 * (f (eu (pe ps i)) - f (ev P (pe ps i))) = ns.getD i 0 * f (eu (pe ps i)) - ns.getD i 0 * f (ev P (pe ps i)) := fun i _ => Int.mul_sub _ _ _
  rw [S_congr e, S_sub, hp, hw]
  rfl
theorem df_tree {P W : Int} {ps : List (Int × Int)} {T R : List Nat} {x : List Int} (I : TreeInv P W ps ps.length T R) (ins : Ins P W ps) (h : ∀ f, Df P ps x f = 0) : ∀ k ∈ T, x.getD k 0 = - S R fun j => x.getD j 0 * cut P W ps T k j := fun k hk => by
  have q := h fun v => if inSide P W ps T k v = true then 1 else 0
  have q2 : S (List.range ps.length) (fun i => x.getD i 0 * cut P W ps T k i) = 0 := q
  rw [← I.sum, S_one (k := k) I.nd hk fun e he ne => by rw [cut_tree I ins (Nat.le_refl _) k hk e he, if_neg ne, Int.mul_zero], cut_tree I ins (Nat.le_refl _) k hk k hk, if_pos rfl, Int.mul_one] at q2
  omega
theorem row_map {R : List Nat} : ∀ {row : List Int}, R.Nodup → row.length = R.length → ∃ g : Nat → Int, row = R.map g := by
  induction R with
  | nil =>
    intro row _ h
    exact ⟨fun _ => 0, List.eq_nil_of_length_eq_zero h⟩
  | cons r R ih =>
    intro row n h
    match row, h with
    | a :: row, h =>
      obtain ⟨n1, n2⟩ := List.nodup_cons.mp n
      obtain ⟨g, hg⟩ := ih (row := row) n2 (by simpa using h)
      refine ⟨fun k => if k = r then a else g k, ?_⟩
      rw [List.map_cons, if_pos rfl, hg]
      congr 1
      exact List.map_congr_left fun k hk => (if_neg (show ¬ k = r from fun z => n1 (by rw [← z]; exact hk))).symm
theorem zip_self {g : Nat → Int} : ∀ R : List Nat, R.zip (R.map g) = R.map fun k => (k, g k)
  | [] => rfl
  | r :: R => by
    rw [List.map_cons, List.zip_cons_cons, zip_self R, List.map_cons]
theorem tourOf_R {P W : Int} {ps : List (Int × Int)} (g : Nat → Int) : ∀ j ∈ (trees P W ps ps.length).2, (tourOf P W ps ((trees P W ps ps.length).2.map g)).getD j 0 = g j := fun j hj => by
  have I := trees_inv P W ps ps.length
  unfold tourOf dueL
  generalize (trees P W ps ps.length).1 = T at I
  generalize (trees P W ps ps.length).2 = R at I hj
  rw [puts_off fun p hp => by
    obtain ⟨k, hk, rfl⟩ := List.mem_map.mp hp
    exact fun (e : k = j) => I.dj k hk (e ▸ hj)]
  unfold toldL
  rw [zip_self]
  exact puts_at I.ndR hj fun k hk => by
    rw [List.length_replicate]
    exact I.ltR k hk
theorem tree_or {P W : Int} {ps : List (Int × Int)} {n : Nat} {T R : List Nat} (I : TreeInv P W ps n T R) {j : Nat} (hj : j < n) : j ∈ T ∨ j ∈ R := by
  have s := I.sum fun i => if i = j then 1 else 0
  rw [S_one (l := List.range n) (k := j) List.nodup_range (List.mem_range.mpr hj) fun x _ ne => if_neg ne, if_pos rfl] at s
  by_cases a : j ∈ T
  · exact .inl a
  · by_cases b : j ∈ R
    · exact .inr b
    · rw [S_zero fun x hx => if_neg (show ¬ x = j from fun z => a (by rw [← z]; exact hx)), S_zero fun x hx => if_neg (show ¬ x = j from fun z => b (by rw [← z]; exact hx))] at s
      cases s
/-- just one tour has these numbers at the other places -/
theorem tour_uniq {P W : Int} {ps : List (Int × Int)} {x : List Int} (ins : Ins P W ps) (l : x.length = ps.length) (h : ∀ f, Df P ps x f = 0) : x = tourOf P W ps ((trees P W ps ps.length).2.map fun j => x.getD j 0) := by
  have I := trees_inv P W ps ps.length
  have tr := df_tree I ins h
  have tr2 := df_tree I ins (tour_df ins (tourOf_tour (row := (trees P W ps ps.length).2.map fun j => x.getD j 0) ins))
  have onR := tourOf_R (P := P) (W := W) (ps := ps) fun j => x.getD j 0
  refine List.ext_getElem? fun j => ?_
  by_cases hj : j < ps.length
  · have e : x.getD j 0 = (tourOf P W ps ((trees P W ps ps.length).2.map fun j => x.getD j 0)).getD j 0 := by
      rcases tree_or I hj with m | m
      · rw [tr j m, tr2 j m]
        refine congrArg _ (S_congr fun i hi => ?_)
        rw [onR i hi]
      · exact (onR j m).symm
    rw [List.getD_eq_getElem?_getD, List.getD_eq_getElem?_getD, List.getElem?_eq_getElem (by omega), List.getElem?_eq_getElem (by rw [tourOf_len]; exact hj)] at e
    rw [List.getElem?_eq_getElem (by omega), List.getElem?_eq_getElem (by rw [tourOf_len]; exact hj)]
    exact congrArg some e
  · rw [List.getElem?_eq_none (by omega), List.getElem?_eq_none (by rw [tourOf_len]; omega)]
/-! the program's way: roots and walks -/
def Dg (P : Int) (ps : List (Int × Int)) (x : Nat → Int) (f : Nat → Int) : Int := S (List.range ps.length) fun i => x i * (f (eu (pe ps i)) - f (ev P (pe ps i)))
structure BInv (P W : Int) (ps : List (Int × Int)) (n : Nat) (root : Nat → Nat) (walk ts : Nat → Nat → Int) : Prop where
  al : ∀ i j, i < (P + W).toNat → j < (P + W).toNat → (root i = root j ↔ (marks P W ((trees P W ps n).1.map (pe ps))).getD i 0 = (marks P W ((trees P W ps n).1.map (pe ps))).getD j 0)
  df : ∀ c, c < (P + W).toNat → ∀ f, Dg P ps (walk c) f = f c - f (root c)
  off : ∀ c, c < (P + W).toNat → ∀ j, j ∉ (trees P W ps n).1 → walk c j = 0
  td : ∀ k ∈ (trees P W ps n).2, ∀ f, Dg P ps (ts k) f = 0
  tu : ∀ k ∈ (trees P W ps n).2, ∀ j, j ∉ (trees P W ps n).1 → ts k j = if j = k then 1 else 0
def gapF (a b : Nat → Int) (n : Nat) : Nat → Int := fun j => a j - b j + (if j = n then 1 else 0)
theorem Dg_sub {P : Int} {ps : List (Int × Int)} (a b f : Nat → Int) : Dg P ps (fun j => a j - b j) f = Dg P ps a f - Dg P ps b f := by
  unfold Dg
  rw [← S_sub]
  exact S_congr fun i _ => Int.sub_mul _ _ _
theorem Dg_gap {P : Int} {ps : List (Int × Int)} {a b : Nat → Int} {n : Nat} (h : n < ps.length) (f : Nat → Int) : Dg P ps (gapF a b n) f = Dg P ps a f - Dg P ps b f + (f (eu (pe ps n)) - f (ev P (pe ps n))) := by
  rw [← Dg_sub]
  have e : S (List.range ps.length) (fun i => (if i = n then (1 : Int) else 0) * (f (eu (pe ps i)) - f (ev P (pe ps i)))) = f (eu (pe ps n)) - f (ev P (pe ps n)) := by
    rw [S_one (k := n) List.nodup_range (List.mem_range.mpr h) fun x _ ne => by rw [if_neg ne, Int.zero_mul], if_pos rfl, Int.one_mul]
  rw [← e]
  unfold Dg
  rw [← S_add]
  exact S_congr fun i _ => Int.add_mul _ _ _
theorem BInv.init {P W : Int} {ps : List (Int × Int)} : BInv P W ps 0 (fun c => c) (fun _ _ => 0) (fun _ _ => 0) := by
  refine ⟨fun i j hi hj => ?_, fun c _ f => ?_, fun _ _ _ _ => rfl, (fun k h => nomatch h), (fun k h => nomatch h)⟩
  · show i = j ↔ (row0 (P + W).toNat).getD i 0 = (row0 (P + W).toNat).getD j 0
    rw [row0_at hi, row0_at hj]
    omega
  · unfold Dg
    rw [S_zero fun i _ => Int.zero_mul _]
    show (0 : Int) = f c - f c
    omega
theorem trees_tour {P W : Int} {ps : List (Int × Int)} {n : Nat} (e : (marks P W ((trees P W ps n).1.map (pe ps))).getD (eu (pe ps n)) 0 = (marks P W ((trees P W ps n).1.map (pe ps))).getD (ev P (pe ps n)) 0) : trees P W ps (n + 1) = ((trees P W ps n).1, (trees P W ps n).2 ++ [n]) := if_pos e
theorem trees_tree {P W : Int} {ps : List (Int × Int)} {n : Nat} (e : ¬ (marks P W ((trees P W ps n).1.map (pe ps))).getD (eu (pe ps n)) 0 = (marks P W ((trees P W ps n).1.map (pe ps))).getD (ev P (pe ps n)) 0) : trees P W ps (n + 1) = ((trees P W ps n).1 ++ [n], (trees P W ps n).2) := if_neg e
theorem not_T {P W : Int} {ps : List (Int × Int)} {n : Nat} : n ∉ (trees P W ps n).1 := fun h => by
  have := (trees_inv P W ps n).lt n h
  omega
theorem BInv.tour {P W : Int} {ps : List (Int × Int)} {n : Nat} {root : Nat → Nat} {walk ts : Nat → Nat → Int} (I : BInv P W ps n root walk ts) (ins : Ins P W ps) (h : n < ps.length) (e : root (eu (pe ps n)) = root (ev P (pe ps n))) :
    trees P W ps (n + 1) = ((trees P W ps n).1, (trees P W ps n).2 ++ [n]) ∧ BInv P W ps (n + 1) root walk (fun k => if k = n then gapF (walk (ev P (pe ps n))) (walk (eu (pe ps n))) n else ts k) := by
  obtain ⟨b1, b2⟩ := ins_ends ins _ (pe_mem h)
  have t := trees_tour ((I.al _ _ b1 b2).mp e)
  refine ⟨t, ?_⟩
  have neR : ∀ k ∈ (trees P W ps n).2, k ≠ n := fun k hk z => by
    have := (trees_inv P W ps n).ltR k hk
    omega
  refine ⟨?_, I.df, ?_, ?_, ?_⟩
  · rw [t]; exact I.al
  · rw [t]; exact I.off
  · rw [t]
    intro k hk f
    rcases mem_snoc hk with hk | hk
    · rw [if_neg (neR k hk)]
      exact I.td k hk f
    · rw [if_pos hk, Dg_gap h, I.df _ b2, I.df _ b1, e]
      omega
  · rw [t]
    intro k hk j hj
    rcases mem_snoc hk with hk | hk
    · rw [if_neg (neR k hk)]
      exact I.tu k hk j hj
    · subst hk
      rw [if_pos rfl]
      unfold gapF
      rw [I.off _ b2 j hj, I.off _ b1 j hj]
      omega
theorem mrg_iff {ls : List Int} {a b : Int} {i j : Nat} (hi : i < ls.length) (hj : j < ls.length) : (mrg ls a b).getD i 0 = (mrg ls a b).getD j 0 ↔ (ls.getD i 0 = ls.getD j 0 ∨ ((ls.getD i 0 = a ∨ ls.getD i 0 = b) ∧ (ls.getD j 0 = a ∨ ls.getD j 0 = b))) := by
  rw [mrg_at hi, mrg_at hj]
  rcases min_or a b with m | m <;> rw [m] <;> generalize ls.getD i 0 = x <;> generalize ls.getD j 0 = y <;> by_cases c : x = a ∨ x = b <;> by_cases d : y = a ∨ y = b
  all_goals first | rw [if_pos c] | rw [if_neg c]
  all_goals first | rw [if_pos d] | rw [if_neg d]
  all_goals omega
theorem BInv.tree {P W : Int} {ps : List (Int × Int)} {n : Nat} {root : Nat → Nat} {walk ts : Nat → Nat → Int} (I : BInv P W ps n root walk ts) (ins : Ins P W ps) (h : n < ps.length) (e : ¬ root (eu (pe ps n)) = root (ev P (pe ps n))) :
    trees P W ps (n + 1) = ((trees P W ps n).1 ++ [n], (trees P W ps n).2) ∧ BInv P W ps (n + 1) (fun c => if root c = root (ev P (pe ps n)) then root (eu (pe ps n)) else root c) (fun c j => if root c = root (ev P (pe ps n)) then walk c j - gapF (walk (ev P (pe ps n))) (walk (eu (pe ps n))) n j else walk c j) ts := by
  obtain ⟨b1, b2⟩ := ins_ends ins _ (pe_mem h)
  have t := trees_tree fun z => e ((I.al _ _ b1 b2).mpr z)
  refine ⟨t, ?_⟩
  refine ⟨fun i j hi hj => ?_, fun c hc f => ?_, fun c hc j hj => ?_, ?_, ?_⟩
  · rw [t]
    show _ ↔ (marks P W (((trees P W ps n).1 ++ [n]).map (pe ps))).getD i 0 = (marks P W (((trees P W ps n).1 ++ [n]).map (pe ps))).getD j 0
    rw [List.map_append]
    show _ ↔ (marks P W ((trees P W ps n).1.map (pe ps) ++ [pe ps n])).getD i 0 = (marks P W ((trees P W ps n).1.map (pe ps) ++ [pe ps n])).getD j 0
    rw [marks_snoc]
    have ll : (marks P W ((trees P W ps n).1.map (pe ps))).length = (P + W).toNat := marks_len _ _ _
    unfold stepM
    rw [mrg_iff (by rw [ll]; exact hi) (by rw [ll]; exact hj)]
    have q1 := I.al i j hi hj
    have q2 := I.al i _ hi b1
    have q3 := I.al i _ hi b2
    have q4 := I.al j _ hj b1
    have q5 := I.al j _ hj b2
    unfold eu ev at *
    rw [← q1, ← q2, ← q3, ← q4, ← q5]
    by_cases c : root i = root (P + (pe ps n).2).toNat <;> by_cases d : root j = root (P + (pe ps n).2).toNat
    all_goals first | rw [if_pos c] | rw [if_neg c]
    all_goals first | rw [if_pos d] | rw [if_neg d]
    all_goals omega
  · by_cases c2 : root c = root (ev P (pe ps n))
    · have e1 : (fun j => if root c = root (ev P (pe ps n)) then walk c j - gapF (walk (ev P (pe ps n))) (walk (eu (pe ps n))) n j else walk c j) = fun j => walk c j - gapF (walk (ev P (pe ps n))) (walk (eu (pe ps n))) n j := funext fun j => if_pos c2
      show Dg P ps (fun j => if root c = root (ev P (pe ps n)) then walk c j - gapF (walk (ev P (pe ps n))) (walk (eu (pe ps n))) n j else walk c j) f = f c - f (if root c = root (ev P (pe ps n)) then root (eu (pe ps n)) else root c)
      rw [e1, if_pos c2, Dg_sub, Dg_gap h, I.df c hc, I.df _ b2, I.df _ b1, c2]
      omega
    · have e1 : (fun j => if root c = root (ev P (pe ps n)) then walk c j - gapF (walk (ev P (pe ps n))) (walk (eu (pe ps n))) n j else walk c j) = walk c := funext fun j => if_neg c2
      show Dg P ps (fun j => if root c = root (ev P (pe ps n)) then walk c j - gapF (walk (ev P (pe ps n))) (walk (eu (pe ps n))) n j else walk c j) f = f c - f (if root c = root (ev P (pe ps n)) then root (eu (pe ps n)) else root c)
      rw [e1, if_neg c2]
      exact I.df c hc f
  · rw [t] at hj
    have hj1 : j ∉ (trees P W ps n).1 := fun z => hj (List.mem_append.mpr (.inl z))
    have hj2 : j ≠ n := fun z => hj (List.mem_append.mpr (.inr (List.mem_singleton.mpr z)))
    show (if root c = root (ev P (pe ps n)) then walk c j - gapF (walk (ev P (pe ps n))) (walk (eu (pe ps n))) n j else walk c j) = 0
    unfold gapF
    rw [I.off c hc j hj1, I.off _ b2 j hj1, I.off _ b1 j hj1, if_neg hj2]
    split <;> rfl
  · rw [t]; exact I.td
  · rw [t]
    intro k hk j hj
    exact I.tu k hk j fun z => hj (List.mem_append.mpr (.inl z))
/-- the other places of a whole picture, and its basis -/
def others (P W : Int) (ps : List (Int × Int)) : List Nat := (trees P W ps ps.length).2
def treeP (P W : Int) (ps : List (Int × Int)) : List Nat := (trees P W ps ps.length).1
def unitR (R : List Nat) (k : Nat) : List Int := R.map fun j => if j = k then 1 else 0
def basisT (P W : Int) (ps : List (Int × Int)) : List (List Int) := (others P W ps).map fun k => tourOf P W ps (unitR (others P W ps) k)
theorem getD_rng {f : Nat → Int} {n i : Nat} (h : i < n) : ((List.range n).map f).getD i 0 = f i := by
  rw [getD_map0 (d := 0) (by rw [List.length_range]; exact h), List.getD_eq_getElem?_getD, List.getElem?_range h]
  rfl
theorem Df_rng {P : Int} {ps : List (Int × Int)} (x f : Nat → Int) : Df P ps ((List.range ps.length).map x) f = Dg P ps x f := S_congr fun i hi => by
  rw [getD_rng (List.mem_range.mp hi)]
theorem others_lt {P W : Int} {ps : List (Int × Int)} : ∀ k ∈ others P W ps, k < ps.length := (trees_inv P W ps ps.length).ltR
theorem others_nd {P W : Int} {ps : List (Int × Int)} : (others P W ps).Nodup := (trees_inv P W ps ps.length).ndR
theorem others_not {P W : Int} {ps : List (Int × Int)} : ∀ k ∈ others P W ps, k ∉ treeP P W ps := fun k hk z => (trees_inv P W ps ps.length).dj k z hk
theorem BInv.fin {P W : Int} {ps : List (Int × Int)} {root : Nat → Nat} {walk ts : Nat → Nat → Int} (I : BInv P W ps ps.length root walk ts) (ins : Ins P W ps) : ((trees P W ps ps.length).2.map fun k => (List.range ps.length).map (ts k)) = basisT P W ps := by
  refine List.map_congr_left fun k hk => ?_
  rw [tour_uniq (x := (List.range ps.length).map (ts k)) ins (by rw [List.length_map, List.length_range]) fun f => by rw [Df_rng]; exact I.td k hk f]
  congr 1
  exact List.map_congr_left fun j hj => by
    rw [getD_rng (others_lt j hj)]
    exact I.tu k hk j (others_not j hj)
/-- the sum of the basis, each taken as often as the row says -/
def accF (P W : Int) (ps : List (Int × Int)) (row : List Int) (n : Nat) : List Int := (List.range ps.length).map fun j => S (List.range n) fun t => row.getD t 0 * ((basisT P W ps).getD t []).getD j 0
theorem basis_at {P W : Int} {ps : List (Int × Int)} {t : Nat} (h : t < (others P W ps).length) : (basisT P W ps).getD t [] = tourOf P W ps (unitR (others P W ps) ((others P W ps).getD t 0)) := by
  unfold basisT
  rw [List.getD_eq_getElem?_getD, List.getElem?_map, List.getElem?_eq_getElem h, List.getD_eq_getElem?_getD, List.getElem?_eq_getElem h]
  rfl
theorem others_inj {P W : Int} {ps : List (Int × Int)} {s t : Nat} (hs : s < (others P W ps).length) (ht : t < (others P W ps).length) (e : (others P W ps).getD s 0 = (others P W ps).getD t 0) : s = t := by
  rw [List.getD_eq_getElem?_getD, List.getElem?_eq_getElem hs, List.getD_eq_getElem?_getD, List.getElem?_eq_getElem ht] at e
  have nd := List.pairwise_iff_getElem.mp (others_nd (P := P) (W := W) (ps := ps))
  rcases Nat.lt_trichotomy s t with c | c | c
  · exact absurd (by simpa using e) (nd s t hs ht c)
  · exact c
  · exact absurd (by simpa using e.symm) (nd t s ht hs c)
theorem accF_fin {P W : Int} {ps : List (Int × Int)} {row : List Int} (ins : Ins P W ps) (l : row.length = (others P W ps).length) : accF P W ps row row.length = tourOf P W ps row := by
  unfold accF
  rw [tour_uniq (x := (List.range ps.length).map fun j => S (List.range row.length) fun t => row.getD t 0 * ((basisT P W ps).getD t []).getD j 0) ins (by rw [List.length_map, List.length_range]) fun f => ?_]
  · congr 1
    refine List.ext_getElem? fun t => ?_
    by_cases ht : t < (others P W ps).length
    · have m : (others P W ps)[t] ∈ others P W ps := List.getElem_mem ht
      show ((others P W ps).map _)[t]? = _
      rw [List.getElem?_map, List.getElem?_eq_getElem ht, List.getElem?_eq_getElem (by omega)]
      show some _ = some _
      congr 1
      dsimp only
      rw [getD_rng (others_lt _ m), S_one (k := t) List.nodup_range (List.mem_range.mpr (by omega)) fun s hs ne => ?_]
      · rw [basis_at ht]
        have o := tourOf_R (P := P) (W := W) (ps := ps) (fun j => if j = (others P W ps).getD t 0 then 1 else 0) _ m
        rw [show tourOf P W ps (unitR (others P W ps) ((others P W ps).getD t 0)) = tourOf P W ps ((trees P W ps ps.length).2.map fun j => if j = (others P W ps).getD t 0 then 1 else 0) from rfl, o, if_pos (by rw [List.getD_eq_getElem?_getD, List.getElem?_eq_getElem ht]; rfl), Int.mul_one, List.getD_eq_getElem?_getD, List.getElem?_eq_getElem (by omega)]
        rfl
      · have hs2 : s < (others P W ps).length := by have := List.mem_range.mp hs; omega
        rw [basis_at hs2]
        have o := tourOf_R (P := P) (W := W) (ps := ps) (fun j => if j = (others P W ps).getD s 0 then 1 else 0) _ m
        rw [show tourOf P W ps (unitR (others P W ps) ((others P W ps).getD s 0)) = tourOf P W ps ((trees P W ps ps.length).2.map fun j => if j = (others P W ps).getD s 0 then 1 else 0) from rfl, o, if_neg (fun z => ne (others_inj hs2 ht (by rw [← z, List.getD_eq_getElem?_getD, List.getElem?_eq_getElem ht]; rfl))), Int.mul_zero]
    · show ((others P W ps).map _)[t]? = _
      rw [List.getElem?_eq_none (by rw [List.length_map]; omega), List.getElem?_eq_none (by omega)]
  · rw [Df_rng]
    unfold Dg
    rw [S_congr (g := fun i => S (List.range row.length) fun t => row.getD t 0 * (((basisT P W ps).getD t []).getD i 0 * (f (eu (pe ps i)) - f (ev P (pe ps i))))) fun i _ => by
      rw [Int.mul_comm, ← S_mul]
      exact S_congr fun t _ => by rw [Int.mul_comm (f _ - f _), Int.mul_assoc], S_comm]
    refine S_zero fun t ht => ?_
    rw [S_mul, basis_at (by have := List.mem_range.mp ht; omega)]
    have := tour_df ins (tourOf_tour (P := P) (W := W) (row := unitR (others P W ps) ((others P W ps).getD t 0)) ins) f
    unfold Df at this
    rw [this, Int.mul_zero]
/-! how many pieces -/
def Dn (N : Nat) (ls : List Int) : Int := S (List.range N) fun l => if (l : Int) ∈ ls then 1 else 0
theorem mem_getD0 {ls : List Int} {x : Int} : x ∈ ls ↔ ∃ i, i < ls.length ∧ ls.getD i 0 = x := by
  refine ⟨fun h => ?_, fun ⟨i, h, e⟩ => ?_⟩
  · obtain ⟨i, h, e⟩ := List.getElem_of_mem h
    exact ⟨i, h, by rw [List.getD_eq_getElem?_getD, List.getElem?_eq_getElem h]; exact e⟩
  · rw [List.getD_eq_getElem?_getD, List.getElem?_eq_getElem h] at e
    rw [← e]
    exact List.getElem_mem h
theorem mrg_mem {ls : List Int} {a b x : Int} (ha : a ∈ ls) (hb : b ∈ ls) (ne : a ≠ b) : x ∈ mrg ls a b ↔ x ∈ ls ∧ x ≠ (if b < a then a else b) := by
  unfold mrg
  rw [List.mem_map]
  refine ⟨fun ⟨l, hl, e⟩ => ?_, fun ⟨h, n⟩ => ?_⟩
  · by_cases c : l = a ∨ l = b
    · rw [if_pos c] at e
      by_cases d : b < a
      · rw [if_pos d] at e ⊢
        subst e
        exact ⟨hb, by omega⟩
      · rw [if_neg d] at e ⊢
        subst e
        exact ⟨ha, by omega⟩
    · rw [if_neg c] at e
      subst e
      refine ⟨hl, fun z => c ?_⟩
      split at z
      · exact .inl z
      · exact .inr z
  · by_cases c : x = a ∨ x = b
    · refine ⟨x, h, ?_⟩
      rw [if_pos c]
      by_cases d : b < a
      · rw [if_pos d] at n ⊢
        omega
      · rw [if_neg d] at n ⊢
        omega
    · exact ⟨x, h, if_neg c⟩
def Rg (N : Nat) (ls : List Int) : Prop := ∀ x ∈ ls, 0 ≤ x ∧ x < N
theorem Dn_mrg {N : Nat} {ls : List Int} {a b : Int} (r : Rg N ls) (ha : a ∈ ls) (hb : b ∈ ls) (ne : a ≠ b) : Dn N (mrg ls a b) = Dn N ls - 1 := by
  have e : Dn N ls - Dn N (mrg ls a b) = 1 := by
    unfold Dn
    rw [← S_sub]
    have hm : (if b < a then a else b) ∈ ls := by split <;> assumption
    obtain ⟨m0, m1⟩ := r _ hm
    rw [S_one (k := (if b < a then a else b).toNat) List.nodup_range (List.mem_range.mpr (by omega)) fun x _ nx => ?_]
    · rw [if_pos (by rw [Int.toNat_of_nonneg m0]; exact hm), if_neg (fun z => ((mrg_mem ha hb ne).mp z).2 (by rw [Int.toNat_of_nonneg m0]))]
      rfl
    · by_cases c : (x : Int) ∈ ls
      · rw [if_pos c, if_pos ((mrg_mem ha hb ne).mpr ⟨c, fun z => nx (by omega)⟩)]
        rfl
      · rw [if_neg c, if_neg fun z => c ((mrg_mem ha hb ne).mp z).1]
        rfl
  omega
theorem mrg_same {ls : List Int} {a : Int} : mrg ls a a = ls := by
  unfold mrg
  refine (List.map_congr_left (g := id) fun l _ => ?_).trans (List.map_id _)
  by_cases c : l = a ∨ l = a
  · rw [if_pos c]
    split <;> rcases c with c | c <;> exact c.symm
  · exact if_neg c
theorem mrg_rg {N : Nat} {ls : List Int} {a b : Int} (r : Rg N ls) (ha : a ∈ ls) (hb : b ∈ ls) : Rg N (mrg ls a b) := fun x h => by
  unfold mrg at h
  obtain ⟨l, hl, e⟩ := List.mem_map.mp h
  have := r a ha
  have := r b hb
  have := r l hl
  split at e
  · split at e <;> omega
  · omega
theorem row0_rg {N : Nat} : Rg N (row0 N) := fun x h => by
  obtain ⟨i, hi, e⟩ := List.mem_map.mp h
  have := List.mem_range.mp hi
  omega
theorem Dn_row0 {N : Nat} : Dn N (row0 N) = N := by
  unfold Dn
  rw [S_congr (f := fun (l : Nat) => if (l : Int) ∈ row0 N then (1 : Int) else 0) (g := fun _ => 1) fun x hx => if_pos (List.mem_map.mpr ⟨x, hx, rfl⟩)]
  have : ∀ n : Nat, S (List.range n) (fun _ => (1 : Int)) = n := fun n => by
    induction n with
    | zero => rfl
    | succ n ih =>
      rw [List.range_succ, S_append, ih, S_cons, S_nil]
      omega
  exact this N
theorem S_len {α : Type} : ∀ l : List α, S l (fun _ => (1 : Int)) = l.length
  | [] => rfl
  | x :: l => by
    rw [S_cons, S_len l, List.length_cons]
    omega
theorem Dn_count {N : Nat} {ls : List Int} : Dn N ls = (((List.range N).filter fun (l : Nat) => decide ((l : Int) ∈ ls)).length : Nat) := by
  unfold Dn
  induction N with
  | zero => rfl
  | succ n ih =>
    rw [List.range_succ, S_append, ih, List.filter_append, List.length_append, S_cons, S_nil]
    by_cases c : ((n : Nat) : Int) ∈ ls
    · rw [if_pos c, List.filter_cons_of_pos (by simpa using c)]
      simp
    · rw [if_neg c, List.filter_cons_of_neg (by simpa using c)]
      simp
/-- the marks of the tree and of all pairs are alike at the same corners -/
structure CInv (P W : Int) (ps : List (Int × Int)) (n : Nat) : Prop where
  al : ∀ i j, i < (P + W).toNat → j < (P + W).toNat → ((marks P W (ps.take n)).getD i 0 = (marks P W (ps.take n)).getD j 0 ↔ (marks P W ((trees P W ps n).1.map (pe ps))).getD i 0 = (marks P W ((trees P W ps n).1.map (pe ps))).getD j 0)
  rg : Rg (P + W).toNat (marks P W (ps.take n))
  ct : ((trees P W ps n).1.length : Int) + Dn (P + W).toNat (marks P W (ps.take n)) = (P + W).toNat
theorem cinv {P W : Int} {ps : List (Int × Int)} (ins : Ins P W ps) : ∀ n, n ≤ ps.length → CInv P W ps n
  | 0, _ => ⟨fun _ _ _ _ => Iff.rfl, row0_rg, by
    show ((0 : Nat) : Int) + Dn (P + W).toNat (row0 (P + W).toNat) = _
    rw [Dn_row0]
    omega⟩
  | n + 1, h => by
    have I := cinv ins n (by omega)
    have tk : ps.take (n + 1) = ps.take n ++ [pe ps n] := by
      rw [List.take_add_one, pe_at (by omega)]
      rfl
    obtain ⟨b1, b2⟩ := ins_ends ins _ (pe_mem (show n < ps.length by omega))
    have l1 : (marks P W (ps.take n)).length = (P + W).toNat := marks_len _ _ _
    have l2 : (marks P W ((trees P W ps n).1.map (pe ps))).length = (P + W).toNat := marks_len _ _ _
    have m1 : (marks P W (ps.take n)).getD (eu (pe ps n)) 0 ∈ marks P W (ps.take n) := mem_getD0.mpr ⟨_, by rw [l1]; exact b1, rfl⟩
    have m2 : (marks P W (ps.take n)).getD (ev P (pe ps n)) 0 ∈ marks P W (ps.take n) := mem_getD0.mpr ⟨_, by rw [l1]; exact b2, rfl⟩
    have st : marks P W (ps.take (n + 1)) = mrg (marks P W (ps.take n)) ((marks P W (ps.take n)).getD (eu (pe ps n)) 0) ((marks P W (ps.take n)).getD (ev P (pe ps n)) 0) := by
      rw [tk, marks_snoc]
      rfl
    by_cases c : (marks P W ((trees P W ps n).1.map (pe ps))).getD (eu (pe ps n)) 0 = (marks P W ((trees P W ps n).1.map (pe ps))).getD (ev P (pe ps n)) 0
    · have e := (I.al _ _ b1 b2).mpr c
      rw [← e, mrg_same] at st
      refine ⟨?_, ?_, ?_⟩ <;> rw [st]
      · rw [trees_tour c]; exact I.al
      · exact I.rg
      · rw [trees_tour c]; exact I.ct
    · have e : ¬ _ := fun z => c ((I.al _ _ b1 b2).mp z)
      have st2 : marks P W ((trees P W ps (n + 1)).1.map (pe ps)) = mrg (marks P W ((trees P W ps n).1.map (pe ps))) ((marks P W ((trees P W ps n).1.map (pe ps))).getD (eu (pe ps n)) 0) ((marks P W ((trees P W ps n).1.map (pe ps))).getD (ev P (pe ps n)) 0) := by
        rw [trees_tree c, List.map_append]
        exact marks_snoc _ _ _ _
      refine ⟨fun i j hi hj => ?_, ?_, ?_⟩
      · rw [st, st2, mrg_iff (by rw [l1]; exact hi) (by rw [l1]; exact hj), mrg_iff (by rw [l2]; exact hi) (by rw [l2]; exact hj), I.al i j hi hj, I.al i _ hi b1, I.al i _ hi b2, I.al j _ hj b1, I.al j _ hj b2]
      · rw [st]
        exact mrg_rg I.rg m1 m2
      · rw [st, Dn_mrg I.rg m1 m2 e, trees_tree c]
        have := I.ct
        show (((trees P W ps n).1 ++ [n]).length : Int) + _ = _
        rw [List.length_append, List.length_singleton]
        omega
/-- the number of pieces -/
def piecesN (P W : Int) (ps : List (Int × Int)) : Nat := ((List.range (P + W).toNat).filter fun (l : Nat) => decide ((l : Int) ∈ marks P W ps)).length
theorem sum_len {P W : Int} {ps : List (Int × Int)} : (treeP P W ps).length + (others P W ps).length = ps.length := by
  have := (trees_inv P W ps ps.length).sum fun _ => 1
  rw [S_len, S_len, S_len, List.length_range] at this
  unfold treeP others
  omega
theorem pieces_due {P W : Int} {ps : List (Int × Int)} (ins : Ins P W ps) (hP : 0 ≤ P) (hW : 0 ≤ W) : ((others P W ps).length : Int) = ps.length - P - W + piecesN P W ps := by
  have I := (cinv ins ps.length (Nat.le_refl _)).ct
  rw [List.take_of_length_le (Nat.le_refl _), Dn_count] at I
  have s := sum_len (P := P) (W := W) (ps := ps)
  unfold treeP at s
  unfold piecesN
  omega
theorem marks_rg {P W : Int} {ps : List (Int × Int)} (ins : Ins P W ps) : Rg (P + W).toNat (marks P W ps) := by
  have I := (cinv ins ps.length (Nat.le_refl _)).rg
  rwa [List.take_of_length_le (Nat.le_refl _)] at I
/-- a set of the marks has as many members as there are pieces -/
theorem set_len {P W : Int} {ps : List (Int × Int)} (ins : Ins P W ps) {L : List Int} (nd : L.Nodup) (h : ∀ x, x ∈ L ↔ x ∈ marks P W ps) : L.length = piecesN P W ps := by
  have e : Dn (P + W).toNat (marks P W ps) = S (List.range (P + W).toNat) fun l => S L fun x => if x = (l : Int) then 1 else 0 := by
    unfold Dn
    refine S_congr fun l _ => ?_
    by_cases c : (l : Int) ∈ marks P W ps
    · rw [if_pos c, S_one (k := (l : Int)) nd ((h _).mpr c) fun x _ ne => if_neg ne, if_pos rfl]
    · rw [if_neg c, S_zero fun x hx => if_neg (show ¬ x = (l : Int) from fun z => c ((h _).mp (by rw [← z]; exact hx)))]
  rw [S_comm] at e
  have e2 : S L (fun x => S (List.range (P + W).toNat) fun l => if x = ((l : Nat) : Int) then (1 : Int) else 0) = S L fun _ => 1 := by
    refine S_congr fun x hx => ?_
    obtain ⟨x0, x1⟩ := marks_rg ins x ((h x).mp hx)
    rw [S_one (k := x.toNat) List.nodup_range (List.mem_range.mpr (by omega)) fun y _ ne => if_neg (fun z => ne (by omega)), if_pos (by omega)]
  rw [e2, S_len, Dn_count] at e
  unfold piecesN
  omega
/-- each basis tour takes only -1, 0 and 1 -/
theorem basis_small {P W : Int} {ps : List (Int × Int)} (ins : Ins P W ps) {k : Nat} (hk : k ∈ others P W ps) : ∀ x ∈ tourOf P W ps (unitR (others P W ps) k), x = -1 ∨ x = 0 ∨ x = 1 := fun x hx => by
  obtain ⟨j, hj, e⟩ := mem_getD0.mp hx
  rw [tourOf_len] at hj
  have onR := tourOf_R (P := P) (W := W) (ps := ps) fun j => if j = k then 1 else 0
  have I := trees_inv P W ps ps.length
  have tr := df_tree I ins (tour_df ins (tourOf_tour (row := unitR (others P W ps) k) ins))
  rcases tree_or I hj with m | m
  · have t := tr j m
    rw [S_one (k := k) I.ndR hk fun i hi ne => by
      rw [show (tourOf P W ps (unitR (others P W ps) k)).getD i 0 = _ from onR i hi, if_neg ne, Int.zero_mul],
      show (tourOf P W ps (unitR (others P W ps) k)).getD k 0 = _ from onR k hk, if_pos rfl, Int.one_mul] at t
    rcases cut_range (P := P) (W := W) (ps := ps) (T := (trees P W ps ps.length).1) (k := j) (j := k) with c | c | c <;> rw [c] at t <;> omega
  · have t := onR j m
    have e2 : (tourOf P W ps (unitR (others P W ps) k)).getD j 0 = if j = k then 1 else 0 := t
    rw [e2] at e
    split at e <;> omega
/-- the other places are the places that are not in the tree -/
theorem trees_filter {P W : Int} {ps : List (Int × Int)} : ∀ n, (trees P W ps n).2 = (List.range n).filter fun j => decide (j ∉ (trees P W ps n).1)
  | 0 => rfl
  | n + 1 => by
    have ih := trees_filter (P := P) (W := W) (ps := ps) n
    by_cases c : (marks P W ((trees P W ps n).1.map (pe ps))).getD (eu (pe ps n)) 0 = (marks P W ((trees P W ps n).1.map (pe ps))).getD (ev P (pe ps n)) 0
    · rw [trees_tour c, List.range_succ, List.filter_append, List.filter_cons_of_pos (by simpa using not_T)]
      show (trees P W ps n).2 ++ [n] = _
      rw [ih]
      rfl
    · rw [trees_tree c, List.range_succ, List.filter_append, List.filter_cons_of_neg (by simp)]
      show (trees P W ps n).2 = _
      rw [ih, List.filter_nil, List.append_nil]
      refine List.filter_congr fun x hx => ?_
      have := List.mem_range.mp hx
      have ne : x ≠ n := by omega
      simp [ne]
theorem others_filter {P W : Int} {ps : List (Int × Int)} : others P W ps = (List.range ps.length).filter fun j => decide (j ∉ treeP P W ps) := trees_filter _
end K03
set_option Elab.async false
set_option linter.all false
set_option maxRecDepth 100000
set_option maxHeartbeats 4000000
set_option exponentiation.threshold 5000
namespace K03
open PySem PySem.Spec PyProof.Rows L2 TkS
def vecV (M : Nat) (f : Nat → Int) : List V := (List.range M).map fun i => V.int (f i)
theorem vec_len {M : Nat} {f : Nat → Int} : (vecV M f).length = M := by
  unfold vecV
  rw [List.length_map, List.length_range]
theorem vec_at {M : Nat} {f : Nat → Int} {i : Nat} {x : V} (h : (vecV M f)[i]? = some x) : x = .int (f i) ∧ i < M := by
  have hi := (List.getElem?_eq_some_iff.mp h).1
  rw [vec_len] at hi
  unfold vecV at h
  rw [List.getElem?_map, List.getElem?_range hi] at h
  cases h
  exact ⟨rfl, hi⟩
theorem vec_get {M : Nat} {f : Nat → Int} {i : Nat} (h : i < M) : (vecV M f)[i]? = some (.int (f i)) := by
  unfold vecV
  rw [List.getElem?_map, List.getElem?_range h]
  rfl
theorem vec_map {M : Nat} {f : Nat → Int} : vecV M f = ((List.range M).map f).map V.int := by
  rw [List.map_map]
  rfl
def sp_row_minus (K : PySem.W.Frag) : Sp := fun vs H Q _ => ∃ (a b : Addr) (M : Nat) (f g : Nat → Int), vs = [.ref a, .ref b] ∧ SqL K H a (vecV M f) ∧ SqL K H b (vecV M g) ∧ M ≤ 100 ∧ ∀ l H', H l = none → Same H H' → H' l = some (.lst (vecV M fun i => f i - g i)) → Q (.ref l) H'
section
variable {P : Program} {w : World} {K : PySem.W.Frag} {mg : Str → Option Value} {base : Heap}
theorem ok_row_minus (T : Txt K mg) : FnOk P w K mg base CX0 1 T.f_row_minus T.d_row_minus ["one", "other"] (sp_row_minus K) := by
  refine T.F_row_minus.ok sc_row_minus (fun vs H Q E h => ?_) (fun cdv A outer s H vs Q E hr h => ?_)
  · obtain ⟨a, b, M, f, g, rfl, _⟩ := h
    rfl
  · obtain ⟨a, b, M, f, g, rfl, ha, hb, hM, hQ⟩ := h
    refine ⟨_, (pss_one (ps_ret (pe_lc rfl sc_row_minus.nd (RZM.pi_zipS (by rfl) T.m_zip (pa_cons (pv 0) (pa_cons (pv 1) pa_nil))) (blkOk_by (own := [("number", 2), ("taken", 3)]) (N := ["one", "other", "number", "taken"]) (sc := defScope s_row_minus) (by decide +kernel)) (fun _ _ _ _ _ => (show PG _ _ (gTup K 2 (gCons (gName 2) (gCons (gName 3) gNil))) from pg_tup rfl (pgs_cons (pg_name (i := 2) sc_row_minus.nd rfl (.inl rfl)) (pgs_cons (pg_name (i := 3) sc_row_minus.nd rfl (.inl rfl)) pgs_nil)))) (fun _ _ _ _ _ => pts_nil) (fun _ _ _ _ _ => (pe_op op_sub (pv 2) (pv 3)))))), ?_⟩
    refine ⟨_, rfl, _, rfl, false, false, a, b, vecV M f, vecV M g, rfl, ha, hb, fun D nD => ?_⟩
    refine lc_zipV (t1 := false) (t2 := false) (fun _ => true) (fun i => V.int (f i - g i)) (by rw [vec_len, vec_len]) (by rw [vec_len]; omega) nD ha hb (fun i x y T' H' R N hx hy s hT yes no => ?_) (fun H' s3 hD => ?_)
    · obtain ⟨rfl, hi⟩ := vec_at hx
      obtain ⟨rfl, _⟩ := vec_at hy
      refine ⟨T', _, rfl, SqT.of hT, rfl, _, _, rfl, _, _, rfl, rfl, rfl, ?_⟩
      exact ⟨_, rfl, _, rfl, _, _, rfl, rfl, yes rfl _ fun _ _ z => z⟩
    · rw [range_all, vec_len] at hD
      exact hQ D H' nD s3 hD
end
end K03
set_option Elab.async false
set_option linter.all false
set_option maxRecDepth 100000
set_option maxHeartbeats 4000000
set_option exponentiation.threshold 5000
namespace K03
open PySem PySem.Spec PyProof.Rows L2 TkS
/-! the law's pictures -/
theorem dq_kp {H H' : Hp} {h : Addr} {v : V} {d : PyData} (hd : Hand H h) (k : Keep h H H') (n : noHd d = true) (q : Dq H v d) : Dq H' v d := by
  obtain ⟨c, cells, p, r, t, e, ec, _⟩ := hd.ex
  exact dq_hd e ec k.kp _ n q
theorem dqs_kp {H H' : Hp} {h : Addr} {v : List V} {d : List PyData} (hd : Hand H h) (k : Keep h H H') (n : noHds d = true) (q : DqAll H v d) : DqAll H' v d := by
  obtain ⟨c, cells, p, r, t, e, ec, _⟩ := hd.ex
  exact dqs_hd e ec k.kp _ n q
structure Wd (P W : Int) (ps : List (Int × Int)) : Prop where
  p0 : 2 ≤ P
  p1 : P ≤ 4
  w0 : 2 ≤ W
  w1 : W ≤ 4
  ins : Ins P W ps
  asc : Asc ps
  len : 4 ≤ ps.length
theorem Wd.len25 {P W : Int} {ps : List (Int × Int)} (h : Wd P W ps) : ps.length ≤ 16 := by
  have n := asc_nodup h.asc
  have l := nd_le n (B := fullPs P.toNat W.toNat) (fun p hp => mem_fullPs.mpr (by have := h.ins p hp; omega))
  rw [fullPs_len] at l
  have p1 := h.p1
  have w1 := h.w1
  have : P.toNat * W.toNat ≤ 4 * 4 := Nat.mul_le_mul (by omega) (by omega)
  omega
structure Wq (P W : Int) (ps : List (Int × Int)) : Prop where
  p0 : 1 ≤ P
  p1 : P ≤ 5
  w0 : 1 ≤ W
  w1 : W ≤ 5
  ins : Ins P W ps
  asc : Asc ps
theorem Wq.len25 {P W : Int} {ps : List (Int × Int)} (h : Wq P W ps) : ps.length ≤ 25 := by
  have n := asc_nodup h.asc
  have l := nd_le n (B := fullPs P.toNat W.toNat) (fun p hp => mem_fullPs.mpr (by have := h.ins p hp; omega))
  rw [fullPs_len] at l
  have p1 := h.p1
  have w1 := h.w1
  have : P.toNat * W.toNat ≤ 5 * 5 := Nat.mul_le_mul (by omega) (by omega)
  omega
theorem Wd.q {P W : Int} {ps : List (Int × Int)} (h : Wd P W ps) : Wq P W ps := by
  have h1 := h.p0
  have h2 := h.p1
  have h3 := h.w0
  have h4 := h.w1
  exact ⟨by omega, by omega, by omega, by omega, h.ins, h.asc⟩
theorem noHd_prs (ps : List (Int × Int)) : noHd (.list (ps.map prD)) = true := noHd_list (fun d m => by
  obtain ⟨p, _, rfl⟩ := List.mem_map.mp m
  rfl) (.inr fun d m es e => by
  obtain ⟨p, _, rfl⟩ := List.mem_map.mp m
  cases e)
theorem wd_full {P W : Int} (p0 : 2 ≤ P) (p1 : P ≤ 4) (w0 : 2 ≤ W) (w1 : W ≤ 4) : Wd P W (fullPs P.toNat W.toNat) := ⟨p0, p1, w0, w1, fullPs_ins (by omega) (by omega), fullPs_asc _ _, by
  rw [fullPs_len]
  have : 2 * 2 ≤ P.toNat * W.toNat := Nat.mul_le_mul (by omega) (by omega)
  exact this⟩
theorem wd_sub {P W : Int} {ps qs : List (Int × Int)} (h : Wd P W ps) (s : qs.Sublist ps) (l : 4 ≤ qs.length) : Wd P W qs := ⟨h.p0, h.p1, h.w0, h.w1, fun p m => h.ins p (s.subset m), List.Pairwise.sublist s h.asc, l⟩
theorem hand_ne {H : Hp} {h D : Addr} (hd : Hand H h) (nD : H D = none) : D ≠ h := fun z => by
  obtain ⟨c, cells, p, r, t, e1, _⟩ := hd.ex
  rw [z, e1] at nD
  cases nD
theorem Hand.putD {H0 G : Hp} {D h : Addr} {o : HO} (hd0 : Hand H0 h) (nD : H0 D = none) (k : Keep h H0 G) (hd : Hand G h) : Hand (upd G D o) h := by
  have nh := hand_ne hd0 nD
  obtain ⟨c0, cells0, p0, r0, t0, e1, e2, _⟩ := hd0.ex
  obtain ⟨c, cells, p, r, t, f1, f2, f3⟩ := hd.ex
  obtain ⟨p', r', t', g⟩ := k.cc _ _ _ _ e1
  rw [f1] at g
  cases g
  have nc : c0 ≠ D := ne_of_none e2 nD
  exact ⟨c0, cells, _, _, _, by rw [upd_ne (Ne.symm nh)]; exact f1, by rw [upd_ne nc]; exact f2, f3⟩
theorem Keep.putD {H0 G : Hp} {D h : Addr} {o : HO} (hd0 : Hand H0 h) (nD : H0 D = none) (k : Keep h H0 G) : Keep h H0 (upd G D o) :=
  ⟨fun b u n e => by rw [upd_ne (ne_of_none e nD)]; exact k b u n e, fun c p r t e => by
    obtain ⟨p', r', t', g⟩ := k.cc _ _ _ _ e
    exact ⟨p', r', t', by rw [upd_ne (Ne.symm (hand_ne hd0 nD))]; exact g⟩⟩
theorem filt_pr (ps : List (Int × Int)) (g : Int × Int → Bool) : ((ps.map prD).filter fun d => g (prOf d)).map id = (ps.filter g).map prD := by
  rw [List.map_id, List.filter_map]
  rfl
theorem rng_pe (ps : List (Int × Int)) : (List.range ps.length).map (pe ps) = ps := by
  refine List.ext_getElem? fun j => ?_
  rw [List.getElem?_map]
  by_cases c : j < ps.length
  · rw [List.getElem?_range c, pe_at c]
    rfl
  · rw [List.getElem?_eq_none (by rw [List.length_range]; omega), List.getElem?_eq_none (by omega)]
    rfl
theorem rng_sub (ps : List (Int × Int)) (f : Nat → Bool) : (((List.range ps.length).filter f).map (pe ps)).Sublist ps := by
  have h : (((List.range ps.length).filter f).map (pe ps)).Sublist ((List.range ps.length).map (pe ps)) := List.Sublist.map _ List.filter_sublist
  rwa [rng_pe] at h
theorem shut_len (n : Nat) (zs : List Int) : n ≤ ((List.range n).filter fun (k : Nat) => !inV (.int (k : Int)) (zs.map V.int)).length + zs.length := by
  have l := nd_le (A := List.range n) (B := ((List.range n).filter fun (k : Nat) => !inV (.int (k : Int)) (zs.map V.int)) ++ zs.map Int.toNat) List.nodup_range (fun k hk => ?_)
  · rw [List.length_range, List.length_append, List.length_map] at l
    exact l
  · rw [List.mem_append]
    cases c : inV (.int (k : Int)) (zs.map V.int) with
    | false => exact .inl (List.mem_filter.mpr ⟨hk, by rw [c]; rfl⟩)
    | true =>
      refine .inr ?_
      unfold inV at c
      obtain ⟨y, hy, e⟩ := List.any_eq_true.mp c
      obtain ⟨z, hz, rfl⟩ := List.mem_map.mp hy
      have e2 : (z == (k : Int)) = true := e
      have e3 := beq_iff_eq.mp e2
      exact List.mem_map.mpr ⟨z, hz, by rw [e3]; rfl⟩
def sp_law_picture : Sp := fun vs H Q _ => ∃ h : Addr, vs = [.ref h] ∧ Hand H h ∧ ∀ H' t l P W ps, Keep h H H' → Hand H' h → Wd P W ps → H' t = some (.tup [.int P, .int W, .ref l]) → Dq H' (.ref l) (.list (ps.map prD)) → Q (.ref t) H'
section
variable {P : Program} {w : World} {K : PySem.W.Frag} {mg : Str → Option Value} {base : Heap}
theorem ok_law_picture (T : Txt K mg) : FnOk P w K mg base CX0 3 T.f_law_picture T.d_law_picture ["_law_hand_here"] sp_law_picture := by
  refine T.F_law_picture.ok sc_law_picture (fun vs H Q E h => ?_) (fun cdv A outer s H vs Q E hr h => ?_)
  · obtain ⟨h, rfl, _⟩ := h
    rfl
  · obtain ⟨h, rfl, hd, q⟩ := h
    refine ⟨_, (pss_cons (ps_set (i := 1) sc_law_picture.nd rfl (.inl rfl) (pe_call (ok_law_take T) (hr.mono (by decide)) (by rfl) T.g_law_take T.F_law_take.kp T.b_law_take .nil pass0 (pa_cons (pv 0) (pa_cons pe_int pa_nil))))
      (pss_cons (ps_if (pt_cmpR op_eq (pv 1) pe_int (nomark _))
        (pss_one (ps_ret (pe_tup (pa_cons pe_int (pa_cons pe_int (pa_cons (pe_call (ok_law_full T) (hr.mono (by decide)) (by rfl) T.g_law_full T.F_law_full.kp T.b_law_full .nil pass0 (pa_cons pe_int (pa_cons pe_int pa_nil))) pa_nil))))))
        pss_nil)
      (pss_cons (ps_if (pt_cmpR op_eq (pv 1) pe_int (nomark _))
        (pss_one (ps_ret (pe_tup (pa_cons pe_int (pa_cons pe_int (pa_cons (pe_call (ok_law_full T) (hr.mono (by decide)) (by rfl) T.g_law_full T.F_law_full.kp T.b_law_full .nil pass0 (pa_cons pe_int (pa_cons pe_int pa_nil))) pa_nil))))))
        pss_nil)
      (pss_cons (ps_if (pt_cmpR op_eq (pv 1) pe_int (nomark _))
        (pss_one (ps_ret (pe_tup (pa_cons pe_int (pa_cons pe_int (pa_cons (pe_call (ok_law_full T) (hr.mono (by decide)) (by rfl) T.g_law_full T.F_law_full.kp T.b_law_full .nil pass0 (pa_cons pe_int (pa_cons pe_int pa_nil))) pa_nil))))))
        pss_nil)
      (pss_cons (ps_if (pt_cmpR op_le (pv 1) pe_int (nomark _))
        (pss_one (ps_ret (pe_tup (pa_cons pe_int (pa_cons pe_int (pa_cons (pe_call (ok_law_full T) (hr.mono (by decide)) (by rfl) T.g_law_full T.F_law_full.kp T.b_law_full .nil pass0 (pa_cons pe_int (pa_cons pe_int pa_nil))) pa_nil))))))
        pss_nil)
      (pss_cons (ps_if (pt_cmpR op_eq (pv 1) pe_int (nomark _))
        (pss_one (ps_ret (pe_tup (pa_cons pe_int (pa_cons pe_int (pa_cons (pe_lc rfl sc_law_picture.nd (pi_list (pe_call (ok_law_full T) (hr.mono (by decide)) (by rfl) T.g_law_full T.F_law_full.kp T.b_law_full .nil pass0 (pa_cons pe_int (pa_cons pe_int pa_nil)))) (blkOk_by (own := [("_law_pair", 6)]) (N := ["_law_hand_here", "_law_pick", "_law_shut", "_law_shuts", "_law_pairs", "_law_k", "_law_pair"]) (sc := defScope s_law_picture) (by decide +kernel)) (fun _ _ _ _ _ => (pg_name (i := 6) sc_law_picture.nd rfl (.inl rfl))) (fun _ _ _ _ _ => (pts_one (pt_cmpR op_ne (pe_ix (show IxR _ (rIx K) from ix_seq) (pv 6) pe_int (fun _ _ => rfl)) (pe_ix (show IxR _ (rIx K) from ix_seq) (pv 6) pe_int (fun _ _ => rfl)) (nomark _)))) (fun _ _ _ _ _ => (pv 6))) pa_nil))))))
        pss_nil)
      (pss_cons (ps_if (pt_cmpR op_eq (pv 1) pe_int (nomark _))
        (pss_one (ps_ret (pe_tup (pa_cons pe_int (pa_cons pe_int (pa_cons (pe_lc rfl sc_law_picture.nd (pi_list (pe_call (ok_law_full T) (hr.mono (by decide)) (by rfl) T.g_law_full T.F_law_full.kp T.b_law_full .nil pass0 (pa_cons pe_int (pa_cons pe_int pa_nil)))) (blkOk_by (own := [("_law_pair", 6)]) (N := ["_law_hand_here", "_law_pick", "_law_shut", "_law_shuts", "_law_pairs", "_law_k", "_law_pair"]) (sc := defScope s_law_picture) (by decide +kernel)) (fun _ _ _ _ _ => (pg_name (i := 6) sc_law_picture.nd rfl (.inl rfl))) (fun _ _ _ _ _ => (pts_one (pt_cmpR (show OpR _ (compareOp .NotEq) (rNeD K) from op_neD hr.units) (pv 6) (pe_tup (pa_cons pe_int (pa_cons pe_int pa_nil))) (nomark _)))) (fun _ _ _ _ _ => (pv 6))) pa_nil))))))
        pss_nil)
      (pss_cons (ps_set (i := 2) sc_law_picture.nd rfl (.inr rfl) (pe_lc rfl sc_law_picture.nd (pi_range1 (by rfl) T.m_range (pa_cons pe_int pa_nil)) (blkOk_by (own := [("_law_k", 5)]) (N := ["_law_hand_here", "_law_pick", "_law_shut", "_law_shuts", "_law_pairs", "_law_k", "_law_pair"]) (sc := defScope s_law_picture) (by decide +kernel)) (fun _ _ _ _ _ => (pg_name (i := 5) sc_law_picture.nd rfl (.inl rfl))) (fun _ _ _ _ _ => pts_nil) (fun _ _ _ _ _ => (pe_call (ok_law_take T) (hr.mono (by decide)) (by rfl) T.g_law_take T.F_law_take.kp T.b_law_take .nil pass0 (pa_cons (pv 0) (pa_cons pe_int pa_nil))))))
      (pss_cons (ps_set (i := 3) sc_law_picture.nd rfl (.inl rfl) (pe_op op_add pe_int (pe_op op_mod (pe_callTy call_int1 (by rfl) T.m_int (by decide +kernel) (pa_cons (pv 1) pa_nil)) pe_int)))
      (pss_cons (ps_set (i := 4) sc_law_picture.nd rfl (.inr rfl) (pe_call (ok_law_full T) (hr.mono (by decide)) (by rfl) T.g_law_full T.F_law_full.kp T.b_law_full .nil pass0 (pa_cons pe_int (pa_cons (pv 3) pa_nil))))
      (pss_one (ps_ret (pe_tup (pa_cons pe_int (pa_cons (pv 3) (pa_cons (pe_lc rfl sc_law_picture.nd (pi_range1 (by rfl) T.m_range (pa_cons (pe_callB call_len_seq (by rfl) T.m_len (by decide +kernel) (pa_cons (pv 4) pa_nil)) pa_nil)) (blkOk_by (own := [("_law_k", 5)]) (N := ["_law_hand_here", "_law_pick", "_law_shut", "_law_shuts", "_law_pairs", "_law_k", "_law_pair"]) (sc := defScope s_law_picture) (by decide +kernel)) (fun _ _ _ _ _ => (pg_name (i := 5) sc_law_picture.nd rfl (.inl rfl))) (fun _ _ _ _ _ => (pts_one (pt_cmpR (show OpR _ (compareOp .NotIn) (rIn K true) from op_notIn_seq) (pv 5) (pv 2) rfl))) (fun _ _ _ _ _ => (pe_ix (show IxR _ (rIxL K) from ix_list) (pv 4) (pv 5) (fun _ _ => rfl)))) pa_nil)))))))))))))))), ?_⟩
    have fin : ∀ {P W : Int} {ps : List (Int × Int)} {H1 : Hp} {l : Addr}, Keep h H H1 → Hand H1 h → Wd P W ps → Dq H1 (.ref l) (.list (ps.map prD)) → [V.int P, V.int W, V.ref l].length ≤ sizeLine ∧ ∀ u, H1 u = none → Q (.ref u) (upd H1 u (.tup [.int P, .int W, .ref l])) := fun {P W ps H1 l} kp hd1 wd kl =>
      ⟨(by show 3 ≤ sizeLine; decide), fun u nu => q _ u l P W ps (kp.trans (Keep.of (same_new nu))) (hd1.same (same_new nu)) wd upd_same (kl.same (same_new nu))⟩
    refine ⟨_, rfl, h, 9, rfl, hd, by decide, by decide, fun H1 r k1 hd1 r0 r1 => ?_⟩
    refine ⟨_, rfl, rfl, _, rfl, ?_⟩
    rw [int_dec]
    by_cases c0 : r = 0
    · rw [decide_eq_true c0]
      exact iteT ⟨2, 2, rfl, by decide, by decide, by decide, by decide, fun l H2 s2 nl kl => fin (k1.trans (Keep.of s2)) (hd1.same s2) (wd_full (P := 2) (W := 2) (by decide) (by decide) (by decide) (by decide)) kl⟩
    rw [decide_eq_false c0]
    refine iteF ⟨_, rfl, rfl, _, rfl, ?_⟩
    rw [int_dec]
    by_cases c1 : r = 1
    · rw [decide_eq_true c1]
      exact iteT ⟨2, 3, rfl, by decide, by decide, by decide, by decide, fun l H2 s2 nl kl => fin (k1.trans (Keep.of s2)) (hd1.same s2) (wd_full (P := 2) (W := 3) (by decide) (by decide) (by decide) (by decide)) kl⟩
    rw [decide_eq_false c1]
    refine iteF ⟨_, rfl, rfl, _, rfl, ?_⟩
    rw [int_dec]
    by_cases c2 : r = 2
    · rw [decide_eq_true c2]
      exact iteT ⟨3, 2, rfl, by decide, by decide, by decide, by decide, fun l H2 s2 nl kl => fin (k1.trans (Keep.of s2)) (hd1.same s2) (wd_full (P := 3) (W := 2) (by decide) (by decide) (by decide) (by decide)) kl⟩
    rw [decide_eq_false c2]
    refine iteF ⟨_, rfl, _, _, rfl, rfl, _, rfl, ite2 (fun c3 => ?_) (fun c3 => ?_)⟩
    · exact ⟨3, 3, rfl, by decide, by decide, by decide, by decide, fun l H2 s2 nl kl => fin (k1.trans (Keep.of s2)) (hd1.same s2) (wd_full (P := 3) (W := 3) (by decide) (by decide) (by decide) (by decide)) kl⟩
    refine ⟨_, rfl, rfl, _, rfl, ?_⟩
    rw [int_dec]
    by_cases c5 : r = 5
    · rw [decide_eq_true c5]
      refine iteT ⟨4, 4, rfl, by decide, by decide, by decide, by decide, fun l H2 s2 nl kl => ?_⟩
      cases kl with
      | lst e t =>
        refine ⟨l, rfl, ⟨_, SqL.of e⟩, fun D nD => lc_listD (fun d => decide ((prOf d).1 ≠ (prOf d).2)) id (SqL.of e) t nD (by rw [List.length_map, fullPs_len]; decide) (fun _ => rfl) (fun i x d H' Q' hd' s' k' q' => ?_) (fun i x d H' Q' hd' _ s' k' acc q' => ?_) (fun H' s' kD => ?_)⟩
        · rw [List.getElem?_map] at hd'
          obtain ⟨p, _, rfl⟩ := Option.map_eq_some_iff.mp hd'
          obtain ⟨_, tt, rfl, ht⟩ := prV_of k'
          refine ⟨_, rfl, .inr (.inl ⟨tt, _, 0, .int p.1, rfl, rfl, SqT.of ht, rfl, _, rfl, .inr (.inl ⟨tt, _, 1, .int p.2, rfl, rfl, SqT.of ht, rfl, rfl, _, rfl, ?_⟩)⟩)⟩
          rw [int_dec]
          have := q' _ (fun _ _ z => z)
          rw [show (decide ((prOf (prD p)).1 ≠ (prOf (prD p)).2)) = !decide (p.1 = p.2) from decide_not] at this
          exact this
        · rw [List.getElem?_map] at hd'
          obtain ⟨p, _, rfl⟩ := Option.map_eq_some_iff.mp hd'
          obtain ⟨acc, ha⟩ := acc
          exact ⟨_, rfl, q' _ _ (fun _ _ z => z) (dq_noL ha _ rfl k')⟩
        · have kD' : Dq H' (.ref D) (.list (((fullPs (Int.toNat 4) (Int.toNat 4)).filter fun p => decide (p.1 ≠ p.2)).map prD)) := by
            rw [← filt_pr]
            exact kD
          refine fin (k1.trans (Keep.of (s2.trans s'))) (hd1.same (s2.trans s')) (wd_sub (wd_full (P := 4) (W := 4) (by decide) (by decide) (by decide) (by decide)) List.filter_sublist ?_) kD'
          decide
    rw [decide_eq_false c5]
    refine iteF ⟨_, rfl, rfl, _, rfl, ?_⟩
    rw [int_dec]
    by_cases c6 : r = 6
    · rw [decide_eq_true c6]
      refine iteT ⟨3, 3, rfl, by decide, by decide, by decide, by decide, fun l H2 s2 nl kl => ?_⟩
      cases kl with
      | lst e t =>
        refine ⟨l, rfl, ⟨_, SqL.of e⟩, fun D nD => lc_listD (fun d => decide (prOf d ≠ (2, 2))) id (SqL.of e) t nD (by rw [List.length_map, fullPs_len]; decide) (fun _ => rfl) (fun i x d H' Q' hd' s' k' q' => ?_) (fun i x d H' Q' hd' _ s' k' acc q' => ?_) (fun H' s' kD => ?_)⟩
        · rw [List.getElem?_map] at hd'
          obtain ⟨p, _, rfl⟩ := Option.map_eq_some_iff.mp hd'
          refine ⟨_, rfl, (by show 2 ≤ sizeLine; decide), fun u nu => ⟨_, prD (2, 2), (k'.same (same_new nu)).dp, (Dq.tup upd_same (.cons (.int _) (.cons (.int _) .nil))).dp, shaped_pr p, shaped_pr _, _, rfl, ?_⟩⟩
          rw [eqv_pr]
          have := q' _ (same_new (o := .tup [.int 2, .int 2]) nu)
          rw [show (decide (prOf (prD p) ≠ (2, 2))) = !decide (p = (2, 2)) from decide_not] at this
          exact this
        · rw [List.getElem?_map] at hd'
          obtain ⟨p, _, rfl⟩ := Option.map_eq_some_iff.mp hd'
          obtain ⟨acc, ha⟩ := acc
          exact ⟨_, rfl, q' _ _ (fun _ _ z => z) (dq_noL ha _ rfl k')⟩
        · have kD' : Dq H' (.ref D) (.list (((fullPs (Int.toNat 3) (Int.toNat 3)).filter fun p => decide (p ≠ (2, 2))).map prD)) := by
            rw [← filt_pr]
            exact kD
          refine fin (k1.trans (Keep.of (s2.trans s'))) (hd1.same (s2.trans s')) (wd_sub (wd_full (P := 3) (W := 3) (by decide) (by decide) (by decide) (by decide)) List.filter_sublist ?_) kD'
          decide
    rw [decide_eq_false c6]
    refine iteF ?_
    refine ⟨3, rfl, by decide, by decide, fun D nD => ?_⟩
    refine lc_range (n := 3) (fun i H' => ∃ zs : List Int, zs.length = i ∧ Keep h H1 H' ∧ Hand H' h ∧ H' D = some (.lst (zs.map V.int))) ⟨[], rfl, Keep.putD hd1 nD Keep.refl, Hand.putD hd1 nD Keep.refl hd1, upd_same⟩ (fun i H' hi hP => ?_) (fun H' hP => ?_)
    · obtain ⟨zs, lz, k', hd', hD⟩ := hP
      refine ⟨rfl, _, rfl, h, 12, rfl, hd', by decide, by decide, fun H2 z k2 hd2 z0 z1 => ?_⟩
      have nh := hand_ne hd1 nD
      have hD2 := k2 _ _ nh hD
      refine ⟨_, hD2, by rw [List.length_map]; exact small1000 (by omega), zs ++ [z], by rw [List.length_append, lz]; rfl, Keep.putD hd1 nD (k'.trans k2), Hand.putD hd1 nD (k'.trans k2) hd2, ?_⟩
      rw [upd_same, List.map_append]
      rfl
    · obtain ⟨zs, lz, k', hd', hD⟩ := hP
      have c3' : ¬ r ≤ 4 := fun z => c3 (decide_eq_true z)
      refine ⟨_, rfl, .inl ⟨_, rfl, _, _, rfl, rfl, (by show (0 : Int) < _; decide), _, _, rfl, rfl, ?_⟩⟩
      refine ⟨_, rfl, 3, 3 + r % 2, rfl, by decide, by decide, by omega, by omega, fun l H2 s2 nl kl => ?_⟩
      have hD2 := s2 _ _ hD
      have wd : Wd 3 (3 + r % 2) (fullPs (Int.toNat 3) (3 + r % 2).toNat) := wd_full (by decide) (by decide) (by omega) (by omega)
      have ln : (fullPs (Int.toNat 3) (3 + r % 2).toNat).length = 3 * (3 + r % 2).toNat := fullPs_len _ _
      generalize fullPs (Int.toNat 3) (3 + r % 2).toNat = fs at kl wd ln
      have kk := k'.trans (Keep.of s2)
      have hd2 := hd'.same s2
      cases kl with
      | lst e t =>
        rename_i fx
        have lx : fx.length = fs.length := by rw [t.len, List.length_map]
        refine ⟨_, rfl, _, rfl, l, fx, rfl, .inl (SqL.of e), _, rfl, by omega, by omega, fun D2 nD2 => ?_⟩
        refine lc_rngD (fun k => !inV (.int (k : Int)) (zs.map V.int)) (fun k => prD (pe fs k)) nD2 (by omega) (fun _ => rfl) (fun k H3 Q3 hk s3 q3 => ?_) (fun k H3 Q3 hk _ s3 acc q3 => ?_) (fun H3 s3 kD => ?_)
        · refine ⟨_, rfl, _, rfl, D, _, rfl, .inl (SqL.of (s3 _ _ hD2)), rfl, ?_, _, rfl, ?_⟩
          · rw [List.all_eq_true]
            intro y hy
            obtain ⟨z, _, rfl⟩ := List.mem_map.mp hy
            rfl
          · rw [Int.zero_add]
            exact q3 _ fun _ _ z => z
        · have hk' : k < fs.length := by omega
          obtain ⟨y, hy⟩ : ∃ y, fx[k]? = some y := ⟨_, List.getElem?_eq_getElem (by omega)⟩
          obtain ⟨d, h1, h2⟩ := t.get hy
          rw [List.getElem?_map, pe_at hk'] at h1
          cases h1
          obtain ⟨acc, ha⟩ := acc
          refine ⟨_, rfl, _, rfl, l, fx, (k : Int), y, rfl, by rw [Int.zero_add], SqL.of (s3 _ _ e), at_of (j := k) (by omega) hy, ?_⟩
          exact q3 _ _ (fun _ _ z => z) (dq_noL ha _ rfl (h2.same s3))
        · have ej : ((fx.length : Int)).toNat = fs.length := by omega
          rw [ej] at kD
          have kD' : Dq H3 (.ref D2) (.list ((((List.range fs.length).filter fun (k : Nat) => !inV (.int (k : Int)) (zs.map V.int)).map (pe fs)).map prD)) := by
            rw [List.map_map]
            exact kD
          refine fin ((k1.trans kk).trans (Keep.of s3)) (hd2.same s3) (wd_sub wd (rng_sub _ _) ?_) kD'
          have := shut_len fs.length zs
          rw [List.length_map]
          omega
end
end K03
set_option Elab.async false
set_option linter.all false
set_option maxRecDepth 100000
set_option maxHeartbeats 4000000
set_option exponentiation.threshold 5000
namespace K03
open PySem PySem.Spec PyProof.Rows L2 TkS
/-! tree places -/
def natL (T : List Nat) : List V := T.map fun (k : Nat) => V.int (k : Int)
def natD (T : List Nat) : List PyData := T.map fun (k : Nat) => PyData.int (k : Int)
theorem dq_nat {H : Hp} (T : List Nat) : DqAll H (natL T) (natD T) := dq_ints (fun (k : Nat) => (k : Int)) T
theorem natL_len (T : List Nat) : (natL T).length = T.length := List.length_map _
def sp_law_tree : Sp := fun vs H Q _ => ∃ (P W : Int) (l : Addr) (ps : List (Int × Int)), vs = [.int P, .int W, .ref l] ∧ Wq P W ps ∧ Dq H (.ref l) (.list (ps.map prD)) ∧
  ∀ H' t a b, Same H H' → H' t = some (.lst [.ref a, .ref b]) → H' a = some (.lst (natL (trees P W ps ps.length).1)) → H' b = some (.lst (natL (trees P W ps ps.length).2)) → H a = none → H b = none → Q (.ref t) H'
theorem lst_prs {H : Hp} {l : Addr} {ps : List (Int × Int)} (k : Dq H (.ref l) (.list (ps.map prD))) : ∃ xs, H l = some (.lst xs) ∧ DqAll H xs (ps.map prD) ∧ xs.length = ps.length := by
  cases k with
  | lst e t => exact ⟨_, e, t, by rw [t.len, List.length_map]⟩
theorem pr_at {H : Hp} {xs : List V} {ps : List (Int × Int)} {k : Nat} (t : DqAll H xs (ps.map prD)) (hk : k < ps.length) : ∃ a, xs[k]? = some (.ref a) ∧ H a = some (.tup [.int (pe ps k).1, .int (pe ps k).2]) := by
  have lx : xs.length = ps.length := by rw [t.len, List.length_map]
  obtain ⟨y, hy⟩ : ∃ y, xs[k]? = some y := ⟨_, List.getElem?_eq_getElem (by omega)⟩
  obtain ⟨a, p, rfl, hp, ha⟩ := pr_items t hy
  rw [pe_at hk] at hp
  cases hp
  exact ⟨a, hy, ha⟩
/-- pairs[k][0], pairs[k][1] -/
theorem ix_pr {K : PySem.W.Frag} {H : Hp} {a : Addr} {x y : V} {Q : VK} (ha : H a = some (.tup [x, y])) : (Q x H → rIx K (.ref a) (.int 0) H Q) ∧ (Q y H → rIx K (.ref a) (.int 1) H Q) :=
  ⟨fun q => .inr (.inl ⟨a, _, 0, x, rfl, rfl, SqT.of ha, rfl, q⟩), fun q => .inr (.inl ⟨a, _, 1, y, rfl, rfl, SqT.of ha, rfl, q⟩)⟩
theorem map_natD (ps : List (Int × Int)) (T : List Nat) : ((natD T).filter fun _ => true).map (fun d => prD (pe ps (intD d).toNat)) = (T.map (pe ps)).map prD := by
  unfold natD
  rw [List.filter_eq_self.mpr fun _ _ => rfl, List.map_map, List.map_map]
  rfl
theorem natD_at {T : List Nat} {i : Nat} {d : PyData} (h : (natD T)[i]? = some d) : ∃ k, T[i]? = some k ∧ d = .int (k : Int) := by
  unfold natD at h
  rw [List.getElem?_map] at h
  obtain ⟨k, hk, e⟩ := Option.map_eq_some_iff.mp h
  exact ⟨k, hk, e.symm⟩
theorem trees_len (P W : Int) (ps : List (Int × Int)) (n : Nat) : (trees P W ps n).1.length + (trees P W ps n).2.length = n := by
  have hs := (trees_inv P W ps n).sum fun _ => 1
  have cnt : ∀ l : List Nat, S l (fun _ => 1) = (l.length : Int) := fun l => by
    induction l with
    | nil => rfl
    | cons x l ih =>
      rw [S_cons, ih, List.length_cons]
      omega
  rw [cnt, cnt, cnt, List.length_range] at hs
  omega
section
variable {P : Program} {w : World} {K : PySem.W.Frag} {mg : Str → Option Value} {base : Heap}
theorem ok_law_tree (T : Txt K mg) : FnOk P w K mg base CX0 2 T.f_law_tree T.d_law_tree ["_law_points", "_law_shuts", "_law_pairs"] sp_law_tree := by
  refine T.F_law_tree.ok sc_law_tree (fun vs H Q E h => ?_) (fun cdv A outer s H vs Q E hr h => ?_)
  · obtain ⟨P', W, l, ps, rfl, _⟩ := h
    rfl
  · obtain ⟨P', W, l, ps, rfl, wd, kl, q⟩ := h
    refine ⟨_, (pss_cons (ps_set (i := 3) sc_law_tree.nd rfl (.inl rfl) (pe_lst pa_nil))
      (pss_cons (ps_set (i := 4) sc_law_tree.nd rfl (.inl rfl) (pe_lst pa_nil))
      (pss_cons (ps_for PassesOwn.never rfl (pi_range1 (by rfl) T.m_range (pa_cons (pe_callB call_len_seq (by rfl) T.m_len (by decide +kernel) (pa_cons (pv 2) pa_nil)) pa_nil)) (pg_name (i := 5) sc_law_tree.nd rfl (.inl rfl))
        (pss_cons (ps_set (i := 6) sc_law_tree.nd rfl (.inl rfl) (pe_call (ok_law_marks T) (hr.mono (by decide)) (by rfl) T.g_law_marks T.F_law_marks.kp T.b_law_marks .nil pass0 (pa_cons (pv 0) (pa_cons (pv 1) (pa_cons (pe_lc rfl sc_law_tree.nd (pi_seq (pv 3)) (blkOk_by (own := [("_law_j", 7)]) (N := ["_law_points", "_law_shuts", "_law_pairs", "_law_tree_here", "_law_rest", "_law_k", "_law_marks_here", "_law_j"]) (sc := defScope s_law_tree) (by decide +kernel)) (fun _ _ _ _ _ => (pg_name (i := 7) sc_law_tree.nd rfl (.inl rfl))) (fun _ _ _ _ _ => pts_nil) (fun _ _ _ _ _ => (pe_ix (show IxR _ (rIxL K) from ix_list) (pv 2) (pv 7) (fun _ _ => rfl)))) pa_nil)))))
        (pss_one (ps_if (pt_cmpR op_ne (pe_ix ix_list (pv 6) (pe_ix ix_seq (pe_ix ix_list (pv 2) (pv 5) (fun _ _ => rfl)) pe_int (fun _ _ => rfl)) (fun _ _ => rfl)) (pe_ix ix_list (pv 6) (pe_op op_add (pv 0) (pe_ix ix_seq (pe_ix ix_list (pv 2) (pv 5) (fun _ _ => rfl)) pe_int (fun _ _ => rfl))) (fun _ _ => rfl)) (nomark _))
          (pss_one (ps_expr (pe_bm PySem.F.plainAttrs_list PySem.F.slot_list_append PySem.F.type_list_append mt_append (pv 3) (pa_cons (pv 5) pa_nil))))
          (pss_one (ps_expr (pe_bm PySem.F.plainAttrs_list PySem.F.slot_list_append PySem.F.type_list_append mt_append (pv 4) (pa_cons (pv 5) pa_nil))))))))
      (pss_one (ps_ret (pe_lst (pa_cons (pv 3) (pa_cons (pv 4) pa_nil)))))))), ?_⟩
    obtain ⟨fx, el, tl, lx⟩ := lst_prs kl
    have l16 := wd.len25
    have p1 := wd.p1
    have w1 := wd.w1
    have p0 := wd.p0
    have w0 := wd.w0
    refine ⟨Nat.zero_le _, fun ta na => ⟨Nat.zero_le _, fun tb nb => ?_⟩⟩
    have sa : Same H (upd H ta (.lst [])) := same_new na
    have nbH : H tb = none := sa.free nb
    have ab : tb ≠ ta := fun z => by
      rw [z, upd_same] at nb
      cases nb
    have sab : Same H (upd (upd H ta (.lst [])) tb (.lst [])) := sa.trans (same_new nb)
    refine ⟨_, rfl, l, fx, rfl, .inl (SqL.of (sab _ _ el)), _, rfl, by omega, by omega, ?_⟩
    rw [show ((fx.length : Int)).toNat = ps.length by omega]
    refine for_range (fun i σ H' => ∃ y5 y6, σ = [some (.int P'), some (.int W), some (.ref l), some (.ref ta), some (.ref tb), y5, y6, none] ∧ Same H H' ∧ H' ta = some (.lst (natL (trees P' W ps i).1)) ∧ H' tb = some (.lst (natL (trees P' W ps i).2)))
      ⟨none, none, rfl, sab, by rw [upd_ne ab.symm, upd_same]; rfl, upd_same⟩ (fun i σ H' hi hP => ?_) (fun σ H' hP => ?_)
    · obtain ⟨y5, y6, rfl, sm, ea, eb⟩ := hP
      have I := trees_inv P' W ps i
      have tlen := trees_len P' W ps i
      have tstep : trees P' W ps (i + 1) = if (marks P' W ((trees P' W ps i).1.map (pe ps))).getD (eu (pe ps i)) 0 = (marks P' W ((trees P' W ps i).1.map (pe ps))).getD (ev P' (pe ps i)) 0 then ((trees P' W ps i).1, (trees P' W ps i).2 ++ [i]) else ((trees P' W ps i).1 ++ [i], (trees P' W ps i).2) := rfl
      generalize (trees P' W ps i).1 = T1 at I tlen ea tstep
      generalize (trees P' W ps i).2 = R1 at I tlen eb tstep
      refine ⟨_, rfl, _, rfl, lc_seqD (a := ta) (ds := natD T1) (fun _ => true) (fun d => prD (pe ps (intD d).toNat)) (fun Q h => ⟨_, rfl, h⟩) (.inl (SqL.of ea)) (dq_nat T1) (by unfold natD; rw [List.length_map]; omega) (fun _ => rfl) (fun j x d H2 Q2 _ _ _ q2 => q2 _ fun _ _ z => z) (fun D j x d H2 Q2 nD hd _ s2 kd hD q2 => ?_) (fun D H2 nD s2 kD => ?_)⟩
      · obtain ⟨k, hk, rfl⟩ := natD_at hd
        cases kd
        have hk' : k < ps.length := Nat.lt_trans (I.lt k (List.mem_of_getElem? hk)) hi
        obtain ⟨b, hb, tb'⟩ := pr_at tl hk'
        obtain ⟨acc, hacc⟩ := hD
        have sH := sm.trans s2
        refine ⟨_, rfl, _, rfl, l, fx, (k : Int), .ref b, rfl, rfl, SqL.of (sH _ _ el), at_of (j := k) (by omega) hb, ?_⟩
        refine q2 _ _ (fun _ _ z => z) (dq_noL hacc _ rfl ?_)
        exact .tup (sH _ _ tb') (.cons (.int _) (.cons (.int _) .nil))
      · rw [map_natD] at kD
        obtain ⟨zx, ez, tz, _⟩ := lst_prs kD
        have insT : Ins P' W (T1.map (pe ps)) := fun p hp => by
          obtain ⟨k, hk, rfl⟩ := List.mem_map.mp hp
          exact wd.ins _ (pe_mem (Nat.lt_trans (I.lt k hk) hi))
        refine ⟨P', W, D, zx, T1.map (pe ps), rfl, by omega, by omega, by omega, SqL.of ez, tz, insT, fun H3 m s3 hm => ?_⟩
        have s13 := s2.trans s3
        have s03 := sm.trans s13
        obtain ⟨b, hb, tb'⟩ := pr_at tl hi
        have tb3 := s03 _ _ tb'
        have be := ins_ends wd.ins _ (pe_mem hi)
        obtain ⟨b1, b2, b3, b4⟩ := wd.ins _ (pe_mem hi)
        refine ⟨_, rfl, _, rfl, _, rfl, l, fx, (i : Int), .ref b, rfl, by rw [Int.zero_add], SqL.of (s03 _ _ el), at_of (j := i) (by omega) hb, (ix_pr tb3).1 ?_⟩
        refine ⟨m, _, (pe ps i).1, _, rfl, rfl, SqL.of hm, ix_at b1 (by rw [marks_len]; omega), ?_⟩
        refine ⟨_, rfl, _, rfl, _, rfl, _, rfl, l, fx, (i : Int), .ref b, rfl, by rw [Int.zero_add], SqL.of (s03 _ _ el), at_of (j := i) (by omega) hb, (ix_pr tb3).2 ?_⟩
        refine ⟨P', (pe ps i).2, rfl, rfl, m, _, P' + (pe ps i).2, _, rfl, rfl, SqL.of hm, ix_at (by omega) (by rw [marks_len]; omega), ?_⟩
        refine ⟨rfl, _, rfl, ?_⟩
        rw [int_dec]
        have ea3 := s13 _ _ ea
        have eb3 := s13 _ _ eb
        by_cases c : (marks P' W (T1.map (pe ps))).getD (eu (pe ps i)) 0 = (marks P' W (T1.map (pe ps))).getD (ev P' (pe ps i)) 0
        · rw [decide_eq_true (show (marks P' W (T1.map (pe ps))).getD (pe ps i).1.toNat 0 = (marks P' W (T1.map (pe ps))).getD (P' + (pe ps i).2).toNat 0 from c)]
          rw [if_pos c] at tstep
          refine iteF ⟨_, rfl, .inl ⟨rfl, _, SqL.of eb3⟩, _, rfl, tb, natL R1, _, rfl, rfl, eb3, small1000 (by rw [natL_len]; omega), ?_⟩
          refine ⟨_, _, rfl, fun b o e => ?_, ?_, ?_⟩
          · rw [upd_ne (ne_of_none e nbH)]
            exact s03 _ _ e
          · rw [upd_ne ab.symm, tstep]
            exact ea3
          · rw [upd_same, tstep]
            show some (HO.lst (natL R1 ++ [V.int (0 + (i : Int))])) = _
            rw [Int.zero_add]
            unfold natL
            rw [List.map_append]
            rfl
        · rw [decide_eq_false (show ¬ (marks P' W (T1.map (pe ps))).getD (pe ps i).1.toNat 0 = (marks P' W (T1.map (pe ps))).getD (P' + (pe ps i).2).toNat 0 from c)]
          rw [if_neg c] at tstep
          refine iteT ⟨_, rfl, .inl ⟨rfl, _, SqL.of ea3⟩, _, rfl, ta, natL T1, _, rfl, rfl, ea3, small1000 (by rw [natL_len]; omega), ?_⟩
          refine ⟨_, _, rfl, fun b o e => ?_, ?_, ?_⟩
          · rw [upd_ne (ne_of_none e na)]
            exact s03 _ _ e
          · rw [upd_same, tstep]
            show some (HO.lst (natL T1 ++ [V.int (0 + (i : Int))])) = _
            rw [Int.zero_add]
            unfold natL
            rw [List.map_append]
            rfl
          · rw [upd_ne ab, tstep]
            exact eb3
    · obtain ⟨y5, y6, rfl, sm, ea, eb⟩ := hP
      refine ⟨_, rfl, _, rfl, (by show 2 ≤ sizeLine; decide), fun u nu => ?_⟩
      have su := same_new (o := .lst [.ref ta, .ref tb]) nu
      exact q _ u ta tb (sm.trans su) upd_same (su _ _ ea) (su _ _ eb) na nbH
end
end K03
set_option Elab.async false
set_option linter.all false
set_option maxRecDepth 100000
set_option maxHeartbeats 4000000
set_option exponentiation.threshold 5000
namespace K03
open PySem PySem.Spec PyProof.Rows L2 TkS
def rListD : List V → Hp → VK → Prop := fun xs H Q => ∃ x d ds, xs = [x] ∧ Dq H x d ∧ itemsD d = some ds ∧ ∀ l H', Same H H' → H l = none → Dq H' (.ref l) (.list ds) → Q (.ref l) H'
theorem call_listD {X : Cx} : CallR X (.type "list") rListD := by
  intro pins s σ H vs us Q I r h
  refine call_list_of pins s σ H vs us Q I r ?_
  obtain ⟨x, d, ds, rfl, k, e, q⟩ := h
  cases k with
  | lst h1 h2 =>
    cases e
    exact ⟨_, _, rfl, .inl (SqL.of h1), fun l nl => q l _ (same_new nl) nl (.lst upd_same (DqAll.same (same_new nl) _ h2))⟩
  | tup h1 h2 =>
    cases e
    exact ⟨_, _, rfl, .inr (SqT.of h1), fun l nl => q l _ (same_new nl) nl (.lst upd_same (DqAll.same (same_new nl) _ h2))⟩
  | _ => cases e
/-! the tour by its numbers at the other places -/
theorem puts_snoc (l : List Int) (q : List (Nat × Int)) (p : Nat × Int) : puts l (q ++ [p]) = (puts l q).set p.1 p.2 := by
  unfold puts
  rw [List.foldl_append]
  rfl
theorem cut_val (a b : Bool) (t : Int) : (if a = true then (1 : Int) else 0) - (if b = true then 1 else 0) = 0 ∨ True := .inr trivial
theorem cut_step {P W : Int} {ps : List (Int × Int)} {T : List Nat} {k j : Nat} {t : Int} {a b : Bool} (ea : inSide P W ps T k (eu (pe ps j)) = a) (eb : inSide P W ps T k (ev P (pe ps j)) = b) : t * cut P W ps T k j = (if a = true then (if b = true then 0 else t) else (if b = true then -t else 0)) := by
  unfold cut
  rw [ea, eb]
  cases a <;> cases b <;> simp
theorem natD_filter (ps : List (Int × Int)) (T : List Nat) (k : Nat) : ((natD T).filter fun d => decide (intD d ≠ (k : Int))).map (fun d => prD (pe ps (intD d).toNat)) = ((T.filter fun j => decide (j ≠ k)).map (pe ps)).map prD := by
  unfold natD
  rw [List.filter_map, List.map_map, List.map_map]
  have : ((fun d => decide (intD d ≠ (k : Int))) ∘ fun (j : Nat) => PyData.int (j : Int)) = fun j => decide (j ≠ k) := by
    funext j
    show decide ((j : Int) ≠ (k : Int)) = decide (j ≠ k)
    exact decide_eq_decide.mpr (by omega)
  rw [this]
  rfl
def sp_law_tour_of : Sp := fun vs H Q _ => ∃ (P W : Int) (l r : Addr) (ps : List (Int × Int)) (row : List Int), vs = [.int P, .int W, .ref l, .ref r] ∧ Wq P W ps ∧ Dq H (.ref l) (.list (ps.map prD)) ∧ H r = some (.lst (row.map V.int)) ∧ row.length = (trees P W ps ps.length).2.length ∧
  ∀ H' t, Same H H' → H' t = some (.tup ((tourOf P W ps row).map V.int)) → Q (.ref t) H'
section
variable {P : Program} {w : World} {K : PySem.W.Frag} {mg : Str → Option Value} {base : Heap}
theorem ok_law_tour_of (T : Txt K mg) : FnOk P w K mg base CX0 3 T.f_law_tour_of T.d_law_tour_of ["_law_points", "_law_shuts", "_law_pairs", "_law_row"] sp_law_tour_of := by
  refine T.F_law_tour_of.ok sc_law_tour_of (fun vs H Q E h => ?_) (fun cdv A outer s H vs Q E hr h => ?_)
  · obtain ⟨P', W, l, r, ps, row, rfl, _⟩ := h
    rfl
  · obtain ⟨P', W, l, r, ps, row, rfl, wd, kl, er, lrow, q⟩ := h
    refine ⟨_, (pss_cons (ps_asg (pe_call (ok_law_tree T) (hr.mono (by decide)) (by rfl) T.g_law_tree T.F_law_tree.kp T.b_law_tree .nil pass0 (pa_cons (pv 0) (pa_cons (pv 1) (pa_cons (pv 2) pa_nil)))) (pg_unl rfl (pgs_cons (pg_name (i := 4) sc_law_tour_of.nd rfl (.inl rfl)) (pgs_cons (pg_name (i := 5) sc_law_tour_of.nd rfl (.inl rfl)) pgs_nil))))
      (pss_cons (ps_set (i := 6) sc_law_tour_of.nd rfl (.inl rfl) (pe_op op_rep (pe_lst (pa_cons pe_int pa_nil)) (pe_callB call_len_seq (by rfl) T.m_len (by decide +kernel) (pa_cons (pv 2) pa_nil))))
      (pss_cons (ps_for PassesOwn.never rfl (RZM.pi_zipS (by rfl) T.m_zip (pa_cons (pv 5) (pa_cons (pv 3) pa_nil))) (pg_tup rfl (pgs_cons (pg_name (i := 7) sc_law_tour_of.nd rfl (.inr rfl)) (pgs_cons (pg_name (i := 8) sc_law_tour_of.nd rfl (.inl rfl)) pgs_nil)))
        (pss_one (ps_asg (pv 8) (pg_sub (pv 6) (pv 7) set_list))))
      (pss_cons (ps_set (i := 9) sc_law_tour_of.nd rfl (.inl rfl) (pe_callTy call_listD (by rfl) T.m_list (by decide +kernel) (pa_cons (pv 6) pa_nil)))
      (pss_cons (ps_for PassesOwn.never rfl (pi_list (pv 4)) (pg_name (i := 7) sc_law_tour_of.nd rfl (.inr rfl))
        (pss_cons (ps_set (i := 11) sc_law_tour_of.nd rfl (.inl rfl) (pe_call (ok_law_marks T) (hr.mono (by decide)) (by rfl) T.g_law_marks T.F_law_marks.kp T.b_law_marks .nil pass0 (pa_cons (pv 0) (pa_cons (pv 1) (pa_cons (pe_lc rfl sc_law_tour_of.nd (pi_seq (pv 4)) (blkOk_by (own := [("_law_j", 10)]) (N := ["_law_points", "_law_shuts", "_law_pairs", "_law_row", "_law_tree_here", "_law_rest", "_law_told", "_law_k", "_law_number", "_law_due", "_law_j", "_law_marks_here", "_law_side", "_law_total", "_law_here", "_law_there"]) (sc := defScope s_law_tour_of) (by decide +kernel)) (fun _ _ _ _ _ => (pg_name (i := 10) sc_law_tour_of.nd rfl (.inl rfl))) (fun _ _ _ _ _ => (pts_one (pt_cmpR op_ne (pv 10) (pv 7) (nomark _)))) (fun _ _ _ _ _ => (pe_ix (show IxR _ (rIxL K) from ix_list) (pv 2) (pv 10) (fun _ _ => rfl)))) pa_nil)))))
        (pss_cons (ps_set (i := 12) sc_law_tour_of.nd rfl (.inl rfl) (pe_ix ix_list (pv 11) (pe_ix ix_seq (pe_ix ix_list (pv 2) (pv 7) (fun _ _ => rfl)) pe_int (fun _ _ => rfl)) (fun _ _ => rfl)))
        (pss_cons (ps_set (i := 13) sc_law_tour_of.nd rfl (.inl rfl) pe_int)
        (pss_cons (ps_for PassesOwn.never rfl (pi_seq (pv 5)) (pg_name (i := 10) sc_law_tour_of.nd rfl (.inl rfl))
          (pss_cons (ps_set (i := 14) sc_law_tour_of.nd rfl (.inl rfl) (pe_cmpR op_eq (pe_ix ix_list (pv 11) (pe_ix ix_seq (pe_ix ix_list (pv 2) (pv 10) (fun _ _ => rfl)) pe_int (fun _ _ => rfl)) (fun _ _ => rfl)) (pv 12) (nomark _)))
          (pss_cons (ps_set (i := 15) sc_law_tour_of.nd rfl (.inl rfl) (pe_cmpR op_eq (pe_ix ix_list (pv 11) (pe_op op_add (pv 0) (pe_ix ix_seq (pe_ix ix_list (pv 2) (pv 10) (fun _ _ => rfl)) pe_int (fun _ _ => rfl))) (fun _ _ => rfl)) (pv 12) (nomark _)))
          (Evl.pss_cut (ps_if (PW.pt (pw_and (pt_truth (pv 14) (by intro _; rfl)) (pw_and1 (pt_not (pt_truth (pv 15) (by intro _; rfl))))))
            (pss_one (ps_set (i := 13) sc_law_tour_of.nd rfl (.inl rfl) (pe_op op_add (pv 13) (pe_ix ix_list (pv 6) (pv 10) (fun _ _ => rfl)))))
            pss_nil)
          (pss_one (ps_if (PW.pt (pw_and (pt_truth (pv 15) (by intro _; rfl)) (pw_and1 (pt_not (pt_truth (pv 14) (by intro _; rfl))))))
            (pss_one (ps_set (i := 13) sc_law_tour_of.nd rfl (.inl rfl) (pe_op op_sub (pv 13) (pe_ix ix_list (pv 6) (pv 10) (fun _ _ => rfl)))))
            pss_nil))))))
        (pss_one (ps_asg (pe_op op_sub pe_int (pv 13)) (pg_sub (pv 9) (pv 7) set_list))))))))
      (pss_one (ps_ret (pe_callTy call_tuple_of (by rfl) T.m_tuple (by decide +kernel) (pa_cons (pv 9) pa_nil))))))))), ?_⟩
    obtain ⟨fx, el, tl, lx⟩ := lst_prs kl
    have l16 := wd.len25
    have p1 := wd.p1
    have w1 := wd.w1
    have p0 := wd.p0
    have w0 := wd.w0
    refine ⟨_, rfl, _, rfl, _, rfl, P', W, l, ps, rfl, wd, kl, fun H1 t ta tb s1 et ea eb na nb => ?_⟩
    have I := trees_inv P' W ps ps.length
    have tlen := trees_len P' W ps ps.length
    have td : tourOf P' W ps row = dueL P' W ps (trees P' W ps ps.length).1 (trees P' W ps ps.length).2 (toldL ps.length (trees P' W ps ps.length).2 row) := rfl
    generalize (trees P' W ps ps.length).1 = T1 at I tlen ea td
    generalize (trees P' W ps ps.length).2 = R1 at I tlen eb td lrow
    refine ⟨t, _, rfl, SqL.of et, rfl, _, _, rfl, _, _, rfl, rfl, ?_⟩
    refine ⟨(by show 1 ≤ sizeLine; decide), fun l0 n0 => ?_⟩
    have s0 : Same H1 (upd H1 l0 (.lst [.int 0])) := same_new n0
    refine ⟨_, rfl, l, fx, rfl, .inl (SqL.of (s0 _ _ (s1 _ _ el))), l0, _, [.int 0], rfl, rfl, upd_same, by omega, by omega, (by show 1 * (fx.length : Int).toNat ≤ sizeLine; exact Nat.le_of_lt (small1000 (by omega))), fun lt nt => ?_⟩
    have s2 : Same H1 (upd (upd H1 l0 (.lst [.int 0])) lt (.lst (List.replicate (fx.length : Int).toNat [V.int 0]).flatten)) := s0.trans (same_new nt)
    have et2 : (upd (upd H1 l0 (.lst [.int 0])) lt (.lst (List.replicate (fx.length : Int).toNat [V.int 0]).flatten)) lt = some (.lst ((List.replicate ps.length (0 : Int)).map V.int)) := by
      rw [upd_same, List.flatten_replicate_singleton, List.map_replicate, show ((fx.length : Int)).toNat = ps.length by omega]
    have f1 : H1 lt = none := s0.free nt
    generalize upd (upd H1 l0 (.lst [.int 0])) lt (.lst (List.replicate (fx.length : Int).toNat [V.int 0]).flatten) = H2 at s2 et2
    have lra : (natL R1).length = (row.map V.int).length := by rw [natL_len, List.length_map, lrow]
    refine ⟨_, rfl, _, rfl, false, false, tb, r, natL R1, row.map V.int, rfl, SqL.of (s2 _ _ eb), SqL.of (s2 _ _ (s1 _ _ er)), ?_⟩
    refine RZM.for_zipS (xs := natL R1) (ys := row.map V.int) lra (fun i σ H8 => ∃ y7 y8, σ = [some (.int P'), some (.int W), some (.ref l), some (.ref r), some (.ref ta), some (.ref tb), some (.ref lt), y7, y8, none, none, none, none, none, none, none] ∧ Same H1 H8 ∧ H8 lt = some (.lst ((puts (List.replicate ps.length 0) ((R1.zip row).take i)).map V.int)))
      ⟨none, none, rfl, s2, et2⟩ (fun i σ H8 hP => ?_) (fun i x y Z σ H8 hx hy hP nZ => ?_) (fun σ H8 hP => ?_)
    · obtain ⟨_, _, _, s8, _⟩ := hP
      exact ⟨SqL.of (s8 _ _ eb), SqL.of (s8 _ _ (s1 _ _ er))⟩
    · obtain ⟨y7, y8, rfl, s8, e8⟩ := hP
      obtain ⟨k, hk, rfl⟩ : ∃ k, R1[i]? = some k ∧ V.int (k : Int) = x := by
        unfold natL at hx
        rw [List.getElem?_map] at hx
        exact Option.map_eq_some_iff.mp hx
      obtain ⟨n, hn, rfl⟩ := map_at hy
      have hkn : k < ps.length := I.ltR k (List.mem_of_getElem? hk)
      have sZ : Same H8 (upd H8 Z (.tup [.int (k : Int), .int n])) := same_new nZ
      refine ⟨Z, _, rfl, SqT.of upd_same, rfl, _, _, rfl, _, _, rfl, rfl, ?_⟩
      refine ⟨_, rfl, _, rfl, _, rfl, lt, _, (k : Int), k, rfl, rfl, sZ _ _ e8, Evl.ixN_nat (by rw [List.length_map, puts_len, List.length_replicate]; exact hkn), ?_⟩
      refine ⟨_, _, rfl, fun b o e => ?_, ?_⟩
      · rw [upd_ne (ne_of_none e f1)]
        exact sZ _ _ (s8 _ _ e)
      · have hz : (R1.zip row)[i]? = some (k, n) := by
          rw [List.getElem?_zip_eq_some]
          exact ⟨hk, hn⟩
        rw [upd_same, List.take_add_one, hz]
        show _ = some (HO.lst ((puts _ ((R1.zip row).take i ++ [(k, n)])).map V.int))
        rw [puts_snoc, List.map_set]
    · obtain ⟨y7, y8, rfl, s8, e8⟩ := hP
      have lz : (natL R1).length = (R1.zip row).length := by rw [natL_len, List.length_zip, lrow, Nat.min_self]
      rw [lz, List.take_length] at e8
      change H8 lt = some (.lst ((toldL ps.length R1 row).map V.int)) at e8
      have lt0 : (toldL ps.length R1 row).length = ps.length := told_len
      generalize toldL ps.length R1 row = told at e8 lt0 td
      refine ⟨_, rfl, .ref lt, .list (told.map PyData.int), _, rfl, .lst e8 (dq_intl told), rfl, fun ld H9 s9 nd kd => ?_⟩
      have ed : H9 ld = some (.lst (told.map V.int)) := by
        cases kd with
        | lst e2 t2 =>
          rw [intl_dq t2] at e2
          exact e2
      have s19 : Same H1 H9 := s8.trans s9
      have e9 := s9 _ _ e8
      have nlt : ld ≠ lt := fun z => by
        rw [z, e8] at nd
        cases nd
      refine ⟨_, rfl, ta, rfl, ⟨_, SqL.of (s19 _ _ ea)⟩, for_list (xs := natL T1) (fun i σ H' => ∃ y7 y8 y10 y11 y12 y13 y14 y15, σ = [some (.int P'), some (.int W), some (.ref l), some (.ref r), some (.ref ta), some (.ref tb), some (.ref lt), y7, y8, some (.ref ld), y10, y11, y12, y13, y14, y15] ∧ Same H8 H' ∧ H' ld = some (.lst ((puts told ((T1.take i).map fun k => (k, 0 - totalI P' W ps T1 R1 told k))).map V.int)))
        ⟨_, _, _, _, _, _, _, _, rfl, s9, ed⟩ (fun i σ H' _ hP => by obtain ⟨_, _, _, _, _, _, _, _, _, sm, _⟩ := hP; exact SqL.of (sm _ _ (s8 _ _ ea))) (fun i x σ H' hx hP => ?_) (fun σ H' hP => ?_)⟩
      · obtain ⟨y7, y8, y10, y11, y12, y13, y14, y15, rfl, sm, eld⟩ := hP
        obtain ⟨k, hk, rfl⟩ : ∃ k, T1[i]? = some k ∧ V.int (k : Int) = x := by
          unfold natL at hx
          rw [List.getElem?_map] at hx
          exact Option.map_eq_some_iff.mp hx
        have hkT := List.mem_of_getElem? hk
        have hkn : k < ps.length := I.lt k hkT
        have s1m : Same H1 H' := s8.trans sm
        have s0m : Same H H' := s1.trans s1m
        refine ⟨_, rfl, _, rfl, lc_seqD (a := ta) (ds := natD T1) (fun d => decide (intD d ≠ (k : Int))) (fun d => prD (pe ps (intD d).toNat)) (fun Q h => ⟨_, rfl, h⟩) (.inl (SqL.of (s1m _ _ ea))) (dq_nat T1) (by unfold natD; rw [List.length_map]; omega) (fun _ => rfl) (fun j x d H2 Q2 hd' _ kd' q2 => ?_) (fun D j x d H2 Q2 nD hd' _ s2' kd' hD q2 => ?_) (fun D H2 nD s2' kD => ?_)⟩
        · obtain ⟨j', _, rfl⟩ := natD_at hd'
          cases kd'
          refine ⟨_, rfl, _, rfl, rfl, _, rfl, ?_⟩
          rw [int_dec]
          have := q2 _ fun _ _ z => z
          rw [show decide (intD (.int (j' : Int)) ≠ (k : Int)) = !decide ((j' : Int) = (k : Int)) from decide_not] at this
          exact this
        · obtain ⟨j', hj', rfl⟩ := natD_at hd'
          cases kd'
          have hj2 : j' < ps.length := I.lt j' (List.mem_of_getElem? hj')
          obtain ⟨b, hb, tb'⟩ := pr_at tl hj2
          obtain ⟨acc, hacc⟩ := hD
          have sH := s0m.trans s2'
          refine ⟨_, rfl, _, rfl, l, fx, (j' : Int), .ref b, rfl, rfl, SqL.of (sH _ _ el), at_of (j := j') (by omega) hb, ?_⟩
          refine q2 _ _ (fun _ _ z => z) (dq_noL hacc _ rfl ?_)
          exact .tup (sH _ _ tb') (.cons (.int _) (.cons (.int _) .nil))
        · rw [natD_filter] at kD
          obtain ⟨zx, ez, tz, _⟩ := lst_prs kD
          have insT : Ins P' W ((T1.filter fun j => decide (j ≠ k)).map (pe ps)) := fun p hp => by
            obtain ⟨k', hk', rfl⟩ := List.mem_map.mp hp
            exact wd.ins _ (pe_mem (I.lt k' (List.mem_filter.mp hk').1))
          refine ⟨P', W, D, zx, _, rfl, by omega, by omega, by omega, SqL.of ez, tz, insT, fun H3 m s3 hm => ?_⟩
          have hm : H3 m = some (.lst ((sideM P' W ps T1 k).map V.int)) := hm
          have lsd : (sideM P' W ps T1 k).length = (P' + W).toNat := marks_len _ _ _
          have s13 := s2'.trans s3
          have s03 := s0m.trans s13
          obtain ⟨b, hb, tb'⟩ := pr_at tl hkn
          have tb3 := s03 _ _ tb'
          obtain ⟨b1, b2, b3, b4⟩ := wd.ins _ (pe_mem hkn)
          refine ⟨_, rfl, _, rfl, _, rfl, l, fx, (k : Int), .ref b, rfl, rfl, SqL.of (s03 _ _ el), at_of (j := k) (by omega) hb, (ix_pr tb3).1 ?_⟩
          refine ⟨m, _, (pe ps k).1, _, rfl, rfl, SqL.of hm, ix_at b1 (by rw [lsd]; omega), ?_⟩
          have e3t := s13 _ _ (sm _ _ e8)
          have e3d := s13 _ _ eld
          refine for_seq (xs := natL R1) (a := tb) (fun i σ H' => ∃ z10 z14 z15, σ = [some (.int P'), some (.int W), some (.ref l), some (.ref r), some (.ref ta), some (.ref tb), some (.ref lt), some (.int (k : Int)), y8, some (.ref ld), z10, some (.ref m), some (.int ((sideM P' W ps T1 k).getD (pe ps k).1.toNat 0)), some (.int (S (R1.take i) fun j => told.getD j 0 * cut P' W ps T1 k j)), z14, z15] ∧ H3 = H')
            (fun Q h => ⟨_, rfl, h⟩) (.inl (SqL.of (s13 _ _ (s1m _ _ eb)))) ⟨_, _, _, rfl, rfl⟩ (fun i σ H' _ hP => by obtain ⟨_, _, _, _, e⟩ := hP; exact e ▸ fun _ _ z => z) (fun i2 x σ H' hx2 hP => ?_) (fun σ H' hP => ?_)
          · obtain ⟨z10, z14, z15, rfl, rfl⟩ := hP
            obtain ⟨j, hj, rfl⟩ : ∃ j, R1[i2]? = some j ∧ V.int (j : Int) = x := by
              unfold natL at hx2
              rw [List.getElem?_map] at hx2
              exact Option.map_eq_some_iff.mp hx2
            have hjn : j < ps.length := I.ltR j (List.mem_of_getElem? hj)
            obtain ⟨c, hc, tc'⟩ := pr_at tl hjn
            have tc3 := s03 _ _ tc'
            obtain ⟨d1, d2, d3, d4⟩ := wd.ins _ (pe_mem hjn)
            refine ⟨_, rfl, _, rfl, _, rfl, l, fx, (j : Int), .ref c, rfl, rfl, SqL.of (s03 _ _ el), at_of (j := j) (by omega) hc, (ix_pr tc3).1 ?_⟩
            refine ⟨m, _, (pe ps j).1, _, rfl, rfl, SqL.of hm, ix_at d1 (by rw [lsd]; omega), ?_⟩
            refine ⟨_, rfl, rfl, ?_⟩
            refine ⟨_, rfl, _, rfl, _, rfl, _, rfl, l, fx, (j : Int), .ref c, rfl, rfl, SqL.of (s03 _ _ el), at_of (j := j) (by omega) hc, (ix_pr tc3).2 ?_⟩
            refine ⟨_, _, rfl, rfl, m, _, P' + (pe ps j).2, _, rfl, rfl, SqL.of hm, ix_at (by omega) (by rw [lsd]; omega), ?_⟩
            refine ⟨_, rfl, rfl, ?_⟩
            rw [int_dec, int_dec]
            generalize ha : inSide P' W ps T1 k (eu (pe ps j)) = a
            generalize hb' : inSide P' W ps T1 k (ev P' (pe ps j)) = b'
            rw [show decide ((sideM P' W ps T1 k).getD (pe ps j).1.toNat 0 = (sideM P' W ps T1 k).getD (pe ps k).1.toNat 0) = a from ha, show decide ((sideM P' W ps T1 k).getD (P' + (pe ps j).2).toNat 0 = (sideM P' W ps T1 k).getD (pe ps k).1.toNat 0) = b' from hb']
            have hcut := cut_step (t := told.getD j 0) ha hb'
            have hS : (S (R1.take (i2 + 1)) fun j => told.getD j 0 * cut P' W ps T1 k j) = (S (R1.take i2) fun j => told.getD j 0 * cut P' W ps T1 k j) + told.getD j 0 * cut P' W ps T1 k j := by
              rw [List.take_add_one, hj]
              exact S_snoc _ _ _
            rw [hcut] at hS
            have tat : atI (told.map V.int) (j : Int) = some (.int (told.getD j 0)) := ix_at (by omega) (by omega)
            generalize (S (R1.take i2) fun j => told.getD j 0 * cut P' W ps T1 k j) = tot at hS
            refine ⟨fun σ' H' => σ' = [some (.int P'), some (.int W), some (.ref l), some (.ref r), some (.ref ta), some (.ref tb), some (.ref lt), some (.int (k : Int)), y8, some (.ref ld), some (.int (j : Int)), some (.ref m), some (.int ((sideM P' W ps T1 k).getD (pe ps k).1.toNat 0)), some (.int (if a = true then (if b' = true then tot else tot + told.getD j 0) else tot)), some (.bl a), some (.bl b')] ∧ H3 = H', ?_, fun σ' H' hM => ?_⟩
            · refine ⟨_, rfl, a, rfl, ?_⟩
              cases a with
              | false => exact iteF ⟨rfl, rfl⟩
              | true =>
                refine iteT ⟨_, rfl, b', rfl, ?_⟩
                cases b' with
                | true => exact iteF ⟨rfl, rfl⟩
                | false => exact iteT ⟨_, rfl, _, rfl, _, rfl, lt, _, (j : Int), _, rfl, rfl, SqL.of e3t, tat, _, _, rfl, rfl, rfl, rfl⟩
            · obtain ⟨rfl, rfl⟩ := hM
              refine ⟨_, rfl, b', rfl, ?_⟩
              cases b' with
              | false =>
                refine iteF ⟨some (.int (j : Int)), some (.bl a), some (.bl false), ?_, rfl⟩
                rw [hS]
                cases a <;> simp
              | true =>
                refine iteT ⟨_, rfl, a, rfl, ?_⟩
                cases a with
                | true =>
                  refine iteF ⟨some (.int (j : Int)), some (.bl true), some (.bl true), ?_, rfl⟩
                  rw [hS]
                  simp
                | false =>
                  refine iteT ⟨_, rfl, _, rfl, _, rfl, lt, _, (j : Int), _, rfl, rfl, SqL.of e3t, tat, _, _, rfl, rfl, some (.int (j : Int)), some (.bl false), some (.bl true), ?_, rfl⟩
                  rw [hS]
                  simp [Int.sub_eq_add_neg]
          · obtain ⟨z10, z14, z15, rfl, rfl⟩ := hP
            rw [natL_len, List.take_length]
            refine ⟨_, rfl, _, _, rfl, rfl, _, rfl, _, rfl, ld, _, (k : Int), k, rfl, rfl, e3d, Evl.ixN_nat (by rw [List.length_map, puts_len, lt0]; exact hkn), ?_⟩
            refine ⟨_, _, _, _, _, _, _, _, rfl, fun b2 o e2 => ?_, ?_⟩
            · rw [upd_ne (ne_of_none e2 nd)]
              exact s13 _ _ (sm _ _ e2)
            · rw [upd_same, List.take_add_one, hk]
              show _ = some (HO.lst ((puts told ((T1.take i ++ [k]).map fun k => (k, 0 - totalI P' W ps T1 R1 told k))).map V.int))
              rw [List.map_append]
              show _ = some (HO.lst ((puts told ((T1.take i).map (fun k => (k, 0 - totalI P' W ps T1 R1 told k)) ++ [(k, 0 - totalI P' W ps T1 R1 told k)])).map V.int))
              rw [puts_snoc, List.map_set]
              rfl
      · obtain ⟨y7, y8, y10, y11, y12, y13, y14, y15, rfl, sm, eld⟩ := hP
        rw [natL_len, List.take_length] at eld
        refine ⟨_, rfl, ld, _, rfl, .inl ⟨SqL.of eld, fun t2 nt2 => ?_⟩⟩
        refine q _ t2 ((s1.trans (s8.trans sm)).trans (same_new nt2)) ?_
        rw [upd_same, td]
        rfl
end
end K03
set_option Elab.async false
set_option linter.all false
set_option maxRecDepth 100000
set_option maxHeartbeats 4000000
set_option exponentiation.threshold 5000
namespace K03
open PySem PySem.Spec PyProof.Rows L2 TkS
theorem vec_set {M : Nat} {f : Nat → Int} {i : Nat} {v : Int} : (vecV M f).set i (.int v) = vecV M fun c => if c = i then v else f c := by
  refine List.ext_getElem? fun c => ?_
  rw [List.getElem?_set, vec_len]
  by_cases h : c < M
  · rw [vec_get h, vec_get h]
    by_cases e : c = i
    · subst e
      rw [if_pos rfl, if_pos h, if_pos rfl]
    · rw [if_neg (fun z => e z.symm), if_neg e]
  · rw [List.getElem?_eq_none (by rw [vec_len]; omega), List.getElem?_eq_none (by rw [vec_len]; omega)]
    by_cases e : i = c
    · subst e
      rw [if_pos rfl, if_neg h]
    · rw [if_neg e]
theorem vec_congr {M : Nat} {f g : Nat → Int} (h : ∀ i, i < M → f i = g i) : vecV M f = vecV M g := List.map_congr_left fun i hi => congrArg V.int (h i (List.mem_range.mp hi))
theorem vec_ix {M : Nat} {f : Nat → Int} {z : Int} (h0 : 0 ≤ z) (h1 : z < M) : atI (vecV M f) z = some (.int (f z.toNat)) := at_of (j := z.toNat) (by omega) (vec_get (by omega))
/-- the walks: a list of lists of their own -/
def Wk (H : Hp) (aw : Addr) (bad : List Addr) (N M : Nat) (walk : Nat → Nat → Int) : Prop := ∃ ys : List V, H aw = some (.lst ys) ∧ ys.length = N ∧ ∀ c, c < N → ∃ b, ys[c]? = some (.ref b) ∧ b ∉ bad ∧ H b = some (.lst (vecV M (walk c)))
theorem Wk.same {H H' : Hp} {aw : Addr} {bad : List Addr} {N M : Nat} {walk : Nat → Nat → Int} (h : Wk H aw bad N M walk) (s : Same H H') : Wk H' aw bad N M walk := by
  obtain ⟨ys, h1, h2, h3⟩ := h
  refine ⟨ys, s _ _ h1, h2, fun c hc => ?_⟩
  obtain ⟨b, e1, e2, e3⟩ := h3 c hc
  exact ⟨b, e1, e2, s _ _ e3⟩
theorem Wk.put {H : Hp} {aw p : Addr} {o : HO} {bad : List Addr} {N M : Nat} {walk : Nat → Nat → Int} (h : Wk H aw bad N M walk) (hp : p ∈ bad) (n : aw ≠ p) : Wk (upd H p o) aw bad N M walk := by
  obtain ⟨ys, h1, h2, h3⟩ := h
  refine ⟨ys, by rw [upd_ne n]; exact h1, h2, fun c hc => ?_⟩
  obtain ⟨b, e1, e2, e3⟩ := h3 c hc
  exact ⟨b, e1, e2, by rw [upd_ne (fun z => e2 (by rw [z]; exact hp))]; exact e3⟩
theorem Wk.bad {H : Hp} {aw p : Addr} {bad : List Addr} {N M : Nat} {walk : Nat → Nat → Int} (h : Wk H aw bad N M walk) (hp : H p = none) : Wk H aw (p :: bad) N M walk := by
  obtain ⟨ys, h1, h2, h3⟩ := h
  refine ⟨ys, h1, h2, fun c hc => ?_⟩
  obtain ⟨b, e1, e2, e3⟩ := h3 c hc
  refine ⟨b, e1, fun z => ?_, e3⟩
  rcases List.mem_cons.mp z with z | z
  · rw [z, hp] at e3
    cases e3
  · exact e2 z
theorem Wk.congr {H : Hp} {aw : Addr} {bad : List Addr} {N M : Nat} {walk walk' : Nat → Nat → Int} (h : Wk H aw bad N M walk) (e : ∀ c, c < N → ∀ j, walk c j = walk' c j) : Wk H aw bad N M walk' := by
  obtain ⟨ys, h1, h2, h3⟩ := h
  refine ⟨ys, h1, h2, fun c hc => ?_⟩
  obtain ⟨b, e1, e2, e3⟩ := h3 c hc
  exact ⟨b, e1, e2, by rw [e3, funext (e c hc)]⟩
theorem Wk.set {H : Hp} {aw b : Addr} {bad : List Addr} {N M i : Nat} {walk : Nat → Nat → Int} {f : Nat → Int} {ys : List V} (h : Wk H aw bad N M walk) (hy : H aw = some (.lst ys)) (ha : aw ∈ bad) (hi : i < N) (hb : H b = some (.lst (vecV M f))) (nb : b ∉ bad) :
    Wk (upd H aw (.lst (ys.set i (.ref b)))) aw bad N M fun c => if c = i then f else walk c := by
  obtain ⟨ys', h1, h2, h3⟩ := h
  rw [hy] at h1
  cases h1
  refine ⟨_, upd_same, by rw [List.length_set]; exact h2, fun c hc => ?_⟩
  by_cases e : c = i
  · subst e
    refine ⟨b, by rw [List.getElem?_set, if_pos rfl, if_pos (by omega)], nb, ?_⟩
    dsimp only
    rw [upd_ne (fun z => nb (by rw [z]; exact ha)), if_pos rfl]
    exact hb
  · obtain ⟨b', e1, e2, e3⟩ := h3 c hc
    refine ⟨b', by rw [List.getElem?_set, if_neg (fun z => e z.symm)]; exact e1, e2, ?_⟩
    dsimp only
    rw [upd_ne (fun z => e2 (by rw [z]; exact ha)), if_neg e]
    exact e3
/-- the tours that were found -/
def To (H : Hp) (ao : Addr) (M : Nat) (ts : Nat → Nat → Int) (R : List Nat) : Prop := ∃ zs : List V, H ao = some (.lst zs) ∧ zs.length = R.length ∧ ∀ (i k : Nat), R[i]? = some k → ∃ b, zs[i]? = some (.ref b) ∧ H b = some (.tup (vecV M (ts k)))
theorem To.same {H H' : Hp} {ao : Addr} {M : Nat} {ts : Nat → Nat → Int} {R : List Nat} (h : To H ao M ts R) (s : Same H H') : To H' ao M ts R := by
  obtain ⟨zs, h1, h2, h3⟩ := h
  refine ⟨zs, s _ _ h1, h2, fun i k hk => ?_⟩
  obtain ⟨b, e1, e2⟩ := h3 i k hk
  exact ⟨b, e1, s _ _ e2⟩
theorem To.put {H : Hp} {ao p : Addr} {o : HO} {xs : List V} {M : Nat} {ts : Nat → Nat → Int} {R : List Nat} (h : To H ao M ts R) (hp : H p = some (.lst xs)) (n : ao ≠ p) : To (upd H p o) ao M ts R := by
  obtain ⟨zs, h1, h2, h3⟩ := h
  refine ⟨zs, by rw [upd_ne n]; exact h1, h2, fun i k hk => ?_⟩
  obtain ⟨b, e1, e2⟩ := h3 i k hk
  refine ⟨b, e1, ?_⟩
  rw [upd_ne (fun z => by rw [z, hp] at e2; cases e2)]
  exact e2
theorem To.add {H : Hp} {ao b : Addr} {zs : List V} {M n : Nat} {ts : Nat → Nat → Int} {f : Nat → Int} {R : List Nat} (h : To H ao M ts R) (hz : H ao = some (.lst zs)) (hb : H b = some (.tup (vecV M f))) (hR : ∀ k ∈ R, k ≠ n) :
    To (upd H ao (.lst (zs ++ [.ref b]))) ao M (fun k => if k = n then f else ts k) (R ++ [n]) := by
  obtain ⟨zs', h1, h2, h3⟩ := h
  rw [hz] at h1
  cases h1
  refine ⟨_, upd_same, by rw [List.length_append, List.length_append, h2]; rfl, fun i k hk => ?_⟩
  rcases Nat.lt_or_ge i R.length with c | c
  · rw [List.getElem?_append_left c] at hk
    obtain ⟨b', e1, e2⟩ := h3 i k hk
    refine ⟨b', by rw [List.getElem?_append_left (by omega)]; exact e1, ?_⟩
    dsimp only
    rw [upd_ne (fun z => by rw [z, hz] at e2; cases e2), if_neg (hR k (List.mem_of_getElem? hk))]
    exact e2
  · have hi : i = R.length := by
      have := (List.getElem?_eq_some_iff.mp hk).1
      rw [List.length_append, List.length_singleton] at this
      omega
    subst hi
    rw [List.getElem?_append_right (Nat.le_refl _), Nat.sub_self] at hk
    cases hk
    refine ⟨b, by rw [← h2, List.getElem?_append_right (Nat.le_refl _), Nat.sub_self]; rfl, ?_⟩
    dsimp only
    rw [upd_ne (fun z => by rw [z, hz] at hb; cases hb), if_pos rfl]
    exact hb
/-- what the walk over the pairs has on the heap -/
structure BH (H0 H : Hp) (ar aw aT ao : Addr) (N M : Nat) (root : Nat → Nat) (walk ts : Nat → Nat → Int) (T R : List Nat) : Prop where
  s : Same H0 H
  hr : H ar = some (.lst (vecV N fun c => (root c : Int)))
  hw : Wk H aw [ao, aT, aw, ar] N M walk
  ht : H aT = some (.lst (natL T))
  ho : To H ao M ts R
  fr : H0 ar = none ∧ H0 aw = none ∧ H0 aT = none ∧ H0 ao = none
  ne : ar ≠ aw ∧ ar ≠ aT ∧ ar ≠ ao ∧ aw ≠ aT ∧ aw ≠ ao ∧ aT ≠ ao
variable {H0 H : Hp} {ar aw aT ao : Addr} {N M : Nat} {root : Nat → Nat} {walk ts : Nat → Nat → Int} {T R : List Nat}
theorem same_put {H0 H : Hp} {p : Addr} {o : HO} (s : Same H0 H) (f : H0 p = none) : Same H0 (upd H p o) := fun b x e => by
  rw [upd_ne (ne_of_none e f)]
  exact s _ _ e
theorem BH.same (B : BH H0 H ar aw aT ao N M root walk ts T R) {H' : Hp} (s : Same H H') : BH H0 H' ar aw aT ao N M root walk ts T R :=
  ⟨B.s.trans s, s _ _ B.hr, B.hw.same s, s _ _ B.ht, B.ho.same s, B.fr, B.ne⟩
theorem BH.setR (B : BH H0 H ar aw aT ao N M root walk ts T R) {root' : Nat → Nat} {xs : List V} (e : xs = vecV N fun c => (root' c : Int)) : BH H0 (upd H ar (.lst xs)) ar aw aT ao N M root' walk ts T R := by
  obtain ⟨n1, n2, n3, n4, n5, n6⟩ := B.ne
  exact ⟨same_put B.s B.fr.1, by rw [upd_same, e], B.hw.put (by simp) n1.symm, by rw [upd_ne n2.symm]; exact B.ht, B.ho.put B.hr n3.symm, B.fr, B.ne⟩
theorem BH.setW (B : BH H0 H ar aw aT ao N M root walk ts T R) {i : Nat} {b : Addr} {f : Nat → Int} {ys : List V} (hy : H aw = some (.lst ys)) (hi : i < N) (hb : H b = some (.lst (vecV M f))) (nb : b ∉ [ao, aT, aw, ar]) :
    BH H0 (upd H aw (.lst (ys.set i (.ref b)))) ar aw aT ao N M root (fun c => if c = i then f else walk c) ts T R := by
  obtain ⟨n1, n2, n3, n4, n5, n6⟩ := B.ne
  exact ⟨same_put B.s B.fr.2.1, by rw [upd_ne n1]; exact B.hr, B.hw.set hy (by simp) hi hb nb, by rw [upd_ne n4.symm]; exact B.ht, B.ho.put hy n5.symm, B.fr, B.ne⟩
theorem BH.addT (B : BH H0 H ar aw aT ao N M root walk ts T R) {n : Nat} : BH H0 (upd H aT (.lst (natL T ++ [.int (n : Int)]))) ar aw aT ao N M root walk ts (T ++ [n]) R := by
  obtain ⟨n1, n2, n3, n4, n5, n6⟩ := B.ne
  refine ⟨same_put B.s B.fr.2.2.1, by rw [upd_ne n2]; exact B.hr, B.hw.put (by simp) n4, ?_, B.ho.put B.ht n6.symm, B.fr, B.ne⟩
  rw [upd_same]
  unfold natL
  rw [List.map_append]
  rfl
theorem BH.addO (B : BH H0 H ar aw aT ao N M root walk ts T R) {n : Nat} {b : Addr} {zs : List V} {f : Nat → Int} (hz : H ao = some (.lst zs)) (hb : H b = some (.tup (vecV M f))) (hR : ∀ k ∈ R, k ≠ n) :
    BH H0 (upd H ao (.lst (zs ++ [.ref b]))) ar aw aT ao N M root walk (fun k => if k = n then f else ts k) T (R ++ [n]) := by
  obtain ⟨n1, n2, n3, n4, n5, n6⟩ := B.ne
  exact ⟨same_put B.s B.fr.2.2.2, by rw [upd_ne n3]; exact B.hr, B.hw.put (by simp) n5, by rw [upd_ne n6]; exact B.ht, B.ho.add hz hb hR, B.fr, B.ne⟩
theorem BH.congr (B : BH H0 H ar aw aT ao N M root walk ts T R) {root' : Nat → Nat} {walk' : Nat → Nat → Int} (e1 : ∀ c, c < N → root c = root' c) (e2 : ∀ c, c < N → ∀ j, walk c j = walk' c j) : BH H0 H ar aw aT ao N M root' walk' ts T R :=
  ⟨B.s, by rw [B.hr, vec_congr (f := fun c => (root c : Int)) fun c hc => congrArg (fun (n : Nat) => (n : Int)) (e1 c hc)], B.hw.congr e2, B.ht, B.ho, B.fr, B.ne⟩
/-- an address that was free before is none of the four -/
theorem BH.new (B : BH H0 H ar aw aT ao N M root walk ts T R) {b : Addr} (h : H b = none) : b ∉ [ao, aT, aw, ar] := by
  obtain ⟨ys, hy, _⟩ := B.hw
  obtain ⟨zs, hz, _⟩ := B.ho
  intro z
  simp only [List.mem_cons, List.not_mem_nil, or_false] at z
  rcases z with z | z | z | z
  · rw [z, hz] at h; cases h
  · rw [z, B.ht] at h; cases h
  · rw [z, hy] at h; cases h
  · rw [z, B.hr] at h; cases h
end K03
set_option Elab.async false
set_option linter.all false
set_option maxRecDepth 100000
set_option maxHeartbeats 4000000
set_option exponentiation.threshold 5000
namespace K03
open PySem PySem.Spec PyProof.Rows L2 TkS
def rLstOf (K : PySem.W.Frag) : List V → Hp → VK → Prop := fun xs H Q => ∃ p ys, xs = [.ref p] ∧ (SqL K H p ys ∨ SqT K H p ys) ∧ ∀ l, H l = none → Q (.ref l) (upd H l (.lst ys))
def vecD (ns : List Int) : PyData := .tuple (ns.map PyData.int)
def sp_tree_and_basis (C : Addr) : Sp := fun vs H Q _ => ∃ (a : Addr) (P W : Int) (ps : List (Int × Int)), vs = [.ref a] ∧ Pic C H a P W ps ∧
  ∀ l H' t1 t2, Same H H' → H' l = some (.tup [.ref t1, .ref t2]) → Dq H' (.ref t1) (.tuple (natD (treeP P W ps))) → Dq H' (.ref t2) (.tuple ((basisT P W ps).map vecD)) → Q (.ref l) H'
theorem dq_tupI' {H : Hp} {a : Addr} {ns : List Int} (k : Dq H (.ref a) (.tuple (ns.map PyData.int))) : H a = some (.tup (ns.map V.int)) := by
  obtain ⟨b, e, h⟩ := dq_tupI k
  cases e
  exact h
theorem vec_rep {n : Nat} : (List.replicate n (0 : Int)).map V.int = vecV n fun _ => 0 := by
  unfold vecV
  rw [List.map_replicate]
  refine List.ext_getElem? fun i => ?_
  rw [List.getElem?_replicate]
  by_cases h : i < n
  · rw [if_pos h, List.getElem?_map, List.getElem?_range h]
    rfl
  · rw [if_neg h, List.getElem?_eq_none (by simpa using h)]
/-- the first corners are moved -/
def rtF (root : Nat → Nat) (mv rp i : Nat) : Nat → Nat := fun c => if c < i ∧ root c = mv then rp else root c
def wkF (root : Nat → Nat) (walk : Nat → Nat → Int) (gap : Nat → Int) (mv i : Nat) : Nat → Nat → Int := fun c => if c < i ∧ root c = mv then fun j => walk c j - gap j else walk c
theorem rt_self {root : Nat → Nat} {mv rp c : Nat} : rtF root mv rp c c = root c := if_neg fun z => Nat.lt_irrefl _ z.1
theorem wk_self {root : Nat → Nat} {walk : Nat → Nat → Int} {gap : Nat → Int} {mv c : Nat} : wkF root walk gap mv c c = walk c := if_neg fun z => Nat.lt_irrefl _ z.1
theorem rt_pt {root : Nat → Nat} {mv rp i c : Nat} (h : ¬ root c = mv) : rtF root mv rp i c = root c := if_neg fun z => h z.2
theorem rt_no {root : Nat → Nat} {mv rp i : Nat} (h : ¬ root i = mv) (c : Nat) : rtF root mv rp i c = rtF root mv rp (i + 1) c := by
  unfold rtF
  by_cases e : c < i ∧ root c = mv
  · rw [if_pos e, if_pos ⟨by omega, e.2⟩]
  · rw [if_neg e, if_neg fun z => e ⟨by
      rcases Nat.lt_or_ge c i with l | l
      · exact l
      · have : c = i := by omega
        rw [this] at z
        exact absurd z.2 h, z.2⟩]
theorem wk_no {root : Nat → Nat} {walk : Nat → Nat → Int} {gap : Nat → Int} {mv i : Nat} (h : ¬ root i = mv) (c : Nat) : wkF root walk gap mv i c = wkF root walk gap mv (i + 1) c := by
  unfold wkF
  by_cases e : c < i ∧ root c = mv
  · rw [if_pos e, if_pos ⟨by omega, e.2⟩]
  · rw [if_neg e, if_neg fun z => e ⟨by
      rcases Nat.lt_or_ge c i with l | l
      · exact l
      · have : c = i := by omega
        rw [this] at z
        exact absurd z.2 h, z.2⟩]
theorem rt_yes {root : Nat → Nat} {mv rp i : Nat} (h : root i = mv) (c : Nat) : (if c = i then rp else rtF root mv rp i c) = rtF root mv rp (i + 1) c := by
  unfold rtF
  by_cases e : c = i
  · subst e
    rw [if_pos rfl, if_pos ⟨by omega, h⟩]
  · rw [if_neg e]
    by_cases e2 : c < i ∧ root c = mv
    · rw [if_pos e2, if_pos ⟨by omega, e2.2⟩]
    · rw [if_neg e2, if_neg fun z => e2 ⟨by omega, z.2⟩]
theorem wk_yes {root : Nat → Nat} {walk : Nat → Nat → Int} {gap : Nat → Int} {mv i : Nat} (h : root i = mv) (c : Nat) : (if c = i then fun j => wkF root walk gap mv i i j - gap j else wkF root walk gap mv i c) = wkF root walk gap mv (i + 1) c := by
  rw [wk_self]
  unfold wkF
  by_cases e : c = i
  · subst e
    rw [if_pos rfl, if_pos ⟨by omega, h⟩]
  · rw [if_neg e]
    by_cases e2 : c < i ∧ root c = mv
    · rw [if_pos e2, if_pos ⟨by omega, e2.2⟩]
    · rw [if_neg e2, if_neg fun z => e2 ⟨by omega, z.2⟩]
theorem ixN_of' {n : Nat} {k : Int} {j : Nat} (h : k = (j : Int)) (h1 : j < n) : ixN n k = some j := by
  subst h
  rw [ixN_of (by omega) (by omega), Int.toNat_natCast]
section
variable {P : Program} {w : World} {K : PySem.W.Frag} {mg : Str → Option Value} {base : Heap}
theorem ok_tree_and_basis (T : Txt K mg) : FnOk P w K mg base CX0 4 T.f_tree_and_basis T.d_tree_and_basis ["picture"] (sp_tree_and_basis T.C_Picture) := by
  refine T.F_tree_and_basis.ok sc_tree_and_basis (fun vs H Q E h => ?_) (fun cdv A outer s H vs Q E hr h => ?_)
  · obtain ⟨a, P', W, ps, rfl, _⟩ := h
    rfl
  · obtain ⟨a, P', W, ps, rfl, hp, hQ⟩ := h
    refine ⟨_, (pss_cons (ps_set (i := 1) sc_tree_and_basis.nd rfl (.inl rfl) (pe_listRg rfl (by rfl) T.m_list (prg_1 (by rfl) T.m_range (pe_op op_add (pe_fld (pv 0) rfl) (pe_fld (pv 0) rfl)))))
      (pss_cons (ps_setLc (i := 2) rfl sc_tree_and_basis.nd rfl rfl (sw_true rfl rfl rfl (by decide +kernel)) (pi_list (pv 1)) (blkOk_by (own := [("_", 12)]) (N := ["picture", "roots", "walks", "tree", "tours", "place", "point", "wall", "far", "gap", "moved", "corner", "_"]) (sc := defScope s_tree_and_basis) (by decide +kernel)) (fun _ _ _ _ _ => (pg_name (i := 12) sc_tree_and_basis.nd rfl (.inl rfl))) (fun _ _ _ _ _ => pts_nil) (fun _ _ _ _ _ => (pe_callTy (show CallR _ (.type "list") (rLstOf K) from call_list_of) (by rfl) T.m_list (by decide +kernel) (pa_cons (pe_call (ok_no_tour T) (hr.mono (by decide)) (by rfl) T.g_no_tour T.F_no_tour.kp T.b_no_tour .nil pass0 (pa_cons (pv 0) pa_nil)) pa_nil))))
      (pss_cons (ps_set (i := 3) sc_tree_and_basis.nd rfl (.inl rfl) (pe_lst pa_nil))
      (pss_cons (ps_set (i := 4) sc_tree_and_basis.nd rfl (.inl rfl) (pe_lst pa_nil))
      (pss_cons (ps_for PassesOwn.never rfl (pi_enumS (by rfl) T.m_enumerate (pa_cons (pe_fld (pv 0) rfl) pa_nil)) (pg_tup rfl (pgs_cons (pg_name (i := 5) sc_tree_and_basis.nd rfl (.inl rfl)) (pgs_cons (pg_tup rfl (pgs_cons (pg_name (i := 6) sc_tree_and_basis.nd rfl (.inl rfl)) (pgs_cons (pg_name (i := 7) sc_tree_and_basis.nd rfl (.inl rfl)) pgs_nil))) pgs_nil)))
        (pss_cons (ps_set (i := 8) sc_tree_and_basis.nd rfl (.inl rfl) (pe_op op_add (pe_fld (pv 0) rfl) (pv 7)))
        (pss_cons (ps_set (i := 9) sc_tree_and_basis.nd rfl (.inl rfl) (pe_call (ok_row_minus T) (hr.mono (by decide)) (by rfl) T.g_row_minus T.F_row_minus.kp T.b_row_minus .nil pass0 (pa_cons (pe_ix ix_list (pv 2) (pv 8) (fun _ _ => rfl)) (pa_cons (pe_ix ix_list (pv 2) (pv 6) (fun _ _ => rfl)) pa_nil))))
        (pss_cons (ps_asg (pe_op op_add (pe_ix ix_list (pv 9) (pv 5) (fun _ _ => rfl)) pe_int) (pg_sub (pv 9) (pv 5) set_list))
        (pss_cons (ps_if (pt_cmpR op_eq (pe_ix ix_list (pv 1) (pv 6) (fun _ _ => rfl)) (pe_ix ix_list (pv 1) (pv 8) (fun _ _ => rfl)) (nomark _))
          (pss_cons (ps_expr (pe_bm PySem.F.plainAttrs_list PySem.F.slot_list_append PySem.F.type_list_append mt_append (pv 4) (pa_cons (pe_callTy call_tuple_of (by rfl) T.m_tuple (by decide +kernel) (pa_cons (pv 9) pa_nil)) pa_nil)))
          (pss_one ps_continue))
          pss_nil)
        (pss_cons (ps_expr (pe_bm PySem.F.plainAttrs_list PySem.F.slot_list_append PySem.F.type_list_append mt_append (pv 3) (pa_cons (pv 5) pa_nil)))
        (pss_cons (ps_set (i := 10) sc_tree_and_basis.nd rfl (.inl rfl) (pe_ix ix_list (pv 1) (pv 8) (fun _ _ => rfl)))
        (pss_one (ps_for PassesOwn.never rfl (pi_range1 (by rfl) T.m_range (pa_cons (pe_callB call_len_seq (by rfl) T.m_len (by decide +kernel) (pa_cons (pv 1) pa_nil)) pa_nil)) (pg_name (i := 11) sc_tree_and_basis.nd rfl (.inl rfl))
          (pss_one (ps_if (pt_cmpR op_eq (pe_ix ix_list (pv 1) (pv 11) (fun _ _ => rfl)) (pv 10) (nomark _))
            (pss_cons (ps_asg (pe_ix ix_list (pv 1) (pv 6) (fun _ _ => rfl)) (pg_sub (pv 1) (pv 11) set_list))
            (pss_one (ps_asg (pe_call (ok_row_minus T) (hr.mono (by decide)) (by rfl) T.g_row_minus T.F_row_minus.kp T.b_row_minus .nil pass0 (pa_cons (pe_ix ix_list (pv 2) (pv 11) (fun _ _ => rfl)) (pa_cons (pv 9) pa_nil))) (pg_sub (pv 2) (pv 11) set_list))))
            pss_nil)))))))))))
      (pss_one (ps_ret (pe_tup (pa_cons (pe_callTy call_tuple_of (by rfl) T.m_tuple (by decide +kernel) (pa_cons (pv 3) pa_nil)) (pa_cons (pe_callTy call_tuple_of (by rfl) T.m_tuple (by decide +kernel) (pa_cons (pv 4) pa_nil)) pa_nil)))))))))), ?_⟩
    obtain ⟨⟨dx, tp, pv_, pxs, ha, hfr, hps, _⟩, ⟨p0, p1, w0, w1⟩, hins, hasc⟩ := id hp
    have lps : pxs.length = ps.length := by rw [hps.len, List.length_map]
    have l25 := pic_len hp
    refine ⟨_, rfl, a, T.C_Picture, dx, _, _, rfl, ha, T.cl_Picture, T.na_points, rfl, _, rfl, a, T.C_Picture, dx, _, _, rfl, ha, T.cl_Picture, T.na_walls, rfl, P', W, rfl, rfl, P' + W, rfl, RgOk.of_le (by decide) (by omega) (by decide) (by omega), fun ar nar => ?_⟩
    have s1 : Same H (upd H ar (.lst (rgV 0 (P' + W)))) := same_new nar
    have hr1 : (upd H ar (.lst (rgV 0 (P' + W)))) ar = some (.lst (vecV (P' + W).toNat fun c => (((fun c => c) c : Nat) : Int))) := by
      rw [upd_same, rg_row (a := 0) (by omega), vec_map]
      rfl
    generalize upd H ar (.lst (rgV 0 (P' + W))) = H1 at s1 hr1
    dsimp only
    refine ⟨_, rfl, ar, rfl, ⟨_, SqL.of hr1⟩, fun aw naw => ?_⟩
    have waw : ar ≠ aw := ne_of_none hr1 naw
    refine lc_list (xs := vecV (P' + W).toNat fun c => (((fun c => c) c : Nat) : Int)) (fun i H' => Same H1 H' ∧ ∃ ys : List V, H' aw = some (.lst ys) ∧ ys.length = i ∧ ∀ c, c < i → ∃ b, ys[c]? = some (.ref b) ∧ b ∉ [aw, ar] ∧ H' b = some (.lst (vecV ps.length fun _ => 0)))
      ⟨same_new naw, [], upd_same, rfl, fun c h => absurd h (Nat.not_lt_zero _)⟩ (fun i H' _ hP => hP.1.seq (SqL.of hr1)) (fun i x H' hx hP => ?_) (fun H' hP => ?_)
    · obtain ⟨s2, ys, hy, ly, hall⟩ := hP
      have hi : i < (P' + W).toNat := by
        have := (List.getElem?_eq_some_iff.mp hx).1
        rwa [vec_len] at this
      refine ⟨rfl, ?_⟩
      refine ⟨_, rfl, a, P', W, ps, rfl, (hp.same s1).same s2, fun l2 H2 s3 k2 => ⟨l2, _, rfl, .inr (SqT.of (dq_tupI' k2)), fun l n => ?_⟩⟩
      have nl : l ≠ aw := (ne_of_none (s3 _ _ hy) n).symm
      have nl2 : l ≠ ar := (ne_of_none (s3 _ _ (s2 _ _ hr1)) n).symm
      have s4 : Same H' (upd H2 l (.lst ((List.replicate ps.length (0 : Int)).map V.int))) := s3.trans (same_new n)
      refine ⟨ys, s4 _ _ hy, small1000 (by omega), same_put (s2.trans s4) naw, _, upd_same, by rw [List.length_append, ly]; rfl, fun c hc => ?_⟩
      rcases Nat.lt_or_ge c i with ci | ci
      · obtain ⟨b, e1, e2, e3⟩ := hall c ci
        refine ⟨b, by rw [List.getElem?_append_left (by omega)]; exact e1, e2, ?_⟩
        rw [upd_ne (fun z => e2 (by rw [z]; simp))]
        exact s4 _ _ e3
      · have : c = i := by omega
        subst this
        refine ⟨l, by rw [← ly, List.getElem?_append_right (Nat.le_refl _), Nat.sub_self]; rfl, by simp [nl, nl2], ?_⟩
        rw [upd_ne nl, upd_same, vec_rep]
    · obtain ⟨s2, ys, hy, ly, hall⟩ := hP
      rw [vec_len] at ly hall
      have w2 : Wk H' aw [aw, ar] (P' + W).toNat ps.length fun _ _ => 0 := ⟨ys, hy, ly, hall⟩
      refine ⟨Nat.zero_le _, fun aT naT => ⟨Nat.zero_le _, fun ao nao => ?_⟩⟩
      have s3 : Same H' (upd H' aT (.lst [])) := same_new naT
      have naoH : H' ao = none := s3.free nao
      have s4 : Same H' (upd (upd H' aT (.lst [])) ao (.lst [])) := s3.trans (same_new nao)
      have w3 : Wk (upd (upd H' aT (.lst [])) ao (.lst [])) aw [ao, aT, aw, ar] (P' + W).toNat ps.length fun _ _ => 0 := ((w2.bad naT).bad naoH).same s4
      have eT : (upd (upd H' aT (.lst [])) ao (.lst [])) aT = some (.lst []) := (same_new nao) _ _ upd_same
      have eO : (upd (upd H' aT (.lst [])) ao (.lst [])) ao = some (.lst []) := upd_same
      have d12 : aT ≠ ao := ne_of_none upd_same nao
      generalize upd (upd H' aT (.lst [])) ao (.lst []) = H4 at s4 w3 eT eO
      have s24 := s2.trans s4
      have B0 : BH H H4 ar aw aT ao (P' + W).toNat ps.length (fun c => c) (fun _ _ => 0) (fun _ _ => 0) (trees P' W ps 0).1 (trees P' W ps 0).2 :=
        ⟨s1.trans s24, s24 _ _ hr1, w3, eT, ⟨[], eO, rfl, fun i k h => by cases h⟩, ⟨nar, s1.free naw, (s1.trans s2).free naT, (s1.trans s2).free naoH⟩, ⟨waw, ne_of_none (s2 _ _ hr1) naT, ne_of_none (s2 _ _ hr1) naoH, ne_of_none hy naT, ne_of_none hy naoH, d12⟩⟩
      refine for_enumT (a := tp) (xs := pxs) (fun i σ H' => ∃ y5 y6 y7 y8 y9 y10 y11 root walk ts, σ = [some (.ref a), some (.ref ar), some (.ref aw), some (.ref aT), some (.ref ao), y5, y6, y7, y8, y9, y10, y11, none] ∧ BH H H' ar aw aT ao (P' + W).toNat ps.length root walk ts (trees P' W ps i).1 (trees P' W ps i).2 ∧ BInv P' W ps i root walk ts)
        (fun Q h => ⟨_, rfl, a, T.C_Picture, dx, _, _, rfl, B0.s _ _ ha, T.cl_Picture, T.na_pairs, rfl, h⟩) ⟨_, _, _, _, _, _, _, _, _, _, rfl, B0, BInv.init⟩ (fun i σ H' hP => ?_) (fun i x Z σ H' hx hP nZ => ?_) (fun σ H' hP => ?_)
      · obtain ⟨_, _, _, _, _, _, _, _, _, _, _, B, _⟩ := hP
        exact (hfr.same B.s).seq
      · obtain ⟨y5, y6, y7, y8, y9, y10, y11, root, walk, ts, rfl, B, I⟩ := hP
        obtain ⟨t, q, rfl, hq, ht⟩ := prs_get hps hx
        have hi : i < ps.length := (List.getElem?_eq_some_iff.mp hq).1
        have eq : pe ps i = q := by
          unfold pe
          rw [List.getD_eq_getElem?_getD, hq]
          rfl
        obtain ⟨b1, b2, b3, b4⟩ := hins q (List.mem_of_getElem? hq)
        have sZ : Same H' (upd H' Z (.tup [.int (i : Nat), .ref t])) := same_new nZ
        have hZ : (upd H' Z (.tup [.int (i : Nat), .ref t])) Z = some (.tup [.int (i : Nat), .ref t]) := upd_same
        have B5 := B.same sZ
        generalize upd H' Z (.tup [.int (i : Nat), .ref t]) = H5 at B5 hZ
        have ht5 := B5.s _ _ ht
        obtain ⟨ys5, hy5, ly5, hc5⟩ := id B5.hw
        obtain ⟨bp, ep, np, hp5⟩ := hc5 q.1.toNat (by omega)
        obtain ⟨bf, ef, nf, hf5⟩ := hc5 (P' + q.2).toNat (by omega)
        refine ⟨Z, _, rfl, SqT.of hZ, rfl, _, _, rfl, _, _, rfl, t, _, rfl, SqT.of ht5, rfl, _, _, rfl, _, _, rfl, rfl, rfl, ?_⟩
        refine ⟨_, rfl, a, T.C_Picture, dx, _, _, rfl, B5.s _ _ ha, T.cl_Picture, T.na_points, rfl, _, rfl, P', q.2, rfl, rfl, ?_⟩
        refine ⟨_, rfl, _, rfl, aw, ys5, P' + q.2, .ref bf, rfl, rfl, SqL.of hy5, at_of (j := (P' + q.2).toNat) (by omega) ef, _, rfl, _, rfl, aw, ys5, q.1, .ref bp, rfl, rfl, SqL.of hy5, at_of (j := q.1.toNat) (by omega) ep, ?_⟩
        refine ⟨bf, bp, ps.length, _, _, rfl, SqL.of hf5, SqL.of hp5, by omega, fun g H6 ng s6 hg => ?_⟩
        refine ⟨_, rfl, _, rfl, g, _, (i : Int), _, rfl, rfl, SqL.of hg, vec_ix (by omega) (by omega), _, 1, rfl, rfl, _, rfl, _, rfl, g, _, (i : Int), i, rfl, rfl, hg, ixN_of (by omega) (by rw [vec_len]; omega), ?_⟩
        have egap : (vecV ps.length fun j => walk (P' + q.2).toNat j - walk q.1.toNat j).set i (.int ((walk (P' + q.2).toNat (i : Int).toNat - walk q.1.toNat (i : Int).toNat) + 1)) = vecV ps.length (gapF (walk (ev P' (pe ps i))) (walk (eu (pe ps i))) i) := by
          rw [vec_set]
          refine vec_congr fun j _ => ?_
          rw [eq]
          unfold gapF eu ev
          by_cases c : j = i
          · subst c
            rw [if_pos rfl, if_pos rfl, Int.toNat_natCast]
          · rw [if_neg c, if_neg c, Int.add_zero]
        rw [egap]
        have eu1 : eu (pe ps i) = q.1.toNat := by rw [eq]; rfl
        have ev1 : ev P' (pe ps i) = (P' + q.2).toNat := by rw [eq]; rfl
        have ng4 := B5.new ng
        have s7 : Same H5 (upd H6 g (.lst (vecV ps.length (gapF (walk (ev P' (pe ps i))) (walk (eu (pe ps i))) i)))) := same_put s6 ng
        have hg7 : (upd H6 g (.lst (vecV ps.length (gapF (walk (ev P' (pe ps i))) (walk (eu (pe ps i))) i)))) g = some (.lst (vecV ps.length (gapF (walk (ev P' (pe ps i))) (walk (eu (pe ps i))) i))) := upd_same
        have B7 := B5.same s7
        generalize upd H6 g (.lst (vecV ps.length (gapF (walk (ev P' (pe ps i))) (walk (eu (pe ps i))) i))) = H7 at B7 hg7
        generalize egf : gapF (walk (ev P' (pe ps i))) (walk (eu (pe ps i))) i = gap at hg7
        have tl := trees_len P' W ps i
        have J := trees_inv P' W ps i
        refine ⟨_, rfl, _, rfl, ar, _, q.1, _, rfl, rfl, SqL.of B7.hr, vec_ix b1 (by omega), _, rfl, _, rfl, ar, _, P' + q.2, _, rfl, rfl, SqL.of B7.hr, vec_ix (by omega) (by omega), rfl, _, rfl, ?_⟩
        rw [int_dec]
        by_cases e : root (eu (pe ps i)) = root (ev P' (pe ps i))
        · obtain ⟨t1, I'⟩ := I.tour hins hi e
          rw [egf] at I'
          rw [eu1, ev1] at e
          rw [decide_eq_true (show ((root q.1.toNat : Nat) : Int) = ((root (P' + q.2).toNat : Nat) : Int) by rw [e])]
          obtain ⟨zs, hz, lz, _⟩ := id B7.ho
          refine iteT ⟨_, rfl, .inl ⟨rfl, _, SqL.of hz⟩, _, rfl, g, _, rfl, .inl ⟨SqL.of hg7, fun l nl => ?_⟩⟩
          have s8 : Same H7 (upd H7 l (.tup (vecV ps.length gap))) := same_new nl
          have B8 := B7.same s8
          refine ⟨ao, zs, _, rfl, rfl, s8 _ _ hz, small1000 (by rw [lz]; omega), ?_⟩
          refine ⟨_, _, _, _, _, _, _, root, walk, _, rfl, ?_, I'⟩
          rw [t1]
          exact B8.addO (s8 _ _ hz) upd_same fun k hk z => by
            have := J.ltR k hk
            omega
        · obtain ⟨t1, I'⟩ := I.tree hins hi e
          rw [egf, eu1, ev1] at I'
          rw [eu1, ev1] at e
          rw [decide_eq_false (show ¬ ((root q.1.toNat : Nat) : Int) = ((root (P' + q.2).toNat : Nat) : Int) by omega)]
          refine iteF ⟨_, rfl, .inl ⟨rfl, _, SqL.of B7.ht⟩, _, rfl, aT, _, _, rfl, rfl, B7.ht, small1000 (by rw [natL_len]; omega), ?_⟩
          have B8 := B7.addT (n := i)
          have hg8 : (upd H7 aT (.lst (natL (trees P' W ps i).1 ++ [.int (i : Int)]))) g = some (.lst (vecV ps.length gap)) := by
            rw [upd_ne (fun z => ng4 (by rw [z]; simp))]
            exact hg7
          generalize upd H7 aT (.lst (natL (trees P' W ps i).1 ++ [.int (i : Int)])) = H8 at B8 hg8
          refine ⟨_, rfl, _, rfl, ar, _, P' + q.2, _, rfl, rfl, SqL.of B8.hr, vec_ix (by omega) (by omega), ?_⟩
          refine ⟨_, rfl, ar, _, rfl, .inl (SqL.of B8.hr), _, rfl, by omega, by rw [vec_len]; omega, ?_⟩
          rw [show (((vecV (P' + W).toNat fun c => ((root c : Nat) : Int)).length : Int)).toNat = (P' + W).toNat by rw [vec_len]; omega]
          refine for_range (fun c σ H' => ∃ y11, σ = [some (.ref a), some (.ref ar), some (.ref aw), some (.ref aT), some (.ref ao), some (.int (i : Nat)), some (.int q.1), some (.int q.2), some (.int (P' + q.2)), some (.ref g), some (.int (root (P' + q.2).toNat : Nat)), y11, none] ∧
              BH H H' ar aw aT ao (P' + W).toNat ps.length (rtF root (root (P' + q.2).toNat) (root q.1.toNat) c) (wkF root walk gap (root (P' + q.2).toNat) c) ts ((trees P' W ps i).1 ++ [i]) (trees P' W ps i).2 ∧ H' g = some (.lst (vecV ps.length gap)))
            ⟨_, rfl, B8.congr (fun c _ => (if_neg fun z => Nat.not_lt_zero _ z.1).symm) (fun c _ j => by rw [wkF, if_neg fun z => Nat.not_lt_zero _ z.1]), hg8⟩ (fun c σ H' hc hP => ?_) (fun σ H' hP => ?_)
          · obtain ⟨y11, rfl, B9, hg9⟩ := hP
            refine ⟨_, rfl, _, rfl, ar, _, (0 + (c : Int)), _, rfl, rfl, SqL.of B9.hr, vec_ix (by omega) (by omega), _, rfl, rfl, _, rfl, ?_⟩
            rw [int_dec, show (0 + (c : Int)).toNat = c by omega, rt_self]
            by_cases z : root c = root (P' + q.2).toNat
            · rw [decide_eq_true (show ((root c : Nat) : Int) = ((root (P' + q.2).toNat : Nat) : Int) by rw [z])]
              refine iteT ⟨_, rfl, _, rfl, ar, _, q.1, _, rfl, rfl, SqL.of B9.hr, vec_ix b1 (by omega), _, rfl, _, rfl, ar, _, (0 + (c : Int)), c, rfl, rfl, B9.hr, ixN_of' (by omega) (by rw [vec_len]; exact hc), ?_⟩
              have B10 := B9.setR (root' := rtF root (root (P' + q.2).toNat) (root q.1.toNat) (c + 1)) (xs := (vecV (P' + W).toNat fun d => ((rtF root (root (P' + q.2).toNat) (root q.1.toNat) c d : Nat) : Int)).set c (.int ((rtF root (root (P' + q.2).toNat) (root q.1.toNat) c q.1.toNat : Nat) : Int))) (by
                rw [vec_set, rt_pt e]
                refine vec_congr fun d _ => ?_
                rw [← rt_yes z d]
                split <;> rfl)
              have hg10 : (upd H' ar (.lst ((vecV (P' + W).toNat fun d => ((rtF root (root (P' + q.2).toNat) (root q.1.toNat) c d : Nat) : Int)).set c (.int ((rtF root (root (P' + q.2).toNat) (root q.1.toNat) c q.1.toNat : Nat) : Int))))) g = some (.lst (vecV ps.length gap)) := by
                rw [upd_ne (fun y => ng4 (by rw [y]; simp))]
                exact hg9
              generalize upd H' ar (.lst ((vecV (P' + W).toNat fun d => ((rtF root (root (P' + q.2).toNat) (root q.1.toNat) c d : Nat) : Int)).set c (.int ((rtF root (root (P' + q.2).toNat) (root q.1.toNat) c q.1.toNat : Nat) : Int)))) = H10 at B10 hg10
              obtain ⟨ys, hy, ly, hcs⟩ := id B10.hw
              obtain ⟨b, eb, nb, hb⟩ := hcs c hc
              refine ⟨_, rfl, _, rfl, aw, ys, (0 + (c : Int)), .ref b, rfl, rfl, SqL.of hy, at_of (j := c) (by omega) eb, _, rfl, b, g, ps.length, _, gap, rfl, SqL.of hb, SqL.of hg10, by omega, fun l H11 nl s11 hl => ?_⟩
              have B11 := B10.same s11
              refine ⟨_, rfl, _, rfl, aw, ys, (0 + (c : Int)), c, rfl, rfl, s11 _ _ hy, ixN_of' (by omega) (by rw [ly]; exact hc), ?_⟩
              refine ⟨_, rfl, (B11.setW (s11 _ _ hy) hc hl (B10.new nl)).congr (fun _ _ => rfl) (fun d _ j => ?_), ?_⟩
              · rw [← wk_yes z d]
              · rw [upd_ne (fun y => ng4 (by rw [y]; simp))]
                exact s11 _ _ hg10
            · rw [decide_eq_false (show ¬ ((root c : Nat) : Int) = ((root (P' + q.2).toNat : Nat) : Int) by omega)]
              exact iteF ⟨_, rfl, B9.congr (fun d _ => rt_no z d) (fun d _ j => by rw [wk_no z d]), hg9⟩
          · obtain ⟨y11, rfl, B9, hg9⟩ := hP
            refine ⟨_, _, _, _, _, _, _, _, _, _, rfl, ?_, I'⟩
            rw [t1]
            refine B9.congr (fun c hc => ?_) fun c hc j => ?_
            · unfold rtF
              by_cases z : root c = root (P' + q.2).toNat
              · rw [if_pos ⟨hc, z⟩, if_pos z]
              · rw [if_neg (fun y => z y.2), if_neg z]
            · unfold wkF
              by_cases z : root c = root (P' + q.2).toNat
              · rw [if_pos ⟨hc, z⟩, if_pos z]
              · rw [if_neg (fun y => z y.2), if_neg z]
      · obtain ⟨y5, y6, y7, y8, y9, y10, y11, root, walk, ts, rfl, B, I⟩ := hP
        rw [lps] at B I
        have fin := I.fin hins
        obtain ⟨zs, hz, lz, hall⟩ := id B.ho
        refine ⟨_, rfl, aT, _, rfl, .inl ⟨SqL.of B.ht, fun t1 n1 => ?_⟩⟩
        have s5 : Same H' (upd H' t1 (.tup (natL (trees P' W ps ps.length).1))) := same_new n1
        have h1 : (upd H' t1 (.tup (natL (trees P' W ps ps.length).1))) t1 = some (.tup (natL (trees P' W ps ps.length).1)) := upd_same
        generalize upd H' t1 (.tup (natL (trees P' W ps ps.length).1)) = H5 at s5 h1
        refine ⟨_, rfl, ao, _, rfl, .inl ⟨SqL.of (s5 _ _ hz), fun t2 n2 => ?_⟩⟩
        have s6 : Same H5 (upd H5 t2 (.tup zs)) := same_new n2
        have h2 : (upd H5 t2 (.tup zs)) t2 = some (.tup zs) := upd_same
        generalize upd H5 t2 (.tup zs) = H6 at s6 h2
        refine ⟨by show 2 ≤ sizeLine; decide, fun l nl => ?_⟩
        have s7 : Same H6 (upd H6 l (.tup [.ref t1, .ref t2])) := same_new nl
        refine hQ l _ t1 t2 (((B.s.trans s5).trans s6).trans s7) upd_same (.tup (s7 _ _ (s6 _ _ h1)) (dq_nat _)) (.tup (s7 _ _ h2) ?_)
        rw [← fin, List.map_map]
        refine DqAll.of_get (by rw [List.length_map, lz]) fun i x d hx hd => ?_
        rw [List.getElem?_map] at hd
        obtain ⟨k, hk, rfl⟩ := Option.map_eq_some_iff.mp hd
        obtain ⟨b, eb, hb⟩ := hall i k hk
        rw [eb] at hx
        cases hx
        have hb6 := s7 _ _ (s6 _ _ (s5 _ _ hb))
        rw [vec_map] at hb6
        exact tupI hb6
end
end K03
set_option Elab.async false
set_option linter.all false
set_option maxRecDepth 100000
set_option maxHeartbeats 4000000
set_option exponentiation.threshold 5000
namespace K03
open PySem PySem.Spec PyProof.Rows L2 TkS
/-- whole numbers, as many as the length says -/
def wrowD (d : PyData) (n : V) : Bool := seqIs d n && match itemsD d with
  | some ds => ds.all isIntD
  | none => false
def sp_wrong_index (f : Addr) : Sp := fun vs H Q _ => ∃ x n d, vs = [x, n, .ref f] ∧ Dq H x d ∧ (n = .non ∨ ∃ k : Int, n = .int k) ∧ (wrowD d n = true → ∀ H', Same H H' → Q .non H') ∧ (wrowD d n = false → ∀ (k : Int) H', Same H H' → Q (.int k) H')
def sp_is_whole_row : Sp := fun vs H Q _ => ∃ x n d, vs = [x, n] ∧ Dq H x d ∧ (n = .non ∨ ∃ k : Int, n = .int k) ∧ ∀ H', Same H H' → Q (.bl (wrowD d n)) H'
section
variable {P : Program} {w : World} {K : PySem.W.Frag} {mg : Str → Option Value} {base : Heap}
theorem ok_wrong_index (T : Txt K mg) : FnOk P w K mg base CX0 2 T.f_wrong_index T.d_wrong_index ["thing", "length", "is_good"] (sp_wrong_index T.f_is_whole) := by
  refine T.F_wrong_index.ok sc_wrong_index (fun vs H Q E h => ?_) (fun cdv A outer s H vs Q E hr h => ?_)
  · obtain ⟨x, n, d, rfl, _⟩ := h
    rfl
  · obtain ⟨x, n, d, rfl, hk, hn, hy, hN⟩ := h
    refine ⟨_, (pss_cons (ps_if (pt_not (pt_val (pe_call (ok_is_sequence T) (hr.mono (by decide)) (by rfl) T.g_is_sequence T.F_is_sequence.kp T.b_is_sequence .nil pass0 (pa_cons (pv 0) (pa_cons (pv 1) pa_nil)))))
        (pss_one (ps_ret (pe_un un_neg pe_int)))
        pss_nil)
      (pss_cons (ps_for PassesOwn.never rfl (pi_enumS (by rfl) T.m_enumerate (pa_cons (pv 0) pa_nil)) (pg_tup rfl (pgs_cons (pg_name (i := 3) sc_wrong_index.nd rfl (.inl rfl)) (pgs_cons (pg_name (i := 4) sc_wrong_index.nd rfl (.inl rfl)) pgs_nil)))
        (pss_one (ps_if (pt_not (pt_val (pe_callL (i := 2) (dvs := [.non, .non]) (ok_is_whole T) (hr.mono (by decide)) rfl (.inl rfl) T.F_is_whole.kp T.b2_is_whole (.cons rfl (.cons rfl .nil)) pass0 (pa_cons (pv 4) pa_nil))))
          (pss_one (ps_ret (pv 3)))
          pss_nil)))
      (pss_one (ps_ret pe_non)))), ?_⟩
    refine ⟨_, rfl, _, rfl, x, n, d, rfl, hk, hn, fun H1 s1 => ⟨_, rfl, ?_⟩⟩
    cases c : seqIs d n with
    | false => exact iteT ⟨1, rfl, hN (by unfold wrowD; rw [c]; rfl) _ _ s1⟩
    | true =>
      refine iteF ?_
      cases e : itemsD d with
      | none =>
        unfold seqIs at c
        rw [e] at c
        cases c
      | some ds =>
        have ew : wrowD d n = ds.all isIntD := by
          unfold wrowD
          rw [c, e]
          rfl
        rw [ew] at hy hN
        obtain ⟨p, xs, rfl, hxs, hsq⟩ := sq_of (K := K) (hk.same s1) e
        have lx := hxs.len
        refine for_enumS (a := p) (xs := xs) (fun i σ H' => ∃ y3 y4, σ = [some (.ref p), some n, some (.ref T.f_is_whole), y3, y4] ∧ Same H1 H' ∧ ∀ d' ∈ ds.take i, isIntD d' = true)
          (fun Q h => ⟨_, rfl, h⟩) hsq ⟨_, _, rfl, fun _ _ z => z, fun d' m => by simp at m⟩ (fun i σ H' hP => by obtain ⟨_, _, _, sm, _⟩ := hP; exact sm) (fun i x Z σ H' hx hP nZ => ?_) (fun σ H' hP => ?_)
        · obtain ⟨y3, y4, rfl, s2, hall⟩ := hP
          obtain ⟨d', hd', kd⟩ := hxs.get hx
          have s3 : Same H1 (upd H' Z (.tup [.int (i : Nat), x])) := s2.trans (same_new nZ)
          have kd3 := kd.same s3
          refine ⟨Z, _, rfl, SqT.of upd_same, rfl, _, _, rfl, _, _, rfl, rfl, ?_⟩
          refine ⟨rfl, _, rfl, x, .non, .non, d', rfl, kd3, .inl rfl, .inl rfl, _, rfl, ?_⟩
          rw [wi_any kd3]
          cases hb : isIntD d' with
          | false =>
            refine iteT ⟨_, rfl, hN ?_ _ _ (s1.trans s3)⟩
            cases ha : ds.all isIntD with
            | false => rfl
            | true =>
              rw [List.all_eq_true.mp ha d' (List.mem_of_getElem? hd')] at hb
              cases hb
          | true =>
            refine iteF ⟨_, _, rfl, s3, fun d2 m2 => ?_⟩
            rw [List.take_add_one, hd'] at m2
            rcases List.mem_append.mp m2 with m2 | m2
            · exact hall d2 m2
            · rw [List.mem_singleton.mp (show d2 ∈ [d'] from m2)]
              exact hb
        · obtain ⟨y3, y4, rfl, s2, hall⟩ := hP
          rw [lx, List.take_length] at hall
          exact hy (List.all_eq_true.mpr hall) _ (s1.trans s2)
theorem ok_is_whole_row (T : Txt K mg) : FnOk P w K mg base CX0 3 T.f_is_whole_row T.d_is_whole_row ["thing", "length"] sp_is_whole_row := by
  refine T.F_is_whole_row.ok sc_is_whole_row (fun vs H Q E h => ?_) (fun cdv A outer s H vs Q E hr h => ?_)
  · obtain ⟨x, n, d, rfl, _⟩ := h
    rfl
  · obtain ⟨x, n, d, rfl, hk, hn, hQ⟩ := h
    refine ⟨_, (pss_one (ps_ret (pe_cmpR op_isN (pe_call (ok_wrong_index T) (hr.mono (by decide)) (by rfl) T.g_wrong_index T.F_wrong_index.kp T.b_wrong_index .nil pass0 (pa_cons (pv 0) (pa_cons (pv 1) (pa_cons (pe_glob (v := .ref T.f_is_whole) (by rfl) T.g_is_whole rfl) pa_nil)))) pe_non (nomark _)))), ?_⟩
    refine ⟨_, rfl, _, rfl, x, n, d, rfl, hk, hn, fun e H' s => ⟨rfl, ?_⟩, fun e k H' s => ⟨rfl, ?_⟩⟩
    · have := hQ H' s
      rw [e] at this
      exact this
    · have := hQ H' s
      rw [e] at this
      exact this
end
end K03
set_option Elab.async false
set_option linter.all false
set_option maxRecDepth 100000
set_option maxHeartbeats 4000000
set_option exponentiation.threshold 5000
namespace K03
open PySem PySem.Spec PyProof.Rows L2 TkS
def sp_tree_places (C : Addr) : Sp := fun vs H Q _ => ∃ (a : Addr) (P W : Int) (ps : List (Int × Int)), vs = [.ref a] ∧ Pic C H a P W ps ∧ ∀ t H', Same H H' → Dq H' (.ref t) (.tuple (natD (treeP P W ps))) → Q (.ref t) H'
def sp_other_places (C : Addr) : Sp := fun vs H Q _ => ∃ (a : Addr) (P W : Int) (ps : List (Int × Int)), vs = [.ref a] ∧ Pic C H a P W ps ∧ ∀ t H', Same H H' → Dq H' (.ref t) (.tuple (natD (others P W ps))) → Q (.ref t) H'
def sp_basis_tours (C : Addr) : Sp := fun vs H Q _ => ∃ (a : Addr) (P W : Int) (ps : List (Int × Int)), vs = [.ref a] ∧ Pic C H a P W ps ∧ ∀ t H', Same H H' → Dq H' (.ref t) (.tuple ((basisT P W ps).map vecD)) → Q (.ref t) H'
def sp_row_of (C CT : Addr) : Sp := fun vs H Q E => ∃ (a : Addr) (x : V) (d : PyData) (P W : Int) (ps : List (Int × Int)), vs = [.ref a, x] ∧ Pic C H a P W ps ∧ Dq H x d ∧
  (∀ e, tourW P W ps d = some e → Told CT e H E) ∧ (∀ ns, IsT P W ps d ns → ∀ l H', Same H H' → Dq H' (.ref l) (vecD ((others P W ps).map fun k => ns.getD k 0)) → Q (.ref l) H')
theorem nat_dq {H : Hp} {T : List Nat} {a : Addr} (k : Dq H (.ref a) (.tuple (natD T))) : H a = some (.tup (natL T)) := by
  have e : natD T = (T.map fun (k : Nat) => (k : Int)).map PyData.int := by
    rw [List.map_map]
    rfl
  rw [e] at k
  have := dq_tupI' k
  rw [List.map_map] at this
  exact this
theorem natL_at {T : List Nat} {i : Nat} {y : V} (h : (natL T)[i]? = some y) : ∃ k, T[i]? = some k ∧ y = .int (k : Int) := by
  unfold natL at h
  rw [List.getElem?_map] at h
  obtain ⟨k, hk, e⟩ := Option.map_eq_some_iff.mp h
  exact ⟨k, hk, e.symm⟩
theorem inV_nat {T : List Nat} {k : Nat} : inV (.int (k : Int)) (natL T) = decide (k ∈ T) := by
  have h : inV (.int (k : Int)) (natL T) = true ↔ k ∈ T := by
    unfold inV natL
    rw [List.any_eq_true]
    refine ⟨fun ⟨y, hy, e⟩ => ?_, fun h => ⟨_, List.mem_map.mpr ⟨k, h, rfl⟩, show ((k : Int) == (k : Int)) = true from beq_self_eq_true _⟩⟩
    obtain ⟨z, hz, rfl⟩ := List.mem_map.mp hy
    have e2 : ((z : Int) == (k : Int)) = true := e
    have e3 := beq_iff_eq.mp e2
    have : z = k := by omega
    rw [← this]
    exact hz
  cases c : inV (.int (k : Int)) (natL T) with
  | true => exact (decide_eq_true (h.mp c)).symm
  | false => exact (decide_eq_false fun z => by rw [h.mpr z] at c; cases c).symm
theorem nat_flat (T : List Nat) : (natL T).all flatV = true := by
  rw [List.all_eq_true]
  intro y hy
  obtain ⟨z, _, rfl⟩ := List.mem_map.mp hy
  rfl
section
variable {P : Program} {w : World} {K : PySem.W.Frag} {mg : Str → Option Value} {base : Heap}
theorem ok_tree_places (T : Txt K mg) : FnOk P w K mg base CX0 5 T.f_tree_places T.d_tree_places ["picture"] (sp_tree_places T.C_Picture) := by
  refine T.F_tree_places.ok sc_tree_places (fun vs H Q E h => ?_) (fun cdv A outer s H vs Q E hr h => ?_)
  · obtain ⟨a, P', W, ps, rfl, _⟩ := h
    rfl
  · obtain ⟨a, P', W, ps, rfl, hp, hQ⟩ := h
    refine ⟨_, (pss_cons (ps_asg (pe_call (ok_tree_and_basis T) (hr.mono (by decide)) (by rfl) T.g_tree_and_basis T.F_tree_and_basis.kp T.b_tree_and_basis .nil pass0 (pa_cons (pv 0) pa_nil)) (pg_tup rfl (pgs_cons (pg_name (i := 1) sc_tree_places.nd rfl (.inl rfl)) (pgs_cons (pg_name (i := 2) sc_tree_places.nd rfl (.inl rfl)) pgs_nil))))
      (pss_one (ps_ret (pv 1)))), ?_⟩
    refine ⟨_, rfl, a, P', W, ps, rfl, hp, fun l H' t1 t2 s hl k1 k2 => ⟨l, _, rfl, SqT.of hl, rfl, _, _, rfl, _, _, rfl, rfl, ?_⟩⟩
    exact ⟨_, rfl, hQ t1 H' s k1⟩
theorem ok_basis_tours (T : Txt K mg) : FnOk P w K mg base CX0 5 T.f_basis_tours T.d_basis_tours ["picture"] (sp_basis_tours T.C_Picture) := by
  refine T.F_basis_tours.ok sc_basis_tours (fun vs H Q E h => ?_) (fun cdv A outer s H vs Q E hr h => ?_)
  · obtain ⟨a, P', W, ps, rfl, _⟩ := h
    rfl
  · obtain ⟨a, P', W, ps, rfl, hp, hQ⟩ := h
    refine ⟨_, (pss_cons (ps_asg (pe_call (ok_tree_and_basis T) (hr.mono (by decide)) (by rfl) T.g_tree_and_basis T.F_tree_and_basis.kp T.b_tree_and_basis .nil pass0 (pa_cons (pv 0) pa_nil)) (pg_tup rfl (pgs_cons (pg_name (i := 1) sc_basis_tours.nd rfl (.inl rfl)) (pgs_cons (pg_name (i := 2) sc_basis_tours.nd rfl (.inl rfl)) pgs_nil))))
      (pss_one (ps_ret (pv 2)))), ?_⟩
    refine ⟨_, rfl, a, P', W, ps, rfl, hp, fun l H' t1 t2 s hl k1 k2 => ⟨l, _, rfl, SqT.of hl, rfl, _, _, rfl, _, _, rfl, rfl, ?_⟩⟩
    exact ⟨_, rfl, hQ t2 H' s k2⟩
theorem ok_other_places (T : Txt K mg) : FnOk P w K mg base CX0 6 T.f_other_places T.d_other_places ["picture"] (sp_other_places T.C_Picture) := by
  refine T.F_other_places.ok sc_other_places (fun vs H Q E h => ?_) (fun cdv A outer s H vs Q E hr h => ?_)
  · obtain ⟨a, P', W, ps, rfl, _⟩ := h
    rfl
  · obtain ⟨a, P', W, ps, rfl, hp, hQ⟩ := h
    refine ⟨_, (pss_cons (ps_set (i := 1) sc_other_places.nd rfl (.inr rfl) (pe_call (ok_tree_places T) (hr.mono (by decide)) (by rfl) T.g_tree_places T.F_tree_places.kp T.b_tree_places .nil pass0 (pa_cons (pv 0) pa_nil)))
      (pss_one (ps_ret (pe_callTy call_tupD (by rfl) T.m_tuple (by decide +kernel) (pa_cons (pe_lc rfl sc_other_places.nd (pi_range1 (by rfl) T.m_range (pa_cons (pe_callB (call_lenOwn (ok_Picture_len T) (hr.mono (by decide)) T.len_at T.len_fn T.b_Picture_len pass0) (by rfl) T.m_len (by decide +kernel) (pa_cons (pv 0) pa_nil)) pa_nil)) (blkOk_by (own := [("place", 2)]) (N := ["picture", "tree", "place"]) (sc := defScope s_other_places) (by decide +kernel)) (fun _ _ _ _ _ => (pg_name (i := 2) sc_other_places.nd rfl (.inl rfl))) (fun _ _ _ _ _ => (pts_one (pt_cmpR (show OpR _ (compareOp .NotIn) (rIn K true) from op_notIn_seq) (pv 2) (pv 1) rfl))) (fun _ _ _ _ _ => (pv 2))) pa_nil))))), ?_⟩
    obtain ⟨dx, tp, pv_, pxs, ha, hfr, hps, _⟩ := hp.at_
    have l25 := pic_len hp
    refine ⟨_, rfl, a, P', W, ps, rfl, hp, fun t H1 s1 k1 => ?_⟩
    have ht1 := nat_dq k1
    refine ⟨_, rfl, a, dx, _, ps.length, rfl, s1 _ _ ha, by omega, a, P', W, ps, rfl, hp.same s1, fun H2 s2 => ⟨rfl, _, rfl, by omega, by omega, fun D nD => ?_⟩⟩
    rw [show ((ps.length : Nat) : Int).toNat = ps.length by omega]
    refine lc_rngD (fun k => decide (k ∉ treeP P' W ps)) (fun k => .int (k : Int)) nD (by omega) (fun _ => rfl) (fun k H3 Q3 hk s3 q3 => ?_) (fun k H3 Q3 hk _ s3 acc q3 => ?_) (fun H3 s3 kD => ?_)
    · refine ⟨_, rfl, _, rfl, t, _, rfl, .inr (SqT.of (s3 _ _ (s2 _ _ ht1))), rfl, nat_flat _, _, rfl, ?_⟩
      rw [Int.zero_add, inV_nat]
      have e : (!decide (k ∈ treeP P' W ps)) = decide (k ∉ treeP P' W ps) := by simp
      show Q3 (!decide (k ∈ treeP P' W ps)) H3
      rw [e]
      exact q3 _ fun _ _ z => z
    · refine ⟨_, rfl, ?_⟩
      rw [Int.zero_add]
      exact q3 _ _ (fun _ _ z => z) (.int _)
    · rw [← others_filter] at kD
      exact ⟨_, _, _, rfl, kD, rfl, fun l H4 s4 k4 => hQ l H4 (((s1.trans s2).trans s3).trans s4) k4⟩
theorem ok_row_of (T : Txt K mg) : FnOk P w K mg base (L2.CX P w) 7 T.f_row_of T.d_row_of ["picture", "tour"] (sp_row_of T.C_Picture T.C_BadTour) := by
  refine T.F_row_of.okX sc_row_of (fun vs H Q E h => ?_) (fun cdv A outer s H vs Q E hr h => ?_)
  · obtain ⟨a, x, d, P', W, ps, rfl, _⟩ := h
    rfl
  · obtain ⟨a, x, d, P', W, ps, rfl, hp, kx, hE, hQ⟩ := h
    refine ⟨_, (pss_cons (ps_set (i := 2) sc_row_of.nd rfl (.inr rfl) (pe_call (ok_check_tour T) (hr.mono (by decide)) (by rfl) T.g_check_tour T.F_check_tour.kp T.b_check_tour .nil (passes_call (W := fun cls d _ H => E cls d H) (takes_of rfl rfl rfl rfl) (fun _ _ _ _ h => h)) (pa_cons (pv 0) (pa_cons (pv 1) pa_nil))))
      (pss_one (ps_ret (pe_callTy call_tuple_of (by rfl) T.m_tuple (by decide +kernel) (pa_cons (pe_lc rfl sc_row_of.nd (pi_seq (pe_call (ok_other_places T) (hr.mono (by decide)) (by rfl) T.g_other_places T.F_other_places.kp T.b_other_places .nil pass0 (pa_cons (pv 0) pa_nil))) (blkOk_by (own := [("place", 3)]) (N := ["picture", "tour", "numbers", "place"]) (sc := defScope s_row_of) (by decide +kernel)) (fun _ _ _ _ _ => (pg_name (i := 3) sc_row_of.nd rfl (.inl rfl))) (fun _ _ _ _ _ => pts_nil) (fun _ _ _ _ _ => (pe_ix (show IxR _ (rIxT K) from ix_tup) (pv 2) (pv 3) (fun _ _ => rfl)))) pa_nil))))), ?_⟩
    refine ⟨_, rfl, _, rfl, a, x, d, P', W, ps, rfl, hp, kx, hE, fun ds w1 i1 l1 H1 s1 k1 => ?_⟩
    obtain ⟨ns, e1, t1⟩ := isT_of w1
    rw [e1] at i1
    cases i1
    have h1 := dq_tupI' k1
    refine .inr ⟨_, rfl, a, P', W, ps, rfl, hp.same s1, fun t H2 s2 k2 => ?_⟩
    have h2 := nat_dq k2
    have l25 := pic_len hp
    have lo : (others P' W ps).length ≤ ps.length := by
      have := sum_len (P := P') (W := W) (ps := ps)
      omega
    refine ⟨t, rfl, ⟨_, SqT.of h2⟩, fun D nD => ?_⟩
    refine lc_tupV (xs := natL (others P' W ps)) (fun _ => true) (fun i => V.int (ns.getD ((others P' W ps).getD i 0) 0)) (SqT.of h2) (by rw [natL_len]; omega) nD (fun i y H' R N hy s yes no => ?_) (fun H' s3 hD => ?_)
    · obtain ⟨k, hk, rfl⟩ := natL_at hy
      have ek : (others P' W ps).getD i 0 = k := by
        rw [List.getD_eq_getElem?_getD, hk]
        rfl
      have lk := others_lt k (List.mem_of_getElem? hk)
      refine ⟨rfl, _, rfl, _, rfl, l1, _, (k : Int), _, rfl, rfl, SqT.of (s _ _ (s2 _ _ h1)), ix_at (by omega) (by rw [t1.len]; omega), ?_⟩
      have := yes rfl H' fun _ _ z => z
      rw [ek] at this
      rw [Int.toNat_natCast]
      exact this
    · rw [range_all, natL_len] at hD
      have e : (List.range (others P' W ps).length).map (fun i => V.int (ns.getD ((others P' W ps).getD i 0) 0)) = ((others P' W ps).map fun k => ns.getD k 0).map V.int := by
        rw [List.map_map]
        refine List.ext_getElem? fun i => ?_
        rw [List.getElem?_map, List.getElem?_map]
        by_cases h : i < (others P' W ps).length
        · rw [List.getElem?_range h, List.getElem?_eq_getElem h]
          show some (V.int (ns.getD ((others P' W ps).getD i 0) 0)) = some (V.int (ns.getD (others P' W ps)[i] 0))
          rw [List.getD_eq_getElem?_getD (l := others P' W ps), List.getElem?_eq_getElem h]
          rfl
        · rw [List.getElem?_eq_none (by simpa using h), List.getElem?_eq_none (by omega)]
          rfl
      rw [e] at hD
      exact ⟨D, _, rfl, .inl ⟨SqL.of hD, fun l n => hQ ns ⟨e1, t1⟩ l _ (((s1.trans s2).trans s3).trans (same_new n)) (tupI upd_same)⟩⟩
end
end K03
set_option Elab.async false
set_option linter.all false
set_option maxRecDepth 100000
set_option maxHeartbeats 4000000
set_option exponentiation.threshold 5000
namespace K03
open PySem PySem.Spec PyProof.Rows L2 TkS
def sp_tour_of (C CR : Addr) : Sp := fun vs H Q E => ∃ (a : Addr) (x : V) (d : PyData) (P W : Int) (ps : List (Int × Int)), vs = [.ref a, x] ∧ Pic C H a P W ps ∧ Dq H x d ∧
  (wrowD d (.int ((others P W ps).length : Nat)) = false → ∀ H', Same H H' → E (.ref CR) none H') ∧
  (∀ row : List Int, itemsD d = some (row.map PyData.int) → row.length = (others P W ps).length → (∀ z ∈ row, Sml z) ∧ ∀ l H', Same H H' → Dq H' (.ref l) (vecD (tourOf P W ps row)) → Q (.ref l) H')
/-- what is gathered at a place -/
def acF (P W : Int) (ps : List (Int × Int)) (row : List Int) (n : Nat) : Nat → Int := fun j => S (List.range n) fun t => row.getD t 0 * ((basisT P W ps).getD t []).getD j 0
theorem acF_succ {P W : Int} {ps : List (Int × Int)} {row : List Int} {n j : Nat} : acF P W ps row (n + 1) j = acF P W ps row n j + row.getD n 0 * ((basisT P W ps).getD n []).getD j 0 := by
  unfold acF
  rw [List.range_succ, S_append, S_cons, S_nil, Int.add_zero]
theorem acF_vec {P W : Int} {ps : List (Int × Int)} {row : List Int} {n : Nat} : (accF P W ps row n).map V.int = vecV ps.length (acF P W ps row n) := by
  rw [vec_map]
  rfl
theorem basis_len {P W : Int} {ps : List (Int × Int)} : (basisT P W ps).length = (others P W ps).length := List.length_map _
theorem basis_get {P W : Int} {ps : List (Int × Int)} {i : Nat} {b : List Int} (h : (basisT P W ps)[i]? = some b) : (basisT P W ps).getD i [] = b ∧ b.length = ps.length ∧ (Ins P W ps → ∀ x ∈ b, x = -1 ∨ x = 0 ∨ x = 1) := by
  have hi := (List.getElem?_eq_some_iff.mp h).1
  refine ⟨by rw [List.getD_eq_getElem?_getD, h]; rfl, ?_, fun ins => ?_⟩
  · unfold basisT at h
    rw [List.getElem?_map] at h
    obtain ⟨k, hk, rfl⟩ := Option.map_eq_some_iff.mp h
    exact tourOf_len
  · unfold basisT at h
    rw [List.getElem?_map] at h
    obtain ⟨k, hk, rfl⟩ := Option.map_eq_some_iff.mp h
    exact basis_small ins (List.mem_of_getElem? hk)
theorem wrow_ok {d : PyData} {n : Nat} (h : wrowD d (.int (n : Nat)) = true) : ∃ row : List Int, itemsD d = some (row.map PyData.int) ∧ row.length = n := by
  unfold wrowD at h
  obtain ⟨h1, h2⟩ := Bool.and_eq_true_iff.mp h
  cases e : itemsD d with
  | none =>
    rw [e] at h2
    cases h2
  | some ds =>
    rw [e] at h2
    unfold seqIs at h1
    rw [e] at h1
    have l : ((ds.length : Nat) : Int) = (n : Nat) := of_decide_eq_true h1
    exact ⟨ds.map intD, congrArg some (ints_of h2), by rw [List.length_map]; omega⟩
section
variable {P : Program} {w : World} {K : PySem.W.Frag} {mg : Str → Option Value} {base : Heap}
theorem ok_tour_of (T : Txt K mg) : FnOk P w K mg base (L2.CX P w) 6 T.f_tour_of T.d_tour_of ["picture", "row"] (sp_tour_of T.C_Picture T.C_BadRow) := by
  refine T.F_tour_of.okX sc_tour_of (fun vs H Q E h => ?_) (fun cdv A outer s H vs Q E hr h => ?_)
  · obtain ⟨a, x, d, P', W, ps, rfl, _⟩ := h
    rfl
  · obtain ⟨a, x, d, P', W, ps, rfl, hp, kx, hE, hQ⟩ := h
    refine ⟨_, (pss_cons (ps_set (i := 2) sc_tour_of.nd rfl (.inl rfl) (pe_call (ok_basis_tours T) (hr.mono (by decide)) (by rfl) T.g_basis_tours T.F_basis_tours.kp T.b_basis_tours .nil pass0 (pa_cons (pv 0) pa_nil)))
      (pss_cons (ps_if (pt_not (pt_val (pe_call (ok_is_whole_row T) (hr.mono (by decide)) (by rfl) T.g_is_whole_row T.F_is_whole_row.kp T.b_is_whole_row .nil pass0 (pa_cons (pv 1) (pa_cons (pe_callB call_len_seq (by rfl) T.m_len (by decide +kernel) (pa_cons (pv 2) pa_nil)) pa_nil)))))
        (pss_one (ps_raise (W := fun cls d _ H => E cls d H) rfl (takes_of rfl rfl rfl rfl) (pmk_own0 PySem.F.excBase_ValueError T.q_BadRow T.g_BadRow T.k_BadRow (raises_own T.b_BadRow T.ty_BadRow) (by rfl))))
        pss_nil)
      (pss_cons (ps_set (i := 3) sc_tour_of.nd rfl (.inl rfl) (pe_callTy call_list_of (by rfl) T.m_list (by decide +kernel) (pa_cons (pe_call (ok_no_tour T) (hr.mono (by decide)) (by rfl) T.g_no_tour T.F_no_tour.kp T.b_no_tour .nil pass0 (pa_cons (pv 0) pa_nil)) pa_nil)))
      (pss_cons (ps_for (by exact passes_of rfl) rfl (RZM.pi_zipS (by rfl) T.m_zip (pa_cons (pv 1) (pa_cons (pv 2) pa_nil))) (pg_tup rfl (pgs_cons (pg_name (i := 4) sc_tour_of.nd rfl (.inl rfl)) (pgs_cons (pg_name (i := 5) sc_tour_of.nd rfl (.inl rfl)) pgs_nil)))
        (pss_one (ps_for (by exact passes_of rfl) rfl (pi_range1 (by rfl) T.m_range (pa_cons (pe_callB call_len_seq (by rfl) T.m_len (by decide +kernel) (pa_cons (pv 3) pa_nil)) pa_nil)) (pg_name (i := 6) sc_tour_of.nd rfl (.inl rfl))
          (pss_one (ps_asg (pe_op op_add (pe_ix ix_list (pv 3) (pv 6) (fun _ _ => rfl)) (pe_op op_mulW (pv 4) (pe_ix ix_tup (pv 5) (pv 6) (fun _ _ => rfl)))) (pg_sub (pv 3) (pv 6) set_list))))))
      (pss_one (ps_ret (pe_callTy call_tuple_of (by rfl) T.m_tuple (by decide +kernel) (pa_cons (pv 3) pa_nil)))))))), ?_⟩
    have l25 := pic_len hp
    have lo : (others P' W ps).length ≤ ps.length := by
      have := sum_len (P := P') (W := W) (ps := ps)
      omega
    refine ⟨_, rfl, a, P', W, ps, rfl, hp, fun t H1 s1 k1 => ?_⟩
    obtain ⟨zs, hz, kz⟩ : ∃ zs, H1 t = some (.tup zs) ∧ DqAll H1 zs ((basisT P' W ps).map vecD) := by
      cases k1 with
      | tup e k => exact ⟨_, e, k⟩
    have lz : zs.length = (others P' W ps).length := by rw [kz.len, List.length_map, basis_len]
    refine ⟨_, rfl, _, rfl, t, _, rfl, .inr (SqT.of hz), x, .int zs.length, d, rfl, kx.same s1, .inr ⟨_, rfl⟩, fun H2 s2 => ⟨_, rfl, ?_⟩⟩
    rw [lz]
    cases c : wrowD d (.int ((others P' W ps).length : Nat)) with
    | false => exact iteT (hE c _ (s1.trans s2))
    | true =>
      refine iteF ?_
      obtain ⟨row, er, lr⟩ := wrow_ok c
      obtain ⟨sr, q⟩ := hQ row er lr
      have s12 := s1.trans s2
      obtain ⟨p, xs, rfl, hxs, hsq⟩ := sq_of (K := K) (kx.same s12) er
      have exs : xs = row.map V.int := intl_dq hxs
      subst exs
      refine ⟨_, rfl, a, P', W, ps, rfl, hp.same s12, fun l2 H3 s3 k3 => ⟨l2, _, rfl, .inr (SqT.of (dq_tupI' k3)), fun ln nln => ?_⟩⟩
      have s13 := s2.trans s3
      have s03 := s1.trans s13
      have hz3 := s13 _ _ hz
      have kz3 := DqAll.same s13 _ kz
      have h0 : (upd H3 ln (.lst ((List.replicate ps.length (0 : Int)).map V.int))) ln = some (.lst (vecV ps.length (acF P' W ps row 0))) := by
        rw [upd_same, vec_rep]
        rfl
      have s34 : Same H3 (upd H3 ln (.lst ((List.replicate ps.length (0 : Int)).map V.int))) := same_new nln
      generalize upd H3 ln (.lst ((List.replicate ps.length (0 : Int)).map V.int)) = H4 at h0 s34
      obtain ⟨t1, ht1⟩ := sqs_of (hsq.same s3)
      refine ⟨_, rfl, _, rfl, t1, true, p, t, row.map V.int, zs, rfl, sqs_same s34 ht1, SqT.of (s34 _ _ hz3), ?_⟩
      refine RZM.for_zipS (xs := row.map V.int) (ys := zs) (by rw [List.length_map, lr, lz]) (fun i σ H' => ∃ y4 y5 y6, σ = [some (.ref a), some (.ref p), some (.ref t), some (.ref ln), y4, y5, y6] ∧ Same H3 H' ∧ H' ln = some (.lst (vecV ps.length (acF P' W ps row i))))
        ⟨_, _, _, rfl, s34, h0⟩ (fun i σ H' hP => ?_) (fun i x y Z σ H' hx hy hP nZ => ?_) (fun σ H' hP => ?_)
      · obtain ⟨_, _, _, _, s5, _⟩ := hP
        exact ⟨sqs_same s5 ht1, SqT.of (s5 _ _ hz3)⟩
      · obtain ⟨y4, y5, y6, rfl, s5, hl⟩ := hP
        obtain ⟨n, hn, rfl⟩ := map_at hx
        obtain ⟨d', hd', kd⟩ := kz3.get hy
        rw [List.getElem?_map] at hd'
        obtain ⟨b, hb, rfl⟩ := Option.map_eq_some_iff.mp hd'
        obtain ⟨eb, lb, smb⟩ := basis_get hb
        obtain ⟨tb, rfl, htb⟩ := dq_tupI kd
        have en : row.getD i 0 = n := by
          rw [List.getD_eq_getElem?_getD, hn]
          rfl
        have sn : Sml n := sr n (List.mem_of_getElem? hn)
        have sZ : Same H' (upd H' Z (.tup [.int n, .ref tb])) := same_new nZ
        have hZ : (upd H' Z (.tup [.int n, .ref tb])) Z = some (.tup [.int n, .ref tb]) := upd_same
        have hl5 := sZ _ _ hl
        have s6 := s5.trans sZ
        generalize upd H' Z (.tup [.int n, .ref tb]) = H5 at hl5 s6 hZ
        refine ⟨Z, _, rfl, SqT.of hZ, rfl, _, _, rfl, _, _, rfl, rfl, ?_⟩
        refine ⟨_, rfl, ln, _, rfl, .inl (SqL.of hl5), _, rfl, by omega, by rw [vec_len]; omega, ?_⟩
        rw [show ((vecV ps.length (acF P' W ps row i)).length : Int).toNat = ps.length by rw [vec_len]; omega]
        refine for_range (fun c σ H' => ∃ y6, σ = [some (.ref a), some (.ref p), some (.ref t), some (.ref ln), some (.int n), some (.ref tb), y6] ∧ Same H3 H' ∧ H' ln = some (.lst (vecV ps.length fun j => if j < c then acF P' W ps row (i + 1) j else acF P' W ps row i j)))
          ⟨_, rfl, s6, by rw [hl5, vec_congr (g := fun j => if j < 0 then acF P' W ps row (i + 1) j else acF P' W ps row i j) fun j _ => (if_neg (Nat.not_lt_zero _)).symm]⟩ (fun c σ H6 hc hP => ?_) (fun σ H6 hP => ?_)
        · obtain ⟨y6, rfl, s7, hl6⟩ := hP
          have htb6 := s7 _ _ htb
          have sb : Sml (b.getD c 0) := by
            have := smb hp.ins _ (mem_getD (show c < b.length by omega))
            unfold Sml
            rcases this with z | z | z <;> rw [z] <;> decide
          refine ⟨_, rfl, _, rfl, ln, _, (0 + (c : Int)), _, rfl, rfl, SqL.of hl6, vec_ix (by omega) (by omega), _, rfl, _, rfl, _, rfl, tb, _, (0 + (c : Int)), _, rfl, rfl, SqT.of htb6, ix_at (by omega) (by omega), n, _, rfl, rfl, ?_, ?_⟩
          · rw [show (0 + (c : Int)).toNat = c by omega]
            exact sml_mul sn sb
          · refine ⟨_, _, rfl, rfl, _, rfl, _, rfl, ln, _, (0 + (c : Int)), c, rfl, rfl, hl6, ixN_of' (by omega) (by rw [vec_len]; exact hc), ?_⟩
            refine ⟨_, rfl, same_put s7 nln, ?_⟩
            rw [upd_same, vec_set]
            congr 2
            refine vec_congr fun j _ => ?_
            rw [show (0 + (c : Int)).toNat = c by omega, if_neg (Nat.lt_irrefl c)]
            by_cases e : j = c
            · subst e
              rw [if_pos rfl, if_pos (by omega), acF_succ, en, eb]
            · rw [if_neg e]
              by_cases l : j < c
              · rw [if_pos l, if_pos (by omega)]
              · rw [if_neg l, if_neg (by omega)]
        · obtain ⟨y6, rfl, s7, hl6⟩ := hP
          refine ⟨_, _, _, rfl, s7, ?_⟩
          rw [hl6]
          congr 2
          exact vec_congr fun j hj => if_pos hj
      · obtain ⟨y4, y5, y6, rfl, s5, hl⟩ := hP
        rw [List.length_map] at hl
        rw [← acF_vec, accF_fin hp.ins lr] at hl
        exact ⟨_, rfl, ln, _, rfl, .inl ⟨SqL.of hl, fun l n => q l _ ((s03.trans s5).trans (same_new n)) (tupI upd_same)⟩⟩
end
end K03
set_option Elab.async false
set_option linter.all false
set_option maxRecDepth 100000
set_option maxHeartbeats 4000000
set_option exponentiation.threshold 5000
namespace TkS
open PySem PySem.Spec PyProof.Rows L2
theorem call_isE2 {X : Cx} {a D : Addr} {oe : Obj} {cls : Value} {d : Option Addr} {pn : List (Addr × Obj)} (C : ExcC X.K D) (hz : Zc cls d oe) (hf : ∃ vs, oe.data = .fields vs) : CallR (X.suite a ((a, oe) :: pn)) (.builtin "isinstance") (fun xs H Q => cls = .ref D ∧ d = none ∧ rIsE X.K D a xs H Q) := by
  intro pins s σ H xs us Q I r h
  obtain ⟨rfl, rfl, h⟩ := h
  exact call_isE C hz hf pins s σ H xs us Q I r h
theorem op_lc {r : R2} {wi : TI} {g : TG} {tt : TT} {te tb : TE} {vs : List Nat} {σ : L2.St} {H : Hp} {Q : VK} (h : tLc wi g tt te vs σ H fun x H1 => tb σ H1 fun y H2 => r x y H2 Q) : tOp r (tLc wi g tt te vs) tb σ H Q := h
end TkS
namespace K03
open PySem PySem.Spec PyProof.Rows L2 TkS
theorem eqv_emptyL (ds : List PyData) : PyData.eqv (.list ds) (.list []) = ds.isEmpty := by
  cases ds <;> simp [PyData.eqv, PyData.eqvAll]
def sp_law_tuple : Sp := fun vs H Q _ => ∃ (x y : V) (d : PyData) (ns : List Int), vs = [x, y] ∧ Dq H x (.tuple (ns.map PyData.int)) ∧ Dq H y d ∧ itemsD d = some (ns.map PyData.int) ∧ ns.length ≤ 40 ∧ ∀ H', Same H H' → Q (.bl true) H'
theorem eqv_ints (ns : List Int) : PyData.eqv (.tuple (ns.map PyData.int)) (.tuple (ns.map PyData.int)) = true := by
  have : PyData.eqvAll (ns.map PyData.int) (ns.map PyData.int) = true := by
    induction ns with
    | nil => simp [PyData.eqvAll]
    | cons n ns ih => simp [PyData.eqvAll, PyData.eqv, ih]
  simpa [PyData.eqv] using this
theorem shaped_ints {α : Type} (f : α → Int) (l : List α) : SeqAt.shaped (.tuple (l.map fun x => PyData.int (f x))) = true := by
  have h : PyData.canLayAll0 (l.map fun x => PyData.int (f x)) = true ∧ PyData.depthAll (l.map fun x => PyData.int (f x)) = 0 := by
    induction l with
    | nil => exact ⟨rfl, rfl⟩
    | cons a l ih => simp [PyData.canLayAll0, PyData.depthAll, PyData.canLay0, PyData.depth, ih.1, ih.2]
  simp [SeqAt.shaped, PyData.canLay0, PyData.depth, h.1, h.2]
theorem shp_ints (ns : List Int) : SeqAt.shaped (.tuple (ns.map PyData.int)) = true := shaped_ints id ns
section
variable {P : Program} {w : World} {K : PySem.W.Frag} {mg : Str → Option Value} {base : Heap}
theorem ok_law_tuple (T : Txt K mg) : FnOk P w K mg base CX0 3 T.f_law_tuple T.d_law_tuple ["_law_told", "_law_due"] sp_law_tuple := by
  refine T.F_law_tuple.ok sc_law_tuple (fun vs H Q E h => ?_) (fun cdv A outer s H vs Q E hr h => ?_)
  · obtain ⟨x, y, d, ns, rfl, _⟩ := h
    rfl
  · obtain ⟨x, y, d, ns, rfl, kx, ky, e, l40, q⟩ := h
    refine ⟨_, (pss_one (ps_ret (pe_and (pe_callB call_isi (by rfl) T.m_isinstance (by decide +kernel) (pa_cons (pv 0) (pa_cons (pe_bltn (v := .ty "tuple") (u := .type "tuple") (by rfl) T.m_tuple (by decide +kernel) rfl) pa_nil))) (pe_and (pe_cmpR (op_eqD hr.units) (pv 0) (pe_callTy call_tupD (by rfl) T.m_tuple (by decide +kernel) (pa_cons (pv 1) pa_nil)) (nomark _)) (pe_one (pe_cmpR (op_eqD hr.units) (pe_lc rfl sc_law_tuple.nd (pi_seq (pv 0)) (blkOk_by (own := [("_law_x", 2)]) (N := ["_law_told", "_law_due", "_law_x"]) (sc := defScope s_law_tuple) (by decide +kernel)) (fun _ _ _ _ _ => (pg_name (i := 2) sc_law_tuple.nd rfl (.inl rfl))) (fun _ _ _ _ _ => (pts_one (pt_not (pt_val (pe_call (ok_law_whole T) (hr.mono (by decide)) (by rfl) T.g_law_whole T.F_law_whole.kp T.b_law_whole .nil pass0 (pa_cons (pv 2) pa_nil)))))) (fun _ _ _ _ _ => (pv 2))) (pe_lst pa_nil) (nomark _))))))), ?_⟩
    obtain ⟨t, ty, _, _, _, k4⟩ := dq_ty (K := K) kx
    refine ⟨x, rfl, x, .ty "tuple", t, _, true, rfl, .ty _, ty, k4, _, rfl, iteT ?_⟩
    refine ⟨_, rfl, _, rfl, y, d, _, rfl, ky, e, fun l H1 s1 k1 => ⟨_, _, (kx.same s1).dp, k1.dp, shp_ints ns, shp_ints ns, ?_⟩⟩
    rw [eqv_ints]
    refine ⟨_, rfl, iteT (op_lc ?_)⟩
    obtain ⟨a, rfl, ha⟩ := dq_tupI (kx.same s1)
    refine lc_seqD (a := a) (ds := ns.map PyData.int) (fun d => !isIntD d) id (fun Q h => ⟨_, rfl, h⟩) (.inr (SqT.of ha)) (dq_intl ns) (by rw [List.length_map]; omega) (fun _ => rfl) (fun i x d' H2 Q2 hd' _ kd' q2 => ?_) (fun D i x d' H2 Q2 nD hd' _ s2 kd' hD q2 => ?_) (fun D H2 nD s2 kD => ?_)
    · exact ⟨_, rfl, x, d', rfl, kd', _, rfl, q2 _ fun _ _ z => z⟩
    · obtain ⟨acc, hacc⟩ := hD
      rw [List.getElem?_map] at hd'
      obtain ⟨n, _, rfl⟩ := Option.map_eq_some_iff.mp hd'
      exact ⟨_, rfl, q2 _ _ (fun _ _ z => z) (dq_noL hacc _ rfl kd')⟩
    · have em : (((ns.map PyData.int).filter fun d => !isIntD d).map id) = [] := by
        rw [List.map_id, List.filter_eq_nil_iff]
        intro z hz
        obtain ⟨n, _, rfl⟩ := List.mem_map.mp hz
        exact Bool.false_ne_true
      rw [em] at kD
      refine ⟨Nat.zero_le _, fun D2 nD2 => ?_⟩
      have s3 := same_new (o := .lst []) nD2
      refine ⟨.list [], .list [], (kD.same s3).dp, (Dq.lst upd_same .nil).dp, by decide, by decide, ?_⟩
      rw [eqv_emptyL]
      exact q _ ((s1.trans s2).trans s3)
end
end K03
set_option Elab.async false
set_option linter.all false
set_option maxRecDepth 100000
set_option maxHeartbeats 4000000
set_option exponentiation.threshold 5000
namespace K03
open PySem PySem.Spec PyProof.Rows L2 TkS
def sp_law_refused (C : Addr) : Sp := fun vs H Q _ => ∃ (a : Addr) (x : V) (d : PyData) (P W : Int) (ps : List (Int × Int)), vs = [.ref a, x] ∧ Pic C H a P W ps ∧ Dq H x d ∧
  (∀ row : List Int, itemsD d = some (row.map PyData.int) → row.length = (others P W ps).length → ∀ z ∈ row, Sml z) ∧ ∀ H', Same H H' → Q (.bl (!wrowD d (.int ((others P W ps).length : Nat)))) H'
def wordV : Option Str → V
  | none => .non
  | some e => .str e
def sp_law_tour_word (C : Addr) : Sp := fun vs H Q _ => ∃ (a : Addr) (x : V) (d : PyData) (P W : Int) (ps : List (Int × Int)), vs = [.ref a, x] ∧ Pic C H a P W ps ∧ Dq H x d ∧ ∀ H', Same H H' → Q (wordV (tourW P W ps d)) H'
theorem wrow_is {row : List Int} {d : PyData} {n : Nat} (h : itemsD d = some (row.map PyData.int)) (l : row.length = n) : wrowD d (.int (n : Nat)) = true := by
  unfold wrowD seqIs
  rw [h]
  have : (row.map PyData.int).all isIntD = true := by
    rw [List.all_eq_true]
    intro y hy
    obtain ⟨z, _, rfl⟩ := List.mem_map.mp hy
    rfl
  dsimp only
  rw [this, decide_eq_true (by rw [List.length_map, l])]
  rfl
section
variable {P : Program} {w : World} {K : PySem.W.Frag} {mg : Str → Option Value} {base : Heap}
theorem ok_law_refused (T : Txt K mg) : FnOk P w K mg base CX0 9 T.f_law_refused T.d_law_refused ["_law_picture_here", "_law_row"] (sp_law_refused T.C_Picture) := by
  refine T.F_law_refused.ok sc_law_refused (fun vs H Q E h => ?_) (fun cdv A outer s H vs Q E hr h => ?_)
  · obtain ⟨a, x, d, P', W, ps, rfl, _⟩ := h
    rfl
  · obtain ⟨a, x, d, P', W, ps, rfl, hp, kx, sm, q⟩ := h
    refine' ⟨_, (pss_cons (ps_set (i := 2) sc_law_refused.nd rfl (.inl rfl) pe_bl)
      (pss_cons ?tr
      (pss_one (ps_ret (pv 2))))), ?_⟩
    case tr =>
      exact ps_try_asM (i := 3) (Wout := fun _ _ _ _ => False) rfl rfl sc_law_refused.nd rfl rfl takes0
        (fun W pn xe tk _ => pss_one (ps_expr (pe_callSD (ok_tour_of T) (hr.mono (by decide)) (by rfl) T.g_tour_of T.F_tour_of.kp T.b_tour_of .nil (fun σ => passAt tk σ) (pa_cons (pv 0) (pa_cons (pv 1) pa_nil)))))
        (.cons ⟨rfl, by decide, Or.inl T.g_BadRow⟩ (fun a oe cls d pn hz hf => pss_one (ps_set (i := 2) sc_law_refused.nd rfl (.inl rfl) (pe_and (pe_callB (call_isE2 T.e_BadRow hz hf) (by rfl) T.m_isinstance (by decide +kernel) (pa_cons (pv 3) (pa_cons (pe_glob (v := .ref T.C_SheetError) rfl T.g_SheetError rfl) pa_nil))) (pe_one (pe_not (pe_callB (call_isE2 T.e_BadRow hz hf) (by rfl) T.m_isinstance (by decide +kernel) (pa_cons (pv 3) (pa_cons (pe_glob (v := .ref T.C_BadTour) rfl T.g_BadTour rfl) pa_nil)))))))) .nil)
    refine ⟨_, rfl, _, rfl, a, x, d, P', W, ps, rfl, hp, kx, fun e H' s => ?_, fun row e1 e2 => ⟨sm row e1 e2, fun l H' s k => ?_⟩⟩
    · have := q H' s
      rw [e] at this
      exact ⟨true, T.mm_BadRow_BadRow, fun _ a0 _ => ⟨_, rfl, rfl, rfl, _, _, true, rfl, fun u h => h, T.kit_BadRow_SheetError, _, rfl, iteT ⟨_, rfl, rfl, rfl, _, _, false, rfl, fun u h => h, T.kit_BadRow_BadTour, _, rfl, _, rfl, this⟩⟩, fun z => Bool.noConfusion z⟩
    · have := q H' s
      rw [wrow_is e1 e2] at this
      exact ⟨_, rfl, this⟩
theorem ok_law_tour_word (T : Txt K mg) : FnOk P w K mg base CX0 9 T.f_law_tour_word T.d_law_tour_word ["_law_picture_here", "_law_tour"] (sp_law_tour_word T.C_Picture) := by
  refine T.F_law_tour_word.ok sc_law_tour_word (fun vs H Q E h => ?_) (fun cdv A outer s H vs Q E hr h => ?_)
  · obtain ⟨a, x, d, P', W, ps, rfl, _⟩ := h
    rfl
  · obtain ⟨a, x, d, P', W, ps, rfl, hp, kx, q⟩ := h
    refine' ⟨_, (pss_cons (ps_set (i := 2) sc_law_tour_word.nd rfl (.inl rfl) pe_non)
      (pss_cons ?tr
      (pss_one (ps_ret (pv 2))))), ?_⟩
    case tr =>
      exact ps_try_asM (i := 3) (Wout := fun _ _ _ _ => False) rfl rfl sc_law_tour_word.nd rfl rfl takes0
        (fun W pn xe tk _ => pss_one (ps_expr (pe_callSD (ok_row_of T) (hr.mono (by decide)) (by rfl) T.g_row_of T.F_row_of.kp T.b_row_of .nil (fun σ => passAt tk σ) (pa_cons (pv 0) (pa_cons (pv 1) pa_nil)))))
        (.cons ⟨rfl, by decide, Or.inl T.g_BadTour⟩ (fun a oe cls d pn hz hf => pss_one (ps_set (i := 2) sc_law_tour_word.nd rfl (.inl rfl) (pe_ifExp (PW.pt (pw_and (pt_val (pe_callB (call_isD T.e_BadTour hz hf) (by rfl) T.m_isinstance (by decide +kernel) (pa_cons (pv 3) (pa_cons (pe_glob (v := .ref T.C_SheetError) rfl T.g_SheetError rfl) pa_nil)))) (pw_and1 (pt_not (pt_val (pe_callB (call_isD T.e_BadTour hz hf) (by rfl) T.m_isinstance (by decide +kernel) (pa_cons (pv 3) (pa_cons (pe_glob (v := .ref T.C_BadRow) rfl T.g_BadRow rfl) pa_nil)))))))) (pe_xf T.x_BadTour T.n_BadTour hz hf (pv 3)) pe_str))) .nil)
    refine ⟨_, rfl, _, rfl, a, x, d, P', W, ps, rfl, hp, kx, fun e he b H' s hb => ?_, fun ns it l H' s k => ?_⟩
    · have := q H' s
      rw [he] at this
      exact ⟨true, T.mm_BadTour_BadTour, fun _ a0 _ => ⟨_, rfl, rfl, b, _, _, _, true, rfl, hb, rfl, fun u h => h, T.kit_BadTour_SheetError, _, rfl, iteT ⟨_, rfl, rfl, b, _, _, _, false, rfl, hb, rfl, fun u h => h, T.kit_BadTour_BadRow, _, rfl, iteT ⟨_, rfl, rfl, rfl, b, _, _, rfl, hb, rfl, _, rfl, this⟩⟩⟩, fun z => Bool.noConfusion z⟩
    · have := q H' s
      rw [it.none] at this
      exact ⟨_, rfl, this⟩
end
end K03
set_option Elab.async false
set_option linter.all false
set_option maxRecDepth 100000
set_option maxHeartbeats 4000000
set_option exponentiation.threshold 5000
namespace K03
open PySem PySem.Spec PyProof.Rows L2 TkS
def sp_law_pieces : Sp := fun vs H Q _ => ∃ (P W : Int) (l : Addr) (ps : List (Int × Int)), vs = [.int P, .int W, .ref l] ∧ Wq P W ps ∧ Dq H (.ref l) (.list (ps.map prD)) ∧ ∀ H', Same H H' → Q (.int (piecesN P W ps : Nat)) H'
def sp_law_basis : Sp := fun vs H Q _ => ∃ (P W : Int) (l : Addr) (ps : List (Int × Int)), vs = [.int P, .int W, .ref l] ∧ Wq P W ps ∧ Dq H (.ref l) (.list (ps.map prD)) ∧ ∀ t H', Same H H' → Dq H' (.ref t) (.list ((basisT P W ps).map vecD)) → Q (.ref t) H'
theorem noLists_ints : ∀ ns : List Int, noLists (ns.map PyData.int) = true
  | [] => rfl
  | n :: ns => by simp [noLists, noList, noLists_ints ns]
theorem noList_vec (ns : List Int) : noList (vecD ns) = true := by simp [vecD, noList, noLists_ints ns]
section
variable {P : Program} {w : World} {K : PySem.W.Frag} {mg : Str → Option Value} {base : Heap}
theorem ok_law_pieces (T : Txt K mg) : FnOk P w K mg base CX0 2 T.f_law_pieces T.d_law_pieces ["_law_points", "_law_shuts", "_law_pairs"] sp_law_pieces := by
  refine T.F_law_pieces.ok sc_law_pieces (fun vs H Q E h => ?_) (fun cdv A outer s H vs Q E hr h => ?_)
  · obtain ⟨P', W, l, ps, rfl, _⟩ := h
    rfl
  · obtain ⟨P', W, l, ps, rfl, wd, kl, q⟩ := h
    refine ⟨_, (pss_one (ps_ret (pe_lenSetD (by rfl) T.m_len (by rfl) T.m_set (pe_call (ok_law_marks T) (hr.mono (by decide)) (by rfl) T.g_law_marks T.F_law_marks.kp T.b_law_marks .nil pass0 (pa_cons (pv 0) (pa_cons (pv 1) (pa_cons (pv 2) pa_nil))))))), ?_⟩
    obtain ⟨fx, el, tl, lx⟩ := lst_prs kl
    have p0 := wd.p0
    have p1 := wd.p1
    have w0 := wd.w0
    have w1 := wd.w1
    refine ⟨_, rfl, _, rfl, _, rfl, P', W, l, fx, ps, rfl, by omega, by omega, by omega, SqL.of el, tl, wd.ins, fun H3 m s3 hm => ⟨m, _, rfl, SqL.of hm, ?_, fun L nd mm => ?_⟩⟩
    · have : (marks P' W ps).length = (P' + W).toNat := marks_len _ _ _
      show (marks P' W ps).length ≤ 4000
      omega
    · rw [set_len (P := P') (W := W) (ps := ps) wd.ins nd mm]
      exact q _ s3
theorem unit_map (R : List Nat) (k : Nat) : ((List.range R.length).filter fun _ => true).map (fun i => if R.getD i 0 = k then V.int 1 else V.int 0) = (unitR R k).map V.int := by
  rw [range_all]
  unfold unitR
  rw [List.map_map]
  refine List.ext_getElem? fun i => ?_
  rw [List.getElem?_map, List.getElem?_map]
  by_cases h : i < R.length
  · rw [List.getElem?_range h, List.getElem?_eq_getElem h]
    have e : R.getD i 0 = R[i] := by
      rw [List.getD_eq_getElem?_getD, List.getElem?_eq_getElem h]
      rfl
    show some (if R.getD i 0 = k then V.int 1 else V.int 0) = some (V.int (if R[i] = k then 1 else 0))
    rw [e]
    split <;> rfl
  · rw [List.getElem?_eq_none (by simpa using h), List.getElem?_eq_none (by omega)]
    rfl
theorem ok_law_basis (T : Txt K mg) : FnOk P w K mg base CX0 4 T.f_law_basis T.d_law_basis ["_law_points", "_law_shuts", "_law_pairs"] sp_law_basis := by
  refine T.F_law_basis.ok sc_law_basis (fun vs H Q E h => ?_) (fun cdv A outer s H vs Q E hr h => ?_)
  · obtain ⟨P', W, l, ps, rfl, _⟩ := h
    rfl
  · obtain ⟨P', W, l, ps, rfl, wd, kl, q⟩ := h
    refine ⟨_, (pss_cons (ps_set (i := 3) sc_law_basis.nd rfl (.inr rfl) (pe_ix ix_list (pe_call (ok_law_tree T) (hr.mono (by decide)) (by rfl) T.g_law_tree T.F_law_tree.kp T.b_law_tree .nil pass0 (pa_cons (pv 0) (pa_cons (pv 1) (pa_cons (pv 2) pa_nil)))) pe_int (fun _ _ => rfl)))
      (pss_one (ps_ret (pe_lc rfl sc_law_basis.nd (pi_seq (pv 3)) (blkOk_by (own := [("_law_k", 4)]) (N := ["_law_points", "_law_shuts", "_law_pairs", "_law_rest", "_law_k", "_law_j"]) (sc := defScope s_law_basis) (by decide +kernel)) (fun _ _ _ _ _ => (pg_name (i := 4) sc_law_basis.nd rfl (.inr rfl))) (fun _ _ _ _ _ => pts_nil) (fun _ _ _ _ _ => (pe_call (ok_law_tour_of T) (hr.mono (by decide)) (by rfl) T.g_law_tour_of T.F_law_tour_of.kp T.b_law_tour_of .nil pass0 (pa_cons (pv 0) (pa_cons (pv 1) (pa_cons (pv 2) (pa_cons (show PE _ _ (tLc (iSeq K (tVar 3)) (gName 5) tYes (tIf (tTest (tOp rEq (tVar 5) (tVar 4))) (tC (.int 1)) (tC (.int 0))) [5]) from pe_lc (own := [("_law_j", 5)]) rfl sc_law_basis.nd (pi_seq (pv 3)) (by show BlkOk ["_law_points", "_law_shuts", "_law_pairs", "_law_rest", "_law_k", "_law_j"] { kind := .function, names := [(".0", .local), ("_law_k", .cell), ("_law_tour_of", .globalImplicit), ("_law_pairs", .cell), ("_law_points", .cell), ("_law_rest", .cell), ("_law_shuts", .cell)], isGenerator := false, isCoroutine := false } _ _; exact blkOk_by (by decide +kernel)) (fun _ _ _ _ _ => (pg_name (i := 5) sc_law_basis.nd rfl (.inl rfl))) (fun _ _ _ _ _ => pts_nil) (fun _ _ _ _ _ => (pe_ifExp (pt_cmpR op_eq (pv 5) (pv 4) (nomark _)) pe_int pe_int))) pa_nil)))))))))), ?_⟩
    have l25 := wd.len25
    have lo : (others P' W ps).length ≤ ps.length := by
      have := sum_len (P := P') (W := W) (ps := ps)
      omega
    refine ⟨_, rfl, _, rfl, _, rfl, P', W, l, ps, rfl, wd, kl, fun H1 t a b s1 ht ha hb na nb => ⟨t, _, 1, .ref b, rfl, rfl, SqL.of ht, at_of (j := 1) rfl rfl, ?_⟩⟩
    have kl1 := kl.same s1
    have hb' : H1 b = some (.lst (natL (others P' W ps))) := hb
    refine lc_seqD (a := b) (xs := natL (others P' W ps)) (ds := natD (others P' W ps)) (fun _ => true) (fun d => vecD (tourOf P' W ps (unitR (others P' W ps) (intD d).toNat))) (fun Q h => ⟨_, rfl, h⟩) (.inl (SqL.of hb')) (dq_nat _) (by unfold natD; rw [List.length_map]; omega) (fun _ => rfl) (fun i x d' H2 Q2 hd' _ kd' q2 => q2 _ fun _ _ z => z) (fun D i x d' H2 Q2 nD hd' _ s2 kd' hD q2 => ?_) (fun D H2 nD s2 kD => ?_)
    · obtain ⟨k, hk, rfl⟩ := natD_at hd'
      cases kd'
      obtain ⟨acc, hacc⟩ := hD
      refine ⟨_, rfl, _, rfl, _, rfl, lc_seqV (a := b) (xs := natL (others P' W ps)) (fun _ => true) (fun i => if (others P' W ps).getD i 0 = k then V.int 1 else V.int 0) (fun Q h => ⟨_, rfl, h⟩) (.inl (SqL.of (s2 _ _ hb'))) (by rw [natL_len]; omega) (fun i y H3 R N hy s3 yes no => ?_) (fun D2 H3 nD2 s3 hD2 => ?_)⟩
      · obtain ⟨m, hm, rfl⟩ := natL_at hy
        refine ⟨rfl, ?_⟩
        refine ⟨_, rfl, _, rfl, rfl, _, rfl, ?_⟩
        have := yes rfl H3 fun _ _ z => z
        rw [show (others P' W ps).getD i 0 = m by rw [List.getD_eq_getElem?_getD, hm]; rfl] at this
        rw [int_dec]
        by_cases c : m = k
        · rw [decide_eq_true (show (m : Int) = (k : Int) by omega)]
          rw [if_pos c] at this
          exact iteT this
        · rw [decide_eq_false (show ¬ (m : Int) = (k : Int) by omega)]
          rw [if_neg c] at this
          exact iteF this
      · rw [natL_len, unit_map] at hD2
        refine ⟨P', W, l, D2, ps, unitR (others P' W ps) k, rfl, wd, (kl1.same s2).same s3, hD2, by unfold unitR; rw [List.length_map]; rfl, fun H4 t4 s4 ht4 => ?_⟩
        refine q2 _ _ (s3.trans s4) (dq_noL (s4 _ _ (s3 _ _ hacc)) _ (noList_vec _) ?_)
        rw [show (intD (.int (k : Int))).toNat = k from Int.toNat_natCast k]
        exact tupI ht4
    · refine q D H2 (s1.trans s2) ?_
      have e : ((natD (others P' W ps)).filter fun _ => true).map (fun d => vecD (tourOf P' W ps (unitR (others P' W ps) (intD d).toNat))) = (basisT P' W ps).map vecD := by
        rw [List.filter_eq_self.mpr fun _ _ => rfl]
        unfold natD basisT
        rw [List.map_map, List.map_map]
        refine List.map_congr_left fun k _ => ?_
        show vecD (tourOf P' W ps (unitR (others P' W ps) (intD (.int (k : Int))).toNat)) = _
        rw [show (intD (.int (k : Int))).toNat = k from Int.toNat_natCast k]
        rfl
      rw [e] at kD
      exact kD
end
end K03
set_option Elab.async false
set_option linter.all false
set_option maxRecDepth 100000
set_option maxHeartbeats 4000000
set_option exponentiation.threshold 5000
namespace K03
open PySem PySem.Spec PyProof.Rows L2 TkS
def sp_law_any_picture : Sp := fun vs H Q _ => ∃ h : Addr, vs = [.ref h] ∧ Hand H h ∧ ∀ H' t l P W ps, Keep h H H' → Hand H' h → Wq P W ps → H' t = some (.tup [.int P, .int W, .ref l]) → Dq H' (.ref l) (.list (ps.map prD)) → Q (.ref t) H'
/-- the refs of tuples of these pairs -/
def PL (H : Hp) (ys : List V) (qs : List (Int × Int)) : Prop := ys.length = qs.length ∧ ∀ (i : Nat) (p : Int × Int), qs[i]? = some p → ∃ t, ys[i]? = some (.ref t) ∧ H t = some (.tup [.int p.1, .int p.2])
theorem PL.dq {H : Hp} {ys : List V} {qs : List (Int × Int)} (h : PL H ys qs) : DqAll H ys (qs.map prD) := by
  refine DqAll.of_get (by rw [List.length_map]; exact h.1) fun i x d hx hd => ?_
  rw [List.getElem?_map] at hd
  obtain ⟨p, hp, rfl⟩ := Option.map_eq_some_iff.mp hd
  obtain ⟨t, e1, e2⟩ := h.2 i p hp
  rw [e1] at hx
  cases hx
  exact .tup e2 (.cons (.int _) (.cons (.int _) .nil))
theorem PL.mv {H H' : Hp} {ys : List V} {qs : List (Int × Int)} (h : PL H ys qs) (k : ∀ t xs, H t = some (.tup xs) → H' t = some (.tup xs)) : PL H' ys qs := by
  refine ⟨h.1, fun i p hp => ?_⟩
  obtain ⟨t, e1, e2⟩ := h.2 i p hp
  exact ⟨t, e1, k _ _ e2⟩
theorem PL.snoc {H : Hp} {ys : List V} {qs : List (Int × Int)} {t : Addr} {p : Int × Int} (h : PL H ys qs) (ht : H t = some (.tup [.int p.1, .int p.2])) : PL H (ys ++ [.ref t]) (qs ++ [p]) := by
  refine ⟨by rw [List.length_append, List.length_append, h.1]; rfl, fun i q hq => ?_⟩
  rcases Nat.lt_or_ge i qs.length with c | c
  · rw [List.getElem?_append_left c] at hq
    obtain ⟨t', e1, e2⟩ := h.2 i q hq
    exact ⟨t', by rw [List.getElem?_append_left (by rw [h.1]; exact c)]; exact e1, e2⟩
  · have hi : i = qs.length := by
      have := (List.getElem?_eq_some_iff.mp hq).1
      rw [List.length_append, List.length_singleton] at this
      omega
    subst hi
    rw [List.getElem?_append_right (Nat.le_refl _), Nat.sub_self] at hq
    cases hq
    exact ⟨t, by rw [← h.1, List.getElem?_append_right (Nat.le_refl _), Nat.sub_self]; rfl, ht⟩
theorem kp_tup {H H' : Hp} {h : Addr} (hd : Hand H h) (k : Keep h H H') : ∀ t xs, H t = some (.tup xs) → H' t = some (.tup xs) := fun t xs e => k.kp _ _ (fun z => by
  obtain ⟨c, cells, p, r, tt, h1, _⟩ := hd.ex
  rw [z, h1] at e
  cases e) e
section
variable {P : Program} {w : World} {K : PySem.W.Frag} {mg : Str → Option Value} {base : Heap}
theorem ok_law_any_picture (T : Txt K mg) : FnOk P w K mg base CX0 4 T.f_law_any_picture T.d_law_any_picture ["_law_hand_here"] sp_law_any_picture := by
  refine T.F_law_any_picture.ok sc_law_any_picture (fun vs H Q E h => ?_) (fun cdv A outer s H vs Q E hr h => ?_)
  · obtain ⟨h, rfl, _⟩ := h
    rfl
  · obtain ⟨h, rfl, hd, q⟩ := h
    refine ⟨_, (pss_cons (ps_if (pt_cmpR op_gt (pe_call (ok_law_take T) (hr.mono (by decide)) (by rfl) T.g_law_take T.F_law_take.kp T.b_law_take .nil pass0 (pa_cons (pv 0) (pa_cons pe_int pa_nil))) pe_int (nomark _))
        (pss_one (ps_ret (pe_call (ok_law_picture T) (hr.mono (by decide)) (by rfl) T.g_law_picture T.F_law_picture.kp T.b_law_picture .nil pass0 (pa_cons (pv 0) pa_nil))))
        pss_nil)
      (pss_cons (ps_set (i := 1) sc_law_any_picture.nd rfl (.inl rfl) (pe_op op_add pe_int (pe_call (ok_law_take T) (hr.mono (by decide)) (by rfl) T.g_law_take T.F_law_take.kp T.b_law_take .nil pass0 (pa_cons (pv 0) (pa_cons pe_int pa_nil)))))
      (pss_cons (ps_set (i := 2) sc_law_any_picture.nd rfl (.inl rfl) (pe_op op_add pe_int (pe_call (ok_law_take T) (hr.mono (by decide)) (by rfl) T.g_law_take T.F_law_take.kp T.b_law_take .nil pass0 (pa_cons (pv 0) (pa_cons pe_int pa_nil)))))
      (pss_cons (ps_set (i := 3) sc_law_any_picture.nd rfl (.inl rfl) (pe_op op_add pe_int (pe_call (ok_law_take T) (hr.mono (by decide)) (by rfl) T.g_law_take T.F_law_take.kp T.b_law_take .nil pass0 (pa_cons (pv 0) (pa_cons pe_int pa_nil)))))
      (pss_cons (ps_set (i := 4) sc_law_any_picture.nd rfl (.inl rfl) (pe_lst pa_nil))
      (pss_cons (ps_for PassesOwn.never rfl (pi_list (pe_call (ok_law_full T) (hr.mono (by decide)) (by rfl) T.g_law_full T.F_law_full.kp T.b_law_full .nil pass0 (pa_cons (pv 1) (pa_cons (pv 2) pa_nil)))) (pg_name (i := 5) sc_law_any_picture.nd rfl (.inl rfl))
        (pss_one (ps_if (pt_cmpR op_lt (pe_call (ok_law_take T) (hr.mono (by decide)) (by rfl) T.g_law_take T.F_law_take.kp T.b_law_take .nil pass0 (pa_cons (pv 0) (pa_cons pe_int pa_nil))) (pv 3) (nomark _))
          (pss_one (ps_expr (pe_bm PySem.F.plainAttrs_list PySem.F.slot_list_append PySem.F.type_list_append mt_append (pv 4) (pa_cons (pv 5) pa_nil))))
          pss_nil)))
      (pss_one (ps_ret (pe_tup (pa_cons (pv 1) (pa_cons (pv 2) (pa_cons (pv 4) pa_nil)))))))))))), ?_⟩
    refine ⟨_, rfl, h, 3, rfl, hd, by decide, by decide, fun H1 r k1 hd1 r0 r1 => ⟨_, _, rfl, rfl, _, rfl, ite2 (fun c => ?_) (fun c => ?_)⟩⟩
    · exact ⟨_, rfl, h, rfl, hd1, fun H' t l P' W ps k hd' wd e kl => q H' t l P' W ps (k1.trans k) hd' wd.q e kl⟩
    · refine ⟨_, rfl, h, 5, rfl, hd1, by decide, by decide, fun H2 rp k2 hd2 p0 p1 => ⟨_, _, rfl, rfl, ?_⟩⟩
      refine ⟨_, rfl, h, 5, rfl, hd2, by decide, by decide, fun H3 rw_ k3 hd3 w0 w1 => ⟨_, _, rfl, rfl, ?_⟩⟩
      refine ⟨_, rfl, h, 4, rfl, hd3, by decide, by decide, fun H4 rs k4 hd4 q0 q1 => ⟨_, _, rfl, rfl, ?_⟩⟩
      refine ⟨Nat.zero_le _, fun l nl => ?_⟩
      have k04 := ((k1.trans k2).trans k3).trans k4
      have s5 : Same H4 (upd H4 l (.lst [])) := same_new nl
      have hd5 := hd4.same s5
      have el : (upd H4 l (.lst [])) l = some (.lst []) := upd_same
      have nh : l ≠ h := hand_ne hd4 nl
      generalize upd H4 l (.lst []) = H5 at s5 hd5 el
      refine ⟨_, rfl, _, rfl, 1 + rp, 1 + rw_, rfl, by omega, by omega, by omega, by omega, fun f H6 s6 nf kf => ?_⟩
      cases kf with
      | lst ef tf =>
        rename_i fx
        have hd6 := hd5.same s6
        have el6 := s6 _ _ el
        have nfl : l ≠ f := ne_of_none el nf
        have nfh : f ≠ h := hand_ne hd5 nf
        have lf : fx.length = (fullPs (1 + rp).toNat (1 + rw_).toNat).length := by rw [tf.len, List.length_map]
        have l25 : (fullPs (1 + rp).toNat (1 + rw_).toNat).length ≤ 25 := by
          rw [fullPs_len]
          exact Nat.le_trans (Nat.mul_le_mul (show (1 + rp).toNat ≤ 5 by omega) (show (1 + rw_).toNat ≤ 5 by omega)) (by decide)
        refine ⟨f, rfl, ⟨_, SqL.of ef⟩, ?_⟩
        refine for_list (xs := fx) (fun i σ H' => ∃ y5 ys qs, σ = [some (.ref h), some (.int (1 + rp)), some (.int (1 + rw_)), some (.int (1 + rs)), some (.ref l), y5] ∧ Keep h H4 H' ∧ Hand H' h ∧ H' l = some (.lst ys) ∧ H' f = some (.lst fx) ∧ (∀ t xs, H6 t = some (.tup xs) → H' t = some (.tup xs)) ∧ PL H' ys qs ∧ qs.Sublist ((fullPs (1 + rp).toNat (1 + rw_).toNat).take i))
          ⟨_, [], [], rfl, Keep.of (s5.trans s6), hd6, el6, ef, fun _ _ z => z, ⟨rfl, fun i p hp => by cases hp⟩, List.Sublist.slnil⟩ (fun i σ H' _ hP => by obtain ⟨_, _, _, _, _, _, _, ef', _⟩ := hP; exact SqL.of ef') (fun i x σ H' hx hP => ?_) (fun σ H' hP => ?_)
        · obtain ⟨y5, ys, qs, rfl, k7, hd7, el7, ef7, tu7, pl, sb⟩ := hP
          obtain ⟨t, p, rfl, hp, ht⟩ := prs_get tf hx
          have tk : (fullPs (1 + rp).toNat (1 + rw_).toNat).take (i + 1) = (fullPs (1 + rp).toNat (1 + rw_).toNat).take i ++ [p] := by
            rw [List.take_add_one, hp]
            rfl
          refine ⟨_, rfl, h, 5, rfl, hd7, by decide, by decide, fun H8 r8 k8 hd8 _ _ => ⟨_, rfl, _, _, rfl, rfl, _, rfl, ite2 (fun c8 => ?_) (fun c8 => ?_)⟩⟩
          · have el8 := k8.kp _ _ nh el7
            have ef8 := k8.kp _ _ nfh ef7
            have tu8 := kp_tup hd7 k8
            have lys : ys.length ≤ 25 := by
              have := sb.length_le
              rw [List.length_take] at this
              rw [pl.1]
              omega
            refine ⟨_, rfl, .inl ⟨rfl, _, SqL.of el8⟩, _, rfl, l, ys, _, rfl, rfl, el8, small1000 (by omega), ?_⟩
            have tuU : ∀ t xs, H8 t = some (.tup xs) → (upd H8 l (.lst (ys ++ [.ref t]))) t = some (.tup xs) := fun t xs e => by
              rw [upd_ne (fun z => by rw [z, el8] at e; cases e)]
              exact e
            have tuA : ∀ t' xs, H8 t' = some (.tup xs) → (upd H8 l (.lst (ys ++ [.ref t]))) t' = some (.tup xs) := fun t' xs e => by
              rw [upd_ne (fun z => by rw [z, el8] at e; cases e)]
              exact e
            refine ⟨_, ys ++ [.ref t], qs ++ [p], rfl, (k7.trans k8).putD hd4 nl, Hand.putD hd4 nl (k7.trans k8) hd8, upd_same, by rw [upd_ne nfl.symm]; exact ef8, fun t' xs e => tuA _ _ (tu8 _ _ (tu7 _ _ e)), ((pl.mv tu8).mv tuA).snoc (tuA _ _ (tu8 _ _ (tu7 _ _ ht))), ?_⟩
            rw [tk]
            exact sb.append (List.Sublist.refl _)
          · refine ⟨_, ys, qs, rfl, k7.trans k8, hd8, k8.kp _ _ nh el7, k8.kp _ _ nfh ef7, fun t' xs e => kp_tup hd7 k8 _ _ (tu7 _ _ e), pl.mv (kp_tup hd7 k8), ?_⟩
            rw [tk]
            exact sb.trans (List.sublist_append_left _ _)
        · obtain ⟨y5, ys, qs, rfl, k7, hd7, el7, ef7, tu7, pl, sb⟩ := hP
          rw [lf, List.take_length] at sb
          have wq : Wq (1 + rp) (1 + rw_) qs := ⟨by omega, by omega, by omega, by omega, fun p hp => by
            have := mem_fullPs.mp (sb.subset hp)
            omega, List.Pairwise.sublist sb (fullPs_asc _ _)⟩
          refine ⟨_, rfl, _, rfl, _, rfl, (by show 3 ≤ sizeLine; decide), fun u nu => ?_⟩
          have su := same_new (o := .tup [.int (1 + rp), .int (1 + rw_), .ref l]) nu
          exact q _ u l _ _ qs ((k04.trans k7).trans (Keep.of su)) (hd7.same su) wq upd_same ((Dq.lst el7 pl.dq).same su)
end
end K03
set_option Elab.async false
set_option linter.all false
set_option maxRecDepth 100000
set_option maxHeartbeats 4000000
set_option exponentiation.threshold 5000
namespace K03
open PySem PySem.Spec PyProof.Rows L2 TkS
theorem any_true {l : List Int} {z : Int} (h : z ∈ l) (n : z ≠ 0) : anyNz l = true := List.any_eq_true.mpr ⟨z, h, decide_eq_true n⟩
theorem pt_bad {P : Int} {ps : List (Int × Int)} {ns : List Int} {x : Nat} (hx : x < P.toNat) (n : ptSum ps ns (x : Int) ≠ 0) : anyNz (ptL P ps ns) = true := any_true (List.mem_map.mpr ⟨x, List.mem_range.mpr hx, rfl⟩) n
theorem wl_bad {W : Int} {ps : List (Int × Int)} {ns : List Int} {x : Nat} (hx : x < W.toNat) (n : wlSum ps ns (x : Int) ≠ 0) : anyNz (wlL W ps ns) = true := any_true (List.mem_map.mpr ⟨x, List.mem_range.mpr hx, rfl⟩) n
theorem nh_pieces (P : Int) (ls : List Int) : noHd (.tuple (piecesD P ls)) = true := noHd_tup fun d m => by
  unfold piecesD at m
  obtain ⟨l, _, rfl⟩ := List.mem_map.mp m
  unfold pieceD
  refine noHd_tup fun d m => ?_
  rcases List.mem_cons.mp m with rfl | m
  · refine noHd_tup fun d m => ?_
    obtain ⟨k, _, rfl⟩ := List.mem_map.mp m
    rfl
  · rw [List.mem_singleton.mp m]
    refine noHd_tup fun d m => ?_
    obtain ⟨k, _, rfl⟩ := List.mem_map.mp m
    rfl
theorem pic_kp {C : Addr} {H H' : Hp} {h a : Addr} {P W : Int} {ps : List (Int × Int)} (x : Pic C H a P W ps) (hd : Hand H h) (k : Keep h H H') : Pic C H' a P W ps := by
  obtain ⟨⟨dx, t, v, xs, h1, h2, h3, h4⟩, h5, h6, h7⟩ := x
  obtain ⟨c, cells, p, r, t0, e, ec, _⟩ := hd.ex
  refine ⟨⟨dx, t, v, xs, k _ _ (fun z => by rw [z, e] at h1; cases h1) h1, ?_, dqs_kp hd k (noHds_all.mpr fun d m => by
    obtain ⟨q, _, rfl⟩ := List.mem_map.mp m
    rfl) h3, dq_kp hd k (nh_pieces _ _) h4⟩, h5, h6, h7⟩
  obtain ⟨o, e1, e2, e3⟩ := h2
  exact ⟨o, k _ _ (fun z => by rw [z, e] at e1; cases e1) e1, e2, e3⟩
theorem keep_free {H H1 : Hp} {h A : Addr} (hd : Hand H h) (hd1 : Hand H1 h) (k : Keep h H H1) (n : H1 A = none) : H A = none := by
  cases e : H A with
  | none => rfl
  | some o =>
    have := k A o (hand_ne hd1 n) e
    rw [n] at this
    cases this
theorem cutD_len {α : Type} (xs : List α) (lo hi : Option Int) : (TkS.cutD xs lo hi).length ≤ xs.length := by
  unfold TkS.cutD
  rw [List.length_take, List.length_drop]
  omega

/-! rows that are refused -/
theorem wrow_none {d : PyData} {n : V} (h : itemsD d = none) : wrowD d n = false := by
  unfold wrowD seqIs
  rw [h]
  rfl
theorem wrow_len {d : PyData} {ds : List PyData} {n : Nat} (h : itemsD d = some ds) (l : ds.length ≠ n) : wrowD d (.int (n : Nat)) = false := by
  unfold wrowD seqIs
  rw [h]
  dsimp only
  rw [decide_eq_false (by omega)]
  rfl
theorem wrow_odd {d o : PyData} {ds : List PyData} {n : V} (h : itemsD d = some ds) (m : o ∈ ds) (b : isIntD o = false) : wrowD d n = false := by
  unfold wrowD
  rw [h]
  dsimp only
  have : ds.all isIntD = false := by
    cases c : ds.all isIntD with
    | false => rfl
    | true =>
      rw [List.all_eq_true.mp c o m] at b
      cases b
  rw [this, Bool.and_false]
theorem sml_bad {d : PyData} {n : Nat} (h : wrowD d (.int (n : Nat)) = false) : ∀ row : List Int, itemsD d = some (row.map PyData.int) → row.length = n → ∀ z ∈ row, Sml z := fun row e l => by
  rw [wrow_is e l] at h
  cases h
/-! words -/
theorem word_len {P W : Int} {ps : List (Int × Int)} {d : PyData} {ds : List PyData} (h : itemsD d = some ds) (l : ds.length ≠ ps.length) : tourW P W ps d = some ("length" : Str) := by
  unfold tourW
  rw [h]
  dsimp only
  rw [if_neg l]
theorem word_num {P W : Int} {ps : List (Int × Int)} {d o : PyData} {ds : List PyData} (h : itemsD d = some ds) (l : ds.length = ps.length) (m : o ∈ ds) (b : isIntD o = false) : tourW P W ps d = some ("number" : Str) := by
  unfold tourW
  rw [h]
  dsimp only
  rw [if_pos l, if_neg]
  intro c
  rw [List.all_eq_true.mp c o m] at b
  cases b
theorem word_pt {P W : Int} {ps : List (Int × Int)} {ns : List Int} {d : PyData} {i : Nat} (ins : Ins P W ps) (t : Tour P W ps ns) (hi : i < ps.length) (h : itemsD d = some ((ns.set i (ns.getD i 0 + 1)).map PyData.int)) : tourW P W ps d = some ("point" : Str) := by
  have lm : (ns.set i (ns.getD i 0 + 1)).length = ps.length := by rw [List.length_set, t.len]
  unfold tourW
  rw [h]
  dsimp only
  rw [if_pos (by rw [List.length_map]; exact lm), if_pos (by
    rw [List.all_eq_true]
    intro y hy
    obtain ⟨z, _, rfl⟩ := List.mem_map.mp hy
    rfl), map_intD, if_pos]
  obtain ⟨b1, b2, b3, b4⟩ := ins _ (pe_mem hi)
  refine pt_bad (x := eu (pe ps i)) (by unfold eu; omega) ?_
  have e1 : ptSum ps (ns.set i (ns.getD i 0 + 1)) (eu (pe ps i) : Int) - ptSum ps ns (eu (pe ps i) : Int) = 1 := by
    rw [show ptSum ps (ns.set i (ns.getD i 0 + 1)) (eu (pe ps i) : Int) = S (List.range ps.length) fun j => if (pe ps j).1 = (eu (pe ps i) : Int) then (ns.set i (ns.getD i 0 + 1)).getD j 0 else 0 from S_zip (F := fun p n => if p.1 = (eu (pe ps i) : Int) then n else 0) lm,
      show ptSum ps ns (eu (pe ps i) : Int) = S (List.range ps.length) fun j => if (pe ps j).1 = (eu (pe ps i) : Int) then ns.getD j 0 else 0 from S_zip (F := fun p n => if p.1 = (eu (pe ps i) : Int) then n else 0) t.len, ← S_sub,
      S_one (k := i) List.nodup_range (List.mem_range.mpr hi) fun j _ ne => ?_]
    · have hs : (ns.set i (ns.getD i 0 + 1)).getD i 0 = ns.getD i 0 + 1 := by
        rw [List.getD_eq_getElem?_getD, List.getElem?_set_self (by rw [t.len]; exact hi)]
        rfl
      rw [hs, if_pos (by unfold eu; omega), if_pos (by unfold eu; omega)]
      omega
    · have hs : (ns.set i (ns.getD i 0 + 1)).getD j 0 = ns.getD j 0 := by
        rw [List.getD_eq_getElem?_getD, List.getElem?_set_ne (Ne.symm ne), ← List.getD_eq_getElem?_getD]
      rw [hs]
      omega
  have e2 := t.pt (eu (pe ps i) : Int) (by omega) (by unfold eu; omega)
  rw [e2] at e1
  omega
/-! pieces of a list -/
theorem cut3 {α : Type} {l : List α} {i : Nat} {x : α} (h : i < l.length) : cutD l none (some (i : Int)) ++ [x] ++ cutD l (some ((i : Int) + 1)) none = l.set i x := by
  rw [cutD_hi, show ((i : Int) + 1) = ((i + 1 : Nat) : Int) from rfl, cutD_lo, List.set_eq_take_append_cons_drop, if_pos h, List.append_assoc]
  rfl
theorem cut3_mem {α : Type} {l : List α} {lo hi lo' hi' : Option Int} {x : α} : x ∈ cutD l lo hi ++ [x] ++ cutD l lo' hi' := List.mem_append.mpr (.inl (List.mem_append.mpr (.inr (List.mem_singleton.mpr rfl))))
theorem map_set_int (ns : List Int) (i : Nat) (z : Int) : (ns.map PyData.int).set i (.int z) = (ns.set i z).map PyData.int := by
  rw [List.map_set]
theorem noHd_ints (ns : List Int) : noHd (.list (ns.map PyData.int)) = true := noHd_list (fun d m => by
  obtain ⟨p, _, rfl⟩ := List.mem_map.mp m
  rfl) (.inr fun d m es e => by
  obtain ⟨p, _, rfl⟩ := List.mem_map.mp m
  cases e)
theorem noHd_vec (ns : List Int) : noHd (vecD ns) = true := noHd_tup fun d m => by
  obtain ⟨p, _, rfl⟩ := List.mem_map.mp m
  rfl
theorem noHd_bas (bs : List (List Int)) : noHd (.tuple (bs.map vecD)) = true := noHd_tup fun d m => by
  obtain ⟨p, _, rfl⟩ := List.mem_map.mp m
  exact noHd_vec p
theorem small_num {r : Int} (h0 : 0 ≤ r) (h1 : r < 9) : Sml ((r - 4) * 10 ^ 33 - 1) ∧ Sml (r - 4) := by
  unfold Sml
  have a : ((r - 4) * 10 ^ 33 - 1).natAbs < 10 ^ 34 := by omega
  have b : (10 : Nat) ^ 34 < 2 ^ 400 := by decide +kernel
  refine ⟨Nat.lt_trans a b, Nat.lt_trans (show (r - 4).natAbs < 10 ^ 34 by omega) b⟩
end K03
set_option Elab.async false
set_option linter.all false
set_option maxRecDepth 100000
set_option maxHeartbeats 4000000
set_option exponentiation.threshold 5000
namespace K03
open PySem PySem.Spec PyProof.Rows L2 TkS
abbrev lawN : List Str := ["_law_script", "_law_hand_here", "_law_points", "_law_shuts", "_law_pairs", "_law_picture_here", "_law_tree_here", "_law_rest", "_law_row", "_law_k", "_law_number", "_law_due", "_law_kept", "_law_tour", "_law_basis_here", "_law_told", "_law_total", "_law_odd", "_law_at", "_law_bad", "_law_a", "_law_b", "_law_x"]
theorem if_two {tA : TT} {ta tb : TE} {σ : L2.St} {H : Hp} {Q : VK} (M : V → Hp → Prop) (k : ∀ v G, M v G → Q v G) (h : (∀ v G, M v G → Q v G) → tIf tA ta tb σ H Q) : tIf tA ta tb σ H Q := h k
theorem pieces_len {P W : Int} {ps : List (Int × Int)} : (piecesD P (marks P W ps)).length = piecesN P W ps := by
  unfold piecesD piecesN
  rw [List.length_map, marks_len]
  congr 1
  refine List.filter_congr fun l _ => ?_
  have e : cs (marks P W ps) l ≠ [] ↔ (l : Int) ∈ marks P W ps := by
    rw [mem_getD0]
    unfold cs
    refine ⟨fun h => ?_, fun ⟨i, hi, e⟩ h => ?_⟩
    · obtain ⟨c, hc⟩ := List.exists_mem_of_ne_nil _ h
      obtain ⟨h1, h2⟩ := List.mem_filter.mp hc
      exact ⟨c, List.mem_range.mp h1, of_decide_eq_true h2⟩
    · have : i ∈ (List.range (marks P W ps).length).filter fun c => decide ((marks P W ps).getD c 0 = (l : Int)) := List.mem_filter.mpr ⟨List.mem_range.mpr hi, decide_eq_true e⟩
      rw [h] at this
      cases this
  cases c : cs (marks P W ps) l with
  | nil =>
    rw [decide_eq_false (fun z => e.mpr z c)]
    rfl
  | cons a b =>
    rw [decide_eq_true (e.mp (by rw [c]; exact List.cons_ne_nil _ _))]
    rfl
theorem dq_tup {H : Hp} {v : V} {ds : List PyData} (k : Dq H v (.tuple ds)) : ∃ p zs, v = .ref p ∧ H p = some (.tup zs) ∧ DqAll H zs ds := by
  cases k with
  | tup e t => exact ⟨_, _, rfl, e, t⟩
theorem ints_inj' : ∀ {ns ms : List Int}, ns.map PyData.int = ms.map PyData.int → ns = ms
  | [], [], _ => rfl
  | [], _ :: _, h => nomatch h
  | _ :: _, [], h => nomatch h
  | a :: ns, b :: ms, h => by
    rw [List.map_cons, List.map_cons] at h
    injection h with h1 h2
    injection h1 with h1
    rw [h1, ints_inj' h2]
theorem row_back {P W : Int} {ps : List (Int × Int)} {row : List Int} (l : row.length = (others P W ps).length) : ((others P W ps).map fun k => (tourOf P W ps row).getD k 0) = row := by
  obtain ⟨g, hg⟩ := row_map others_nd l
  subst hg
  exact List.map_congr_left fun k hk => tourOf_R g k hk
theorem eqvl_ints (ns : List Int) : PyData.eqv (.list (ns.map PyData.int)) (.list (ns.map PyData.int)) = true := by
  have : PyData.eqvAll (ns.map PyData.int) (ns.map PyData.int) = true := by
    induction ns with
    | nil => simp [PyData.eqvAll]
    | cons n ns ih => simp [PyData.eqvAll, PyData.eqv, ih]
  simpa [PyData.eqv] using this
theorem shpl_ints (l : List Int) : SeqAt.shaped (.list (l.map PyData.int)) = true := by
  have h : PyData.canLayAll0 (l.map PyData.int) = true ∧ PyData.depthAll (l.map PyData.int) = 0 := by
    induction l with
    | nil => exact ⟨rfl, rfl⟩
    | cons a l ih => simp [PyData.canLayAll0, PyData.depthAll, PyData.canLay0, PyData.depth, ih.1, ih.2]
  simp [SeqAt.shaped, PyData.canLay0, PyData.depth, h.1, h.2]
theorem lst_int {H : Hp} {D : Addr} {row : List Int} (k : Dq H (.ref D) (.list (row.map PyData.int))) : H D = some (.lst (row.map V.int)) := by
  cases k with
  | lst e t =>
    rw [intl_dq t] at e
    exact e
def RowBad (n : Nat) (v : V) (G : Hp) : Prop := ∃ d, Dq G v d ∧ wrowD d (.int (n : Nat)) = false
theorem RowBad.same {n : Nat} {v : V} {G G' : Hp} (h : RowBad n v G) (s : Same G G') : RowBad n v G' := by
  obtain ⟨d, k, w⟩ := h
  exact ⟨d, k.same s, w⟩
theorem natD_eq (T : List Nat) : natD T = (T.map fun (k : Nat) => (k : Int)).map PyData.int := by
  rw [List.map_map]
  rfl
def sp_law (K : PySem.W.Frag) : Sp := fun vs H Q _ => ∃ (a : Addr) (ns : List Int), vs = [.ref a] ∧ SqL K H a (ns.map V.int) ∧ ns.length ≤ 63 ∧ ∀ H', Q (.bl true) H'
section
variable {P : Program} {w : World} {K : PySem.W.Frag} {mg : Str → Option Value} {base : Heap}
theorem ok_law (T : Txt K mg) : TopOk P w K mg base CX0 T.f_law T.d_law ["_law_script"] (sp_law K) := by
  obtain ⟨oc, od, kV, doc, pm, an, cdv, ct, osl, ed, lk, hcd⟩ := T.F_law.ex
  rw [ed] at lk ⊢
  refine top_of lk hcd sc_law (fun vs H Q E h => ?_) (fun outer s H vs Q E hr h => ?_)
  · obtain ⟨a, ns, rfl, _⟩ := h
    rfl
  · obtain ⟨sa, ns, rfl, hS, hl, q⟩ := h
    suffices hh : ∃ t, PSs (cxOf CX0 P w K mg base lawN "law" (defScope s_law) T.f_law cdv callerA outer s H E).nox (defBody s_law) t ∧ t { nx := fun _ H' => Q .non H', rt := Q } (start lawN [.ref sa]) H by
      obtain ⟨t, h1, h2⟩ := hh
      exact ⟨t, h1.nox, h2⟩
    have hr5 : Room 40 (callerA.deeper (envOfC "law" (defScope s_law) s.heap.objs.size T.f_law cdv)) := hr.mono (by decide)
    refine ⟨_, (pss_cons (ps_set (i := 1) sc_law.nd rfl (.inl rfl) (pe_call (ok_law_hand T) (hr5.mono (by decide)) (by rfl) T.g_law_hand T.F_law_hand.kp T.b_law_hand .nil pass0 (pa_cons (pv 0) pa_nil)))
      (pss_cons (ps_asg (pe_call (ok_law_any_picture T) (hr5.mono (by decide)) (by rfl) T.g_law_any_picture T.F_law_any_picture.kp T.b_law_any_picture .nil pass0 (pa_cons (pv 1) pa_nil)) (pg_tup rfl (pgs_cons (pg_name (i := 2) sc_law.nd rfl (.inl rfl)) (pgs_cons (pg_name (i := 3) sc_law.nd rfl (.inl rfl)) (pgs_cons (pg_name (i := 4) sc_law.nd rfl (.inl rfl)) pgs_nil)))))
      (pss_cons (ps_set (i := 5) sc_law.nd rfl (.inl rfl) (pe_make T.M_Picture (ok_Picture_init T) (hr5.mono (by decide)) (by rfl) T.g_Picture T.b_Picture_init .nil passL (pa_cons (pv 2) (pa_cons (pv 3) (pa_cons (pv 4) pa_nil)))))
      (pss_cons (ps_asg (pe_call (ok_law_tree T) (hr5.mono (by decide)) (by rfl) T.g_law_tree T.F_law_tree.kp T.b_law_tree .nil pass0 (pa_cons (pv 2) (pa_cons (pv 3) (pa_cons (pv 4) pa_nil)))) (pg_unl rfl (pgs_cons (pg_name (i := 6) sc_law.nd rfl (.inl rfl)) (pgs_cons (pg_name (i := 7) sc_law.nd rfl (.inl rfl)) pgs_nil))))
      (pss_cons (ps_if (PW.pt (pw_or (pt_not (pt_val (pe_call (ok_law_tuple T) (hr5.mono (by decide)) (by rfl) T.g_law_tuple T.F_law_tuple.kp T.b_law_tuple .nil pass0 (pa_cons (pe_call (ok_tree_places T) (hr5.mono (by decide)) (by rfl) T.g_tree_places T.F_tree_places.kp T.b_tree_places .nil pass0 (pa_cons (pv 5) pa_nil)) (pa_cons (pv 6) pa_nil))))) (pw_or1 (pt_not (pt_val (pe_call (ok_law_tuple T) (hr5.mono (by decide)) (by rfl) T.g_law_tuple T.F_law_tuple.kp T.b_law_tuple .nil pass0 (pa_cons (pe_call (ok_other_places T) (hr5.mono (by decide)) (by rfl) T.g_other_places T.F_other_places.kp T.b_other_places .nil pass0 (pa_cons (pv 5) pa_nil)) (pa_cons (pv 7) pa_nil))))))))
        (pss_one (ps_ret pe_bl))
        pss_nil)
      (pss_cons (ps_if (PW.pt (pw_or (pt_cmpR op_ne (pe_callB call_len_seq (by rfl) T.m_len (by decide +kernel) (pa_cons (pv 7) pa_nil)) (pe_op op_add (pe_op op_sub (pe_op op_sub (pe_callB call_len_seq (by rfl) T.m_len (by decide +kernel) (pa_cons (pv 4) pa_nil)) (pv 2)) (pv 3)) (pe_call (ok_law_pieces T) (hr5.mono (by decide)) (by rfl) T.g_law_pieces T.F_law_pieces.kp T.b_law_pieces .nil pass0 (pa_cons (pv 2) (pa_cons (pv 3) (pa_cons (pv 4) pa_nil))))) (nomark _)) (pw_or1 (pt_cmpR op_ne (pe_callB call_len_seq (by rfl) T.m_len (by decide +kernel) (pa_cons (pv 7) pa_nil)) (pe_op op_sub (pe_callB call_len_seq (by rfl) T.m_len (by decide +kernel) (pa_cons (pv 4) pa_nil)) (pe_callB call_len_seq (by rfl) T.m_len (by decide +kernel) (pa_cons (pv 6) pa_nil))) (nomark _)))))
        (pss_one (ps_ret pe_bl))
        pss_nil)
      (pss_cons (ps_if (pt_cmpR op_ne (pe_callB call_len_seq (by rfl) T.m_len (by decide +kernel) (pa_cons (pe_prop (pv 5) T.cl_Picture T.pr_pieces (ok_Picture_pieces T) (hr5.mono (by decide)) T.b_Picture_pieces .nil pass0 rfl) pa_nil)) (pe_call (ok_law_pieces T) (hr5.mono (by decide)) (by rfl) T.g_law_pieces T.F_law_pieces.kp T.b_law_pieces .nil pass0 (pa_cons (pv 2) (pa_cons (pv 3) (pa_cons (pv 4) pa_nil)))) (nomark _))
        (pss_one (ps_ret pe_bl))
        pss_nil)
      (pss_cons (ps_set (i := 8) sc_law.nd rfl (.inr rfl) (pe_lst pa_nil))
      (pss_cons (ps_for PassesOwn.never rfl (pi_list (pv 7)) (pg_name (i := 9) sc_law.nd rfl (.inr rfl))
        (pss_cons (ps_set (i := 10) sc_law.nd rfl (.inl rfl) (pe_op op_sub (pe_call (ok_law_take T) (hr5.mono (by decide)) (by rfl) T.g_law_take T.F_law_take.kp T.b_law_take .nil pass0 (pa_cons (pv 1) (pa_cons pe_int pa_nil))) pe_int))
        (pss_one (ps_expr (pe_bm PySem.F.plainAttrs_list PySem.F.slot_list_append PySem.F.type_list_append mt_append (pv 8) (pa_cons (pe_ifExp (pt_cmpR op_eq (pe_call (ok_law_take T) (hr5.mono (by decide)) (by rfl) T.g_law_take T.F_law_take.kp T.b_law_take .nil pass0 (pa_cons (pv 1) (pa_cons pe_int pa_nil))) pe_int (nomark _)) (pe_op op_sub (pe_op op_mulW (pv 10) (pe_op op_pow pe_int pe_int)) pe_int) (pv 10)) pa_nil))))))
      (pss_cons (ps_set (i := 11) sc_law.nd rfl (.inl rfl) (pe_call (ok_law_tour_of T) (hr5.mono (by decide)) (by rfl) T.g_law_tour_of T.F_law_tour_of.kp T.b_law_tour_of .nil pass0 (pa_cons (pv 2) (pa_cons (pv 3) (pa_cons (pv 4) (pa_cons (pv 8) pa_nil))))))
      (pss_cons (ps_set (i := 12) sc_law.nd rfl (.inl rfl) (pe_callTy call_lstD (by rfl) T.m_list (by decide +kernel) (pa_cons (pv 8) pa_nil)))
      (pss_cons (ps_set (i := 13) sc_law.nd rfl (.inl rfl) (pe_call (ok_tour_of T) (hr5.mono (by decide)) (by rfl) T.g_tour_of T.F_tour_of.kp T.b_tour_of .nil passL (pa_cons (pv 5) (pa_cons (pv 8) pa_nil))))
      (pss_cons (ps_if (PW.pt (pw_or (pt_cmpR (op_neD hr5.units) (pv 8) (pv 12) (nomark _)) (pw_or (pt_not (pt_val (pe_call (ok_law_tuple T) (hr5.mono (by decide)) (by rfl) T.g_law_tuple T.F_law_tuple.kp T.b_law_tuple .nil pass0 (pa_cons (pv 13) (pa_cons (pv 11) pa_nil))))) (pw_or1 (pt_not (pt_val (pe_call (ok_law_tuple T) (hr5.mono (by decide)) (by rfl) T.g_law_tuple T.F_law_tuple.kp T.b_law_tuple .nil pass0 (pa_cons (pe_call (ok_row_of T) (hr5.mono (by decide)) (by rfl) T.g_row_of T.F_row_of.kp T.b_row_of .nil passL (pa_cons (pv 5) (pa_cons (pe_callTy call_lstD (by rfl) T.m_list (by decide +kernel) (pa_cons (pv 11) pa_nil)) pa_nil))) (pa_cons (pv 8) pa_nil)))))))))
        (pss_one (ps_ret pe_bl))
        pss_nil)
      (pss_cons (ps_set (i := 14) sc_law.nd rfl (.inl rfl) (pe_call (ok_law_basis T) (hr5.mono (by decide)) (by rfl) T.g_law_basis T.F_law_basis.kp T.b_law_basis .nil pass0 (pa_cons (pv 2) (pa_cons (pv 3) (pa_cons (pv 4) pa_nil)))))
      (pss_cons (ps_set (i := 15) sc_law.nd rfl (.inl rfl) (pe_call (ok_basis_tours T) (hr5.mono (by decide)) (by rfl) T.g_basis_tours T.F_basis_tours.kp T.b_basis_tours .nil pass0 (pa_cons (pv 5) pa_nil)))
      (pss_cons (ps_if (PW.pt (pw_or (pt_not (pt_val (pe_callB call_isi (by rfl) T.m_isinstance (by decide +kernel) (pa_cons (pv 15) (pa_cons (pe_bltn (v := .ty "tuple") (u := .type "tuple") (by rfl) T.m_tuple (by decide +kernel) rfl) pa_nil))))) (pw_or1 (pt_cmpR op_ne (pe_callB call_len_seq (by rfl) T.m_len (by decide +kernel) (pa_cons (pv 15) pa_nil)) (pe_callB call_len_seq (by rfl) T.m_len (by decide +kernel) (pa_cons (pv 7) pa_nil)) (nomark _)))))
        (pss_one (ps_ret pe_bl))
        pss_nil)
      (pss_cons (ps_set (i := 16) sc_law.nd rfl (.inl rfl) (pe_op op_rep (pe_lst (pa_cons pe_int pa_nil)) (pe_callB call_len_seq (by rfl) T.m_len (by decide +kernel) (pa_cons (pv 4) pa_nil))))
      (pss_cons (ps_for PassesOwn.never rfl (pi_range1 (by rfl) T.m_range (pa_cons (pe_callB call_len_seq (by rfl) T.m_len (by decide +kernel) (pa_cons (pv 7) pa_nil)) pa_nil)) (pg_name (i := 9) sc_law.nd rfl (.inr rfl))
        (pss_cons (ps_if (PW.pt (pw_or (pt_not (pt_val (pe_call (ok_law_tuple T) (hr5.mono (by decide)) (by rfl) T.g_law_tuple T.F_law_tuple.kp T.b_law_tuple .nil pass0 (pa_cons (pe_ix ix_tup (pv 15) (pv 9) (fun _ _ => rfl)) (pa_cons (pe_ix ix_list (pv 14) (pv 9) (fun _ _ => rfl)) pa_nil))))) (pw_or1 (pt_cmpR (op_neD hr5.units) (pe_lc rfl sc_law.nd (pi_seq (pe_ix ix_tup (pv 15) (pv 9) (fun _ _ => rfl))) (blkOk_by (own := [("_law_x", 22)]) (N := lawN) (sc := defScope s_law) (by decide +kernel)) (fun _ _ _ _ _ => (pg_name (i := 22) sc_law.nd rfl (.inl rfl))) (fun _ _ _ _ _ => (pts_one (pt_cmpR (show OpR _ (compareOp .NotIn) (rIn K true) from op_notIn_seq) (pv 22) (pe_tup (pa_cons (pe_un un_neg pe_int) (pa_cons pe_int (pa_cons pe_int pa_nil)))) rfl))) (fun _ _ _ _ _ => (pv 22))) (pe_lst pa_nil) (nomark _)))))
          (pss_one (ps_ret pe_bl))
          pss_nil)
        (pss_one (ps_setLc (i := 16) rfl sc_law.nd rfl rfl (sw_true rfl rfl rfl (by decide +kernel)) (RZM.pi_zipS (by rfl) T.m_zip (pa_cons (pv 16) (pa_cons (pe_ix ix_tup (pv 15) (pv 9) (fun _ _ => rfl)) pa_nil))) (blkOk_by (own := [("_law_a", 20), ("_law_b", 21)]) (N := lawN) (sc := defScope s_law) (by decide +kernel)) (fun _ _ _ _ _ => (show PG _ _ (gTup K 2 (gCons (gName 20) (gCons (gName 21) gNil))) from pg_tup rfl (pgs_cons (pg_name (i := 20) sc_law.nd rfl (.inl rfl)) (pgs_cons (pg_name (i := 21) sc_law.nd rfl (.inl rfl)) pgs_nil)))) (fun _ _ _ _ _ => pts_nil) (fun _ _ _ _ _ => (pe_op op_add (pv 20) (pe_op op_mulW (pe_ix (show IxR _ (rIxL K) from ix_list) (pv 8) (pv 9) (fun _ _ => rfl)) (pv 21))))))))
      (pss_cons (ps_if (PW.pt (pw_or (pt_cmpR (op_neD hr5.units) (pe_callTy call_tupD (by rfl) T.m_tuple (by decide +kernel) (pa_cons (pv 16) pa_nil)) (pv 11) (nomark _)) (pw_or1 (pt_cmpR (op_neD hr5.units) (pe_call (ok_tour_of T) (hr5.mono (by decide)) (by rfl) T.g_tour_of T.F_tour_of.kp T.b_tour_of .nil passL (pa_cons (pv 5) (pa_cons (pe_callTy call_tupD (by rfl) T.m_tuple (by decide +kernel) (pa_cons (pv 8) pa_nil)) pa_nil))) (pv 11) (nomark _)))))
        (pss_one (ps_ret pe_bl))
        pss_nil)
      (pss_cons (ps_set (i := 17) sc_law.nd rfl (.inl rfl) (pe_ix ix_tup (pe_tup (pa_cons pe_bl (pa_cons pe_non (pa_cons pe_str (pa_cons (pe_tup (pa_cons pe_int pa_nil)) (pa_cons pe_bl pa_nil)))))) (pe_call (ok_law_take T) (hr5.mono (by decide)) (by rfl) T.g_law_take T.F_law_take.kp T.b_law_take .nil pass0 (pa_cons (pv 1) (pa_cons pe_int pa_nil))) (fun _ _ => rfl)))
      (pss_cons (ps_set (i := 18) sc_law.nd rfl (.inl rfl) (pe_call (ok_law_take T) (hr5.mono (by decide)) (by rfl) T.g_law_take T.F_law_take.kp T.b_law_take .nil pass0 (pa_cons (pv 1) (pa_cons (pe_op op_add (pe_callB call_len_seq (by rfl) T.m_len (by decide +kernel) (pa_cons (pv 8) pa_nil)) pe_int) pa_nil))))
      (pss_cons (ps_for PassesOwn.never rfl (pi_tup (pe_tup (pa_cons (pe_op op_catDL (pv 8) (pe_lst (pa_cons pe_int pa_nil))) (pa_cons (pe_op op_catDL (pe_op op_catDL (pe_slice sl_listD (pv 8) po_none (po_some (pv 18))) (pe_lst (pa_cons (pv 17) pa_nil))) (pe_slice sl_listD (pv 8) (po_some (pe_op op_add (pv 18) pe_int)) po_none)) (pa_cons (pe_ifExp (pt_truth (pv 8) (by intro _; rfl)) (pe_slice sl_listD (pv 8) (po_some pe_int) po_none) (pe_lst (pa_cons (pv 17) pa_nil))) (pa_cons pe_non (pa_cons pe_int (pa_cons (pe_op op_catDL (pv 8) (pe_lst (pa_cons (pv 17) pa_nil))) pa_nil)))))))) (pg_name (i := 19) sc_law.nd rfl (.inl rfl))
        (pss_one (ps_if (pt_not (pt_val (pe_call (ok_law_refused T) (hr5.mono (by decide)) (by rfl) T.g_law_refused T.F_law_refused.kp T.b_law_refused .nil pass0 (pa_cons (pv 5) (pa_cons (pv 19) pa_nil)))))
          (pss_one (ps_ret pe_bl))
          pss_nil)))
      (pss_cons (ps_if (PW.pt (pw_or (pt_val (pe_call (ok_law_refused T) (hr5.mono (by decide)) (by rfl) T.g_law_refused T.F_law_refused.kp T.b_law_refused .nil pass0 (pa_cons (pv 5) (pa_cons (pv 8) pa_nil)))) (pw_or (pt_cmpR op_notN (pe_call (ok_law_tour_word T) (hr5.mono (by decide)) (by rfl) T.g_law_tour_word T.F_law_tour_word.kp T.b_law_tour_word .nil pass0 (pa_cons (pv 5) (pa_cons (pv 11) pa_nil))) pe_non (nomark _)) (pw_or1 (pt_cmpR op_ne (pe_call (ok_law_tour_word T) (hr5.mono (by decide)) (by rfl) T.g_law_tour_word T.F_law_tour_word.kp T.b_law_tour_word .nil pass0 (pa_cons (pv 5) (pa_cons (pe_op op_catD (pv 11) (pe_tup (pa_cons pe_int pa_nil))) pa_nil))) pe_str (nomark _))))))
        (pss_one (ps_ret pe_bl))
        pss_nil)
      (pss_cons (ps_if (pt_not (pt_truth (pv 4) (by intro _; rfl)))
        (pss_one (ps_ret pe_bl))
        pss_nil)
      (pss_cons (ps_set (i := 18) sc_law.nd rfl (.inl rfl) (pe_call (ok_law_take T) (hr5.mono (by decide)) (by rfl) T.g_law_take T.F_law_take.kp T.b_law_take .nil pass0 (pa_cons (pv 1) (pa_cons (pe_callB call_len_seq (by rfl) T.m_len (by decide +kernel) (pa_cons (pv 4) pa_nil)) pa_nil))))
      (pss_cons (ps_if (pt_cmpR op_ne (pe_call (ok_law_tour_word T) (hr5.mono (by decide)) (by rfl) T.g_law_tour_word T.F_law_tour_word.kp T.b_law_tour_word .nil pass0 (pa_cons (pv 5) (pa_cons (pe_op op_catD (pe_op op_catD (pe_slice sl_tupD (pv 11) po_none (po_some (pv 18))) (pe_tup (pa_cons (pv 17) pa_nil))) (pe_slice sl_tupD (pv 11) (po_some (pe_op op_add (pv 18) pe_int)) po_none)) pa_nil))) pe_str (nomark _))
        (pss_one (ps_ret pe_bl))
        pss_nil)
      (pss_one (ps_ret (pe_cmpR op_eq (pe_call (ok_law_tour_word T) (hr5.mono (by decide)) (by rfl) T.g_law_tour_word T.F_law_tour_word.kp T.b_law_tour_word .nil pass0 (pa_cons (pv 5) (pa_cons (pe_op op_catD (pe_op op_catD (pe_slice sl_tupD (pv 11) po_none (po_some (pv 18))) (pe_tup (pa_cons (pe_op op_add (pe_ix ix_tup (pv 11) (pv 18) (fun _ _ => rfl)) pe_int) pa_nil))) (pe_slice sl_tupD (pv 11) (po_some (pe_op op_add (pv 18) pe_int)) po_none)) pa_nil))) pe_str (nomark _)))))))))))))))))))))))))))))), ?_⟩
    refine ⟨_, rfl, sa, ns, rfl, hS, hl, fun H1 h s1 nh hd1 => ?_⟩
    refine ⟨_, rfl, h, rfl, hd1, fun H2 wt l P' W ps k2 hd2 wd hw kl => ?_⟩
    have p0 := wd.p0
    have p1 := wd.p1
    have w0 := wd.w0
    have w1 := wd.w1
    have l25 := wd.len25
    refine ⟨wt, _, rfl, SqT.of hw, rfl, _, _, rfl, _, _, rfl, _, _, rfl, rfl, ?_⟩
    have we : wordD (.int P') (.int W) (.list (ps.map prD)) = none := word_none (by omega) wd.ins (asc_nodup wd.asc) rfl
    have hm : (ps.map prD).map prOf = ps := by
      rw [List.map_map, show (prOf ∘ prD) = id from rfl, List.map_id]
    refine ⟨_, rfl, _, rfl, _, rfl, mk_pic (.int P') (.int W) kl (fun ds e => by cases e; rw [List.length_map]; omega) (fun e he => by rw [we] at he; cases he) (fun P2 W2 ds e1 e2 e3 _ H3 a s3 na hp => ?_)⟩
    cases e1
    cases e2
    cases e3
    rw [hm, srt_asc wd.asc] at hp
    have hd3 := hd2.same s3
    have kl3 := kl.same s3
    refine ⟨_, rfl, _, rfl, _, rfl, P', W, l, ps, rfl, wd, kl3, fun H4 t4 ta tb s4 ht4 ha4 hb4 nta ntb => ?_⟩
    refine ⟨t4, _, rfl, SqL.of ht4, rfl, _, _, rfl, _, _, rfl, rfl, ?_⟩
    have hp4 := hp.same s4
    have kl4 := kl3.same s4
    have hd4 := hd3.same s4
    have kta : Dq H4 (.ref ta) (.list (natD (treeP P' W ps))) := .lst ha4 (dq_nat _)
    have ktb : Dq H4 (.ref tb) (.list (natD (others P' W ps))) := .lst hb4 (dq_nat _)
    have hb4' : H4 tb = some (.lst (natL (others P' W ps))) := hb4
    have ha4' : H4 ta = some (.lst (natL (treeP P' W ps))) := ha4
    have slen := sum_len (P := P') (W := W) (ps := ps)
    have pdue := pieces_due (P := P') (W := W) (ps := ps) wd.ins (by omega) (by omega)
    refine ⟨_, rfl, a, P', W, ps, rfl, hp4, fun t5 H5 s5 k5 => ?_⟩
    rw [natD_eq] at k5
    refine ⟨_, rfl, .ref t5, .ref ta, _, _, rfl, k5, kta.same s5, by rw [natD_eq]; rfl, by rw [List.length_map]; omega, fun H6 s6 => ⟨_, rfl, iteF ?_⟩⟩
    have s46 := s5.trans s6
    refine ⟨_, rfl, a, P', W, ps, rfl, hp4.same s46, fun t7 H7 s7 k7 => ?_⟩
    rw [natD_eq] at k7
    have s47 := s46.trans s7
    refine ⟨_, rfl, .ref t7, .ref tb, _, _, rfl, k7, ktb.same s47, by rw [natD_eq]; rfl, by rw [List.length_map]; omega, fun H8 s8 => ⟨_, rfl, iteF ?_⟩⟩
    have s48 := s47.trans s8
    obtain ⟨fx, ef, tf, lf⟩ := lst_prs (kl4.same s48)
    have eb8 := s48 _ _ hb4'
    have ea8 := s48 _ _ ha4'
    refine ⟨_, rfl, tb, _, rfl, .inl (SqL.of eb8), _, rfl, l, _, rfl, .inl (SqL.of ef), _, rfl, _, _, rfl, rfl, _, rfl, _, _, rfl, rfl, _, rfl, _, rfl, _, rfl, P', W, l, ps, rfl, wd, kl4.same s48, fun H9 s9 => ⟨_, _, rfl, rfl, rfl, _, rfl, ?_⟩⟩
    rw [int_dec, natL_len, lf, decide_eq_true (show ((others P' W ps).length : Int) = (ps.length : Int) - P' - W + (piecesN P' W ps : Nat) from pdue)]
    refine iteF ?_
    refine ⟨_, rfl, tb, _, rfl, .inl (SqL.of (s9 _ _ eb8)), _, rfl, l, _, rfl, .inl (SqL.of (s9 _ _ ef)), _, rfl, ta, _, rfl, .inl (SqL.of (s9 _ _ ea8)), _, _, rfl, rfl, rfl, _, rfl, ?_⟩
    rw [int_dec, natL_len, natL_len, lf, decide_eq_true (show ((others P' W ps).length : Int) = (ps.length : Int) - ((treeP P' W ps).length : Int) by omega)]
    refine iteF ?_
    have s49 := s48.trans s9
    obtain ⟨⟨dx, tp, pv_, pxs, ha9, _, _, kp9⟩, _, _, _⟩ := id (hp4.same s49)
    have hp9 := hp4.same s49
    refine ⟨_, rfl, a, dx, _, rfl, ha9, a, P', W, ps, rfl, hp9, fun v kv => ?_⟩
    obtain ⟨vp, vz, rfl, ev, tv⟩ := dq_tup kv
    have lv : vz.length = piecesN P' W ps := by rw [tv.len, pieces_len]
    refine ⟨vp, _, rfl, .inr (SqT.of ev), _, rfl, _, rfl, _, rfl, P', W, l, ps, rfl, wd, kl4.same s49, fun H10 s10 => ⟨rfl, _, rfl, ?_⟩⟩
    rw [int_dec, lv, decide_eq_true rfl]
    refine iteF ?_
    have s410 := s49.trans s10
    have hd10 := hd4.same s410
    have hp10 := hp4.same s410
    have kl10 := kl4.same s410
    have ktb10 := ktb.same s410
    have eb10 := s410 _ _ hb4'
    refine ⟨Nat.zero_le _, fun D nD => ?_⟩
    have nDh := hand_ne hd10 nD
    have nDb : tb ≠ D := ne_of_none eb10 nD
    have nbh : tb ≠ h := hand_ne hd3 ntb
    refine ⟨_, rfl, tb, rfl, ⟨_, SqL.of ((same_new nD) _ _ eb10)⟩, for_list (xs := natL (others P' W ps)) (fun i σ G => ∃ y9 y10, ∃ row : List Int, σ = [some (.ref sa), some (.ref h), some (.int P'), some (.int W), some (.ref l), some (.ref a), some (.ref ta), some (.ref tb), some (.ref D), y9, y10, none, none, none, none, none, none, none, none, none, none, none, none] ∧ Keep h H10 G ∧ Hand G h ∧ G D = some (.lst (row.map V.int)) ∧ row.length = i ∧ ∀ z ∈ row, Sml z)
      ⟨_, _, [], rfl, Keep.putD hd10 nD Keep.refl, Hand.putD hd10 nD Keep.refl hd10, upd_same, rfl, fun z hz => nomatch hz⟩ (fun i σ G _ hP => by obtain ⟨_, _, _, _, kG, _⟩ := hP; exact SqL.of (kG.kp _ _ nbh eb10)) (fun i x σ G hx hP => ?_) (fun σ G hP => ?_)⟩
    · obtain ⟨y9, y10, row, rfl, kG, hdG, eD, lr, sm⟩ := hP
      have hi : i < (others P' W ps).length := by
        have := (List.getElem?_eq_some_iff.mp hx).1
        rwa [natL_len] at this
      refine ⟨_, rfl, h, 9, rfl, hdG, by decide, by decide, fun G2 r k2' hd2' r0 r1 => ?_⟩
      refine ⟨_, _, rfl, rfl, ?_⟩
      have eD2 := k2'.kp _ _ nDh eD
      refine ⟨_, rfl, .inl ⟨rfl, _, SqL.of eD2⟩, _, rfl, h, 7, rfl, hd2', by decide, by decide, fun G3 r' k3' hd3' _ _ => ⟨rfl, _, rfl, ?_⟩⟩
      have eD3 := k3'.kp _ _ nDh eD2
      have kG3 := (kG.trans k2').trans k3'
      obtain ⟨sm1, sm2⟩ := small_num r0 r1
      have fin : ∀ z : Int, Sml z → Keep h H10 (upd G3 D (.lst (row.map V.int ++ [.int z]))) ∧ Hand (upd G3 D (.lst (row.map V.int ++ [.int z]))) h ∧ (upd G3 D (.lst (row.map V.int ++ [.int z]))) D = some (.lst ((row ++ [z]).map V.int)) ∧ (row ++ [z]).length = i + 1 ∧ ∀ y ∈ row ++ [z], Sml y := fun z hz => by
        refine ⟨Keep.putD hd10 nD kG3, Hand.putD hd10 nD kG3 hd3', ?_, by rw [List.length_append, lr]; rfl, fun x hx => ?_⟩
        · rw [upd_same, List.map_append]
          rfl
        · rcases List.mem_append.mp hx with e | e
          · exact sm x e
          · rw [List.mem_singleton.mp e]
            exact hz
      rw [int_dec]
      by_cases c : r' = 0
      · rw [decide_eq_true c]
        refine iteT ⟨_, rfl, 10, 33, rfl, rfl, ⟨by decide, by decide, by decide⟩, _, _, rfl, rfl, wide_mul (a := 10) (b := 200) (by omega) (by decide) (by decide) (by decide) (by decide), _, _, rfl, rfl, D, _, _, rfl, rfl, eD3, small1000 (by rw [List.length_map]; omega), ?_⟩
        exact ⟨_, _, _, rfl, fin _ sm1⟩
      · rw [decide_eq_false c]
        refine iteF ⟨_, rfl, D, _, _, rfl, rfl, eD3, small1000 (by rw [List.length_map]; omega), ?_⟩
        exact ⟨_, _, _, rfl, fin _ sm2⟩
    · obtain ⟨y9, y10, row, rfl, kG, hdG, eD, lr, sm⟩ := hP
      rw [natL_len] at lr
      have klG := dq_kp hd10 kG (noHd_prs ps) kl10
      have hpG := pic_kp hp10 hd10 kG
      have kD : Dq G (.ref D) (.list (row.map PyData.int)) := .lst eD (dq_intl row)
      have tr : Tour P' W ps (tourOf P' W ps row) := tourOf_tour wd.ins
      have lt : (tourOf P' W ps row).length = ps.length := tourOf_len
      have tN : ∀ {d : PyData}, itemsD d = some ((tourOf P' W ps row).map PyData.int) → tourW P' W ps d = none := fun e => IsT.none ⟨e, tr⟩
      have eR : ∀ row' : List Int, some (row.map PyData.int) = some (row'.map PyData.int) → row' = row := fun row' e => (ints_inj' (Option.some.inj e)).symm
      refine ⟨_, rfl, _, rfl, _, rfl, _, rfl, P', W, l, D, ps, row, rfl, wd, klG, eD, lr, fun G1 td t1 htd => ?_⟩
      refine ⟨_, rfl, .ref D, .list (row.map PyData.int), _, rfl, kD.same t1, rfl, fun lk G2 t2 nk kk => ?_⟩
      have t12 := t1.trans t2
      refine ⟨_, rfl, _, rfl, a, .ref D, .list (row.map PyData.int), P', W, ps, rfl, hpG.same t12, kD.same t12, fun e => (by rw [wrow_is rfl lr] at e; exact Bool.noConfusion e), fun row' e1 e2 => ?_⟩
      cases eR row' e1
      refine ⟨sm, fun lt3 G3 t3 kt3 => ?_⟩
      have t13 := t12.trans t3
      have htd3 := (t2.trans t3) _ _ htd
      have ktd3 : Dq G3 (.ref td) (.tuple ((tourOf P' W ps row).map PyData.int)) := tupI htd3
      have kD3 := kD.same t13
      refine ⟨_, rfl, _, rfl, .list (row.map PyData.int), .list (row.map PyData.int), kD3.dp, (kk.same t3).dp, shpl_ints _, shpl_ints _, _, rfl, ?_⟩
      rw [eqvl_ints]
      refine iteF ⟨_, rfl, _, rfl, .ref lt3, .ref td, _, _, rfl, kt3, ktd3, rfl, by omega, fun G4 t4 => ⟨_, rfl, iteF ?_⟩⟩
      have t14 := t13.trans t4
      refine ⟨_, rfl, _, rfl, .ref td, .tuple ((tourOf P' W ps row).map PyData.int), _, rfl, ktd3.same t4, rfl, fun l5 G5 t5 n5 k5 => ?_⟩
      have t15 := t14.trans t5
      refine ⟨a, .ref l5, .list ((tourOf P' W ps row).map PyData.int), P', W, ps, rfl, hpG.same t15, k5, fun e he => (by rw [tN rfl] at he; cases he), fun ns' it l6 G6 t6 k6 => ?_⟩
      have en : ns' = tourOf P' W ps row := (ints_inj' (Option.some.inj it.1)).symm
      subst en
      rw [row_back lr] at k6
      have t16 := t15.trans t6
      refine ⟨_, rfl, .ref l6, .ref D, _, _, rfl, k6, kD.same t16, rfl, by omega, fun G7 t7 => ⟨_, rfl, iteF ?_⟩⟩
      have t17 := t16.trans t7
      have klG7 := klG.same t17
      refine ⟨_, rfl, _, rfl, _, rfl, P', W, l, ps, rfl, wd, klG7, fun tbas G8 t8 kb8 => ?_⟩
      have t18 := t17.trans t8
      refine ⟨_, rfl, a, P', W, ps, rfl, hpG.same t18, fun tto G9 t9 kt9 => ?_⟩
      have t19 := t18.trans t9
      have kb9 := kb8.same t9
      obtain ⟨_, zz, ez, eto, tto'⟩ := dq_tup kt9
      cases ez
      have lto : zz.length = (others P' W ps).length := by rw [tto'.len, List.length_map, basis_len]
      have eb19 : G9 tb = some (.lst (natL (others P' W ps))) := t19 _ _ (kG.kp _ _ nbh eb10)
      obtain ⟨tyt, ty, _, _, _, k4⟩ := dq_ty (K := K) kt9
      refine ⟨_, rfl, .ref tto, .ty "tuple", tyt, _, true, rfl, .ty _, ty, k4, _, rfl, iteF ?_⟩
      refine ⟨_, rfl, tto, _, rfl, .inr (SqT.of eto), _, rfl, tb, _, rfl, .inl (SqL.of eb19), rfl, _, rfl, ?_⟩
      rw [int_dec, lto, natL_len, decide_eq_true rfl]
      refine iteF ?_
      obtain ⟨yy, ey, tyy⟩ : ∃ yy, G9 tbas = some (.lst yy) ∧ DqAll G9 yy ((basisT P' W ps).map vecD) := by
        cases kb9 with
        | lst e t => exact ⟨_, e, t⟩
      have eD9 : G9 D = some (.lst (row.map V.int)) := t19 _ _ eD
      obtain ⟨fx9, ef9, _, lf9⟩ := lst_prs (klG.same t19)
      refine ⟨(by show 1 ≤ sizeLine; decide), fun l0 n0 => ?_⟩
      have u0 : Same G9 (upd G9 l0 (.lst [.int 0])) := same_new n0
      refine ⟨_, rfl, l, fx9, rfl, .inl (SqL.of (u0 _ _ ef9)), l0, _, [.int 0], rfl, rfl, upd_same, by omega, by omega, (by show 1 * (fx9.length : Int).toNat ≤ sizeLine; exact Nat.le_of_lt (small1000 (by omega))), fun lt0 nt0 => ?_⟩
      have u1 : Same G9 (upd (upd G9 l0 (.lst [.int 0])) lt0 (.lst (List.replicate (fx9.length : Int).toNat [V.int 0]).flatten)) := u0.trans (same_new nt0)
      have et0 : (upd (upd G9 l0 (.lst [.int 0])) lt0 (.lst (List.replicate (fx9.length : Int).toNat [V.int 0]).flatten)) lt0 = some (.lst (vecV ps.length (acF P' W ps row 0))) := by
        rw [upd_same, List.flatten_replicate_singleton, show ((fx9.length : Int)).toNat = ps.length by omega, show V.int 0 = V.int (0 : Int) from rfl, ← List.map_replicate (f := V.int) (a := (0 : Int)), vec_rep]
        rfl
      generalize upd (upd G9 l0 (.lst [.int 0])) lt0 (.lst (List.replicate (fx9.length : Int).toNat [V.int 0]).flatten) = GA at u1 et0
      refine ⟨_, rfl, tb, _, rfl, .inl (SqL.of (u1 _ _ eb19)), _, rfl, by omega, by rw [natL_len]; omega, ?_⟩
      rw [show ((natL (others P' W ps)).length : Int).toNat = (others P' W ps).length by rw [natL_len]; omega]
      refine for_range (fun i σ G' => ∃ y9, ∃ tt : Addr, σ = [some (.ref sa), some (.ref h), some (.int P'), some (.int W), some (.ref l), some (.ref a), some (.ref ta), some (.ref tb), some (.ref D), y9, y10, some (.ref td), some (.ref lk), some (.ref lt3), some (.ref tbas), some (.ref tto), some (.ref tt), none, none, none, none, none, none] ∧ Same G9 G' ∧ G' tt = some (.lst (vecV ps.length (acF P' W ps row i))))
        ⟨_, _, rfl, u1, et0⟩ (fun i σ G' hi hP => ?_) (fun σ G' hP => ?_)
      · obtain ⟨y9, tt, rfl, v0, ett⟩ := hP
        obtain ⟨x1, hx1⟩ : ∃ x, zz[i]? = some x := ⟨_, List.getElem?_eq_getElem (by omega)⟩
        obtain ⟨x2, hx2⟩ : ∃ x, yy[i]? = some x := ⟨_, List.getElem?_eq_getElem (by rw [tyy.len, List.length_map, basis_len]; exact hi)⟩
        obtain ⟨d1, hd1', kd1⟩ := tto'.get hx1
        obtain ⟨d2, hd2', kd2⟩ := tyy.get hx2
        rw [hd1'] at hd2'
        cases hd2'
        rw [List.getElem?_map] at hd1'
        obtain ⟨bs, hbs, rfl⟩ := Option.map_eq_some_iff.mp hd1'
        obtain ⟨ebs, lbs, smb⟩ := basis_get hbs
        obtain ⟨b1, rfl, hb1⟩ := dq_tupI kd1
        obtain ⟨b2, rfl, hb2⟩ := dq_tupI kd2
        have etoG := v0 _ _ eto
        have eyG := v0 _ _ ey
        refine ⟨_, rfl, _, rfl, tto, _, (0 + (i : Int)), .ref b1, rfl, rfl, SqT.of etoG, at_of (j := i) (by omega) hx1, _, rfl, _, rfl, tbas, _, (0 + (i : Int)), .ref b2, rfl, rfl, SqL.of eyG, at_of (j := i) (by omega) hx2, .ref b1, .ref b2, _, bs, rfl, kd1.same v0, kd2.same v0, rfl, by omega, fun GB v1 => ⟨_, rfl, iteF (op_lc ?_)⟩⟩
        have v01 := v0.trans v1
        refine lc_seqD (a := b1) (xs := bs.map V.int) (ds := bs.map PyData.int) (fun d => !inV (.int (intD d)) [.int (-1), .int 0, .int 1]) id (fun Q h => ⟨_, rfl, _, rfl, tto, _, (0 + (i : Int)), .ref b1, rfl, rfl, SqT.of (v01 _ _ eto), at_of (j := i) (by omega) hx1, h⟩) (.inr (SqT.of (v01 _ _ hb1))) (dq_intl bs) (by rw [List.length_map]; omega) (fun _ => rfl) (fun j x d' H2 Q2 hd' _ kd' q2 => ?_) (fun D2 j x d' H2 Q2 nD2 hd' _ s2 kd' hD2 q2 => ?_) (fun D2 H2 nD2 s2 kD2 => ?_)
        · rw [List.getElem?_map] at hd'
          obtain ⟨n, _, rfl⟩ := Option.map_eq_some_iff.mp hd'
          cases kd'
          refine ⟨_, rfl, 1, rfl, (by show 3 ≤ sizeLine; decide), fun u nu => ⟨u, _, rfl, .inr (SqT.of upd_same), rfl, rfl, _, rfl, q2 _ (same_new nu)⟩⟩
        · obtain ⟨acc, hacc⟩ := hD2
          rw [List.getElem?_map] at hd'
          obtain ⟨n, _, rfl⟩ := Option.map_eq_some_iff.mp hd'
          exact ⟨_, rfl, q2 _ _ (fun _ _ z => z) (dq_noL hacc _ rfl kd')⟩
        · have em : (((bs.map PyData.int).filter fun d => !inV (.int (intD d)) [.int (-1), .int 0, .int 1]).map id) = [] := by
            rw [List.map_id, List.filter_eq_nil_iff]
            intro z hz
            obtain ⟨n, hn, rfl⟩ := List.mem_map.mp hz
            rcases smb wd.ins n hn with e | e | e <;> subst e <;> decide
          rw [em] at kD2
          refine ⟨Nat.zero_le _, fun D4 nD4 => ?_⟩
          have s4' := same_new (o := .lst []) nD4
          refine ⟨.list [], .list [], (kD2.same s4').dp, (Dq.lst upd_same .nil).dp, by decide, by decide, _, rfl, ?_⟩
          rw [eqv_emptyL]
          refine iteF ?_
          have v02 := (v01.trans s2).trans s4'
          have v12 := (v1.trans s2).trans s4'
          refine ⟨_, rfl, _, rfl, _, rfl, tto, _, (0 + (i : Int)), .ref b1, rfl, rfl, SqT.of (v02 _ _ eto), at_of (j := i) (by omega) hx1, false, true, tt, b1, vecV ps.length (acF P' W ps row i), bs.map V.int, rfl, SqL.of (v12 _ _ ett), SqT.of (v02 _ _ hb1), fun D3 nD3 => ?_⟩
          refine lc_zipV (t1 := false) (t2 := true) (fun _ => true) (fun j => V.int (acF P' W ps row (i + 1) j)) (by rw [vec_len, List.length_map, lbs]) (by rw [vec_len]; omega) nD3 (SqL.of (v12 _ _ ett)) (SqT.of (v02 _ _ hb1)) (fun j x y T' H' R N hx hy s hT yes no => ?_) (fun H' s3' hD3 => ?_)
          · obtain ⟨rfl, hj⟩ := vec_at hx
            obtain ⟨rfl, hj2⟩ := map_getD hy
            have eDi := s _ _ (v02 _ _ eD9)
            refine ⟨T', _, rfl, SqT.of hT, rfl, _, _, rfl, _, _, rfl, rfl, rfl, ?_⟩
            refine ⟨_, rfl, _, rfl, _, rfl, D, _, (0 + (i : Int)), _, rfl, rfl, SqL.of eDi, ix_at (by omega) (by omega), _, rfl, _, _, rfl, rfl, ?_, _, _, rfl, rfl, ?_⟩
            · refine sml_mul (sm _ (mem_getD (by omega))) ?_
              have := smb wd.ins _ (mem_getD hj2)
              unfold Sml
              rcases this with z | z | z <;> rw [z] <;> decide
            · rw [show (0 + (i : Int)).toNat = i by omega]
              have := yes rfl H' fun _ _ z => z
              rw [acF_succ, ebs] at this
              exact this
          · rw [range_all, vec_len] at hD3
            exact ⟨_, D3, rfl, v02.trans s3', hD3⟩
      · obtain ⟨y9, tt, rfl, v0, ett⟩ := hP
        rw [← lr, ← acF_vec, accF_fin wd.ins lr] at ett
        have hpX := (hpG.same t19).same v0
        have kDX := (kD.same t19).same v0
        have ktdX := (ktd3.same (((((((t4.trans t5).trans t6).trans t7).trans t8).trans t9)))).same v0
        have kttX : Dq G' (.ref tt) (.list ((tourOf P' W ps row).map PyData.int)) := .lst ett (dq_intl _)
        refine ⟨_, rfl, .ref tt, _, _, rfl, kttX, rfl, fun l6' GB v1 k6' => ⟨_, rfl, _, _, k6'.dp, (ktdX.same v1).dp, shp_ints _, shp_ints _, _, rfl, ?_⟩⟩
        rw [eqv_ints]
        refine iteF ⟨_, rfl, _, rfl, .ref D, _, _, rfl, kDX.same v1, rfl, fun l7 GC v2 k7' => ?_⟩
        have v12 := v1.trans v2
        refine ⟨a, .ref l7, .tuple (row.map PyData.int), P', W, ps, rfl, hpX.same v12, k7', fun e => (by rw [wrow_is rfl lr] at e; exact Bool.noConfusion e), fun row' e1 e2 => ?_⟩
        cases eR row' e1
        refine ⟨sm, fun l8 GD v3 k8' => ⟨_, rfl, _, _, (show Dq GD (.ref l8) (.tuple ((tourOf P' W ps row).map PyData.int)) from k8').dp, ((ktdX.same v12).same v3).dp, shp_ints _, shp_ints _, _, rfl, ?_⟩⟩
        rw [eqv_ints]
        refine iteF ?_
        have v13 := v12.trans v3
        have sGD : Same G GD := (t19.trans v0).trans v13
        have hdD := hdG.same sGD
        have hpD := hpX.same v13
        have kDD := kDX.same v13
        have ktdD := ktdX.same v13
        have klD := klG.same sGD
        have nrow : row.length ≤ 25 := by omega
        refine ⟨(by show 1 ≤ sizeLine; decide), fun u1 n1 => ⟨(by show 5 ≤ sizeLine; decide), fun u2 n2 => ?_⟩⟩
        have w1' := same_new (o := .tup [.int 1]) n1
        have w2' := same_new (o := .tup [.bl true, .non, .str "1", .ref u1, .bl false]) n2
        have e2' : (upd (upd GD u1 (.tup [.int 1])) u2 (.tup [.bl true, .non, .str "1", .ref u1, .bl false])) u2 = some (.tup [.bl true, .non, .str "1", .ref u1, .bl false]) := upd_same
        have ku1 : Dq (upd (upd GD u1 (.tup [.int 1])) u2 (.tup [.bl true, .non, .str "1", .ref u1, .bl false])) (.ref u1) (.tuple [.int 1]) := (Dq.tup (H := upd GD u1 (.tup [.int 1])) upd_same (.cons (.int _) .nil)).same w2'
        have w12 := w1'.trans w2'
        have hdE := hdD.same w12
        have u2h := hand_ne (hdD.same w1') n2
        generalize upd (upd GD u1 (.tup [.int 1])) u2 (.tup [.bl true, .non, .str "1", .ref u1, .bl false]) = GE at w12 e2' ku1 hdE
        refine ⟨_, rfl, h, 5, rfl, hdE, by decide, by decide, fun GF r kF hdF r0 r1 => ?_⟩
        obtain ⟨ov, od, hov, kov, iod, nod⟩ : ∃ (ov : V) (od : PyData), atI [V.bl true, .non, .str "1", .ref u1, .bl false] r = some ov ∧ Dq GE ov od ∧ isIntD od = false ∧ noHd od = true := by
          obtain c | c | c | c | c : r = 0 ∨ r = 1 ∨ r = 2 ∨ r = 3 ∨ r = 4 := by omega
          · subst c; exact ⟨_, _, rfl, .bl _, rfl, rfl⟩
          · subst c; exact ⟨_, _, rfl, .non, rfl, rfl⟩
          · subst c; exact ⟨_, _, rfl, .str _, rfl, rfl⟩
          · subst c; exact ⟨_, _, rfl, ku1, rfl, noHd_tup fun d m => by rw [List.mem_singleton.mp m]; rfl⟩
          · subst c; exact ⟨_, _, rfl, .bl _, rfl, rfl⟩
        refine ⟨u2, _, r, ov, rfl, rfl, SqT.of (kF.kp _ _ u2h e2'), hov, ?_⟩
        have kDF := dq_kp hdE kF (noHd_ints row) (kDD.same w12)
        have eDF := lst_int kDF
        refine ⟨_, rfl, _, rfl, D, _, rfl, .inl (SqL.of eDF), _, _, rfl, rfl, h, _, rfl, hdF, ?_, ?_, fun GH at_ kH hdH a0 a1 => ?_⟩
        · rw [List.length_map]
          omega
        · rw [List.length_map]
          omega
        rw [List.length_map] at a1
        have kEH := kF.trans kH
        have kD1 : Dq GH (.ref D) (.list (row.map PyData.int)) := dq_kp hdE kEH (noHd_ints row) (kDD.same w12)
        have ktd1 : Dq GH (.ref td) (.tuple ((tourOf P' W ps row).map PyData.int)) := dq_kp hdE kEH (noHd_vec _) (ktdD.same w12)
        have kl1 := dq_kp hdE kEH (noHd_prs ps) (klD.same w12)
        have hp1 := pic_kp (hpD.same w12) hdE kEH
        have kov1 := dq_kp hdE kEH nod kov
        obtain ⟨n, rfl⟩ : ∃ n : Nat, at_ = n := ⟨at_.toNat, by omega⟩
        obtain ⟨ds, hds⟩ : ∃ ds, row.map PyData.int = ds := ⟨_, rfl⟩
        have lds : ds.length = row.length := by rw [← hds, List.length_map]
        have kds : Dq GH (.ref D) (.list ds) := by
          rw [← hds]
          exact kD1
        have cl : ∀ lo hi, (TkS.cutD ds lo hi).length ≤ 25 := fun lo hi => Nat.le_trans (cutD_len ds lo hi) (by omega)
        refine ⟨_, rfl, (by show 1 ≤ sizeLine; decide), fun m1 o1 => ?_⟩
        have x1 := same_new (o := .lst [.int 0]) o1
        refine ⟨ds, [.int 0], kds.same x1, .lst upd_same (.cons (.int _) .nil), by simp; omega, fun l1 I1 x2 _ q1 => ?_⟩
        have X2 := x1.trans x2
        refine ⟨_, rfl, _, rfl, _, rfl, ds, kds.same X2, fun l2 I2 x3 _ q2 => ⟨_, rfl, (by show 1 ≤ sizeLine; decide), fun m2 o2 => ?_⟩⟩
        have x4 := same_new (o := .lst [ov]) o2
        have X3 := X2.trans x3
        have X4 := X3.trans x4
        have q3 : Dq (upd I2 m2 (.lst [ov])) (.ref m2) (.list [od]) := .lst upd_same (.cons (kov1.same X4) .nil)
        generalize upd I2 m2 (.lst [ov]) = I3 at x4 X4 q3
        refine ⟨_, _, q2.same x4, q3, by have := cl none (some (n : Int)); simp; omega, fun l4 I4 x5 _ q4 => ⟨_, rfl, _, rfl, _, _, rfl, rfl, _, rfl, ds, kds.same (X4.trans x5), fun l5 I5 x6 _ q5 => ⟨_, _, q4.same x6, q5, by have := cl none (some (n : Int)); have := cl (some ((n : Int) + 1)) none; simp; omega, fun l6 I6 x7 _ q6 => ?_⟩⟩⟩
        have X7 := ((X4.trans x5).trans x6).trans x7
        have bad1 : RowBad (others P' W ps).length (.ref l1) I6 := ⟨_, q1.same (((((x3.trans x4).trans x5).trans x6).trans x7)), wrow_len rfl (by rw [List.length_append, lds, lr]; simp)⟩
        have bad2 : RowBad (others P' W ps).length (.ref l6) I6 := ⟨_, q6, wrow_odd rfl cut3_mem iod⟩
        have kds6 := kds.same X7
        have kov6 := kov1.same X7
        refine if_two (fun v G' => Same I6 G' ∧ RowBad (others P' W ps).length v G') (fun v3 I7 mm => ?_) (fun kk' => ?_)
        · obtain ⟨y1, bad3⟩ := mm
          have Y1 := X7.trans y1
          refine ⟨_, rfl, _, rfl, (by show 1 ≤ sizeLine; decide), fun m5 o5 => ?_⟩
          have y2 := same_new (o := .lst [ov]) o5
          have Y2 := Y1.trans y2
          refine ⟨ds, [od], kds.same Y2, .lst upd_same (.cons (kov1.same Y2) .nil), by simp; omega, fun l8 I8 y3 _ q8 => ?_⟩
          have Y3 := Y2.trans y3
          have bad6 : RowBad (others P' W ps).length (.ref l8) I8 := ⟨_, q8, wrow_odd rfl (List.mem_append.mpr (.inr (List.mem_singleton.mpr rfl))) iod⟩
          refine ⟨(by show 6 ≤ sizeLine; decide), fun uA nA => ?_⟩
          have y4 := same_new (o := .tup [.ref l1, .ref l6, v3, .non, .int 3, .ref l8]) nA
          have eA : (upd I8 uA (.tup [.ref l1, .ref l6, v3, .non, .int 3, .ref l8])) uA = some (.tup [.ref l1, .ref l6, v3, .non, .int 3, .ref l8]) := upd_same
          have Y4 := Y3.trans y4
          have all : ∀ (i : Nat) (x : V), [V.ref l1, .ref l6, v3, .non, .int 3, .ref l8][i]? = some x → RowBad (others P' W ps).length x (upd I8 uA (.tup [.ref l1, .ref l6, v3, .non, .int 3, .ref l8])) := fun i x hx => by
            match i, hx with
            | 0, hx => cases hx; exact bad1.same (((y1.trans y2).trans y3).trans y4)
            | 1, hx => cases hx; exact bad2.same (((y1.trans y2).trans y3).trans y4)
            | 2, hx => cases hx; exact bad3.same ((y2.trans y3).trans y4)
            | 3, hx => cases hx; exact ⟨.none, .non, wrow_none rfl⟩
            | 4, hx => cases hx; exact ⟨.int 3, .int _, wrow_none rfl⟩
            | 5, hx => cases hx; exact bad6.same y4
          generalize upd I8 uA (.tup [.ref l1, .ref l6, v3, .non, .int 3, .ref l8]) = IA at y4 eA Y4 all
          refine ⟨uA, rfl, ⟨_, SqT.of eA⟩, ?_⟩
          refine for_tup (xs := [.ref l1, .ref l6, v3, .non, .int 3, .ref l8]) (fun i σ G' => ∃ y19, σ = [some (.ref sa), some (.ref h), some (.int P'), some (.int W), some (.ref l), some (.ref a), some (.ref ta), some (.ref tb), some (.ref D), y9, y10, some (.ref td), some (.ref lk), some (.ref lt3), some (.ref tbas), some (.ref tto), some (.ref tt), some ov, some (.int (n : Nat)), y19, none, none, none] ∧ Same IA G')
            ⟨_, rfl, fun _ _ z => z⟩ (fun i σ G' _ hP => by obtain ⟨_, _, sm'⟩ := hP; exact SqT.of (sm' _ _ eA)) (fun i x σ G' hx hP => ?_) (fun σ G' hP => ?_)
          · obtain ⟨y19, rfl, z1⟩ := hP
            obtain ⟨d, kd, wf⟩ := (all i x hx).same z1
            refine ⟨_, rfl, _, rfl, a, x, d, P', W, ps, rfl, hp1.same (Y4.trans z1), kd, sml_bad wf, fun G2' z2 => ⟨_, rfl, ?_⟩⟩
            rw [wf]
            exact iteF ⟨_, rfl, z1.trans z2⟩
          · obtain ⟨y19, rfl, z1⟩ := hP
            have Z1 := Y4.trans z1
            refine ⟨_, rfl, _, rfl, a, .ref D, .list (row.map PyData.int), P', W, ps, rfl, hp1.same Z1, kD1.same Z1, fun row' e1 e2 => (by cases eR row' e1; exact sm), fun J1 z2 => ⟨_, rfl, ?_⟩⟩
            rw [wrow_is rfl lr]
            have Z2 := Z1.trans z2
            refine iteF ⟨_, rfl, _, rfl, a, .ref td, .tuple ((tourOf P' W ps row).map PyData.int), P', W, ps, rfl, hp1.same Z2, ktd1.same Z2, fun J2 z3 => ⟨rfl, _, rfl, ?_⟩⟩
            rw [tN rfl]
            refine iteF ?_
            have Z3 := Z2.trans z3
            refine ⟨_, rfl, _, rfl, (by show 1 ≤ sizeLine; decide), fun u8 n8 => ?_⟩
            have z4 := same_new (o := .tup [.int 0]) n8
            refine ⟨(tourOf P' W ps row).map PyData.int, [.int 0], ktd1.same (Z3.trans z4), .tup upd_same (.cons (.int _) .nil), by simp; omega, fun l9 J3 z5 k9 => ?_⟩
            have Z5 := (Z3.trans z4).trans z5
            refine ⟨a, .ref l9, _, P', W, ps, rfl, hp1.same Z5, k9, fun J4 z6 => ?_⟩
            rw [word_len rfl (by rw [List.length_append, List.length_map, lt]; simp)]
            refine ⟨rfl, _, rfl, ?_⟩
            show (if (!decide (V.str ("length" : Str) = V.str ("length" : Str))) = true then _ else _)
            rw [decide_eq_true rfl]
            refine iteF ?_
            have Z6 := Z5.trans z6
            obtain ⟨fy, ey', ty', ly'⟩ := lst_prs (kl1.same Z6)
            refine ⟨_, rfl, _, .inl ⟨fy, SqL.of ey', rfl⟩, ?_⟩
            cases cE : fy.isEmpty with
            | true => exact iteT (q _)
            | false =>
              refine iteF ?_
              have pos : 0 < ps.length := by
                rw [← ly']
                cases fy with
                | nil => cases cE
                | cons a b => exact Nat.succ_pos _
              have hdJ := hdH.same Z6
              refine ⟨_, rfl, _, rfl, l, _, rfl, .inl (SqL.of ey'), h, _, rfl, hdJ, by omega, by omega, fun K1 at2 kK hdK b0 b1 => ?_⟩
              have ktd2 : Dq K1 (.ref td) (.tuple ((tourOf P' W ps row).map PyData.int)) := dq_kp hdJ kK (noHd_vec _) (ktd1.same Z6)
              have kov2 := dq_kp hdJ kK nod (kov1.same Z6)
              have hp2 := pic_kp (hp1.same Z6) hdJ kK
              obtain ⟨n2, rfl⟩ : ∃ n : Nat, at2 = n := ⟨at2.toNat, by omega⟩
              have hn2 : n2 < ps.length := by omega
              obtain ⟨es, hes⟩ : ∃ es, (tourOf P' W ps row).map PyData.int = es := ⟨_, rfl⟩
              have les : es.length = ps.length := by rw [← hes, List.length_map, lt]
              have kes : Dq K1 (.ref td) (.tuple es) := by
                rw [← hes]
                exact ktd2
              have etd2 := dq_tupI' ktd2
              have cl2 : ∀ lo hi, (TkS.cutD es lo hi).length ≤ 25 := fun lo hi => Nat.le_trans (cutD_len es lo hi) (by omega)
              refine ⟨_, rfl, _, rfl, _, rfl, _, rfl, es, kes, fun l1 A1 a1' q1 => ⟨_, rfl, (by show 1 ≤ sizeLine; decide), fun u3 n3 => ?_⟩⟩
              have a2' := same_new (o := .tup [ov]) n3
              have A2 := a1'.trans a2'
              have q2 : Dq (upd A1 u3 (.tup [ov])) (.ref u3) (.tuple [od]) := .tup upd_same (.cons (kov2.same A2) .nil)
              generalize upd A1 u3 (.tup [ov]) = G2 at a2' A2 q2
              refine ⟨_, _, q1.same a2', q2, by have := cl2 none (some (n2 : Int)); simp; omega, fun l3 G3' a3' q3 => ⟨_, rfl, _, rfl, _, _, rfl, rfl, _, rfl, es, kes.same (A2.trans a3'), fun l4 G4' a4' q4 => ⟨_, _, q3.same a4', q4, by have := cl2 none (some (n2 : Int)); have := cl2 (some ((n2 : Int) + 1)) none; simp; omega, fun l5 G5' a5' q5 => ?_⟩⟩⟩
              have A5 := ((A2.trans a3').trans a4').trans a5'
              refine ⟨a, .ref l5, _, P', W, ps, rfl, hp2.same A5, q5, fun G6' a6' => ?_⟩
              rw [word_num rfl (by rw [cut3 (by omega), List.length_set]; exact les) cut3_mem iod]
              refine ⟨rfl, _, rfl, ?_⟩
              show (if (!decide (V.str ("number" : Str) = V.str ("number" : Str))) = true then _ else _)
              rw [decide_eq_true rfl]
              refine iteF ?_
              have A6 := A5.trans a6'
              refine ⟨_, rfl, _, rfl, _, rfl, _, rfl, es, kes.same A6, fun l1 B1 b1' q1 => ⟨_, rfl, _, rfl, td, _, (n2 : Int), _, rfl, rfl, SqT.of (b1' _ _ (A6 _ _ etd2)), ix_at (by omega) (by omega), _, _, rfl, rfl, (by show 1 ≤ sizeLine; decide), fun u3 n3 => ?_⟩⟩
              rw [Int.toNat_natCast]
              have b2' := same_new (o := .tup [.int ((tourOf P' W ps row).getD n2 0 + 1)]) n3
              have B2 := (A6.trans b1').trans b2'
              have q2' : Dq (upd B1 u3 (.tup [.int ((tourOf P' W ps row).getD n2 0 + 1)])) (.ref u3) (.tuple [.int ((tourOf P' W ps row).getD n2 0 + 1)]) := .tup upd_same (.cons (.int _) .nil)
              generalize upd B1 u3 (.tup [.int ((tourOf P' W ps row).getD n2 0 + 1)]) = G2x at b2' B2 q2'
              refine ⟨_, _, q1.same b2', q2', by have := cl2 none (some (n2 : Int)); simp; omega, fun l3 G3x b3' q3 => ⟨_, rfl, _, rfl, _, _, rfl, rfl, _, rfl, es, kes.same (B2.trans b3'), fun l4 G4x b4' q4 => ⟨_, _, q3.same b4', q4, by have := cl2 none (some (n2 : Int)); have := cl2 (some ((n2 : Int) + 1)) none; simp; omega, fun l5 G5x b5' q5 => ?_⟩⟩⟩
              have B5 := ((B2.trans b3').trans b4').trans b5'
              refine ⟨a, .ref l5, _, P', W, ps, rfl, hp2.same B5, q5, fun G6x b6' => ?_⟩
              rw [word_pt wd.ins tr hn2 (by
                show some _ = _
                rw [cut3 (by omega), ← hes, map_set_int])]
              refine ⟨rfl, ?_⟩
              show Q (.bl (decide (V.str ("point" : Str) = V.str ("point" : Str)))) G6x
              rw [decide_eq_true rfl]
              exact q _
        · have eD6 := lst_int (kD1.same X7)
          refine ⟨_, rfl, _, .inl ⟨row.map V.int, SqL.of eD6, rfl⟩, ?_⟩
          cases cE : (row.map V.int).isEmpty with
          | true =>
            refine iteF ⟨_, rfl, (by show 1 ≤ sizeLine; decide), fun u nu => ?_⟩
            have y := same_new (o := .lst [ov]) nu
            exact kk' _ _ ⟨y, _, .lst upd_same (.cons (kov6.same y) .nil), wrow_odd rfl (List.mem_singleton.mpr rfl) iod⟩
          | false =>
            refine iteT ⟨_, rfl, _, rfl, ds, kds6, fun l7 I7 y _ q7 => kk' _ _ ⟨y, _, q7, wrow_len rfl ?_⟩⟩
            have p1 : 0 < row.length := by
              cases row with
              | nil => cases cE
              | cons a b => exact Nat.succ_pos _
            show (TkS.cutD ds (some ((1 : Nat) : Int)) none).length ≠ _
            rw [cutD_lo, List.length_drop]
            omega
end
end K03
set_option Elab.async false
set_option linter.all false
set_option maxRecDepth 100000
set_option maxHeartbeats 8000000
set_option exponentiation.threshold 5000
namespace K03
open PySem PySem.Spec PyProof.Rows L2 TkS
theorem own_cls {K : PySem.W.Frag} {t : Value} {C : Addr} {b : Bool} (h2 : PySem.W.isClsIn K C = true) (h3 : PySem.W.typeIn K (.ref C) = some (.type "type")) (h4 : PySem.W.subIn K t (.ref C) = some b) : PySem.W.kitCls K t (.ref C) = some b := by
  have e2 : ((PySem.W.clsIn K C).isSome && PySem.W.typeIn K (.ref C) == some (.type "type")) = true := by
    have h2' : (PySem.W.clsIn K C).isSome = true := h2
    rw [h2', h3] <;> rfl
  show (if ((PySem.W.clsIn K C).isSome && PySem.W.typeIn K (.ref C) == some (.type "type")) = true then PySem.W.subIn K t (.ref C) else none) = some b
  rw [if_pos e2]
  exact h4
theorem own_exm {K : PySem.W.Frag} {t : Value} {C : Addr} {b : Bool} (h1 : PySem.W.subIn K (.ref C) (.type "BaseException") = some true) (h2 : PySem.W.isClsIn K C = true) (h3 : PySem.W.typeIn K (.ref C) = some (.type "type")) (h4 : PySem.W.subIn K t (.ref C) = some b) : PySem.W.exmOne K t (.ref C) = some b := by
  have e1 : (PySem.W.subIn K (.ref C) (.type "BaseException") == some true) = true := by rw [h1] <;> rfl
  show (if (PySem.W.subIn K (.ref C) (.type "BaseException") == some true) = true then PySem.W.kitCls K t (.ref C) else none) = some b
  rw [if_pos e1]
  exact own_cls h2 h3 h4
theorem own_kit {K : PySem.W.Frag} {D C : Addr} {b : Bool} (h2 : PySem.W.isClsIn K C = true) (h3 : PySem.W.typeIn K (.ref C) = some (.type "type")) (h4 : PySem.W.subIn K (.ref D) (.ref C) = some b) (hb : (D == C) = true → b = true) : PySem.W.kitOne K (.ref D) (.ref C) = some b := by
  unfold PySem.W.kitOne
  by_cases z : ((Value.ref D) == (Value.ref C)) = true
  · rw [if_pos z]
    have z2 : (D == C) = true := by
      have := eq_of_beq z
      cases this
      exact beq_self_eq_true _
    rw [hb z2]
  · rw [if_neg z]
    exact own_cls h2 h3 h4
theorem all_mk {l : PySem.W.OpenLaw} {w : World} {K : PySem.W.Frag} {h : Heap} {mg : Str → Option Value} {fa CE_SheetError CE_BadPicture CE_BadTour CE_BadRow CC_Picture pp21 f0 f1 f2 f3 f4 f5 f6 f7 f8 f9 f10 f11 f12 f13 f14 f15 f16 f17 f18 f19 f20 f21 f22 f23 f24 f25 f26 f27 f28 f29 f30 f31 f32 f33 f34 f35 f36 f37 f38 : Addr} {rest21 : List Value} {tkc_MOST_CORNERS : Tok} (X : K.In h) (G : h.Ns mainGlobals mg) (hfa : mg "law" = some (.ref fa))
    {od0 an0 : Option Addr} {sl0 : Array (Option Value)} {oc0 kV0 dc0 pm0 cd0 ct0 : Value}
    {od1 an1 : Option Addr} {sl1 : Array (Option Value)} {oc1 kV1 dc1 pm1 cd1 ct1 : Value}
    {od2 an2 : Option Addr} {sl2 : Array (Option Value)} {oc2 kV2 dc2 pm2 cd2 ct2 : Value}
    {D2 : Addr} {ocD2 : Value} {odD2 : Option Addr} {nD2 : Nat} {slD2 : Array (Option Value)}
    {od3 an3 : Option Addr} {sl3 : Array (Option Value)} {oc3 kV3 dc3 pm3 cd3 ct3 : Value}
    {D3 : Addr} {ocD3 : Value} {odD3 : Option Addr} {nD3 : Nat} {slD3 : Array (Option Value)}
    {od4 an4 : Option Addr} {sl4 : Array (Option Value)} {oc4 kV4 dc4 pm4 cd4 ct4 : Value}
    {od5 an5 : Option Addr} {sl5 : Array (Option Value)} {oc5 kV5 dc5 pm5 cd5 ct5 : Value}
    {od6 an6 : Option Addr} {sl6 : Array (Option Value)} {oc6 kV6 dc6 pm6 cd6 ct6 : Value}
    {od7 an7 : Option Addr} {sl7 : Array (Option Value)} {oc7 kV7 dc7 pm7 cd7 ct7 : Value}
    {od8 an8 : Option Addr} {sl8 : Array (Option Value)} {oc8 kV8 dc8 pm8 cd8 ct8 : Value}
    {od9 an9 : Option Addr} {sl9 : Array (Option Value)} {oc9 kV9 dc9 pm9 cd9 ct9 : Value}
    {od10 an10 : Option Addr} {sl10 : Array (Option Value)} {oc10 kV10 dc10 pm10 cd10 ct10 : Value}
    {od11 an11 : Option Addr} {sl11 : Array (Option Value)} {oc11 kV11 dc11 pm11 cd11 ct11 : Value}
    {od12 an12 : Option Addr} {sl12 : Array (Option Value)} {oc12 kV12 dc12 pm12 cd12 ct12 : Value}
    {od13 an13 : Option Addr} {sl13 : Array (Option Value)} {oc13 kV13 dc13 pm13 cd13 ct13 : Value}
    {od14 an14 : Option Addr} {sl14 : Array (Option Value)} {oc14 kV14 dc14 pm14 cd14 ct14 : Value}
    {od15 an15 : Option Addr} {sl15 : Array (Option Value)} {oc15 kV15 dc15 pm15 cd15 ct15 : Value}
    {od16 an16 : Option Addr} {sl16 : Array (Option Value)} {oc16 kV16 dc16 pm16 cd16 ct16 : Value}
    {od17 an17 : Option Addr} {sl17 : Array (Option Value)} {oc17 kV17 dc17 pm17 cd17 ct17 : Value}
    {od18 an18 : Option Addr} {sl18 : Array (Option Value)} {oc18 kV18 dc18 pm18 cd18 ct18 : Value}
    {od19 an19 : Option Addr} {sl19 : Array (Option Value)} {oc19 kV19 dc19 pm19 cd19 ct19 : Value}
    {od20 an20 : Option Addr} {sl20 : Array (Option Value)} {oc20 kV20 dc20 pm20 cd20 ct20 : Value}
    {od21 an21 : Option Addr} {sl21 : Array (Option Value)} {oc21 kV21 dc21 pm21 cd21 ct21 : Value}
    {od22 an22 : Option Addr} {sl22 : Array (Option Value)} {oc22 kV22 dc22 pm22 cd22 ct22 : Value}
    {od23 an23 : Option Addr} {sl23 : Array (Option Value)} {oc23 kV23 dc23 pm23 cd23 ct23 : Value}
    {od24 an24 : Option Addr} {sl24 : Array (Option Value)} {oc24 kV24 dc24 pm24 cd24 ct24 : Value}
    {od25 an25 : Option Addr} {sl25 : Array (Option Value)} {oc25 kV25 dc25 pm25 cd25 ct25 : Value}
    {od26 an26 : Option Addr} {sl26 : Array (Option Value)} {oc26 kV26 dc26 pm26 cd26 ct26 : Value}
    {od27 an27 : Option Addr} {sl27 : Array (Option Value)} {oc27 kV27 dc27 pm27 cd27 ct27 : Value}
    {od28 an28 : Option Addr} {sl28 : Array (Option Value)} {oc28 kV28 dc28 pm28 cd28 ct28 : Value}
    {od29 an29 : Option Addr} {sl29 : Array (Option Value)} {oc29 kV29 dc29 pm29 cd29 ct29 : Value}
    {od30 an30 : Option Addr} {sl30 : Array (Option Value)} {oc30 kV30 dc30 pm30 cd30 ct30 : Value}
    {od31 an31 : Option Addr} {sl31 : Array (Option Value)} {oc31 kV31 dc31 pm31 cd31 ct31 : Value}
    {od32 an32 : Option Addr} {sl32 : Array (Option Value)} {oc32 kV32 dc32 pm32 cd32 ct32 : Value}
    {od33 an33 : Option Addr} {sl33 : Array (Option Value)} {oc33 kV33 dc33 pm33 cd33 ct33 : Value}
    {od34 an34 : Option Addr} {sl34 : Array (Option Value)} {oc34 kV34 dc34 pm34 cd34 ct34 : Value}
    {od35 an35 : Option Addr} {sl35 : Array (Option Value)} {oc35 kV35 dc35 pm35 cd35 ct35 : Value}
    {od36 an36 : Option Addr} {sl36 : Array (Option Value)} {oc36 kV36 dc36 pm36 cd36 ct36 : Value}
    {od37 an37 : Option Addr} {sl37 : Array (Option Value)} {oc37 kV37 dc37 pm37 cd37 ct37 : Value}
    {od38 an38 : Option Addr} {sl38 : Array (Option Value)} {oc38 kV38 dc38 pm38 cd38 ct38 : Value}
    {nm_BadPicture qn_BadPicture : Str} {NB_BadPicture : Addr} {bs_BadPicture bm_BadPicture sub_BadPicture : List Value} {sn_BadPicture : List Str} {ab_BadPicture : Bool} {col_BadPicture : Option Bool} {dd_BadPicture : Option Addr} {m0_BadPicture m1_BadPicture m2_BadPicture m3_BadPicture m5_BadPicture : Option Value}
    {nm_BadTour qn_BadTour : Str} {NB_BadTour : Addr} {bs_BadTour bm_BadTour sub_BadTour : List Value} {sn_BadTour : List Str} {ab_BadTour : Bool} {col_BadTour : Option Bool} {dd_BadTour : Option Addr} {m0_BadTour m1_BadTour m2_BadTour m3_BadTour m5_BadTour : Option Value}
    (h_SheetError : PySem.W.nsIn K mainGlobals "SheetError" = some (some (.ref CE_SheetError)))
    (h_BadPicture : PySem.W.nsIn K mainGlobals "BadPicture" = some (some (.ref CE_BadPicture)))
    (h_BadTour : PySem.W.nsIn K mainGlobals "BadTour" = some (some (.ref CE_BadTour)))
    (h_BadRow : PySem.W.nsIn K mainGlobals "BadRow" = some (some (.ref CE_BadRow)))
    (h_Picture : PySem.W.nsIn K mainGlobals "Picture" = some (some (.ref CC_Picture)))
    (a0 : PySem.W.findIn K (.ref CE_BadPicture) "__init__" = some (some (.ref f0)))
    (i0 : PySem.W.isFn K (.ref f0) = true)
    (l0 : K.lookup f0 = some ⟨oc0, od0, .func (PySem.W.fnOf "__init__" "BadPicture.__init__" (defArgs s_BadPicture_init) (defBody s_BadPicture_init) (defScope s_BadPicture_init) .none kV0 dc0 pm0 an0 cd0 ct0), sl0⟩)
    (c0 : PySem.W.codeIn K cd0 "BadPicture.__init__" = true)
    (k0 : PySem.W.keepIn K (.ref f0) = true)
    (a1 : PySem.W.findIn K (.ref CE_BadTour) "__init__" = some (some (.ref f1)))
    (i1 : PySem.W.isFn K (.ref f1) = true)
    (l1 : K.lookup f1 = some ⟨oc1, od1, .func (PySem.W.fnOf "__init__" "BadTour.__init__" (defArgs s_BadTour_init) (defBody s_BadTour_init) (defScope s_BadTour_init) .none kV1 dc1 pm1 an1 cd1 ct1), sl1⟩)
    (c1 : PySem.W.codeIn K cd1 "BadTour.__init__" = true)
    (k1 : PySem.W.keepIn K (.ref f1) = true)
    (a2 : PySem.W.nsIn K mainGlobals "is_whole" = some (some (.ref f2)))
    (l2 : K.lookup f2 = some ⟨oc2, od2, .func (PySem.W.fnOf "is_whole" "is_whole" (defArgs s_is_whole) (defBody s_is_whole) (defScope s_is_whole) (.ref D2) kV2 dc2 pm2 an2 cd2 ct2), sl2⟩)
    (c2 : PySem.W.codeIn K cd2 "is_whole" = true)
    (k2 : PySem.W.keepIn K (.ref f2) = true)
    (e2 : K.lookup D2 = some ⟨ocD2, odD2, .seq #[.none, .none] nD2, slD2⟩)
    (a3 : PySem.W.nsIn K mainGlobals "is_sequence" = some (some (.ref f3)))
    (l3 : K.lookup f3 = some ⟨oc3, od3, .func (PySem.W.fnOf "is_sequence" "is_sequence" (defArgs s_is_sequence) (defBody s_is_sequence) (defScope s_is_sequence) (.ref D3) kV3 dc3 pm3 an3 cd3 ct3), sl3⟩)
    (c3 : PySem.W.codeIn K cd3 "is_sequence" = true)
    (k3 : PySem.W.keepIn K (.ref f3) = true)
    (e3 : K.lookup D3 = some ⟨ocD3, odD3, .seq #[.none] nD3, slD3⟩)
    (a4 : PySem.W.nsIn K mainGlobals "wrong_index" = some (some (.ref f4)))
    (l4 : K.lookup f4 = some ⟨oc4, od4, .func (PySem.W.fnOf "wrong_index" "wrong_index" (defArgs s_wrong_index) (defBody s_wrong_index) (defScope s_wrong_index) .none kV4 dc4 pm4 an4 cd4 ct4), sl4⟩)
    (c4 : PySem.W.codeIn K cd4 "wrong_index" = true)
    (k4 : PySem.W.keepIn K (.ref f4) = true)
    (a5 : PySem.W.nsIn K mainGlobals "is_whole_row" = some (some (.ref f5)))
    (l5 : K.lookup f5 = some ⟨oc5, od5, .func (PySem.W.fnOf "is_whole_row" "is_whole_row" (defArgs s_is_whole_row) (defBody s_is_whole_row) (defScope s_is_whole_row) .none kV5 dc5 pm5 an5 cd5 ct5), sl5⟩)
    (c5 : PySem.W.codeIn K cd5 "is_whole_row" = true)
    (k5 : PySem.W.keepIn K (.ref f5) = true)
    (a6 : PySem.W.nsIn K mainGlobals "check_tour" = some (some (.ref f6)))
    (l6 : K.lookup f6 = some ⟨oc6, od6, .func (PySem.W.fnOf "check_tour" "check_tour" (defArgs s_check_tour) (defBody s_check_tour) (defScope s_check_tour) .none kV6 dc6 pm6 an6 cd6 ct6), sl6⟩)
    (c6 : PySem.W.codeIn K cd6 "check_tour" = true)
    (k6 : PySem.W.keepIn K (.ref f6) = true)
    (a7 : PySem.W.nsIn K mainGlobals "no_tour" = some (some (.ref f7)))
    (l7 : K.lookup f7 = some ⟨oc7, od7, .func (PySem.W.fnOf "no_tour" "no_tour" (defArgs s_no_tour) (defBody s_no_tour) (defScope s_no_tour) .none kV7 dc7 pm7 an7 cd7 ct7), sl7⟩)
    (c7 : PySem.W.codeIn K cd7 "no_tour" = true)
    (k7 : PySem.W.keepIn K (.ref f7) = true)
    (a8 : PySem.W.nsIn K mainGlobals "_row_minus" = some (some (.ref f8)))
    (l8 : K.lookup f8 = some ⟨oc8, od8, .func (PySem.W.fnOf "_row_minus" "_row_minus" (defArgs s_row_minus) (defBody s_row_minus) (defScope s_row_minus) .none kV8 dc8 pm8 an8 cd8 ct8), sl8⟩)
    (c8 : PySem.W.codeIn K cd8 "_row_minus" = true)
    (k8 : PySem.W.keepIn K (.ref f8) = true)
    (a9 : PySem.W.nsIn K mainGlobals "_tree_and_basis" = some (some (.ref f9)))
    (l9 : K.lookup f9 = some ⟨oc9, od9, .func (PySem.W.fnOf "_tree_and_basis" "_tree_and_basis" (defArgs s_tree_and_basis) (defBody s_tree_and_basis) (defScope s_tree_and_basis) .none kV9 dc9 pm9 an9 cd9 ct9), sl9⟩)
    (c9 : PySem.W.codeIn K cd9 "_tree_and_basis" = true)
    (k9 : PySem.W.keepIn K (.ref f9) = true)
    (a10 : PySem.W.nsIn K mainGlobals "tree_places" = some (some (.ref f10)))
    (l10 : K.lookup f10 = some ⟨oc10, od10, .func (PySem.W.fnOf "tree_places" "tree_places" (defArgs s_tree_places) (defBody s_tree_places) (defScope s_tree_places) .none kV10 dc10 pm10 an10 cd10 ct10), sl10⟩)
    (c10 : PySem.W.codeIn K cd10 "tree_places" = true)
    (k10 : PySem.W.keepIn K (.ref f10) = true)
    (a11 : PySem.W.nsIn K mainGlobals "other_places" = some (some (.ref f11)))
    (l11 : K.lookup f11 = some ⟨oc11, od11, .func (PySem.W.fnOf "other_places" "other_places" (defArgs s_other_places) (defBody s_other_places) (defScope s_other_places) .none kV11 dc11 pm11 an11 cd11 ct11), sl11⟩)
    (c11 : PySem.W.codeIn K cd11 "other_places" = true)
    (k11 : PySem.W.keepIn K (.ref f11) = true)
    (a12 : PySem.W.nsIn K mainGlobals "basis_tours" = some (some (.ref f12)))
    (l12 : K.lookup f12 = some ⟨oc12, od12, .func (PySem.W.fnOf "basis_tours" "basis_tours" (defArgs s_basis_tours) (defBody s_basis_tours) (defScope s_basis_tours) .none kV12 dc12 pm12 an12 cd12 ct12), sl12⟩)
    (c12 : PySem.W.codeIn K cd12 "basis_tours" = true)
    (k12 : PySem.W.keepIn K (.ref f12) = true)
    (a13 : PySem.W.nsIn K mainGlobals "tour_of" = some (some (.ref f13)))
    (l13 : K.lookup f13 = some ⟨oc13, od13, .func (PySem.W.fnOf "tour_of" "tour_of" (defArgs s_tour_of) (defBody s_tour_of) (defScope s_tour_of) .none kV13 dc13 pm13 an13 cd13 ct13), sl13⟩)
    (c13 : PySem.W.codeIn K cd13 "tour_of" = true)
    (k13 : PySem.W.keepIn K (.ref f13) = true)
    (a14 : PySem.W.nsIn K mainGlobals "row_of" = some (some (.ref f14)))
    (l14 : K.lookup f14 = some ⟨oc14, od14, .func (PySem.W.fnOf "row_of" "row_of" (defArgs s_row_of) (defBody s_row_of) (defScope s_row_of) .none kV14 dc14 pm14 an14 cd14 ct14), sl14⟩)
    (c14 : PySem.W.codeIn K cd14 "row_of" = true)
    (k14 : PySem.W.keepIn K (.ref f14) = true)
    (a15 : PySem.W.nsIn K mainGlobals "merged_labels" = some (some (.ref f15)))
    (l15 : K.lookup f15 = some ⟨oc15, od15, .func (PySem.W.fnOf "merged_labels" "merged_labels" (defArgs s_merged_labels) (defBody s_merged_labels) (defScope s_merged_labels) .none kV15 dc15 pm15 an15 cd15 ct15), sl15⟩)
    (c15 : PySem.W.codeIn K cd15 "merged_labels" = true)
    (k15 : PySem.W.keepIn K (.ref f15) = true)
    (a16 : PySem.W.nsIn K mainGlobals "_piece_labels" = some (some (.ref f16)))
    (l16 : K.lookup f16 = some ⟨oc16, od16, .func (PySem.W.fnOf "_piece_labels" "_piece_labels" (defArgs s_piece_labels) (defBody s_piece_labels) (defScope s_piece_labels) .none kV16 dc16 pm16 an16 cd16 ct16), sl16⟩)
    (c16 : PySem.W.codeIn K cd16 "_piece_labels" = true)
    (k16 : PySem.W.keepIn K (.ref f16) = true)
    (a17 : PySem.W.nsIn K mainGlobals "_pieces_by_labels" = some (some (.ref f17)))
    (l17 : K.lookup f17 = some ⟨oc17, od17, .func (PySem.W.fnOf "_pieces_by_labels" "_pieces_by_labels" (defArgs s_pieces_by_labels) (defBody s_pieces_by_labels) (defScope s_pieces_by_labels) .none kV17 dc17 pm17 an17 cd17 ct17), sl17⟩)
    (c17 : PySem.W.codeIn K cd17 "_pieces_by_labels" = true)
    (k17 : PySem.W.keepIn K (.ref f17) = true)
    (a18 : PySem.W.findIn K (.ref CC_Picture) "__init__" = some (some (.ref f18)))
    (i18 : PySem.W.isFn K (.ref f18) = true)
    (l18 : K.lookup f18 = some ⟨oc18, od18, .func (PySem.W.fnOf "__init__" "Picture.__init__" (defArgs s_Picture_init) (defBody s_Picture_init) (defScope s_Picture_init) .none kV18 dc18 pm18 an18 cd18 ct18), sl18⟩)
    (c18 : PySem.W.codeIn K cd18 "Picture.__init__" = true)
    (k18 : PySem.W.keepIn K (.ref f18) = true)
    (a19 : PySem.W.findIn K (.ref CC_Picture) "__eq__" = some (some (.ref f19)))
    (i19 : PySem.W.isFn K (.ref f19) = true)
    (l19 : K.lookup f19 = some ⟨oc19, od19, .func (PySem.W.fnOf "__eq__" "Picture.__eq__" (defArgs s_Picture_eq) (defBody s_Picture_eq) (defScope s_Picture_eq) .none kV19 dc19 pm19 an19 cd19 ct19), sl19⟩)
    (c19 : PySem.W.codeIn K cd19 "Picture.__eq__" = true)
    (k19 : PySem.W.keepIn K (.ref f19) = true)
    (a20 : PySem.W.findIn K (.ref CC_Picture) "__len__" = some (some (.ref f20)))
    (i20 : PySem.W.isFn K (.ref f20) = true)
    (l20 : K.lookup f20 = some ⟨oc20, od20, .func (PySem.W.fnOf "__len__" "Picture.__len__" (defArgs s_Picture_len) (defBody s_Picture_len) (defScope s_Picture_len) .none kV20 dc20 pm20 an20 cd20 ct20), sl20⟩)
    (c20 : PySem.W.codeIn K cd20 "Picture.__len__" = true)
    (k20 : PySem.W.keepIn K (.ref f20) = true)
    (a21 : PySem.W.findIn K (.ref CC_Picture) "pieces" = some (some (.ref pp21)))
    (r21 : PySem.W.recIn K pp21 "property" = some (.ref f21 :: rest21))
    (i21 : PySem.W.isFn K (.ref f21) = true)
    (l21 : K.lookup f21 = some ⟨oc21, od21, .func (PySem.W.fnOf "pieces" "Picture.pieces" (defArgs s_Picture_pieces) (defBody s_Picture_pieces) (defScope s_Picture_pieces) .none kV21 dc21 pm21 an21 cd21 ct21), sl21⟩)
    (c21 : PySem.W.codeIn K cd21 "Picture.pieces" = true)
    (k21 : PySem.W.keepIn K (.ref f21) = true)
    (a22 : PySem.W.findIn K (.ref CC_Picture) "_is_pair" = some (some (.ref f22)))
    (i22 : PySem.W.isFn K (.ref f22) = true)
    (l22 : K.lookup f22 = some ⟨oc22, od22, .func (PySem.W.fnOf "_is_pair" "Picture._is_pair" (defArgs s_Pictureis_pair) (defBody s_Pictureis_pair) (defScope s_Pictureis_pair) .none kV22 dc22 pm22 an22 cd22 ct22), sl22⟩)
    (c22 : PySem.W.codeIn K cd22 "Picture._is_pair" = true)
    (k22 : PySem.W.keepIn K (.ref f22) = true)
    (a23 : PySem.W.nsIn K mainGlobals "_law_hand" = some (some (.ref f23)))
    (l23 : K.lookup f23 = some ⟨oc23, od23, .func (PySem.W.fnOf "_law_hand" "_law_hand" (defArgs s_law_hand) (defBody s_law_hand) (defScope s_law_hand) .none kV23 dc23 pm23 an23 cd23 ct23), sl23⟩)
    (c23 : PySem.W.codeIn K cd23 "_law_hand" = true)
    (k23 : PySem.W.keepIn K (.ref f23) = true)
    (a24 : PySem.W.nsIn K mainGlobals "_law_mixed" = some (some (.ref f24)))
    (l24 : K.lookup f24 = some ⟨oc24, od24, .func (PySem.W.fnOf "_law_mixed" "_law_mixed" (defArgs s_law_mixed) (defBody s_law_mixed) (defScope s_law_mixed) .none kV24 dc24 pm24 an24 cd24 ct24), sl24⟩)
    (c24 : PySem.W.codeIn K cd24 "_law_mixed" = true)
    (k24 : PySem.W.keepIn K (.ref f24) = true)
    (a25 : PySem.W.nsIn K mainGlobals "_law_take" = some (some (.ref f25)))
    (l25 : K.lookup f25 = some ⟨oc25, od25, .func (PySem.W.fnOf "_law_take" "_law_take" (defArgs s_law_take) (defBody s_law_take) (defScope s_law_take) .none kV25 dc25 pm25 an25 cd25 ct25), sl25⟩)
    (c25 : PySem.W.codeIn K cd25 "_law_take" = true)
    (k25 : PySem.W.keepIn K (.ref f25) = true)
    (a26 : PySem.W.nsIn K mainGlobals "_law_whole" = some (some (.ref f26)))
    (l26 : K.lookup f26 = some ⟨oc26, od26, .func (PySem.W.fnOf "_law_whole" "_law_whole" (defArgs s_law_whole) (defBody s_law_whole) (defScope s_law_whole) .none kV26 dc26 pm26 an26 cd26 ct26), sl26⟩)
    (c26 : PySem.W.codeIn K cd26 "_law_whole" = true)
    (k26 : PySem.W.keepIn K (.ref f26) = true)
    (a27 : PySem.W.nsIn K mainGlobals "_law_full" = some (some (.ref f27)))
    (l27 : K.lookup f27 = some ⟨oc27, od27, .func (PySem.W.fnOf "_law_full" "_law_full" (defArgs s_law_full) (defBody s_law_full) (defScope s_law_full) .none kV27 dc27 pm27 an27 cd27 ct27), sl27⟩)
    (c27 : PySem.W.codeIn K cd27 "_law_full" = true)
    (k27 : PySem.W.keepIn K (.ref f27) = true)
    (a28 : PySem.W.nsIn K mainGlobals "_law_picture" = some (some (.ref f28)))
    (l28 : K.lookup f28 = some ⟨oc28, od28, .func (PySem.W.fnOf "_law_picture" "_law_picture" (defArgs s_law_picture) (defBody s_law_picture) (defScope s_law_picture) .none kV28 dc28 pm28 an28 cd28 ct28), sl28⟩)
    (c28 : PySem.W.codeIn K cd28 "_law_picture" = true)
    (k28 : PySem.W.keepIn K (.ref f28) = true)
    (a29 : PySem.W.nsIn K mainGlobals "_law_marks" = some (some (.ref f29)))
    (l29 : K.lookup f29 = some ⟨oc29, od29, .func (PySem.W.fnOf "_law_marks" "_law_marks" (defArgs s_law_marks) (defBody s_law_marks) (defScope s_law_marks) .none kV29 dc29 pm29 an29 cd29 ct29), sl29⟩)
    (c29 : PySem.W.codeIn K cd29 "_law_marks" = true)
    (k29 : PySem.W.keepIn K (.ref f29) = true)
    (a30 : PySem.W.nsIn K mainGlobals "_law_pieces" = some (some (.ref f30)))
    (l30 : K.lookup f30 = some ⟨oc30, od30, .func (PySem.W.fnOf "_law_pieces" "_law_pieces" (defArgs s_law_pieces) (defBody s_law_pieces) (defScope s_law_pieces) .none kV30 dc30 pm30 an30 cd30 ct30), sl30⟩)
    (c30 : PySem.W.codeIn K cd30 "_law_pieces" = true)
    (k30 : PySem.W.keepIn K (.ref f30) = true)
    (a31 : PySem.W.nsIn K mainGlobals "_law_tree" = some (some (.ref f31)))
    (l31 : K.lookup f31 = some ⟨oc31, od31, .func (PySem.W.fnOf "_law_tree" "_law_tree" (defArgs s_law_tree) (defBody s_law_tree) (defScope s_law_tree) .none kV31 dc31 pm31 an31 cd31 ct31), sl31⟩)
    (c31 : PySem.W.codeIn K cd31 "_law_tree" = true)
    (k31 : PySem.W.keepIn K (.ref f31) = true)
    (a32 : PySem.W.nsIn K mainGlobals "_law_tour_of" = some (some (.ref f32)))
    (l32 : K.lookup f32 = some ⟨oc32, od32, .func (PySem.W.fnOf "_law_tour_of" "_law_tour_of" (defArgs s_law_tour_of) (defBody s_law_tour_of) (defScope s_law_tour_of) .none kV32 dc32 pm32 an32 cd32 ct32), sl32⟩)
    (c32 : PySem.W.codeIn K cd32 "_law_tour_of" = true)
    (k32 : PySem.W.keepIn K (.ref f32) = true)
    (a33 : PySem.W.nsIn K mainGlobals "_law_basis" = some (some (.ref f33)))
    (l33 : K.lookup f33 = some ⟨oc33, od33, .func (PySem.W.fnOf "_law_basis" "_law_basis" (defArgs s_law_basis) (defBody s_law_basis) (defScope s_law_basis) .none kV33 dc33 pm33 an33 cd33 ct33), sl33⟩)
    (c33 : PySem.W.codeIn K cd33 "_law_basis" = true)
    (k33 : PySem.W.keepIn K (.ref f33) = true)
    (a34 : PySem.W.nsIn K mainGlobals "_law_tuple" = some (some (.ref f34)))
    (l34 : K.lookup f34 = some ⟨oc34, od34, .func (PySem.W.fnOf "_law_tuple" "_law_tuple" (defArgs s_law_tuple) (defBody s_law_tuple) (defScope s_law_tuple) .none kV34 dc34 pm34 an34 cd34 ct34), sl34⟩)
    (c34 : PySem.W.codeIn K cd34 "_law_tuple" = true)
    (k34 : PySem.W.keepIn K (.ref f34) = true)
    (a35 : PySem.W.nsIn K mainGlobals "_law_refused" = some (some (.ref f35)))
    (l35 : K.lookup f35 = some ⟨oc35, od35, .func (PySem.W.fnOf "_law_refused" "_law_refused" (defArgs s_law_refused) (defBody s_law_refused) (defScope s_law_refused) .none kV35 dc35 pm35 an35 cd35 ct35), sl35⟩)
    (c35 : PySem.W.codeIn K cd35 "_law_refused" = true)
    (k35 : PySem.W.keepIn K (.ref f35) = true)
    (a36 : PySem.W.nsIn K mainGlobals "_law_tour_word" = some (some (.ref f36)))
    (l36 : K.lookup f36 = some ⟨oc36, od36, .func (PySem.W.fnOf "_law_tour_word" "_law_tour_word" (defArgs s_law_tour_word) (defBody s_law_tour_word) (defScope s_law_tour_word) .none kV36 dc36 pm36 an36 cd36 ct36), sl36⟩)
    (c36 : PySem.W.codeIn K cd36 "_law_tour_word" = true)
    (k36 : PySem.W.keepIn K (.ref f36) = true)
    (a37 : PySem.W.nsIn K mainGlobals "_law_any_picture" = some (some (.ref f37)))
    (l37 : K.lookup f37 = some ⟨oc37, od37, .func (PySem.W.fnOf "_law_any_picture" "_law_any_picture" (defArgs s_law_any_picture) (defBody s_law_any_picture) (defScope s_law_any_picture) .none kV37 dc37 pm37 an37 cd37 ct37), sl37⟩)
    (c37 : PySem.W.codeIn K cd37 "_law_any_picture" = true)
    (k37 : PySem.W.keepIn K (.ref f37) = true)
    (a38 : PySem.W.nsIn K mainGlobals "law" = some (some (.ref f38)))
    (l38 : K.lookup f38 = some ⟨oc38, od38, .func (PySem.W.fnOf "law" "law" (defArgs s_law) (defBody s_law) (defScope s_law) .none kV38 dc38 pm38 an38 cd38 ct38), sl38⟩)
    (c38 : PySem.W.codeIn K cd38 "law" = true)
    (k38 : PySem.W.keepIn K (.ref f38) = true)
    (z_abs : PySem.W.nsIn K mainGlobals "abs" = some none)
    (z_any : PySem.W.nsIn K mainGlobals "any" = some none)
    (z_bool : PySem.W.nsIn K mainGlobals "bool" = some none)
    (z_enumerate : PySem.W.nsIn K mainGlobals "enumerate" = some none)
    (z_int : PySem.W.nsIn K mainGlobals "int" = some none)
    (z_isinstance : PySem.W.nsIn K mainGlobals "isinstance" = some none)
    (z_len : PySem.W.nsIn K mainGlobals "len" = some none)
    (z_list : PySem.W.nsIn K mainGlobals "list" = some none)
    (z_min : PySem.W.nsIn K mainGlobals "min" = some none)
    (z_property : PySem.W.nsIn K mainGlobals "property" = some none)
    (z_range : PySem.W.nsIn K mainGlobals "range" = some none)
    (z_set : PySem.W.nsIn K mainGlobals "set" = some none)
    (z_sorted : PySem.W.nsIn K mainGlobals "sorted" = some none)
    (z_tuple : PySem.W.nsIn K mainGlobals "tuple" = some none)
    (z_zip : PySem.W.nsIn K mainGlobals "zip" = some none)
    (zc_MOST_CORNERS : PySem.W.nsIn K mainGlobals "MOST_CORNERS" = some (some (.int 5 tkc_MOST_CORNERS)))
    (w1 : PySem.W.specialIn K (.builtin "object.__class__") "__get__" = some (some (.builtin "getset_descriptor.__get__")))
    (w2 : PySem.W.takesIn K (.builtin "object.__class__") = some true)
    (xt_SheetError : PySem.W.typeIn K (.ref CE_SheetError) = some (.type "type"))
    (xi_SheetError : PySem.W.isClsIn K CE_SheetError = true)
    (xt_BadPicture : PySem.W.typeIn K (.ref CE_BadPicture) = some (.type "type"))
    (xi_BadPicture : PySem.W.isClsIn K CE_BadPicture = true)
    (xb_BadPicture : PySem.W.subIn K (.ref CE_BadPicture) (.type "BaseException") = some true)
    (xk_BadPicture : PySem.W.keepIn K (.ref CE_BadPicture) = true)
    (x1_BadPicture : PySem.W.findIn K (.ref CE_BadPicture) "__getattribute__" = some (some (.builtin "BaseException.__getattribute__")))
    (x2_BadPicture : PySem.W.findIn K (.ref CE_BadPicture) "__getattr__" = some none)
    (x3_BadPicture : PySem.W.hasDictIn K CE_BadPicture = true)
    (x4_BadPicture : PySem.W.findIn K (.ref CE_BadPicture) "__class__" = some (some (.builtin "object.__class__")))
    (x5_BadPicture : PySem.W.mroIn K CE_BadPicture (.type "object") = some true)
    (xl_BadPicture : K.lookup CE_BadPicture = some (excClassObj nm_BadPicture qn_BadPicture CE_BadPicture NB_BadPicture bs_BadPicture bm_BadPicture true sn_BadPicture sub_BadPicture ab_BadPicture col_BadPicture dd_BadPicture m0_BadPicture m1_BadPicture m2_BadPicture m3_BadPicture m5_BadPicture "ValueError.__new__"))
    (xr_BadPicture : PySem.HandSPX.refsVE bm_BadPicture = true)
    (xs_BadPicture : PySem.W.findIn K (.ref CE_BadPicture) "__setattr__" = some (some (.builtin "object.__setattr__")))
    (xf_BadPicture : PySem.W.typeIn K (.ref f0) = some (.type "function"))
    (xn0_BadPicture : PySem.W.findIn K (.ref CE_BadPicture) "what" = some none)
    (xt_BadTour : PySem.W.typeIn K (.ref CE_BadTour) = some (.type "type"))
    (xi_BadTour : PySem.W.isClsIn K CE_BadTour = true)
    (xb_BadTour : PySem.W.subIn K (.ref CE_BadTour) (.type "BaseException") = some true)
    (xk_BadTour : PySem.W.keepIn K (.ref CE_BadTour) = true)
    (x1_BadTour : PySem.W.findIn K (.ref CE_BadTour) "__getattribute__" = some (some (.builtin "BaseException.__getattribute__")))
    (x2_BadTour : PySem.W.findIn K (.ref CE_BadTour) "__getattr__" = some none)
    (x3_BadTour : PySem.W.hasDictIn K CE_BadTour = true)
    (x4_BadTour : PySem.W.findIn K (.ref CE_BadTour) "__class__" = some (some (.builtin "object.__class__")))
    (x5_BadTour : PySem.W.mroIn K CE_BadTour (.type "object") = some true)
    (xl_BadTour : K.lookup CE_BadTour = some (excClassObj nm_BadTour qn_BadTour CE_BadTour NB_BadTour bs_BadTour bm_BadTour true sn_BadTour sub_BadTour ab_BadTour col_BadTour dd_BadTour m0_BadTour m1_BadTour m2_BadTour m3_BadTour m5_BadTour "ValueError.__new__"))
    (xr_BadTour : PySem.HandSPX.refsVE bm_BadTour = true)
    (xs_BadTour : PySem.W.findIn K (.ref CE_BadTour) "__setattr__" = some (some (.builtin "object.__setattr__")))
    (xf_BadTour : PySem.W.typeIn K (.ref f1) = some (.type "function"))
    (xn0_BadTour : PySem.W.findIn K (.ref CE_BadTour) "what" = some none)
    (xt_BadRow : PySem.W.typeIn K (.ref CE_BadRow) = some (.type "type"))
    (xi_BadRow : PySem.W.isClsIn K CE_BadRow = true)
    (xb_BadRow : PySem.W.subIn K (.ref CE_BadRow) (.type "BaseException") = some true)
    (xk_BadRow : PySem.W.keepIn K (.ref CE_BadRow) = true)
    (x1_BadRow : PySem.W.findIn K (.ref CE_BadRow) "__getattribute__" = some (some (.builtin "BaseException.__getattribute__")))
    (x2_BadRow : PySem.W.findIn K (.ref CE_BadRow) "__getattr__" = some none)
    (x3_BadRow : PySem.W.hasDictIn K CE_BadRow = true)
    (x4_BadRow : PySem.W.findIn K (.ref CE_BadRow) "__class__" = some (some (.builtin "object.__class__")))
    (x5_BadRow : PySem.W.mroIn K CE_BadRow (.type "object") = some true)
    (xq_BadRow : PySem.W.excIn K CE_BadRow [Value.type "ValueError", Value.type "Exception", Value.type "BaseException", Value.type "object"] "ValueError.__new__" = true)
    (s_BadPicture_BadRow : PySem.W.subIn K (.ref CE_BadPicture) (.ref CE_BadRow) = some false)
    (s_BadTour_BadRow : PySem.W.subIn K (.ref CE_BadTour) (.ref CE_BadRow) = some false)
    (s_BadRow_BadRow : PySem.W.subIn K (.ref CE_BadRow) (.ref CE_BadRow) = some true)
    (s_BadPicture_BadTour : PySem.W.subIn K (.ref CE_BadPicture) (.ref CE_BadTour) = some false)
    (s_BadTour_BadTour : PySem.W.subIn K (.ref CE_BadTour) (.ref CE_BadTour) = some true)
    (s_BadRow_BadTour : PySem.W.subIn K (.ref CE_BadRow) (.ref CE_BadTour) = some false)
    (s_BadRow_SheetError : PySem.W.subIn K (.ref CE_BadRow) (.ref CE_SheetError) = some true)
    (ne_BadRow_BadTour : (CE_BadRow == CE_BadTour) = false)
    (s_BadTour_SheetError : PySem.W.subIn K (.ref CE_BadTour) (.ref CE_SheetError) = some true)
    (ne_BadTour_BadRow : (CE_BadTour == CE_BadRow) = false)
    (p1_Picture : PySem.W.plainGet K CC_Picture Str.empty = true)
    (p2_Picture : PySem.W.hasDictIn K CC_Picture = true)
    (p3_Picture : PySem.W.plainOver K CC_Picture = true)
    (p4_Picture : PySem.W.findIn K (.ref CC_Picture) "__setattr__" = some (some (.builtin "object.__setattr__")))
    (p5_Picture : PySem.W.makesIn K CC_Picture = true)
    (p6_Picture : PySem.W.keepIn K (.ref CC_Picture) = true)
    (na_Picture_points : PySem.W.findIn K (.ref CC_Picture) "points" = some none)
    (na_Picture_walls : PySem.W.findIn K (.ref CC_Picture) "walls" = some none)
    (na_Picture_pairs : PySem.W.findIn K (.ref CC_Picture) "pairs" = some none)
    (na_Picture__pieces : PySem.W.findIn K (.ref CC_Picture) "_pieces" = some none)
    (g1_21 : PySem.W.specialIn K (.ref pp21) "__get__" = some (some (.builtin "property.__get__")))
    (g2_21 : PySem.W.takesIn K (.ref pp21) = some true)
    (p7_Picture : PySem.W.findIn K (.ref CC_Picture) "__class__" = some (some (.builtin "object.__class__")))
    (p8_Picture : PySem.W.mroIn K CC_Picture (.type "object") = some true)
    (p9_Picture : PySem.W.subIn K (.ref CC_Picture) (.ref CC_Picture) = some true)
    (pi_Picture : PySem.W.isClsIn K CC_Picture = true)
    (pt_Picture : PySem.W.typeIn K (.ref CC_Picture) = some (.type "type")) :
    ∃ fd : FuncData, (∀ (s : Shared) (v : Value), BindsTo s fd ⟨[v], []⟩ [("_law_script", v)]) ∧ ∀ base : Heap, K.In base → base.Ns mainGlobals mg → TopOk l.prog w K mg base CX0 fa fd ["_law_script"] (sp_law K) := by
  have e := hfa.symm.trans (PySem.W.mg_of X G a38)
  cases e
  have F0 := fun_mk (st := s_BadPicture_init) l0 c0 k0
  have b0 := F0.binds (ps := ["self", "what"]) fun _ _ _ _ _ _ us hl => match us, hl with | [_, _], _ => rfl
  have F1 := fun_mk (st := s_BadTour_init) l1 c1 k1
  have b1 := F1.binds (ps := ["self", "what"]) fun _ _ _ _ _ _ us hl => match us, hl with | [_, _], _ => rfl
  have F2 : FunD K "is_whole" "is_whole" (defArgs s_is_whole) (defBody s_is_whole) (defScope s_is_whole) [.non, .non] [] f2 (PySem.W.fnOf "is_whole" "is_whole" (defArgs s_is_whole) (defBody s_is_whole) (defScope s_is_whole) (.ref D2) kV2 dc2 pm2 an2 cd2 ct2) := 
    ⟨⟨oc2, od2, .ref D2, kV2, dc2, pm2, an2, cd2, ct2, sl2, rfl, l2, c2, .inr ⟨by simp, D2, _, [.none, .none], _, rfl, e2, rfl, .cons rfl (.cons rfl .nil)⟩, .inl rfl⟩, k2⟩
  have bq2_2 : Binds K (PySem.W.fnOf "is_whole" "is_whole" (defArgs s_is_whole) (defBody s_is_whole) (defScope s_is_whole) (.ref D2) kV2 dc2 pm2 an2 cd2 ct2) ["thing", "low", "high"] [.none, .none] := fun s us X hl => by
    have hl : us.length = 1 := by
      rw [List.length_append] at hl
      exact Nat.add_right_cancel (m := 2) hl
    match us, hl with
    | [u0], _ => exact BindsTo.of_looks fun M => looks_items (its := #[.none, .none]) X e2 rfl (.of_pure rfl)
  have bq2_0 : Binds K (PySem.W.fnOf "is_whole" "is_whole" (defArgs s_is_whole) (defBody s_is_whole) (defScope s_is_whole) (.ref D2) kV2 dc2 pm2 an2 cd2 ct2) ["thing", "low", "high"] [] := fun s us X hl => by
    match us, hl with
    | [u0, u1, u2], _ => exact BindsTo.of_looks fun M => looks_items (its := #[.none, .none]) X e2 rfl (.of_pure rfl)
  have F3 : FunD K "is_sequence" "is_sequence" (defArgs s_is_sequence) (defBody s_is_sequence) (defScope s_is_sequence) [.non] [] f3 (PySem.W.fnOf "is_sequence" "is_sequence" (defArgs s_is_sequence) (defBody s_is_sequence) (defScope s_is_sequence) (.ref D3) kV3 dc3 pm3 an3 cd3 ct3) := 
    ⟨⟨oc3, od3, .ref D3, kV3, dc3, pm3, an3, cd3, ct3, sl3, rfl, l3, c3, .inr ⟨by simp, D3, _, [.none], _, rfl, e3, rfl, .cons rfl .nil⟩, .inl rfl⟩, k3⟩
  have bq3_1 : Binds K (PySem.W.fnOf "is_sequence" "is_sequence" (defArgs s_is_sequence) (defBody s_is_sequence) (defScope s_is_sequence) (.ref D3) kV3 dc3 pm3 an3 cd3 ct3) ["thing", "length"] [.none] := fun s us X hl => by
    have hl : us.length = 1 := by
      rw [List.length_append] at hl
      exact Nat.add_right_cancel (m := 1) hl
    match us, hl with
    | [u0], _ => exact BindsTo.of_looks fun M => looks_items (its := #[.none]) X e3 rfl (.of_pure rfl)
  have bq3_0 : Binds K (PySem.W.fnOf "is_sequence" "is_sequence" (defArgs s_is_sequence) (defBody s_is_sequence) (defScope s_is_sequence) (.ref D3) kV3 dc3 pm3 an3 cd3 ct3) ["thing", "length"] [] := fun s us X hl => by
    match us, hl with
    | [u0, u1], _ => exact BindsTo.of_looks fun M => looks_items (its := #[.none]) X e3 rfl (.of_pure rfl)
  have F4 := fun_mk (st := s_wrong_index) l4 c4 k4
  have b4 := F4.binds (ps := ["thing", "length", "is_good"]) fun _ _ _ _ _ _ us hl => match us, hl with | [_, _, _], _ => rfl
  have F5 := fun_mk (st := s_is_whole_row) l5 c5 k5
  have b5 := F5.binds (ps := ["thing", "length"]) fun _ _ _ _ _ _ us hl => match us, hl with | [_, _], _ => rfl
  have F6 := fun_mk (st := s_check_tour) l6 c6 k6
  have b6 := F6.binds (ps := ["picture", "tour"]) fun _ _ _ _ _ _ us hl => match us, hl with | [_, _], _ => rfl
  have F7 := fun_mk (st := s_no_tour) l7 c7 k7
  have b7 := F7.binds (ps := ["picture"]) fun _ _ _ _ _ _ us hl => match us, hl with | [_], _ => rfl
  have F8 := fun_mk (st := s_row_minus) l8 c8 k8
  have b8 := F8.binds (ps := ["one", "other"]) fun _ _ _ _ _ _ us hl => match us, hl with | [_, _], _ => rfl
  have F9 := fun_mk (st := s_tree_and_basis) l9 c9 k9
  have b9 := F9.binds (ps := ["picture"]) fun _ _ _ _ _ _ us hl => match us, hl with | [_], _ => rfl
  have F10 := fun_mk (st := s_tree_places) l10 c10 k10
  have b10 := F10.binds (ps := ["picture"]) fun _ _ _ _ _ _ us hl => match us, hl with | [_], _ => rfl
  have F11 := fun_mk (st := s_other_places) l11 c11 k11
  have b11 := F11.binds (ps := ["picture"]) fun _ _ _ _ _ _ us hl => match us, hl with | [_], _ => rfl
  have F12 := fun_mk (st := s_basis_tours) l12 c12 k12
  have b12 := F12.binds (ps := ["picture"]) fun _ _ _ _ _ _ us hl => match us, hl with | [_], _ => rfl
  have F13 := fun_mk (st := s_tour_of) l13 c13 k13
  have b13 := F13.binds (ps := ["picture", "row"]) fun _ _ _ _ _ _ us hl => match us, hl with | [_, _], _ => rfl
  have F14 := fun_mk (st := s_row_of) l14 c14 k14
  have b14 := F14.binds (ps := ["picture", "tour"]) fun _ _ _ _ _ _ us hl => match us, hl with | [_, _], _ => rfl
  have F15 := fun_mk (st := s_merged_labels) l15 c15 k15
  have b15 := F15.binds (ps := ["labels", "one", "other"]) fun _ _ _ _ _ _ us hl => match us, hl with | [_, _, _], _ => rfl
  have F16 := fun_mk (st := s_piece_labels) l16 c16 k16
  have b16 := F16.binds (ps := ["points", "walls", "pairs"]) fun _ _ _ _ _ _ us hl => match us, hl with | [_, _, _], _ => rfl
  have F17 := fun_mk (st := s_pieces_by_labels) l17 c17 k17
  have b17 := F17.binds (ps := ["points", "labels"]) fun _ _ _ _ _ _ us hl => match us, hl with | [_, _], _ => rfl
  have F18 := fun_mk (st := s_Picture_init) l18 c18 k18
  have b18 := F18.binds (ps := ["self", "points", "walls", "pairs"]) fun _ _ _ _ _ _ us hl => match us, hl with | [_, _, _, _], _ => rfl
  have F19 := fun_mk (st := s_Picture_eq) l19 c19 k19
  have b19 := F19.binds (ps := ["self", "other"]) fun _ _ _ _ _ _ us hl => match us, hl with | [_, _], _ => rfl
  have F20 := fun_mk (st := s_Picture_len) l20 c20 k20
  have b20 := F20.binds (ps := ["self"]) fun _ _ _ _ _ _ us hl => match us, hl with | [_], _ => rfl
  have F21 := fun_mk (st := s_Picture_pieces) l21 c21 k21
  have b21 := F21.binds (ps := ["self"]) fun _ _ _ _ _ _ us hl => match us, hl with | [_], _ => rfl
  have F22 := fun_mk (st := s_Pictureis_pair) l22 c22 k22
  have b22 := F22.binds (ps := ["self", "thing"]) fun _ _ _ _ _ _ us hl => match us, hl with | [_, _], _ => rfl
  have F23 := fun_mk (st := s_law_hand) l23 c23 k23
  have b23 := F23.binds (ps := ["_law_script"]) fun _ _ _ _ _ _ us hl => match us, hl with | [_], _ => rfl
  have F24 := fun_mk (st := s_law_mixed) l24 c24 k24
  have b24 := F24.binds (ps := ["_law_number", "_law_turn"]) fun _ _ _ _ _ _ us hl => match us, hl with | [_, _], _ => rfl
  have F25 := fun_mk (st := s_law_take) l25 c25 k25
  have b25 := F25.binds (ps := ["_law_hand_here", "_law_many"]) fun _ _ _ _ _ _ us hl => match us, hl with | [_, _], _ => rfl
  have F26 := fun_mk (st := s_law_whole) l26 c26 k26
  have b26 := F26.binds (ps := ["_law_thing"]) fun _ _ _ _ _ _ us hl => match us, hl with | [_], _ => rfl
  have F27 := fun_mk (st := s_law_full) l27 c27 k27
  have b27 := F27.binds (ps := ["_law_points", "_law_shuts"]) fun _ _ _ _ _ _ us hl => match us, hl with | [_, _], _ => rfl
  have F28 := fun_mk (st := s_law_picture) l28 c28 k28
  have b28 := F28.binds (ps := ["_law_hand_here"]) fun _ _ _ _ _ _ us hl => match us, hl with | [_], _ => rfl
  have F29 := fun_mk (st := s_law_marks) l29 c29 k29
  have b29 := F29.binds (ps := ["_law_points", "_law_shuts", "_law_pairs"]) fun _ _ _ _ _ _ us hl => match us, hl with | [_, _, _], _ => rfl
  have F30 := fun_mk (st := s_law_pieces) l30 c30 k30
  have b30 := F30.binds (ps := ["_law_points", "_law_shuts", "_law_pairs"]) fun _ _ _ _ _ _ us hl => match us, hl with | [_, _, _], _ => rfl
  have F31 := fun_mk (st := s_law_tree) l31 c31 k31
  have b31 := F31.binds (ps := ["_law_points", "_law_shuts", "_law_pairs"]) fun _ _ _ _ _ _ us hl => match us, hl with | [_, _, _], _ => rfl
  have F32 := fun_mk (st := s_law_tour_of) l32 c32 k32
  have b32 := F32.binds (ps := ["_law_points", "_law_shuts", "_law_pairs", "_law_row"]) fun _ _ _ _ _ _ us hl => match us, hl with | [_, _, _, _], _ => rfl
  have F33 := fun_mk (st := s_law_basis) l33 c33 k33
  have b33 := F33.binds (ps := ["_law_points", "_law_shuts", "_law_pairs"]) fun _ _ _ _ _ _ us hl => match us, hl with | [_, _, _], _ => rfl
  have F34 := fun_mk (st := s_law_tuple) l34 c34 k34
  have b34 := F34.binds (ps := ["_law_told", "_law_due"]) fun _ _ _ _ _ _ us hl => match us, hl with | [_, _], _ => rfl
  have F35 := fun_mk (st := s_law_refused) l35 c35 k35
  have b35 := F35.binds (ps := ["_law_picture_here", "_law_row"]) fun _ _ _ _ _ _ us hl => match us, hl with | [_, _], _ => rfl
  have F36 := fun_mk (st := s_law_tour_word) l36 c36 k36
  have b36 := F36.binds (ps := ["_law_picture_here", "_law_tour"]) fun _ _ _ _ _ _ us hl => match us, hl with | [_, _], _ => rfl
  have F37 := fun_mk (st := s_law_any_picture) l37 c37 k37
  have b37 := F37.binds (ps := ["_law_hand_here"]) fun _ _ _ _ _ _ us hl => match us, hl with | [_], _ => rfl
  have F38 := fun_mk (st := s_law) l38 c38 k38
  let T : Txt K mg := { f_BadPicture_init := f0, d_BadPicture_init := _, F_BadPicture_init := F0, b_BadPicture_init := b0, f_BadTour_init := f1, d_BadTour_init := _, F_BadTour_init := F1, b_BadTour_init := b1, f_is_whole := f2, d_is_whole := _, F_is_whole := F2, b2_is_whole := bq2_2, b_is_whole := bq2_0, g_is_whole := PySem.W.mg_of X G a2, f_is_sequence := f3, d_is_sequence := _, F_is_sequence := F3, b1_is_sequence := bq3_1, b_is_sequence := bq3_0, g_is_sequence := PySem.W.mg_of X G a3, f_wrong_index := f4, d_wrong_index := _, F_wrong_index := F4, b_wrong_index := b4, g_wrong_index := PySem.W.mg_of X G a4, f_is_whole_row := f5, d_is_whole_row := _, F_is_whole_row := F5, b_is_whole_row := b5, g_is_whole_row := PySem.W.mg_of X G a5, f_check_tour := f6, d_check_tour := _, F_check_tour := F6, b_check_tour := b6, g_check_tour := PySem.W.mg_of X G a6, f_no_tour := f7, d_no_tour := _, F_no_tour := F7, b_no_tour := b7, g_no_tour := PySem.W.mg_of X G a7, f_row_minus := f8, d_row_minus := _, F_row_minus := F8, b_row_minus := b8, g_row_minus := PySem.W.mg_of X G a8, f_tree_and_basis := f9, d_tree_and_basis := _, F_tree_and_basis := F9, b_tree_and_basis := b9, g_tree_and_basis := PySem.W.mg_of X G a9, f_tree_places := f10, d_tree_places := _, F_tree_places := F10, b_tree_places := b10, g_tree_places := PySem.W.mg_of X G a10, f_other_places := f11, d_other_places := _, F_other_places := F11, b_other_places := b11, g_other_places := PySem.W.mg_of X G a11, f_basis_tours := f12, d_basis_tours := _, F_basis_tours := F12, b_basis_tours := b12, g_basis_tours := PySem.W.mg_of X G a12, f_tour_of := f13, d_tour_of := _, F_tour_of := F13, b_tour_of := b13, g_tour_of := PySem.W.mg_of X G a13, f_row_of := f14, d_row_of := _, F_row_of := F14, b_row_of := b14, g_row_of := PySem.W.mg_of X G a14, f_merged_labels := f15, d_merged_labels := _, F_merged_labels := F15, b_merged_labels := b15, g_merged_labels := PySem.W.mg_of X G a15, f_piece_labels := f16, d_piece_labels := _, F_piece_labels := F16, b_piece_labels := b16, g_piece_labels := PySem.W.mg_of X G a16, f_pieces_by_labels := f17, d_pieces_by_labels := _, F_pieces_by_labels := F17, b_pieces_by_labels := b17, g_pieces_by_labels := PySem.W.mg_of X G a17, f_Picture_init := f18, d_Picture_init := _, F_Picture_init := F18, b_Picture_init := b18, f_Picture_eq := f19, d_Picture_eq := _, F_Picture_eq := F19, b_Picture_eq := b19, f_Picture_len := f20, d_Picture_len := _, F_Picture_len := F20, b_Picture_len := b20, f_Picture_pieces := f21, d_Picture_pieces := _, F_Picture_pieces := F21, b_Picture_pieces := b21, f_Pictureis_pair := f22, d_Pictureis_pair := _, F_Pictureis_pair := F22, b_Pictureis_pair := b22, f_law_hand := f23, d_law_hand := _, F_law_hand := F23, b_law_hand := b23, g_law_hand := PySem.W.mg_of X G a23, f_law_mixed := f24, d_law_mixed := _, F_law_mixed := F24, b_law_mixed := b24, g_law_mixed := PySem.W.mg_of X G a24, f_law_take := f25, d_law_take := _, F_law_take := F25, b_law_take := b25, g_law_take := PySem.W.mg_of X G a25, f_law_whole := f26, d_law_whole := _, F_law_whole := F26, b_law_whole := b26, g_law_whole := PySem.W.mg_of X G a26, f_law_full := f27, d_law_full := _, F_law_full := F27, b_law_full := b27, g_law_full := PySem.W.mg_of X G a27, f_law_picture := f28, d_law_picture := _, F_law_picture := F28, b_law_picture := b28, g_law_picture := PySem.W.mg_of X G a28, f_law_marks := f29, d_law_marks := _, F_law_marks := F29, b_law_marks := b29, g_law_marks := PySem.W.mg_of X G a29, f_law_pieces := f30, d_law_pieces := _, F_law_pieces := F30, b_law_pieces := b30, g_law_pieces := PySem.W.mg_of X G a30, f_law_tree := f31, d_law_tree := _, F_law_tree := F31, b_law_tree := b31, g_law_tree := PySem.W.mg_of X G a31, f_law_tour_of := f32, d_law_tour_of := _, F_law_tour_of := F32, b_law_tour_of := b32, g_law_tour_of := PySem.W.mg_of X G a32, f_law_basis := f33, d_law_basis := _, F_law_basis := F33, b_law_basis := b33, g_law_basis := PySem.W.mg_of X G a33, f_law_tuple := f34, d_law_tuple := _, F_law_tuple := F34, b_law_tuple := b34, g_law_tuple := PySem.W.mg_of X G a34, f_law_refused := f35, d_law_refused := _, F_law_refused := F35, b_law_refused := b35, g_law_refused := PySem.W.mg_of X G a35, f_law_tour_word := f36, d_law_tour_word := _, F_law_tour_word := F36, b_law_tour_word := b36, g_law_tour_word := PySem.W.mg_of X G a36, f_law_any_picture := f37, d_law_any_picture := _, F_law_any_picture := F37, b_law_any_picture := b37, g_law_any_picture := PySem.W.mg_of X G a37, f_law := fa, d_law := _, F_law := F38, m_abs := PySem.W.mg_none_of X G z_abs, m_any := PySem.W.mg_none_of X G z_any, m_bool := PySem.W.mg_none_of X G z_bool, m_enumerate := PySem.W.mg_none_of X G z_enumerate, m_int := PySem.W.mg_none_of X G z_int, m_isinstance := PySem.W.mg_none_of X G z_isinstance, m_len := PySem.W.mg_none_of X G z_len, m_list := PySem.W.mg_none_of X G z_list, m_min := PySem.W.mg_none_of X G z_min, m_property := PySem.W.mg_none_of X G z_property, m_range := PySem.W.mg_none_of X G z_range, m_set := PySem.W.mg_none_of X G z_set, m_sorted := PySem.W.mg_none_of X G z_sorted, m_tuple := PySem.W.mg_none_of X G z_tuple, m_zip := PySem.W.mg_none_of X G z_zip, tk_MOST_CORNERS := tkc_MOST_CORNERS, c_MOST_CORNERS := PySem.W.mg_of X G zc_MOST_CORNERS, C_SheetError := CE_SheetError, g_SheetError := PySem.W.mg_of X G h_SheetError, C_BadPicture := CE_BadPicture, g_BadPicture := PySem.W.mg_of X G h_BadPicture, x_BadPicture := ⟨x1_BadPicture, x2_BadPicture, xb_BadPicture, x3_BadPicture⟩, e_BadPicture := ⟨x1_BadPicture, x2_BadPicture, xb_BadPicture, x3_BadPicture, x4_BadPicture, w1, w2, x5_BadPicture⟩, o_BadPicture := ⟨⟨_, _, _, _, _, _, _, _, _, _, _, _, _, _, _, xl_BadPicture, xr_BadPicture⟩, xs_BadPicture, xb_BadPicture, xt_BadPicture, xk_BadPicture⟩, i_BadPicture := a0, t_BadPicture := xf_BadPicture, n_BadPicture := xn0_BadPicture, C_BadTour := CE_BadTour, g_BadTour := PySem.W.mg_of X G h_BadTour, x_BadTour := ⟨x1_BadTour, x2_BadTour, xb_BadTour, x3_BadTour⟩, e_BadTour := ⟨x1_BadTour, x2_BadTour, xb_BadTour, x3_BadTour, x4_BadTour, w1, w2, x5_BadTour⟩, o_BadTour := ⟨⟨_, _, _, _, _, _, _, _, _, _, _, _, _, _, _, xl_BadTour, xr_BadTour⟩, xs_BadTour, xb_BadTour, xt_BadTour, xk_BadTour⟩, i_BadTour := a1, t_BadTour := xf_BadTour, n_BadTour := xn0_BadTour, C_BadRow := CE_BadRow, g_BadRow := PySem.W.mg_of X G h_BadRow, x_BadRow := ⟨x1_BadRow, x2_BadRow, xb_BadRow, x3_BadRow⟩, e_BadRow := ⟨x1_BadRow, x2_BadRow, xb_BadRow, x3_BadRow, x4_BadRow, w1, w2, x5_BadRow⟩, q_BadRow := xq_BadRow, k_BadRow := xk_BadRow, b_BadRow := xb_BadRow, ty_BadRow := xt_BadRow, mm_BadPicture_BadRow := own_exm xb_BadRow xi_BadRow xt_BadRow s_BadPicture_BadRow, mm_BadTour_BadRow := own_exm xb_BadRow xi_BadRow xt_BadRow s_BadTour_BadRow, mm_BadRow_BadRow := own_exm xb_BadRow xi_BadRow xt_BadRow s_BadRow_BadRow, mm_BadPicture_BadTour := own_exm xb_BadTour xi_BadTour xt_BadTour s_BadPicture_BadTour, mm_BadTour_BadTour := own_exm xb_BadTour xi_BadTour xt_BadTour s_BadTour_BadTour, mm_BadRow_BadTour := own_exm xb_BadTour xi_BadTour xt_BadTour s_BadRow_BadTour, kit_BadRow_SheetError := own_kit xi_SheetError xt_SheetError s_BadRow_SheetError (fun _ => rfl), kit_BadRow_BadTour := own_kit xi_BadTour xt_BadTour s_BadRow_BadTour (fun z => by rw [ne_BadRow_BadTour] at z; cases z), kit_BadTour_SheetError := own_kit xi_SheetError xt_SheetError s_BadTour_SheetError (fun _ => rfl), kit_BadTour_BadRow := own_kit xi_BadRow xt_BadRow s_BadTour_BadRow (fun z => by rw [ne_BadTour_BadRow] at z; cases z), C_Picture := CC_Picture, g_Picture := PySem.W.mg_of X G h_Picture, cl_Picture := ⟨p1_Picture, p2_Picture, p3_Picture, p4_Picture⟩, M_Picture := ⟨p5_Picture, a18, i18, p6_Picture⟩, na_points := na_Picture_points, na_walls := na_Picture_walls, na_pairs := na_Picture_pairs, na_pieces := na_Picture__pieces, eq_at := a19, eq_fn := i19, len_at := a20, len_fn := i20, p_pieces := pp21, pr_pieces := ⟨a21, g1_21, g2_21, _, r21⟩, M_is_pair := ⟨a22, i22, k22⟩, k_class := p7_Picture, k_get := w1, k_takes := w2, k_mro := p8_Picture, k_isp := own_kit pi_Picture pt_Picture p9_Picture (fun _ => rfl) }
  exact ⟨_, fun s v => .of_eq rfl, fun base _ _ => ok_law T⟩
end K03
open PySem PySem.W PyProof.Rows
set_option maxHeartbeats 0 in
theorem PySem.Challenge.cw_sheetproofs_k03_whole_one_tour_for_each_holds : PySem.Challenge.rw_sheetproofs_k03_whole_one_tour_for_each.Holds := by
  w_on; o_law; k_head; (case hw => w_witness2)
  k_fill
  refine TkS.walk_top (l := PySem.Challenge.rw_sheetproofs_k03_whole_one_tour_for_each) (n := 63) (x := "_law_script") (CX := fun _ => L2.CX0) (sp := fun w => K03.sp_law _) rfl (by decide) rfl (fun w h Y => PySem.W.kIn_of Y) ?F (fun _ _ a ns hl _ hS => ⟨a, ns, rfl, hS, hl, fun _ => rfl⟩) (fun _ _ _ _ _ h => h)
  case F =>
    intro w mg fa h KX G hmg
    refine' K03.all_mk KX G hmg ?h_SheetError ?h_BadPicture ?h_BadTour ?h_BadRow ?h_Picture ?a0 ?i0 ?l0 ?c0 ?k0 ?a1 ?i1 ?l1 ?c1 ?k1 ?a2 ?l2 ?c2 ?k2 ?e2 ?a3 ?l3 ?c3 ?k3 ?e3 ?a4 ?l4 ?c4 ?k4 ?a5 ?l5 ?c5 ?k5 ?a6 ?l6 ?c6 ?k6 ?a7 ?l7 ?c7 ?k7 ?a8 ?l8 ?c8 ?k8 ?a9 ?l9 ?c9 ?k9 ?a10 ?l10 ?c10 ?k10 ?a11 ?l11 ?c11 ?k11 ?a12 ?l12 ?c12 ?k12 ?a13 ?l13 ?c13 ?k13 ?a14 ?l14 ?c14 ?k14 ?a15 ?l15 ?c15 ?k15 ?a16 ?l16 ?c16 ?k16 ?a17 ?l17 ?c17 ?k17 ?a18 ?i18 ?l18 ?c18 ?k18 ?a19 ?i19 ?l19 ?c19 ?k19 ?a20 ?i20 ?l20 ?c20 ?k20 ?a21 ?r21 ?i21 ?l21 ?c21 ?k21 ?a22 ?i22 ?l22 ?c22 ?k22 ?a23 ?l23 ?c23 ?k23 ?a24 ?l24 ?c24 ?k24 ?a25 ?l25 ?c25 ?k25 ?a26 ?l26 ?c26 ?k26 ?a27 ?l27 ?c27 ?k27 ?a28 ?l28 ?c28 ?k28 ?a29 ?l29 ?c29 ?k29 ?a30 ?l30 ?c30 ?k30 ?a31 ?l31 ?c31 ?k31 ?a32 ?l32 ?c32 ?k32 ?a33 ?l33 ?c33 ?k33 ?a34 ?l34 ?c34 ?k34 ?a35 ?l35 ?c35 ?k35 ?a36 ?l36 ?c36 ?k36 ?a37 ?l37 ?c37 ?k37 ?a38 ?l38 ?c38 ?k38 ?z_abs ?z_any ?z_bool ?z_enumerate ?z_int ?z_isinstance ?z_len ?z_list ?z_min ?z_property ?z_range ?z_set ?z_sorted ?z_tuple ?z_zip ?zc_MOST_CORNERS ?w1 ?w2 ?xt_SheetError ?xi_SheetError ?xt_BadPicture ?xi_BadPicture ?xb_BadPicture ?xk_BadPicture ?x1_BadPicture ?x2_BadPicture ?x3_BadPicture ?x4_BadPicture ?x5_BadPicture ?xl_BadPicture ?xr_BadPicture ?xs_BadPicture ?xf_BadPicture ?xn0_BadPicture ?xt_BadTour ?xi_BadTour ?xb_BadTour ?xk_BadTour ?x1_BadTour ?x2_BadTour ?x3_BadTour ?x4_BadTour ?x5_BadTour ?xl_BadTour ?xr_BadTour ?xs_BadTour ?xf_BadTour ?xn0_BadTour ?xt_BadRow ?xi_BadRow ?xb_BadRow ?xk_BadRow ?x1_BadRow ?x2_BadRow ?x3_BadRow ?x4_BadRow ?x5_BadRow ?xq_BadRow ?s_BadPicture_BadRow ?s_BadTour_BadRow ?s_BadRow_BadRow ?s_BadPicture_BadTour ?s_BadTour_BadTour ?s_BadRow_BadTour ?s_BadRow_SheetError ?ne_BadRow_BadTour ?s_BadTour_SheetError ?ne_BadTour_BadRow ?p1_Picture ?p2_Picture ?p3_Picture ?p4_Picture ?p5_Picture ?p6_Picture ?na_Picture_points ?na_Picture_walls ?na_Picture_pairs ?na_Picture__pieces ?g1_21 ?g2_21 ?p7_Picture ?p8_Picture ?p9_Picture ?pi_Picture ?pt_Picture
    (case h_SheetError => k_is); (case h_BadPicture => k_is); (case h_BadTour => k_is); (case h_BadRow => k_is); (case h_Picture => k_is); (case a0 => k_is); (case i0 => k_is); (case l0 => k_is); (case c0 => k_is); (case k0 => k_is); (case a1 => k_is); (case i1 => k_is); (case l1 => k_is); (case c1 => k_is); (case k1 => k_is); (case a2 => k_is); (case l2 => k_is); (case c2 => k_is); (case k2 => k_is); (case e2 => k_is); (case a3 => k_is); (case l3 => k_is); (case c3 => k_is); (case k3 => k_is); (case e3 => k_is); (case a4 => k_is); (case l4 => k_is); (case c4 => k_is); (case k4 => k_is); (case a5 => k_is); (case l5 => k_is); (case c5 => k_is); (case k5 => k_is); (case a6 => k_is); (case l6 => k_is); (case c6 => k_is); (case k6 => k_is); (case a7 => k_is); (case l7 => k_is); (case c7 => k_is); (case k7 => k_is); (case a8 => k_is); (case l8 => k_is); (case c8 => k_is); (case k8 => k_is); (case a9 => k_is); (case l9 => k_is); (case c9 => k_is); (case k9 => k_is); (case a10 => k_is); (case l10 => k_is); (case c10 => k_is); (case k10 => k_is); (case a11 => k_is); (case l11 => k_is); (case c11 => k_is); (case k11 => k_is); (case a12 => k_is); (case l12 => k_is); (case c12 => k_is); (case k12 => k_is); (case a13 => k_is); (case l13 => k_is); (case c13 => k_is); (case k13 => k_is); (case a14 => k_is); (case l14 => k_is); (case c14 => k_is); (case k14 => k_is); (case a15 => k_is); (case l15 => k_is); (case c15 => k_is); (case k15 => k_is); (case a16 => k_is); (case l16 => k_is); (case c16 => k_is); (case k16 => k_is); (case a17 => k_is); (case l17 => k_is); (case c17 => k_is); (case k17 => k_is); (case a18 => k_is); (case i18 => k_is); (case l18 => k_is); (case c18 => k_is); (case k18 => k_is); (case a19 => k_is); (case i19 => k_is); (case l19 => k_is); (case c19 => k_is); (case k19 => k_is); (case a20 => k_is); (case i20 => k_is); (case l20 => k_is); (case c20 => k_is); (case k20 => k_is); (case a21 => k_is); (case r21 => k_is); (case i21 => k_is); (case l21 => k_is); (case c21 => k_is); (case k21 => k_is); (case a22 => k_is); (case i22 => k_is); (case l22 => k_is); (case c22 => k_is); (case k22 => k_is); (case a23 => k_is); (case l23 => k_is); (case c23 => k_is); (case k23 => k_is); (case a24 => k_is); (case l24 => k_is); (case c24 => k_is); (case k24 => k_is); (case a25 => k_is); (case l25 => k_is); (case c25 => k_is); (case k25 => k_is); (case a26 => k_is); (case l26 => k_is); (case c26 => k_is); (case k26 => k_is); (case a27 => k_is); (case l27 => k_is); (case c27 => k_is); (case k27 => k_is); (case a28 => k_is); (case l28 => k_is); (case c28 => k_is); (case k28 => k_is); (case a29 => k_is); (case l29 => k_is); (case c29 => k_is); (case k29 => k_is); (case a30 => k_is); (case l30 => k_is); (case c30 => k_is); (case k30 => k_is); (case a31 => k_is); (case l31 => k_is); (case c31 => k_is); (case k31 => k_is); (case a32 => k_is); (case l32 => k_is); (case c32 => k_is); (case k32 => k_is); (case a33 => k_is); (case l33 => k_is); (case c33 => k_is); (case k33 => k_is); (case a34 => k_is); (case l34 => k_is); (case c34 => k_is); (case k34 => k_is); (case a35 => k_is); (case l35 => k_is); (case c35 => k_is); (case k35 => k_is); (case a36 => k_is); (case l36 => k_is); (case c36 => k_is); (case k36 => k_is); (case a37 => k_is); (case l37 => k_is); (case c37 => k_is); (case k37 => k_is); (case a38 => k_is); (case l38 => k_is); (case c38 => k_is); (case k38 => k_is); (case z_abs => k_is); (case z_any => k_is); (case z_bool => k_is); (case z_enumerate => k_is); (case z_int => k_is); (case z_isinstance => k_is); (case z_len => k_is); (case z_list => k_is); (case z_min => k_is); (case z_property => k_is); (case z_range => k_is); (case z_set => k_is); (case z_sorted => k_is); (case z_tuple => k_is); (case z_zip => k_is); (case zc_MOST_CORNERS => k_is); (case w1 => k_is); (case w2 => k_is); (case xt_SheetError => k_is); (case xi_SheetError => k_is); (case xt_BadPicture => k_is); (case xi_BadPicture => k_is); (case xb_BadPicture => k_is); (case xk_BadPicture => k_is); (case x1_BadPicture => k_is); (case x2_BadPicture => k_is); (case x3_BadPicture => k_is); (case x4_BadPicture => k_is); (case x5_BadPicture => k_is); (case xl_BadPicture => k_is); (case xr_BadPicture => decide +kernel); (case xs_BadPicture => k_is); (case xf_BadPicture => k_is); (case xn0_BadPicture => k_is); (case xt_BadTour => k_is); (case xi_BadTour => k_is); (case xb_BadTour => k_is); (case xk_BadTour => k_is); (case x1_BadTour => k_is); (case x2_BadTour => k_is); (case x3_BadTour => k_is); (case x4_BadTour => k_is); (case x5_BadTour => k_is); (case xl_BadTour => k_is); (case xr_BadTour => decide +kernel); (case xs_BadTour => k_is); (case xf_BadTour => k_is); (case xn0_BadTour => k_is); (case xt_BadRow => k_is); (case xi_BadRow => k_is); (case xb_BadRow => k_is); (case xk_BadRow => k_is); (case x1_BadRow => k_is); (case x2_BadRow => k_is); (case x3_BadRow => k_is); (case x4_BadRow => k_is); (case x5_BadRow => k_is); (case xq_BadRow => k_exc); (case s_BadPicture_BadRow => k_is); (case s_BadTour_BadRow => k_is); (case s_BadRow_BadRow => first | rfl | k_is); (case s_BadPicture_BadTour => k_is); (case s_BadTour_BadTour => first | rfl | k_is); (case s_BadRow_BadTour => k_is); (case s_BadRow_SheetError => k_is); (case ne_BadRow_BadTour => decide); (case s_BadTour_SheetError => k_is); (case ne_BadTour_BadRow => decide); (case p1_Picture => k_is); (case p2_Picture => k_is); (case p3_Picture => k_is); (case p4_Picture => k_is); (case p5_Picture => k_is); (case p6_Picture => k_is); (case na_Picture_points => k_is); (case na_Picture_walls => k_is); (case na_Picture_pairs => k_is); (case na_Picture__pieces => k_is); (case g1_21 => k_is); (case g2_21 => k_is); (case p7_Picture => k_is); (case p8_Picture => k_is); (case p9_Picture => first | rfl | k_is); (case pi_Picture => k_is); (case pt_Picture => k_is)

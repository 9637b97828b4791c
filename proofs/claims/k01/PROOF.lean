import PyProof.Rows.All
import HandS.ForMost
import HandS.Zip
import HandS.Walk
import HandS.Deep
import HandS.Strs
import HandS.ExcIs
import HandS.ExcField
import PyProof.Rows.ReprR
import HandS.Exc
import HandS.ExcOwn
import HandS.CallSlots
import HandS.OwnEq
import HandS.IsInst
import HandS.Conv
import HandS.TupAny
import HandS.TupSets
import HandS.TryMany
import HandS.Ends
import HandS.Rev
import PyProof.ListNew
import HandS.List
import HandS.WordsExc
import HandS.ExcInit
import HandS.ExcInitHot
import HandS.SuiteRaise
import HandS.Defaults
import HandS.Style
import HandS.SortRule
import HandS.Property
import HandS.Evl
import HandS.Wide
import KE.Datum
import HandS.TupMul
import HandS.NoneIn
import HandS.HeadEnd
import PySem.Challenge.RW_sheetproofs_k01_whole_tours_and_sayings
set_option Elab.async false
set_option linter.all false
set_option maxRecDepth 100000
set_option maxHeartbeats 4000000
/-! zip of two sequences, each a list or a tuple -/
namespace RZM
open PySem
open PySem.Sem (wp)
def SIter (t : Bool) (h : Heap) (it l : Addr) (i : Nat) : Prop := match t with
  | true => h.IsTupleIter it l i
  | false => h.IsListIter it l i
def SSeq (t : Bool) (h : Heap) (l : Addr) (xs : Array Value) : Prop := match t with
  | true => h.IsTuple l xs
  | false => h.IsList l xs
def itName (t : Bool) : String := match t with
  | true => "tuple_iterator"
  | false => "list_iterator"
section
variable {t : Bool} {h h' : Heap} {a b l : Addr} {i : Nat} {xs : Array Value}
theorem SIter.extBut (x : SIter t h a l i) (hs : Heap.ExtBut b h h') (hab : a ≠ b) : SIter t h' a l i := by
  cases t with
  | true => exact Heap.IsTupleIter.extBut x hs hab
  | false => exact Heap.IsListIter.extBut x hs hab
theorem SSeq.extBut (x : SSeq t h a xs) (hs : Heap.ExtBut b h h') (hab : a ≠ b) : SSeq t h' a xs := by
  cases t with
  | true => exact Heap.IsTuple.extBut x hs hab
  | false => exact Heap.IsList.extBut x hs hab
theorem SIter.at (x : SIter t h a l i) (e : ∀ o, h.get? a = some o → h'.get? a = some o) : SIter t h' a l i := by
  cases t with
  | true => exact Heap.IsTupleIter.at x e
  | false => exact Heap.IsListIter.at x e
theorem SIter.obj (x : SIter t h a l i) : ∃ o, h.get? a = some o ∧ ∀ v, o.data ≠ .cell v := by
  cases t with
  | true =>
    obtain ⟨o, e, _, d⟩ := (show h.IsTupleIter a l i from x)
    exact ⟨o, e, fun v z => by rw [d] at z; cases z⟩
  | false =>
    obtain ⟨o, e, _, d⟩ := (show h.IsListIter a l i from x)
    exact ⟨o, e, fun v z => by rw [d] at z; cases z⟩
theorem SIter.lt (x : SIter t h a l i) : a < h.objs.size := by
  obtain ⟨o, e, _⟩ := x.obj
  exact Heap.lt_size e
theorem SSeq.lt (x : SSeq t h a xs) : a < h.objs.size := by
  cases t with
  | true =>
    obtain ⟨o, e, _⟩ := (show h.IsTuple a xs from x)
    exact Heap.lt_size e
  | false =>
    obtain ⟨o, e, _⟩ := (show h.IsList a xs from x)
    exact Heap.lt_size e
end
section
variable {prog : Program} {w : World} {A : Around} {E : Value → Shared → Prop} {s : Shared}
theorem nextOf_S_item {t : Bool} {it l : Addr} {i : Nat} {items : Array Value} {x : Value} {Q : Value → Shared → Prop} (hit : SIter t s.heap it l i) (hl : SSeq t s.heap l items) (hx : items[i]? = some x)
    (hQ : ∀ h', SIter t h' it l (i + 1) → Heap.SameBut it s.heap h' → Q x { s with heap := h' }) : wpAny (model prog w) A (Builtin.SmallTypes.nextOf (.ref it)) Q E s := by
  cases t with
  | true => exact RZ.nextOf_tuple_item hit hl hx hQ
  | false => exact wpAny_nextOf_list_item hit hl hx hQ
theorem nextOf_S_end {t : Bool} {it l : Addr} {i : Nat} {items : Array Value} {Q : Value → Shared → Prop} (hh : A.handled = none) (hit : SIter t s.heap it l i) (hl : SSeq t s.heap l items) (hx : items[i]? = none)
    (hE : ∀ h' e, Heap.ExtBut it s.heap h' → (∃ o, h'.get? e = some o ∧ o.cls = .type "StopIteration") → E (.ref e) { s with heap := h' }) : wpAny (model prog w) A (Builtin.SmallTypes.nextOf (.ref it)) Q E s := by
  cases t with
  | true => exact RZ.nextOf_tuple_end hh hit hl hx hE
  | false => exact wpAny_nextOf_list_end hh hit hl hx hE
theorem zipS_next_item {t1 t2 : Bool} {z TI TO i1 i2 l1 l2 : Addr} {k1 k2 : Nat} {xs ys : Array Value} {x y a b : Value} {Q : Value → Shared → Prop} (D : ZipApart z TI TO i1 i2 l1 l2)
    (hz : IsZip s.heap z TI TO .none) (hTI : IsPair s.heap TI (.ref i1) (.ref i2)) (hTO : IsPair s.heap TO a b)
    (h1 : SIter t1 s.heap i1 l1 k1) (h2 : SIter t2 s.heap i2 l2 k2) (hl1 : SSeq t1 s.heap l1 xs) (hl2 : SSeq t2 s.heap l2 ys) (hx : xs[k1]? = some x) (hy : ys[k2]? = some y)
    (hQ : ∀ h', IsZip h' z TI TO (rawInt s.heap.objs.size) → IsPair h' TO x y → SIter t1 h' i1 l1 (k1 + 1) → SIter t2 h' i2 l2 (k2 + 1) → IsPair h' s.heap.objs.size x y → h'.objs.size = s.heap.objs.size + 1 →
      (∀ c o, c ≠ z → c ≠ TO → c ≠ i1 → c ≠ i2 → s.heap.get? c = some o → h'.get? c = some o) → Q (.ref s.heap.objs.size) { s with heap := h' }) :
    wpAny (model prog w) A (Builtin.«zip.__next__» ⟨[.ref z], []⟩) (fun fin s' => ∃ v, fin = .done (.ret v) ∧ Q v s') E s := by
  show wpAny _ _ (field (.ref z) 2 >>= _) _ _ _
  refine wpAny_bind (wpAny_field hz rfl (x := .bool false) rfl ?_)
  show wpAny _ _ (field (.ref z) 3 >>= _) _ _ _
  refine wpAny_bind (wpAny_field hz rfl (x := .ref TI) rfl ?_)
  refine wpAny_bind (wpAny_seqItems hTI rfl ?_)
  show wpAny _ _ (Builtin.SmallTypes.ownedTupleIsFree (.ref z) >>= _) _ _ _
  refine wpAny_bind ?_
  unfold Builtin.SmallTypes.ownedTupleIsFree
  refine wpAny_bind (wpAny_field hz rfl (x := .none) rfl (wpAny_pure ?_))
  simp only [if_true]
  refine wpAny_bind (wpAny_rule ?_)
  refine wpAny_bind (wpAny_field hz rfl (x := .ref TO) rfl ?_)
  refine wpAny_bind (wpAny_setField_rec hz (by simp) fun h₁ hz₁ hs₁ => ?_)
  replace hz₁ : IsZip h₁ z TI TO .ellipsis := hz₁
  refine wpAny_bind ?_
  simp only [List.zipIdx_cons, List.zipIdx_nil, List.forIn_cons, List.forIn_nil]

  refine wpAny_bind (wpAny_bind (wpAny_onRaise ?_))
  show wpAny _ _ (Builtin.SmallTypes.nextOf (.ref i1) >>= _) _ _ _
  refine wpAny_bind (nextOf_S_item (h1.extBut hs₁.extBut D.i1z) (hl1.extBut hs₁.extBut D.l1z) hx fun h₂ h1₂ hs₂ => wpAny_pure ?_)
  have hTO₂ : IsPair h₂ TO a b := hs₂.extBut _ _ D.TOi1 (hs₁.extBut _ _ D.TOz hTO)
  refine wpAny_bind (wpAny_seqItems hTO₂ rfl ?_)
  refine wpAny_bind (wpAny_updateSeq_pair hTO₂ fun h₃ hTO₃ hs₃ => ?_)
  replace hTO₃ : IsPair h₃ TO x b := hTO₃
  refine wpAny_bind (wpAny_letGo (wpAny_pure ?_))

  refine wpAny_bind (wpAny_bind (wpAny_onRaise ?_))
  show wpAny _ _ (Builtin.SmallTypes.nextOf (.ref i2) >>= _) _ _ _
  refine wpAny_bind (nextOf_S_item (((h2.extBut hs₁.extBut D.i2z).extBut hs₂.extBut D.i12.symm).extBut hs₃.extBut D.TOi2.symm)
    (((hl2.extBut hs₁.extBut D.l2z).extBut hs₂.extBut D.l2i1).extBut hs₃.extBut D.l2TO) hy fun h₄ h2₄ hs₄ => wpAny_pure ?_)
  have hTO₄ : IsPair h₄ TO x b := hs₄.extBut _ _ D.TOi2 hTO₃
  refine wpAny_bind (wpAny_seqItems hTO₄ rfl ?_)
  refine wpAny_bind (wpAny_updateSeq_pair hTO₄ fun h₅ hTO₅ hs₅ => ?_)
  replace hTO₅ : IsPair h₅ TO x y := hTO₅
  refine wpAny_bind (wpAny_letGo (wpAny_pure (wpAny_pure ?_)))

  refine wpAny_bind (wpAny_seqItems hTO₅ rfl ?_)
  refine wpAny_bind (wpAny_newTuple ?_)
  have hsz : h₅.objs.size = s.heap.objs.size := by rw [hs₅.1, hs₄.1, hs₃.1, hs₂.1, hs₁.1]
  have hz₅ : IsZip h₅ z TI TO .ellipsis := hs₅.extBut _ _ D.TOz.symm (hs₄.extBut _ _ D.i2z.symm (hs₃.extBut _ _ D.TOz.symm (hs₂.extBut _ _ D.i1z.symm hz₁)))
  have hk₅ : ∀ c o, c ≠ z → c ≠ TO → c ≠ i1 → c ≠ i2 → s.heap.get? c = some o → h₅.get? c = some o := fun c o c1 c2 c3 c4 e =>
    hs₅.extBut _ _ c2 (hs₄.extBut _ _ c4 (hs₃.extBut _ _ c2 (hs₂.extBut _ _ c3 (hs₁.extBut _ _ c1 e))))
  have h1₅ : SIter t1 h₅ i1 l1 (k1 + 1) := ((h1₂.extBut hs₃.extBut D.TOi1.symm).extBut hs₄.extBut D.i12).extBut hs₅.extBut D.TOi1.symm
  have h2₅ : SIter t2 h₅ i2 l2 (k2 + 1) := h2₄.extBut hs₅.extBut D.TOi2.symm
  have hzlt : z < h₅.objs.size := Heap.lt_size hz₅
  have hTOlt : TO < h₅.objs.size := Heap.lt_size hTO₅
  have hi1lt : i1 < h₅.objs.size := by exact h1₅.lt
  have hi2lt : i2 < h₅.objs.size := by exact h2₅.lt
  show wpAny _ _ (Builtin.SmallTypes.ownedTupleHandOut (.ref z) (.ref h₅.objs.size) >>= _) _ _ _
  refine wpAny_bind ?_
  unfold Builtin.SmallTypes.ownedTupleHandOut
  have hz₆ : IsZip (h₅.push { cls := .type "tuple", data := .seq #[x, y] }) z TI TO .ellipsis := Heap.get?_push_of_some _ hz₅
  refine wpAny_bind (wpAny_setField_rec hz₆ (by simp) fun h₇ hz₇ hs₇ => ?_)
  replace hz₇ : IsZip h₇ z TI TO (rawInt h₅.objs.size) := hz₇
  refine wpAny_setField_rec hz₇ (by simp) fun h₈ hz₈ hs₈ => ?_
  replace hz₈ : IsZip h₈ z TI TO (rawInt h₅.objs.size) := hz₈
  have up : ∀ c o, c ≠ z → h₅.get? c = some o → h₈.get? c = some o := fun c o c1 e => hs₈.extBut _ _ c1 (hs₇.extBut _ _ c1 (Heap.get?_push_of_some _ e))
  have hT₈ : IsPair h₈ h₅.objs.size x y := hs₈.extBut _ _ (Nat.ne_of_gt hzlt) (hs₇.extBut _ _ (Nat.ne_of_gt hzlt) (Heap.get?_push_size _ rfl))
  have hz8 : h₈.objs.size = h₅.objs.size + 1 := by rw [hs₈.1, hs₇.1, Heap.size_push]
  rw [hsz] at hz₈ hT₈ hz8
  refine wpAny_pure ⟨_, rfl, ?_⟩
  show Q (.ref h₅.objs.size) _
  rw [hsz]
  exact hQ h₈ hz₈ (up _ _ D.TOz hTO₅) (h1₅.at fun o e => up _ o D.i1z e) (h2₅.at fun o e => up _ o D.i2z e) hT₈ hz8 fun c o c1 c2 c3 c4 e => up c o c1 (hk₅ c o c1 c2 c3 c4 e)

theorem zipS_next_end {t1 t2 : Bool} {z TI TO i1 i2 l1 l2 : Addr} {k1 k2 : Nat} {xs ys : Array Value} {a b : Value} {Q : Fin → Shared → Prop} (hh : A.handled = none) (D : ZipApart z TI TO i1 i2 l1 l2)
    (hz : IsZip s.heap z TI TO .none) (hTI : IsPair s.heap TI (.ref i1) (.ref i2)) (hTO : IsPair s.heap TO a b)
    (h1 : SIter t1 s.heap i1 l1 k1) (h2 : SIter t2 s.heap i2 l2 k2) (hl1 : SSeq t1 s.heap l1 xs) (hl2 : SSeq t2 s.heap l2 ys) (hend : xs[k1]? = none ∨ ys[k2]? = none)
    (hE : ∀ h' e, (∀ c o, c ≠ z → c ≠ TO → c ≠ i1 → c ≠ i2 → s.heap.get? c = some o → h'.get? c = some o) → (∃ o, h'.get? e = some o ∧ o.cls = .type "StopIteration") → E (.ref e) { s with heap := h' }) :
    wpAny (model prog w) A (Builtin.«zip.__next__» ⟨[.ref z], []⟩) Q E s := by
  show wpAny _ _ (field (.ref z) 2 >>= _) _ _ _
  refine wpAny_bind (wpAny_field hz rfl (x := .bool false) rfl ?_)
  show wpAny _ _ (field (.ref z) 3 >>= _) _ _ _
  refine wpAny_bind (wpAny_field hz rfl (x := .ref TI) rfl ?_)
  refine wpAny_bind (wpAny_seqItems hTI rfl ?_)
  show wpAny _ _ (Builtin.SmallTypes.ownedTupleIsFree (.ref z) >>= _) _ _ _
  refine wpAny_bind ?_
  unfold Builtin.SmallTypes.ownedTupleIsFree
  refine wpAny_bind (wpAny_field hz rfl (x := .none) rfl (wpAny_pure ?_))
  simp only [if_true]
  refine wpAny_bind (wpAny_rule ?_)
  refine wpAny_bind (wpAny_field hz rfl (x := .ref TO) rfl ?_)
  refine wpAny_bind (wpAny_setField_rec hz (by simp) fun h₁ hz₁ hs₁ => ?_)
  replace hz₁ : IsZip h₁ z TI TO .ellipsis := hz₁
  refine wpAny_bind ?_
  simp only [List.zipIdx_cons, List.zipIdx_nil, List.forIn_cons, List.forIn_nil]
  refine wpAny_bind (wpAny_bind (wpAny_onRaise ?_))
  show wpAny _ _ (Builtin.SmallTypes.nextOf (.ref i1) >>= _) _ _ _
  cases hx : xs[k1]? with
  | none =>
    refine wpAny_bind (nextOf_S_end hh (h1.extBut hs₁.extBut D.i1z) (hl1.extBut hs₁.extBut D.l1z) hx fun h₂ e hs₂ he => ?_)
    obtain ⟨oe, hoe, hce⟩ := he
    have hz₂ : IsZip h₂ z TI TO .ellipsis := hs₂ _ _ D.i1z.symm hz₁
    have hez : e ≠ z := fun x => by subst x; rw [hz₂] at hoe; cases hoe; simp at hce
    refine wpAny_setField_rec hz₂ (by simp) fun h₃ _ hs₃ => hE h₃ e (fun c o c1 _ c3 _ x => hs₃.extBut _ _ c1 (hs₂ _ _ c3 (hs₁.extBut _ _ c1 x))) ⟨oe, hs₃.extBut _ _ hez hoe, hce⟩
  | some x =>
    have hy : ys[k2]? = none := by rcases hend with h | h; rw [hx] at h; cases h; exact h
    refine wpAny_bind (nextOf_S_item (h1.extBut hs₁.extBut D.i1z) (hl1.extBut hs₁.extBut D.l1z) hx fun h₂ h1₂ hs₂ => wpAny_pure ?_)
    have hTO₂ : IsPair h₂ TO a b := hs₂.extBut _ _ D.TOi1 (hs₁.extBut _ _ D.TOz hTO)
    refine wpAny_bind (wpAny_seqItems hTO₂ rfl ?_)
    refine wpAny_bind (wpAny_updateSeq_pair hTO₂ fun h₃ hTO₃ hs₃ => ?_)
    refine wpAny_bind (wpAny_letGo (wpAny_pure ?_))
    refine wpAny_bind (wpAny_bind (wpAny_onRaise ?_))
    show wpAny _ _ (Builtin.SmallTypes.nextOf (.ref i2) >>= _) _ _ _
    refine wpAny_bind (nextOf_S_end hh (((h2.extBut hs₁.extBut D.i2z).extBut hs₂.extBut D.i12.symm).extBut hs₃.extBut D.TOi2.symm)
      (((hl2.extBut hs₁.extBut D.l2z).extBut hs₂.extBut D.l2i1).extBut hs₃.extBut D.l2TO) hy fun h₄ e hs₄ he => ?_)
    obtain ⟨oe, hoe, hce⟩ := he
    have hz₄ : IsZip h₄ z TI TO .ellipsis := hs₄ _ _ D.i2z.symm (hs₃.extBut _ _ D.TOz.symm (hs₂.extBut _ _ D.i1z.symm hz₁))
    have hez : e ≠ z := fun x => by subst x; rw [hz₄] at hoe; cases hoe; simp at hce
    refine wpAny_setField_rec hz₄ (by simp) fun h₅ _ hs₅ => hE h₅ e (fun c o c1 c2 c3 c4 x => hs₅.extBut _ _ c1 (hs₄ _ _ c4 (hs₃.extBut _ _ c2 (hs₂.extBut _ _ c3 (hs₁.extBut _ _ c1 x))))) ⟨oe, hs₅.extBut _ _ hez hoe, hce⟩

theorem pyNext_zipS_item {t1 t2 : Bool} {z TI TO i1 i2 l1 l2 : Addr} {k1 k2 : Nat} {xs ys : Array Value} {x y a b : Value} {Q : Option Value → Shared → Prop} (D : ZipApart z TI TO i1 i2 l1 l2)
    (hz : IsZip s.heap z TI TO .none) (hTI : IsPair s.heap TI (.ref i1) (.ref i2)) (hTO : IsPair s.heap TO a b)
    (h1 : SIter t1 s.heap i1 l1 k1) (h2 : SIter t2 s.heap i2 l2 k2) (hl1 : SSeq t1 s.heap l1 xs) (hl2 : SSeq t2 s.heap l2 ys) (hx : xs[k1]? = some x) (hy : ys[k2]? = some y)
    (hQ : ∀ h', IsZip h' z TI TO (rawInt s.heap.objs.size) → IsPair h' TO x y → SIter t1 h' i1 l1 (k1 + 1) → SIter t2 h' i2 l2 (k2 + 1) → IsPair h' s.heap.objs.size x y → h'.objs.size = s.heap.objs.size + 1 →
      (∀ c o, c ≠ z → c ≠ TO → c ≠ i1 → c ≠ i2 → s.heap.get? c = some o → h'.get? c = some o) → Q (some (.ref s.heap.objs.size)) { s with heap := h' }) :
    wpAny (model prog w) A (pyNext (.ref z)) Q E s := by
  have hT : s.TypeIs (.ref z) "zip" := ⟨_, hz, rfl⟩
  unfold pyNext
  exact wpAny_bind (wpAny_attempt (wpAny_callSpecial?_slot (name := Str.ofString "__next__") hT F.slot_zip_next
    (wpAny_call_entry F.slot_zip_next hT F.entry_zip_next
      (zipS_next_item D hz hTI hTO h1 h2 hl1 hl2 hx hy fun h' a1 a2 a3 a4 a5 a6 a7 => wpAny_pure (hQ h' a1 a2 a3 a4 a5 a6 a7)) (F.args_zip_next_1 _))))

theorem pyNext_zipS_end {t1 t2 : Bool} {z TI TO i1 i2 l1 l2 : Addr} {k1 k2 : Nat} {xs ys : Array Value} {a b : Value} {Q : Option Value → Shared → Prop} (hh : A.handled = none) (D : ZipApart z TI TO i1 i2 l1 l2)
    (hz : IsZip s.heap z TI TO .none) (hTI : IsPair s.heap TI (.ref i1) (.ref i2)) (hTO : IsPair s.heap TO a b)
    (h1 : SIter t1 s.heap i1 l1 k1) (h2 : SIter t2 s.heap i2 l2 k2) (hl1 : SSeq t1 s.heap l1 xs) (hl2 : SSeq t2 s.heap l2 ys) (hend : xs[k1]? = none ∨ ys[k2]? = none)
    (hQ : ∀ h', (∀ c o, c ≠ z → c ≠ TO → c ≠ i1 → c ≠ i2 → s.heap.get? c = some o → h'.get? c = some o) → Q none { s with heap := h' }) : wpAny (model prog w) A (pyNext (.ref z)) Q E s := by
  have hT : s.TypeIs (.ref z) "zip" := ⟨_, hz, rfl⟩
  unfold pyNext
  refine wpAny_bind (wpAny_attempt (wpAny_callSpecial?_slot (name := Str.ofString "__next__") hT F.slot_zip_next
    (wpAny_call_entry F.slot_zip_next hT F.entry_zip_next (zipS_next_end hh D hz hTI hTO h1 h2 hl1 hl2 hend fun h' e hk he => ?_) (F.args_zip_next_1 _))))
  obtain ⟨o, ho, hc⟩ := he
  refine wpAny_bind (wpAny_isInstance (T := "StopIteration") (b := true) ⟨o, ho, hc⟩ isSubtype_stop ?_)
  exact wpAny_pure (hQ _ hk)
end


abbrev zH1 (t1 : Bool) (h : Heap) (l1 : Addr) : Heap := h.push { cls := .type (itName t1), data := .fields #[.ref l1, .int 0 0] }
abbrev zH2 (t1 t2 : Bool) (h : Heap) (l1 l2 : Addr) : Heap := (zH1 t1 h l1).push { cls := .type (itName t2), data := .fields #[.ref l2, .int 0 0] }
abbrev zH3 (t1 t2 : Bool) (h : Heap) (l1 l2 : Addr) : Heap := (zH2 t1 t2 h l1 l2).push { cls := .type "tuple", data := .seq #[.ref h.objs.size, .ref (zH1 t1 h l1).objs.size] }
abbrev zH4 (t1 t2 : Bool) (h : Heap) (l1 l2 : Addr) : Heap := (zH3 t1 t2 h l1 l2).push { cls := .type "tuple", data := .seq #[.none, .none] }
abbrev zH5 (t1 t2 : Bool) (h : Heap) (l1 l2 : Addr) : Heap := (zH4 t1 t2 h l1 l2).push { cls := .type "zip", data := .fields #[.none, .bool false, .bool false, .ref (zH2 t1 t2 h l1 l2).objs.size, .ref (zH3 t1 t2 h l1 l2).objs.size] }
theorem meets_zipS (t1 t2 : Bool) (l1 l2 : Addr) (xs ys : Array Value) :
    Meets (Builtin.«zip.__new__» ⟨[.type "zip", .ref l1, .ref l2], []⟩) (fun _ R s => SSeq t1 s.heap l1 xs ∧ SSeq t2 s.heap l2 ys ∧
      R (.ok (.ret (.ref (zH4 t1 t2 s.heap l1 l2).objs.size))) { s with heap := zH5 t1 t2 s.heap l1 l2 }) := by
  cases t1 with
  | true => cases t2 with
    | true => exact RZ.meets_zipT_new l1 l2 xs ys
    | false =>
        refine .of_wp fun prog w A R s h => ?_
        obtain ⟨hp, g, d, tk, os⟩ := s; obtain ⟨hl1, hl2, h⟩ := h
        have hsub := sub_zip
        have hL1 : Heap.IsTuple (Shared.heap ⟨hp, g, d, tk, os⟩) l1 xs := hl1
        have hL2 : Heap.IsList (Shared.heap ⟨hp.push { cls := .type "tuple_iterator", data := .fields #[.ref l1, .int 0 0] }, g, d, tk, os⟩) l2 ys := Heap.IsList.push hl2 _
        wp_walk using wpAny_pyIter_tuple hL1, wpAny_pyIter_list hL2
        exact ⟨_, rfl, h⟩
  | false => cases t2 with
    | false => exact meets_zip_new l1 l2 xs ys
    | true =>
        refine .of_wp fun prog w A R s h => ?_
        obtain ⟨hp, g, d, tk, os⟩ := s; obtain ⟨hl1, hl2, h⟩ := h
        have hsub := sub_zip
        have hL1 : Heap.IsList (Shared.heap ⟨hp, g, d, tk, os⟩) l1 xs := hl1
        have hL2 : Heap.IsTuple (Shared.heap ⟨hp.push { cls := .type "list_iterator", data := .fields #[.ref l1, .int 0 0] }, g, d, tk, os⟩) l2 ys := Heap.IsTuple.push hl2 _
        wp_walk using wpAny_pyIter_list hL1, wpAny_pyIter_tuple hL2
        exact ⟨_, rfl, h⟩
section
variable {prog : Program} {w : World} {A : Around} {E : Value → Shared → Prop} {s : Shared}
theorem call_zipS {t1 t2 : Bool} {l1 l2 : Addr} {xs ys : Array Value} {Q : Value → Shared → Prop} (hl1 : SSeq t1 s.heap l1 xs) (hl2 : SSeq t2 s.heap l2 ys)
    (h : ∀ h', IsZip h' (s.heap.objs.size + 4) (s.heap.objs.size + 2) (s.heap.objs.size + 3) .none → IsPair h' (s.heap.objs.size + 2) (.ref s.heap.objs.size) (.ref (s.heap.objs.size + 1)) →
      IsPair h' (s.heap.objs.size + 3) .none .none → SIter t1 h' s.heap.objs.size l1 0 → SIter t2 h' (s.heap.objs.size + 1) l2 0 → h'.objs.size = s.heap.objs.size + 5 →
      (∀ c o, s.heap.get? c = some o → h'.get? c = some o) → Q (.ref (s.heap.objs.size + 4)) { s with heap := h' }) :
    wpAny (model prog w) A (call (.type "zip") [.ref l1, .ref l2]) Q E s := by
  refine callType_new F.called_zip (by decide) (F.typeCall_zip_2 _ _) (F.newCall_zip_2 _ _) (fun obj => F.args_object_init_3 obj _ _) F.entry_zip_new
    (meets_zipS t1 t2 l1 l2 xs ys) ⟨hl1, hl2, ?_⟩
  have z1 : (zH1 t1 s.heap l1).objs.size = s.heap.objs.size + 1 := Heap.size_push ..
  have z2 : (zH2 t1 t2 s.heap l1 l2).objs.size = s.heap.objs.size + 2 := by rw [Heap.size_push, z1]
  have z3 : (zH3 t1 t2 s.heap l1 l2).objs.size = s.heap.objs.size + 3 := by rw [Heap.size_push, z2]
  have z4 : (zH4 t1 t2 s.heap l1 l2).objs.size = s.heap.objs.size + 4 := by rw [Heap.size_push, z3]
  have z5 : (zH5 t1 t2 s.heap l1 l2).objs.size = s.heap.objs.size + 5 := by rw [Heap.size_push, z4]
  have g5 : (zH5 t1 t2 s.heap l1 l2).get? (zH4 t1 t2 s.heap l1 l2).objs.size = some _ := Heap.get?_push_size _ rfl
  have g4 : (zH5 t1 t2 s.heap l1 l2).get? (zH3 t1 t2 s.heap l1 l2).objs.size = some _ := Heap.get?_push_of_some _ (Heap.get?_push_size _ rfl)
  have g3 : (zH5 t1 t2 s.heap l1 l2).get? (zH2 t1 t2 s.heap l1 l2).objs.size = some _ := Heap.get?_push_of_some _ (Heap.get?_push_of_some _ (Heap.get?_push_size _ rfl))
  have g2 : (zH5 t1 t2 s.heap l1 l2).get? (zH1 t1 s.heap l1).objs.size = some _ := Heap.get?_push_of_some _ (Heap.get?_push_of_some _ (Heap.get?_push_of_some _ (Heap.get?_push_size _ rfl)))
  have g1 : (zH5 t1 t2 s.heap l1 l2).get? s.heap.objs.size = some _ := Heap.get?_push_of_some _ (Heap.get?_push_of_some _ (Heap.get?_push_of_some _ (Heap.get?_push_of_some _ (Heap.get?_push_size _ rfl))))
  show _ ∧ _
  rw [z2, z3, z4] at g5
  rw [z1, z2] at g3
  rw [z3] at g4
  rw [z1] at g2
  rw [z4]
  exact ⟨⟨_, g5, rfl⟩, h _ g5 g3 g4 (by cases t1 <;> exact ⟨_, g1, rfl, rfl⟩) (by cases t2 <;> exact ⟨_, g2, rfl, rfl⟩) z5 fun c o x =>
    Heap.get?_push_of_some _ (Heap.get?_push_of_some _ (Heap.get?_push_of_some _ (Heap.get?_push_of_some _ (Heap.get?_push_of_some _ x))))⟩
end
end RZM
namespace RZM
open PySem PySem.Spec PyProof.Rows L2
def SqS (t : Bool) (K : PySem.W.Frag) (H : Hp) (a : Addr) (xs : List V) : Prop := match t with
  | true => SqT K H a xs
  | false => SqL K H a xs
theorem sq_ok {X : Cx} {pins : List (Addr × Obj)} {σ : L2.St} {H : Hp} {s : Shared} {t : Bool} {a : Addr} {xs : List V} (I : Inv X pins σ H s) (h : SqS t X.K H a xs) : ∃ its : List Value, Vals xs its ∧ SSeq t s.heap a its.toArray ∧ xs.length ≤ sizeLine := by
  cases t with
  | true =>
    obtain ⟨its, r, p, z⟩ := I.tuple h
    exact ⟨its, r, (show s.heap.IsTuple a its.toArray from p), z⟩
  | false =>
    obtain ⟨its, r, p, z⟩ := I.list h
    exact ⟨its, r, p.isList, z⟩
theorem sq_inj {X : Cx} {pins : List (Addr × Obj)} {σ : L2.St} {H : Hp} {s : Shared} {t : Bool} {a : Addr} {xs ys : List V} (I : Inv X pins σ H s) (h : SqS t X.K H a xs) (h' : SqS t X.K H a ys) : xs = ys := by
  cases t with
  | true => exact I.tuple_inj h h'
  | false => exact I.list_inj h h'
def ItzS (t1 t2 : Bool) (K : PySem.W.Frag) (a b : Addr) : It :=
  ⟨fun i H => ∃ (xs ys : List V) (x y : V), SqS t1 K H a xs ∧ SqS t2 K H b ys ∧ xs[i]? = some x ∧ ys[i]? = some y,
    fun i H v H' => ∃ T x y, v = .ref T ∧ H T = none ∧ H' = upd H T (.tup [x, y]) ∧ (∀ xs, SqS t1 K H a xs → xs[i]? = some x) ∧ ∀ ys, SqS t2 K H b ys → ys[i]? = some y,
    fun i H => ∃ xs ys : List V, SqS t1 K H a xs ∧ SqS t2 K H b ys ∧ (xs.length ≤ i ∨ ys.length ≤ i)⟩
theorem turn_zipS {t1 t2 : Bool} {P : Program} {w : World} {K : PySem.W.Frag} {elts : List Expr} {kk : Nat} {tpos : Pos} {a b z TI TO i1 i2 : Addr} (D : ZipApart z TI TO i1 i2 a b) :
    Turn P w K (.Tuple elts kk tpos) (ItzS t1 t2 K a b) [z, TI, TO, i1, i2] z (fun i h => IsZip h z TI TO .none ∧ IsPair h TI (.ref i1) (.ref i2) ∧ (∃ x y, IsPair h TO x y) ∧ SIter t1 h i1 a i ∧ SIter t2 h i2 b i) where
  mem := by simp
  obj := fun i h st c hc => by
    obtain ⟨hz, hTI, ⟨x, y, hTO⟩, h1, h2⟩ := st
    obtain ⟨o1, e1, d1⟩ := h1.obj
    obtain ⟨o2, e2, d2⟩ := h2.obj
    have e' : c = z ∨ c = TI ∨ c = TO ∨ c = i1 ∨ c = i2 := by simpa using hc
    rcases e' with q | q | q | q | q
    · rw [q]; exact ⟨_, hz, fun v q => nomatch q⟩
    · rw [q]; exact ⟨_, hTI, fun v q => nomatch q⟩
    · rw [q]; exact ⟨_, hTO, fun v q => nomatch q⟩
    · rw [q]; exact ⟨o1, e1, d1⟩
    · rw [q]; exact ⟨o2, e2, d2⟩
  keep := fun i h h' st k => by
    obtain ⟨hz, hTI, ⟨x, y, hTO⟩, h1, h2⟩ := st
    exact ⟨k z (by simp) _ hz, k TI (by simp) _ hTI, ⟨x, y, k TO (by simp) _ hTO⟩, h1.at fun o q => k i1 (by simp) o q, h2.at fun o q => k i2 (by simp) o q⟩
  item := by
    intro X hP hw hK hc i pins s σ H E I hf st hg
    subst hP hw hK
    obtain ⟨hz, hTI, ⟨x0, y0, hTO⟩, h1, h2⟩ := st
    obtain ⟨xs, ys, x, y, hqx, hqy, hx, hy⟩ := hg
    obtain ⟨its, rv, p, _⟩ := sq_ok I hqx
    obtain ⟨its2, rv2, p2, _⟩ := sq_ok I hqy
    obtain ⟨u, hu, ru⟩ := rv.get hx
    obtain ⟨u2, hu2, ru2⟩ := rv2.get hy
    have hzl : z < s.heap.objs.size := Heap.lt_size hz
    refine pyNext_zipS_item D hz hTI hTO h1 h2 p p2 (x := u) (y := u2) (by simpa using hu) (by simpa using hu2) fun h' z' TO' h1' h2' hT hsz hk => ?_
    refine ⟨_, rfl, wpAny_letOwnedTupleGo_zip (s := { s with heap := h' }) z' fun h'' z'' sb => ?_⟩
    have hT2 : h''.get? s.heap.objs.size = some { cls := .type "tuple", data := .seq #[u, u2] } := (sb.2 _ (Nat.ne_of_gt hzl)).trans hT
    have new : ObjOk X.prog X.w (upd H s.heap.objs.size (.tup [x, y])) h'' s.heap.objs.size (.tup [x, y]) :=
      ⟨by show 2 ≤ sizeLine; decide, [u, u2], .cons ru (.cons ru2 .nil), ⟨_, hT2, rfl, _, rfl⟩⟩
    have I1 : Inv X pins σ (upd H s.heap.objs.size (.tup [x, y])) { s with heap := h'' } :=
      I.turnedNew (t' := s.toks) (ch := [z, TI, TO, i1, i2]) (fun c o hb q => (sb.2 c (fun q' => hb (by simp [q']))).trans (hk c o (fun q' => hb (by simp [q'])) (fun q' => hb (by simp [q'])) (fun q' => hb (by simp [q'])) (fun q' => hb (by simp [q'])) q)) hf (Nat.le_refl _) new
    refine ⟨.ref s.heap.objs.size, _, I1, rfl, ⟨_, x, y, rfl, I.hok.fresh (Nat.le_refl _), rfl, fun l hl => by rw [sq_inj I hl hqx]; exact hx, fun l hl => by rw [sq_inj I hl hqy]; exact hy⟩, ⟨z'', ?_, ⟨u, u2, ?_⟩, ?_, ?_⟩, fun c hcm => ?_⟩
    · exact (sb.2 _ D.TIz).trans (hk _ _ D.TIz D.TITO D.TIi1 D.TIi2 hTI)
    · exact (sb.2 _ D.TOz).trans TO'
    · exact h1'.at fun o q => (sb.2 _ D.i1z).trans q
    · exact h2'.at fun o q => (sb.2 _ D.i2z).trans q
    · have hlt : c < s.heap.objs.size := by
        have e' : c = z ∨ c = TI ∨ c = TO ∨ c = i1 ∨ c = i2 := by simpa using hcm
        rcases e' with q | q | q | q | q
        · rw [q]; exact hzl
        · rw [q]; exact Heap.lt_size hTI
        · rw [q]; exact Heap.lt_size hTO
        · rw [q]; exact h1.lt
        · rw [q]; exact h2.lt
      rw [upd_ne (Nat.ne_of_lt hlt)]
      exact (hf c hcm).1
  done := by
    intro X hP hw hK hc i pins s σ H E I hf st hg
    subst hP hw hK
    obtain ⟨hz, hTI, ⟨x0, y0, hTO⟩, h1, h2⟩ := st
    obtain ⟨xs, ys, hqx, hqy, hend⟩ := hg
    obtain ⟨its, rv, p, _⟩ := sq_ok I hqx
    obtain ⟨its2, rv2, p2, _⟩ := sq_ok I hqy
    have l1 := rv.length
    have l2 := rv2.length
    have he : its.toArray[i]? = none ∨ its2.toArray[i]? = none := by
      rcases hend with q | q
      · exact .inl (by simp; omega)
      · exact .inr (by simp; omega)
    exact pyNext_zipS_end (I.ok.hd hc) D hz hTI hTO h1 h2 p p2 he fun h' hk => ⟨rfl, I.turnedL (t' := s.toks) (ch := [z, TI, TO, i1, i2]) (fun c o hb q =>
      hk c o (fun q' => hb (by simp [q'])) (fun q' => hb (by simp [q'])) (fun q' => hb (by simp [q'])) (fun q' => hb (by simp [q'])) q) hf⟩
  self := fun A i s Q E st h => wpAny_pyIter_zip st.1 h

/-- zip(e, e2), each a list or a tuple -/
def iZipS (K : PySem.W.Frag) (ta : TA) : TI := fun σ H R => ta σ H fun vs H1 => ∃ t1 t2 a b xs ys, vs = [.ref a, .ref b] ∧ SqS t1 K H1 a xs ∧ SqS t2 K H1 b ys ∧ R (ItzS t1 t2 K a b) H1
theorem sseq_lt {t : Bool} {h : Heap} {a : Addr} {its : Array Value} (x : SSeq t h a its) : a < h.objs.size := by
  cases t with
  | true =>
    obtain ⟨o, e, _⟩ := (show h.IsTuple a its from x)
    exact Heap.lt_size e
  | false =>
    obtain ⟨o, e, _⟩ := (show h.IsList a its from x)
    exact Heap.lt_size e
theorem pi_zipS {X : Cx} {e e2 : Expr} {ta : TA} {p pos tpos : Pos} {elts : List Expr} {kk : Nat} (hg : Gl X "zip") (hm : X.mg "zip" = none) (ha : PA X [e, e2] ta)
    (hs : starEach [e, e2] X.env = (false, eval e X.env) :: starEach [e2] X.env := by rfl) (hpl : (backTo pos (starEach [e2] X.env)).any (·.1) = false := by rfl) :
    PI X (.Tuple elts kk tpos) (.Call (.Name "zip" p) [e, e2] [] pos) (iZipS X.K ta) := by
  refine ⟨fun pins s σ H R I h => Call_ (ld_blt I hg hm PyProof.Rows.boot_zip (PyProof.Rows.callWith_type1 (thn (ha.run pos pins s σ H _ I h) fun us s1 ⟨vs, H1, I1, r1, t1, t2, a, b, xs, ys, ex, hqx, hqy, q⟩ => ?_) hs hpl))⟩
  subst ex
  obtain ⟨u1, u2, rfl, r, r'⟩ := vals2 r1
  cases r
  cases r'
  obtain ⟨its, rv, p1, _⟩ := sq_ok I1 hqx
  obtain ⟨its2, rv2, p2, _⟩ := sq_ok I1 hqy
  have fresh5 : ∀ c, c ∈ [s1.heap.objs.size + 4, s1.heap.objs.size + 2, s1.heap.objs.size + 3, s1.heap.objs.size, s1.heap.objs.size + 1] → FpOk X pins H1 c := fun c hcm => by
    have hle : s1.heap.objs.size ≤ c := by
      simp only [List.mem_cons, List.not_mem_nil, or_false] at hcm
      omega
    exact I1.fpOk hle (I1.hok.fresh hle)
  refine call_zipS p1 p2 fun h' hz hTI hTO h1 h2 hsz hk => wpAny_pyIter_zip hz ?_
  have I2 : Inv X pins σ H1 { s1 with heap := h' } := I1.kept (t' := s1.toks) hk
  exact ⟨s1.heap.objs.size + 4, [s1.heap.objs.size + 4, s1.heap.objs.size + 2, s1.heap.objs.size + 3, s1.heap.objs.size, s1.heap.objs.size + 1], _, _, H1, rfl, I2, turn_zipS (PySem.W.ktu_apart s1.heap.objs.size a b (sseq_lt p1) (sseq_lt p2)), ⟨hz, hTI, ⟨_, _, hTO⟩, h1, h2⟩, fresh5, q⟩
theorem for_zipS {t1 t2 : Bool} {K : PySem.W.Frag} {a b : Addr} {xs ys : List V} {g : TG} {tb : TS} {D : Ends} {σ : L2.St} {H : Hp} (hl : xs.length = ys.length) (Pv : Nat → L2.St → Hp → Prop) (h0 : Pv 0 σ H) (hq : ∀ i σ H, Pv i σ H → SqS t1 K H a xs ∧ SqS t2 K H b ys)
    (hs : ∀ (i : Nat) (x y : V) (T : Addr) (σ : L2.St) (H : Hp), xs[i]? = some x → ys[i]? = some y → Pv i σ H → H T = none → g (.ref T) σ (upd H T (.tup [x, y])) fun σ2 H2 => tb { D with nx := Pv (i + 1), ct := Pv (i + 1), bk := D.nx } σ2 H2) (hd : ∀ σ H, Pv xs.length σ H → D.nx σ H) :
    ∃ W : Nat → Nat → L2.St → Hp → Prop, (∃ m, W 0 m σ H) ∧ ∀ i m σ H, W i m σ H →
      ((ItzS t1 t2 K a b).stop i H ∧ D.nx σ H) ∨ ((ItzS t1 t2 K a b).go i H ∧ ∃ N : L2.St → Hp → Prop, (∀ σ' H', N σ' H' → ∃ m', m' < m ∧ W (i + 1) m' σ' H') ∧ ∀ v H', (ItzS t1 t2 K a b).yld i H v H' → g v σ H' fun σ2 H2 => tb { D with nx := N, ct := N, bk := D.nx } σ2 H2) := by
  refine ⟨fun i m σ H => m = xs.length - i ∧ i ≤ xs.length ∧ Pv i σ H, ⟨xs.length, rfl, Nat.zero_le _, h0⟩, ?_⟩
  rintro i m σ H ⟨rfl, hi, p⟩
  obtain ⟨qx, qy⟩ := hq i σ H p
  rcases Nat.lt_or_ge i xs.length with hlt | hge
  · refine .inr ⟨⟨xs, ys, _, _, qx, qy, List.getElem?_eq_getElem hlt, List.getElem?_eq_getElem (by omega)⟩, Pv (i + 1), fun σ' H' p' => ⟨xs.length - (i + 1), by omega, rfl, hlt, p'⟩, fun v H' y => ?_⟩
    obtain ⟨T, x', y', rfl, hT, rfl, f1, f2⟩ := y
    exact hs i x' y' T σ H (f1 xs qx) (f2 ys qy) p hT
  · have e : i = xs.length := by omega
    subst e
    exact .inl ⟨⟨xs, ys, qx, qy, Or.inl (Nat.le_refl _)⟩, hd σ H p⟩
end RZM
set_option Elab.async false
set_option linter.all false
set_option maxRecDepth 100000
set_option maxHeartbeats 4000000
/-! in, not in, index of tuples whose items are data of any depth; repr of data; isinstance of a caught error that has a dict -/
namespace TkS
open PySem PySem.Spec PyProof.Rows L2
section
variable {X : Cx}
def rInT (K : PySem.W.Frag) (neg : Bool) : R2 := fun x y H Q => ∃ d ds, Dp K H x d ∧ Dp K H y (.tuple ds) ∧ SeqAt.shaped d = true ∧ SeqAt.shaped (.tuple ds) = true ∧ Q (.bl (if neg then !ds.any fun z => PyData.eqv z d else ds.any fun z => PyData.eqv z d)) H
theorem room_tup {d : PyData} {ds : List PyData} (sd : SeqAt.shaped d = true) (hu : X.A.units + 65 < cLine) : X.A.units + 1 + min (PyData.depthAll ds) d.depth < cLine := by
  have h : d.depth ≤ 64 := by
    have z : (d.canLay0 && decide (d.depth ≤ 64)) = true := sd
    rw [Bool.and_eq_true] at z
    exact of_decide_eq_true z.2
  have := Nat.min_le_right (PyData.depthAll ds) d.depth
  omega
theorem lay_tup {ds : List PyData} (se : SeqAt.shaped (.tuple ds) = true) : PyData.canLayAll0 ds = true := SeqAt.canLay_of_shaped se
theorem op_inT (hu : X.A.units + 65 < cLine) : OpR X (compareOp .In) (rInT X.K false) := by
  intro pins s σ H x y v u Q I rx ry h
  obtain ⟨d, ds, hd, he, sd, se, q⟩ := h
  obtain ⟨as, r1⟩ := Dp.reads I d x v hd rx
  obtain ⟨bs, r2⟩ := Dp.reads I (.tuple ds) y u he ry
  exact SeqAt.in_tuple_reads r2 r1 (lay_tup se) (SeqAt.canLay_of_shaped sd) (room_tup sd hu) ⟨.bl _, H, I, rfl, q⟩
theorem op_notInT (hu : X.A.units + 65 < cLine) : OpR X (compareOp .NotIn) (rInT X.K true) := by
  intro pins s σ H x y v u Q I rx ry h
  obtain ⟨d, ds, hd, he, sd, se, q⟩ := h
  obtain ⟨as, r1⟩ := Dp.reads I d x v hd rx
  obtain ⟨bs, r2⟩ := Dp.reads I (.tuple ds) y u he ry
  exact SeqAt.notIn_tuple_reads r2 r1 (lay_tup se) (SeqAt.canLay_of_shaped sd) (room_tup sd hu) ⟨.bl _, H, I, rfl, q⟩
/-- t.index(x): the first place of an equal one -/
def rIxT (K : PySem.W.Frag) : V → List V → Hp → VK → Prop := fun x xs H Q => ∃ (a : Addr) (y : V) (d : PyData) (ds : List PyData) (j : Nat) (z : PyData), x = V.ref a ∧ xs = [y] ∧ Dp K H (V.ref a) (.tuple ds) ∧ Dp K H y d ∧
  SeqAt.shaped (.tuple ds) = true ∧ SeqAt.shaped d = true ∧ ds[j]? = some z ∧ PyData.eqv z d = true ∧ (∀ (m : Nat) (z' : PyData), m < j → ds[m]? = some z' → PyData.eqv z' d = false) ∧ Q (.int (j : Nat)) H
theorem mt_tupIx (hu : X.A.units + 65 < cLine) : MtR X "tuple.index" (rIxT X.K) := by
  intro pins s σ H x xs v us Q I rx rxs h
  obtain ⟨a, y, d, ds, j, z, rfl, rfl, hl, hy, sl, sd, hz, hzj, hno, q⟩ := h
  cases rx
  cases rxs with
  | cons ry rt =>
    rename_i uy ut
    cases rt
    obtain ⟨bs, r1⟩ := Dp.reads I d y uy hy ry
    have hxs : PyData.canLayAll0 ds = true := lay_tup sl
    cases hl with
    | tup hs ha =>
      obtain ⟨its, rv, ⟨⟨cls, dd, data, sls⟩, ho, hc, n, hdt⟩, hlen⟩ := I.tuple hs
      simp only at hc hdt
      subst hc hdt
      obtain ⟨as, h4⟩ := Dp.readsAll I ds _ its ha rv
      have hmap : its.map (SeqAt.readOf s.heap) = ds := SeqAt.readsAll_map ds its as hxs h4
      have hn : its.length = ds.length := SeqAt.ReadsAll.length ds its as h4
      obtain ⟨hjd, _⟩ := List.getElem?_eq_some_iff.mp hz
      have hj : j < its.toArray.size := by
        rw [List.size_toArray]
        omega
      have at_ : ∀ (m : Nat) (hm : m < its.toArray.size) (z' : PyData), ds[m]? = some z' → SeqAt.readOf s.heap its.toArray[m] = z' := by
        intro m hm z' hz'
        have hml : m < its.length := by simpa using hm
        rw [← hmap, List.getElem?_map, List.getElem?_eq_getElem hml] at hz'
        have e1 : SeqAt.readOf s.heap its[m] = z' := Option.some.inj hz'
        simpa using e1
      refine call_meets PySem.F.slot_tuple_index ⟨_, ho, rfl⟩ PySem.F.entry_tuple_index (PySem.F.args_tuple_index_2 _ _)
        (TI.tuple_indexAt a its.toArray n dd sls uy (fun u => PyData.eqv (SeqAt.readOf s.heap u) d) j hj ?_ ?_) ⟨ho, SeqAt.items_eqAt (vs := its.toArray) (show ReadsAll s.heap its.toArray.toList ds as from h4) r1 hxs (SeqAt.canLay_of_shaped sd) (room_tup sd hu), ?_⟩
      · show PyData.eqv (SeqAt.readOf s.heap its.toArray[j]) d = true
        rw [at_ j hj z hz]
        exact hzj
      · intro m hm hmj
        have hmd : m < ds.length := by omega
        have hz' : ds[m]? = some ds[m] := List.getElem?_eq_getElem hmd
        show PyData.eqv (SeqAt.readOf s.heap its.toArray[m]) d = false
        rw [at_ m hm _ hz']
        exact hno m _ hmj hz'
      · exact ⟨.int (j : Nat), H, I.tok _, ⟨_, rfl⟩, q⟩
/-- repr of a list or tuple of data: its text hangs on the data alone -/
def rReprD (K : PySem.W.Frag) : List V → Hp → VK → Prop := fun xs H Q => ∃ a d, xs = [.ref a] ∧ Dp K H (.ref a) d ∧ d.showable = true ∧ d.hasDict = false ∧ d.depth ≤ 60 ∧ d.shown.length ≤ sizeLine ∧ Q (.str d.shown) H
theorem call_reprD (hg : X.A.guards = some []) (hu : X.A.units + 65 < cLine) : CallR X (.builtin "repr") (rReprD X.K) := by
  intro pins s σ H xs us Q I r h
  obtain ⟨a, d, rfl, hd, h1, h2, h3, h4, q⟩ := h
  obtain ⟨u, rfl, ru⟩ := vals1 r
  obtain ⟨as, rd⟩ := Dp.reads I d (.ref a) u hd ru
  cases ru
  exact repr_of_reads' rd h1 (PyData.noDict_hsm h2) hg (by omega) (fun _ _ e => e) (fun h' u tk k => ⟨.str d.shown, H, I.kept (t' := tk) k, ⟨_, rfl⟩, q⟩) h4
end
end TkS
set_option Elab.async false
set_option linter.all false
set_option maxRecDepth 100000
set_option maxHeartbeats 4000000
namespace PySem.W
open PySem PySem.Spec PySem.Calls PyProof.Rows
section
variable {prog : Program} {w : World} {A : Around} {E : Value → Shared → Prop} {s : Shared} {K : Frag} {x D : Addr} {ox : Obj}
theorem kin_classD {od : Obj} {Q : Option Value → Shared → Prop} (hga : findIn K (.ref D) "__getattribute__" = some (some (.builtin "BaseException.__getattribute__"))) (hgt : findIn K (.ref D) "__getattr__" = some none) (hsub : subIn K (.ref D) (.type "BaseException") = some true)
    (hdct : hasDictIn K D = true) (ha : findIn K (.ref D) "__class__" = some (some (.builtin "object.__class__")))
    (hn : specialIn K (.builtin "object.__class__") "__get__" = some (some (.builtin "getset_descriptor.__get__"))) (htk : takesIn K (.builtin "object.__class__") = some true) (hm : mroIn K D (.type "object") = some true)
    (X : K.In s.heap) (I : InstAt s.heap x ox D (some od)) (h : Q (some (.ref D)) { s with toks := s.toks + 1 }) : wpAny (model prog w) A (getAttr? (.ref x) "__class__") Q E s := by
  have hf : findObj K D (some od) "__class__" = some (.bind (.builtin "getset_descriptor.__get__") (.builtin "object.__class__")) := findObj_data (by obtain ⟨cd, hc, _⟩ := any_some hdct; rw [hc]; rfl) ha hn htk
  obtain ⟨hp, g, d, t, os⟩ := s
  have L0 := I.type (M := model prog w)
  have L1 := looks_findIn (M := model prog w) X hga
  have L2 := looks_findIn (M := model prog w) X hgt
  have L3 := looks_find (M := model prog w) X I hf
  have sub : Looks (model prog w) hp (isInstance (.ref x) (.type "BaseException")) true := L0.andThen (looks_subIn X hsub)
  have hx0 : (false && onTheHeap (Value.builtin "BaseException.__getattribute__")) = false := rfl
  have hx2 : (Value.builtin "BaseException.__getattribute__" == Value.builtin "object.__getattribute__") = false := by decide +kernel
  have hx1 : (onTheHeap (Value.ref D) && Value.builtin "BaseException.__getattribute__" == Value.builtin "object.__getattribute__") = false := by rw [hx2]; rfl
  unfold getAttr? getAttrBy? getAttrBy
  refine wpAny_bind (wpAny_mkText (wpAny_bind (wpAny_attempt (wpAny_holding (wpAny_bind (L0.at (wpAny_bind (L1.at ?_))))))))
  show wpAny _ _ (if (onTheHeap (Value.ref D) && Value.builtin "BaseException.__getattribute__" == Value.builtin "object.__getattribute__") = true then _ else _) _ _ _
  rw [hx1, if_neg Bool.false_ne_true]
  unfold getAttrByItsOwn hookBefore
  refine wpAny_bind ?_
  rw [if_pos (show onTheHeap (Value.ref D) = true from rfl)]
  refine L2.at ?_
  refine wpAny_bind (wpAny_attempt (wpAny_holding ?_))
  unfold callGetattribute
  rw [hx0, if_neg Bool.false_ne_true]
  unfold boundAndCalled
  rw [PySem.F.excAttr_ValueError.ga.bind (.ref x)]
  refine wpAny_bind (wpAny_pure ?_)
  show wpAny _ _ (call (.builtin "BaseException.__getattribute__") [.ref x, .str "__class__" t]) _ _ _
  refine wpAny_call (codeAny_call_builtin PySem.F.excAttr_ValueError.ga.plain PySem.F.entry_bexc_ga ?_)
  refine @check_slot (model prog w) _ _ ⟨hp, g, d, t + 1, os⟩ "BaseException.__getattribute__" "BaseException" "__getattribute__" (.ref x) [.str "__class__" t] [] _ (by decide +kernel) (by decide +kernel) sub (PySem.F.args_bexc_ga (.ref x) (.str "__class__" t)) ?_
  unfold Builtin.«object.__getattribute__»
  refine wpAny_bind (wpAny_of_eq (a := ((Value.ref x : Value), [Value.str "__class__" t])) (by first | rfl | (simp only [slotArgs]; rfl)) ?_)
  refine wpAny_bind (wpAny_pure (wpAny_bind (L0.at (wpAny_bind (L3.at ?_)))))
  show wpAny _ _ (holding [Value.builtin "object.__class__"] (call (.builtin "getset_descriptor.__get__") [.builtin "object.__class__", .ref x, .ref D]) >>= ret) _ _ _
  refine wpAny_bind (wpAny_holding (wpAny_call (class_get (s := ⟨hp, g, d, t + 1, os⟩) (ox := ox) (od := some od) X I hm ?_)))
  refine wpAny_pure ?_
  show wpAny _ _ (handedOut (.ref D)) _ _ _
  rw [handedOut_of (v := .ref D) rfl]
  first
    | exact wpAny_pure (wpAny_pure h)
    | exact wpAny_pure h
    | exact wpAny_pure (wpAny_bind (wpAny_pure (wpAny_pure h)))
theorem kitx_excD (hga : findIn K (.ref D) "__getattribute__" = some (some (.builtin "BaseException.__getattribute__"))) (hgt : findIn K (.ref D) "__getattr__" = some none) (hsub : subIn K (.ref D) (.type "BaseException") = some true) (hdct : hasDictIn K D = true) (ha : findIn K (.ref D) "__class__" = some (some (.builtin "object.__class__")))
    (hn : specialIn K (.builtin "object.__class__") "__get__" = some (some (.builtin "getset_descriptor.__get__"))) (htk : takesIn K (.builtin "object.__class__") = some true) (hm : mroIn K D (.type "object") = some true) :
    KitX K (.ref x) (.ref D) (fun h => ∃ od, InstAt h x ox D (some od)) where
  ty := fun _ _ _ I => I.elim fun _ J => J.type
  it := fun _ _ X _ => by
    obtain ⟨cdD, hcD, _⟩ := any_some hdct
    unfold clsIn at hcD
    split at hcD
    · rename_i c' d' cd' sl' ho
      intro A' Q' E' s' k q
      unfold isType loadHead
      exact wpAny_bind (wpAny_loadPart (k _ _ (X _ _ ho)) (wpAny_pure q))
    · cases hcD
  ne := fun h tp dd its n sl X htp => by
    obtain ⟨cdD, hcD, _⟩ := any_some hdct
    refine Bool.eq_false_iff.mpr fun q => ?_
    have e : D = tp := Value.ref.inj (beq_iff_eq.mp q)
    subst e
    unfold clsIn at hcD
    split at hcD
    · rename_i c' d' cd' sl' ho
      have z := (X _ _ ho).symm.trans htp
      cases z
    · cases hcD
  ca := fun X I k => I.elim fun _ J => kin_classD hga hgt hsub hdct ha hn htk hm X J k
end
end PySem.W
namespace TkS
open PySem PySem.Spec PyProof.Rows L2
/-- isinstance(e, c), e the error that the suite holds, which has a dict -/
def rIsD (K : PySem.W.Frag) (D a : Addr) (cls : Value) (d : Option Addr) : List V → Hp → VK → Prop := fun xs H Q => cls = .ref D ∧ ∃ (dd : Addr) (fs : List (Str × V)) (c : V) (cv : Value) (b : Bool), d = some dd ∧ H dd = some (.xd fs) ∧ xs = [.ref a, c] ∧ (∀ u, RelV c u → u = cv) ∧ PySem.W.kitOne K (.ref D) cv = some b ∧ Q (.bl b) H
theorem call_isD {X : Cx} {a D : Addr} {oe : Obj} {cls : Value} {d : Option Addr} {pn : List (Addr × Obj)} (C : ExcC X.K D) (hz : Zc cls d oe) (hf : ∃ vs, oe.data = .fields vs) : CallR (X.suite a ((a, oe) :: pn)) (.builtin "isinstance") (rIsD X.K D a cls d) := by
  intro pins s σ H xs us Q I r h
  obtain ⟨rfl, dd, fs, c, cv, b, rfl, ea, rfl, hcv, e, q⟩ := h
  obtain ⟨u1, u2, rfl, r1, r2⟩ := vals2 r
  cases r1
  have ec := hcv _ r2
  subst ec
  obtain ⟨hget, _⟩ := I.pin (a, oe) (List.mem_append_left _ List.mem_cons_self)
  obtain ⟨vs, hv⟩ := hf
  have hx : ObjOk X.prog X.w H s.heap dd (.xd fs) := I.hok dd _ ea
  obtain ⟨mA, hns, hr⟩ := hx
  obtain ⟨od, ho, hl⟩ := lookIn_ns hns
  have J : PySem.W.InstAt s.heap a oe D (some od) := ⟨hget, hz.1, by unfold PySem.W.notCls; rw [hv] <;> rfl, by rw [hz.2]; exact ho⟩
  exact PySem.W.kia_one (PySem.W.kitx_excD C.hg C.hk C.hs C.hd C.ha C.hn C.ht C.hm) I.kIn ⟨od, J⟩ e (fun z => nomatch z) fun tk => ⟨.bl b, H, I.kept (t' := tk) fun _ _ z => z, rfl, q⟩
end TkS
set_option Elab.async false
set_option linter.all false
set_option maxRecDepth 100000
set_option maxHeartbeats 4000000
/-! C(..) and o.m(..) where what is raised is wished for at the caller's slots (within a try) -/
namespace TkS
open PySem PySem.Spec PyProof.Rows L2
def tMethSD (C : Addr) (m : Str) (sp : Sp) (dvs : List V) (E : L2.St → XK) (ta : TE) (t : TA) : TE := fun σ H Q => ta σ H fun x H1 => ∃ a dx fs, x = .ref a ∧ H1 a = some (.ins C dx fs) ∧ fs.lookup m = none ∧
  t σ H1 fun vs H2 => sp (x :: (vs ++ dvs)) H2 Q (E σ)
def tMakeSD (C : Addr) (sp : Sp) (dvs : List V) (E : L2.St → XK) (t : TA) : TE := fun σ H Q => t σ H fun vs H1 => ∀ x dx, H1 x = none → H1 dx = none → dx ≠ x →
  sp (.ref x :: (vs ++ dvs)) (upd (upd H1 dx (.own x)) x (.ins C dx [])) (fun v H2 => v = .non ∧ Q (.ref x) H2) (E σ)
section
variable {X : Cx} {CX : CXT} {k : Nat} {f C : Addr} {fd : FuncData} {ps : List Str} {sp : Sp} {dvs : List V} {ds : List Value} {E : L2.St → XK} {x m : Str} {p pos apos : Pos} {e o : Expr} {es : List Expr} {ta : TE} {t : TA}
theorem run_makeSD {pins : List (Addr × Obj)} {σ : L2.St} {H : Hp} {s : Shared} {Q : VK} {us : List Value} {vs : List V} (M : Mk X.K C f) (F : FnOk X.prog X.w X.K X.mg X.base CX k f fd ps sp) (hr : Room (k + 1) X.A) (hb : Binds X.K fd ps ds) (hd : Vals dvs ds)
    (hx : PassesAt CX X σ (E σ)) (I : Inv X pins σ H s) (r : Vals vs us)
    (h : ∀ x dx, H x = none → H dx = none → dx ≠ x → sp (.ref x :: (vs ++ dvs)) (upd (upd H dx (.own x)) x (.ins C dx [])) (fun v H2 => v = .non ∧ Q (.ref x) H2) (E σ)) :
    wpAny (model X.prog X.w) X.A (call (.ref C) us) (EP X pins σ Q) X.xe s := by
  have hq := h (s.heap.objs.size + 1) s.heap.objs.size (I.hok.fresh (Nat.le_succ _)) (I.hok.fresh (Nat.le_refl _)) (Nat.ne_of_lt (Nat.lt_succ_self _))
  have I2 := Inv.made (C := C) I
  have r2 : Vals (V.ref (s.heap.objs.size + 1) :: (vs ++ dvs)) (Value.ref (s.heap.objs.size + 1) :: (us ++ ds)) := .cons rfl (r.append hd)
  have hl : (Value.ref (s.heap.objs.size + 1) :: us ++ ds).length = ps.length := by
    have e := r2.length
    rw [F.len _ _ _ _ hq] at e
    exact e.symm
  refine wpAny_call (make_map (f := f) I.kIn M.makes M.init (beq_iff_eq.mp M.fn) (codeAny_mono (F.run _ X.stack _ _ ⟨Value.ref (s.heap.objs.size + 1) :: us, []⟩ (Value.ref (s.heap.objs.size + 1) :: (us ++ ds)) _ _ (E σ) (hr.make C us [])
    (I2.env0.make C us []) (hb _ (Value.ref (s.heap.objs.size + 1) :: us) I2.kIn hl) r2 hq) fun r s' hq' => ?_))
  cases r with
  | error e => exact hx pins _ _ e s' I2 hq'
  | ok fl =>
    cases fl with
    | ret u =>
      obtain ⟨v, H', I3, rv, ev, q3⟩ := I2.after hq'
      subst ev
      exact ⟨rv, ⟨V.ref (s.heap.objs.size + 1), H', I3, rfl, q3⟩⟩
    | next => exact False.elim hq'
    | brk => exact False.elim hq'
    | cont => exact False.elim hq'
theorem pe_makeSD (M : Mk X.K C f) (F : FnOk X.prog X.w X.K X.mg X.base CX k f fd ps sp) (hr : Room (k + 1) X.A) (hg : Gl X x) (hm : X.mg x = some (.ref C)) (hb : Binds X.K fd ps ds) (hd : Vals dvs ds) (hx : ∀ σ, PassesAt CX X σ (E σ))
    (ha : PA X (e :: es) t) (hdb : (x == ("__debug__" : Str)) = false := by decide) (he : starEach (e :: es) X.env = (false, eval e X.env) :: starEach es X.env := by rfl) (hpl : (backTo pos (starEach es X.env)).any (·.1) = false := by rfl) :
    PE X (.Call (.Name x p) (e :: es) [] pos) (tMakeSD C sp dvs E t) := by
  refine ⟨fun pins s σ H Q I h => ?_⟩
  refine wpAny_Call_Name_kw (ld_glob I hg hm ?_ hdb)
  refine PySem.W.callWith_K (h₀ := X.base) I.ok.mod.kin M.kp (thn (ha.run pos pins s σ H _ I h) fun us s1 ⟨vs, H1, I1, r, q⟩ => ⟨I1.kIn, ?_⟩) he hpl
  exact run_makeSD M F hr hb hd (hx σ) I1 r q
theorem pe_methSD {pl : Sem Bool} (he : PE X o ta) (c : Cls X.K C) (hm : Meth X.K C m f) (F : FnOk X.prog X.w X.K X.mg X.base CX k f fd ps sp) (hr : Room k X.A) (hb : Binds X.K fd ps ds) (hd : Vals dvs ds) (hx : ∀ σ, PassesAt CX X σ (E σ)) (ha : PA X (e :: es) t)
    (hst : starEach (e :: es) X.env = (false, eval e X.env) :: starEach es X.env := by rfl) (hpl : (backTo pos (starEach es X.env)).any (·.1) = false := by rfl)
    (ht : eval (.Call (.Attribute o m apos) (e :: es) [] pos) X.env = (do
      let ov ← eval o X.env
      standAt apos.atName
      let (f, first) ← holding [ov] (getMethod ov m pl)
      callWith pos f first (backTo pos (starEach (e :: es) X.env)) (backToKw pos (keywordEach [] X.env))) := by rfl) :
    PE X (.Call (.Attribute o m apos) (e :: es) [] pos) (tMethSD C m sp dvs E ta t) := by
  refine ⟨fun pins s σ H Q I h => ?_⟩
  refine PySem.W.methodCall_KW (pl := pl) (thn (he.run pins s σ H _ I h) fun u s1 ⟨x, H1, I1, rx, a, dx, fs, ex, ea, l, q⟩ => ?_) ht
  subst ex
  obtain rfl : u = Value.ref a := rx
  refine getmeth_ok I1 ea c hm l ?_
  refine PySem.W.callWith_K (first := [.ref a]) (h₀ := X.base) I.ok.mod.kin hm.kp (thn (ha.run pos pins s1 σ H1 _ I1 q) fun us s2 ⟨vs, H2, I2, r, q2⟩ => ⟨I2.kIn, ?_⟩) hst hpl
  exact run_fnSD (us := .ref a :: us) (vs := .ref a :: vs) F hr hb hd (hx σ) I2 (.cons rfl r) q2
end
end TkS
set_option Elab.async false
set_option linter.all false
set_option maxRecDepth 100000
set_option maxHeartbeats 4000000
/-! == of two instances by an own __eq__ with any answer; len of an instance by an own __len__ -/
namespace TkS
open PySem PySem.Spec PyProof.Rows L2
section
variable {X : Cx} {CX : CXT} {n : Nat} {f C : Addr} {fd : FuncData} {ps : List Str} {sp : Sp} {E : XK}
def rEqOwn (C : Addr) (sp : Sp) (E : XK) : R2 := fun x y H Q => ∃ a b dx dy fs gs, x = .ref a ∧ y = .ref b ∧ H a = some (.ins C dx fs) ∧ H b = some (.ins C dy gs) ∧ sp [.ref a, .ref b] H (fun v H' => (∃ r, v = .bl r) ∧ Q v H') E
theorem op_eqOwn (F : FnOk X.prog X.w X.K X.mg X.base CX n f fd ps sp) (hr : Room n X.A) (hs : PySem.W.findIn X.K (.ref C) "__eq__" = some (some (.ref f))) (hf : PySem.W.isFn X.K (.ref f) = true) (hb : Binds X.K fd ps []) (hx : Passes CX X E) :
    OpR X (compareOp .Eq) (rEqOwn C sp E) := by
  intro pins s σ H x y v u Q I rx ry h
  obtain ⟨a, b, dx, dy, fs, gs, rfl, rfl, ha, hb', hq⟩ := h
  cases rx
  cases ry
  obtain ⟨mA, J, _⟩ := ins_get I.hok ha
  obtain ⟨mB, J', _⟩ := ins_get I.hok hb'
  obtain ⟨od, J, _⟩ := J.look
  obtain ⟨od', J', _⟩ := J'.look
  obtain ⟨m, hF⟩ := I.fr
  show wpAny (model X.prog X.w) X.A (richCompare .Eq (.ref a) (.ref b)) (EP X pins σ Q) X.xe s
  refine PySem.W.cmp_K (op := .Eq) (tb := .ref C) hr.units0 hF I.ok.mod.kin J J'.type (by simp [PySem.W.notFirst]) hs hf ?_
  have hl := F.len _ _ _ _ hq
  refine wpAny_mono (run_fn (us := [.ref a, .ref b]) (vs := [.ref a, .ref b]) (dvs := []) (Q := fun v H' => (∃ r, v = .bl r) ∧ Q v H') F hr hb .nil hx I (.cons rfl (.cons rfl .nil)) hq) (fun u s' z => ?_) fun _ _ z => z
  obtain ⟨v, H', I', rv, ⟨r, ev⟩, q⟩ := z
  subst ev
  cases (show u = Value.bool r from rv)
  exact ⟨.bl r, H', I', rfl, q⟩
def rLenOwn (C : Addr) (sp : Sp) (E : XK) : List V → Hp → VK → Prop := fun xs H Q => ∃ (a dx : Addr) (fs : List (Str × V)) (k : Nat), xs = [.ref a] ∧ H a = some (.ins C dx fs) ∧ k < 2 ^ 62 ∧ sp [.ref a] H (fun v H' => v = .int (k : Int) ∧ Q v H') E
theorem call_lenOwn (F : FnOk X.prog X.w X.K X.mg X.base CX n f fd ps sp) (hr : Room (n + 1) X.A) (hs : PySem.W.findIn X.K (.ref C) "__len__" = some (some (.ref f))) (hf : PySem.W.isFn X.K (.ref f) = true) (hb : Binds X.K fd ps []) (hx : Passes CX X E) : CallR X (.builtin "len") (rLenOwn C sp E) := by
  intro pins s σ H xs us Q I r h
  obtain ⟨a, dx, fs, k, rfl, ha, hk, hq⟩ := h
  obtain ⟨u, rfl, ru⟩ := vals1 r
  cases ru
  obtain ⟨mA, J, _⟩ := ins_get I.hok ha
  obtain ⟨od, J, _⟩ := J.look
  obtain ⟨m, hF⟩ := I.fr
  have hl : ([Value.ref a] ++ ([] : List Value)).length = ps.length := by
    rw [← F.len _ _ _ _ hq]
    rfl
  refine PySem.W.len_K hF I.ok.mod.kin J hs hf (wpAny_call ?_)
  refine codeAny_mono (F.run X.A.in1 X.stack s H ⟨[.ref a], []⟩ [.ref a] [.ref a] _ E hr.in1 I.env0.in1 (hb s [.ref a] I.kIn hl) (.cons rfl .nil) hq) fun r s' hq => ?_
  cases r with
  | error e => exact hx pins σ H s e s' I hq
  | ok fl =>
    cases fl with
    | ret u =>
      obtain ⟨v, H', I', rv, ev, q⟩ := I.after hq
      subst ev
      obtain ⟨t, eu⟩ := (show ∃ t, u = Value.int (k : Int) t from rv)
      subst eu
      refine ⟨⟨by omega, by omega⟩, .int (k : Int), H', I'.tok _, ⟨_, rfl⟩, q⟩
    | next => exact False.elim hq
    | brk => exact False.elim hq
    | cont => exact False.elim hq
end
end TkS
set_option Elab.async false
set_option linter.all false
set_option maxRecDepth 100000
set_option maxHeartbeats 4000000
/-! data whose objects are all tracked -/
namespace TkS
open PySem PySem.Spec PyProof.Rows L2
mutual
inductive Dq (H : Hp) : V → PyData → Prop
  | non : Dq H .non .none
  | bl (b : Bool) : Dq H (.bl b) (.bool b)
  | int (i : Int) : Dq H (.int i) (.int i)
  | str (x : Str) : Dq H (.str x) (.str x)
  | lst {a : Addr} {xs : List V} {ds : List PyData} : H a = some (.lst xs) → DqAll H xs ds → Dq H (.ref a) (.list ds)
  | tup {a : Addr} {xs : List V} {ds : List PyData} : H a = some (.tup xs) → DqAll H xs ds → Dq H (.ref a) (.tuple ds)
inductive DqAll (H : Hp) : List V → List PyData → Prop
  | nil : DqAll H [] []
  | cons {v : V} {vs : List V} {d : PyData} {ds : List PyData} : Dq H v d → DqAll H vs ds → DqAll H (v :: vs) (d :: ds)
end
theorem DqAll.len {H : Hp} : ∀ {xs : List V} {ds : List PyData}, DqAll H xs ds → xs.length = ds.length
  | _, _, .nil => rfl
  | _, _, .cons _ t => congrArg Nat.succ t.len
theorem DqAll.get {H : Hp} : ∀ {xs : List V} {ds : List PyData} {i : Nat} {x : V}, DqAll H xs ds → xs[i]? = some x → ∃ d, ds[i]? = some d ∧ Dq H x d
  | _, _, _, _, .nil, e => by simp at e
  | _, _, 0, _, .cons h _, e => by
    simp at e
    subst e
    exact ⟨_, rfl, h⟩
  | _, _, i + 1, _, .cons _ t, e => by
    obtain ⟨d, h1, h2⟩ := t.get (i := i) (by simpa using e)
    exact ⟨d, by simpa using h1, h2⟩
theorem DqAll.append {H : Hp} : ∀ {xs ys : List V} {ds es : List PyData}, DqAll H xs ds → DqAll H ys es → DqAll H (xs ++ ys) (ds ++ es)
  | _, _, _, _, .nil, s => s
  | _, _, _, _, .cons r t, s => .cons r (t.append s)
theorem DqAll.snoc {H : Hp} {xs : List V} {ds : List PyData} {x : V} {d : PyData} (h : DqAll H xs ds) (h1 : Dq H x d) : DqAll H (xs ++ [x]) (ds ++ [d]) := h.append (.cons h1 .nil)
mutual
theorem Dq.same {H H' : Hp} (s : Same H H') : ∀ {v : V} (d : PyData), Dq H v d → Dq H' v d
  | _, .none, .non => .non
  | _, .bool _, .bl b => .bl b
  | _, .int _, .int i => .int i
  | _, .str _, .str x => .str x
  | _, .list _, .lst h t => .lst (s _ _ h) (DqAll.same s _ t)
  | _, .tuple _, .tup h t => .tup (s _ _ h) (DqAll.same s _ t)
theorem DqAll.same {H H' : Hp} (s : Same H H') : ∀ {vs : List V} (ds : List PyData), DqAll H vs ds → DqAll H' vs ds
  | _, [], .nil => .nil
  | _, _ :: _, .cons h t => .cons (Dq.same s _ h) (DqAll.same s _ t)
end
mutual
theorem Dq.dp {K : PySem.W.Frag} {H : Hp} : ∀ {v : V} (d : PyData), Dq H v d → Dp K H v d
  | _, .none, .non => .non
  | _, .bool _, .bl b => .bl b
  | _, .int _, .int i => .int i
  | _, .str _, .str x => .str x
  | _, .list _, .lst h t => .lst (SqL.of h) (DqAll.dp _ t)
  | _, .tuple _, .tup h t => .tup (SqT.of h) (DqAll.dp _ t)
theorem DqAll.dp {K : PySem.W.Frag} {H : Hp} : ∀ {vs : List V} (ds : List PyData), DqAll H vs ds → DpAll K H vs ds
  | _, [], .nil => .nil
  | _, _ :: _, .cons h t => .cons (Dq.dp _ h) (DqAll.dp _ t)
end
mutual
theorem Dq.fn {H : Hp} : ∀ {v : V} (d e : PyData), Dq H v d → Dq H v e → d = e
  | _, .none, _, .non, .non => rfl
  | _, .bool _, _, .bl _, .bl _ => rfl
  | _, .int _, _, .int _, .int _ => rfl
  | _, .str _, _, .str _, .str _ => rfl
  | _, .list ds, _, .lst h t, .lst h' t' => by
    rw [h] at h'
    cases h'
    rw [DqAll.fn _ _ t t']
  | _, .list _, _, .lst h _, .tup h' _ => by
    rw [h] at h'
    cases h'
  | _, .tuple ds, _, .tup h t, .tup h' t' => by
    rw [h] at h'
    cases h'
    rw [DqAll.fn _ _ t t']
  | _, .tuple _, _, .tup h _, .lst h' _ => by
    rw [h] at h'
    cases h'
theorem DqAll.fn {H : Hp} : ∀ {vs : List V} (ds es : List PyData), DqAll H vs ds → DqAll H vs es → ds = es
  | _, [], _, .nil, .nil => rfl
  | _, _ :: _, _, .cons h t, .cons h' t' => by rw [Dq.fn _ _ h h', DqAll.fn _ _ t t']
end
/-- the heap without one address -/
def Off (h : Addr) (H : Hp) : Hp := fun b => if b = h then none else H b
theorem off_same {h : Addr} {H : Hp} : Same (Off h H) H := fun b o e => by
  unfold Off at e
  by_cases z : b = h
  · rw [if_pos z] at e
    cases e
  · rw [if_neg z] at e
    exact e
theorem off_keep {h : Addr} {H H' : Hp} (k : ∀ b o, b ≠ h → H b = some o → H' b = some o) : Same (Off h H) (Off h H') := fun b o e => by
  unfold Off at e ⊢
  by_cases z : b = h
  · rw [if_pos z] at e
    cases e
  · rw [if_neg z] at e ⊢
    exact k b o z e
theorem off_of {h : Addr} {H H' : Hp} (s : Same H H') : Same (Off h H) (Off h H') := off_keep fun b o _ e => s b o e
theorem off_at {h a : Addr} {H : Hp} {o : HO} (n : a ≠ h) (e : H a = some o) : Off h H a = some o := by
  unfold Off
  rw [if_neg n]
  exact e
theorem same_new {H : Hp} {p : Addr} {o : HO} (h : H p = none) : Same H (upd H p o) := fun b x e => by
  rw [upd_ne (ne_of_none e h)]
  exact e
/-- a thing's kind as isinstance sees it -/
def isBlV : V → Bool
  | .bl _ => true
  | _ => false
def isNumV : V → Bool
  | .bl _ => true
  | .int _ => true
  | _ => false
def isIntV : V → Bool
  | .int _ => true
  | _ => false
def itemsD : PyData → Option (List PyData)
  | .list xs => some xs
  | .tuple xs => some xs
  | _ => none
theorem dq_ty {K : PySem.W.Frag} {H : Hp} {x : V} {d : PyData} (k : Dq H x d) : ∃ t, TyX K H x t ∧ PySem.W.kitOne K t (.type "bool") = some (isBlV x) ∧ PySem.W.kitOne K t (.type "int") = some (isNumV x) ∧
    PySem.W.kitAny K t [.type "list", .type "tuple"] = some (itemsD d).isSome ∧ PySem.W.kitOne K t (.type "tuple") = some (match d with | .tuple _ => true | _ => false) := by
  cases k with
  | non => exact ⟨_, .base .non, kit_ty (show kitB "NoneType" "bool" = some false by decide +kernel), kit_ty (show kitB "NoneType" "int" = some false by decide +kernel),
      kitAny_cons (b := false) (kit_ty (show kitB "NoneType" "list" = some false by decide +kernel)) (fun _ => kitAny_cons (b := false) (kit_ty (show kitB "NoneType" "tuple" = some false by decide +kernel)) (fun _ => kitAny_nil) (fun z => nomatch z)) (fun z => nomatch z), kit_ty (show kitB "NoneType" "tuple" = some false by decide +kernel)⟩
  | bl b => exact ⟨_, .base (.bl b), kit_ty (show kitB "bool" "bool" = some true by decide +kernel), kit_ty (show kitB "bool" "int" = some true by decide +kernel),
      kitAny_cons (b := false) (kit_ty (show kitB "bool" "list" = some false by decide +kernel)) (fun _ => kitAny_cons (b := false) (kit_ty (show kitB "bool" "tuple" = some false by decide +kernel)) (fun _ => kitAny_nil) (fun z => nomatch z)) (fun z => nomatch z), kit_ty (show kitB "bool" "tuple" = some false by decide +kernel)⟩
  | int i => exact ⟨_, .base (.int i), kit_ty (show kitB "int" "bool" = some false by decide +kernel), kit_ty (show kitB "int" "int" = some true by decide +kernel),
      kitAny_cons (b := false) (kit_ty (show kitB "int" "list" = some false by decide +kernel)) (fun _ => kitAny_cons (b := false) (kit_ty (show kitB "int" "tuple" = some false by decide +kernel)) (fun _ => kitAny_nil) (fun z => nomatch z)) (fun z => nomatch z), kit_ty (show kitB "int" "tuple" = some false by decide +kernel)⟩
  | str x => exact ⟨_, .base (.str x), kit_ty (show kitB "str" "bool" = some false by decide +kernel), kit_ty (show kitB "str" "int" = some false by decide +kernel),
      kitAny_cons (b := false) (kit_ty (show kitB "str" "list" = some false by decide +kernel)) (fun _ => kitAny_cons (b := false) (kit_ty (show kitB "str" "tuple" = some false by decide +kernel)) (fun _ => kitAny_nil) (fun z => nomatch z)) (fun z => nomatch z), kit_ty (show kitB "str" "tuple" = some false by decide +kernel)⟩
  | lst h _ => exact ⟨_, .base (.lst h), kit_ty (show kitB "list" "bool" = some false by decide +kernel), kit_ty (show kitB "list" "int" = some false by decide +kernel),
      kitAny_cons (b := true) (kit_ty (show kitB "list" "list" = some true by decide +kernel)) (fun z => nomatch z) (fun _ => rfl), kit_ty (show kitB "list" "tuple" = some false by decide +kernel)⟩
  | tup h _ => exact ⟨_, .base (.tup h), kit_ty (show kitB "tuple" "bool" = some false by decide +kernel), kit_ty (show kitB "tuple" "int" = some false by decide +kernel),
      kitAny_cons (b := false) (kit_ty (show kitB "tuple" "list" = some false by decide +kernel)) (fun _ => kitAny_cons (b := true) (kit_ty (show kitB "tuple" "tuple" = some true by decide +kernel)) (fun z => nomatch z) (fun _ => rfl)) (fun z => nomatch z), kit_ty (show kitB "tuple" "tuple" = some true by decide +kernel)⟩
end TkS
set_option Elab.async false
set_option linter.all false
set_option maxRecDepth 100000
set_option maxHeartbeats 4000000
/-! for and comprehensions over a list or a tuple -/
namespace TkS
open PySem PySem.Spec PyProof.Rows L2
def iSeq (K : PySem.W.Frag) (tl : TE) : TI := fun σ H R => iList K tl σ H R ∨ iTup K tl σ H R
theorem pi_seq {X : Cx} {tg l : Expr} {tl : TE} (hl : PE X l tl) : PI X tg l (iSeq X.K tl) :=
  ⟨fun pins s σ H R I h => h.elim (fun h => (pi_list hl).run pins s σ H R I h) (fun h => (pi_tup hl).run pins s σ H R I h)⟩
theorem seqT_same {K : PySem.W.Frag} {H H' : Hp} {a : Addr} {xs : List V} (s : Same H H') (h : SqT K H a xs) : SqT K H' a xs :=
  h.elim (fun h => .inl (h.elim (fun h => .inl (s _ _ h)) fun ⟨o, h⟩ => .inr ⟨o, s _ _ h⟩)) fun h => .inr h
def Sq (K : PySem.W.Frag) (H : Hp) (a : Addr) (xs : List V) : Prop := SqL K H a xs ∨ SqT K H a xs
theorem Sq.same {K : PySem.W.Frag} {H H' : Hp} {a : Addr} {xs : List V} (h : Sq K H a xs) (s : Same H H') : Sq K H' a xs :=
  h.elim (fun h => .inl (s.seq h)) (fun h => .inr (seqT_same s h))
theorem for_seq {K : PySem.W.Frag} {a : Addr} {xs : List V} {tl : TE} {g : TG} {tb : TS} {D : Ends} {σ : L2.St} {H : Hp} (Pv : Nat → L2.St → Hp → Prop) (ht : ∀ Q : VK, Q (.ref a) H → tl σ H Q) (hq : Sq K H a xs) (h0 : Pv 0 σ H)
    (hl : ∀ i σ H', i ≤ xs.length → Pv i σ H' → Same H H')
    (hs : ∀ i x σ H, xs[i]? = some x → Pv i σ H → g x σ H fun σ2 H2 => tb { D with nx := Pv (i + 1), ct := Pv (i + 1), bk := D.nx } σ2 H2) (hd : ∀ σ H, Pv xs.length σ H → D.nx σ H) :
    tFor (iSeq K tl) g tb D σ H :=
  hq.elim (fun h => .inl (ht _ ⟨a, rfl, ⟨xs, h⟩, for_list Pv h0 (fun i σ H' hi hP => (hl i σ H' hi hP).seq h) hs hd⟩))
    (fun h => .inr (ht _ ⟨a, rfl, ⟨xs, h⟩, for_tup Pv h0 (fun i σ H' hi hP => seqT_same (hl i σ H' hi hP) h) hs hd⟩))
theorem lc_seq {K : PySem.W.Frag} {a : Addr} {xs : List V} {tl : TE} {g : TG} {tt : TT} {te : TE} {vs : List Nat} {σ : L2.St} {H : Hp} {Q : VK} (Pv : Addr → Nat → Hp → Prop) (ht : ∀ Q : VK, Q (.ref a) H → tl σ H Q) (hq : Sq K H a xs)
    (h0 : ∀ D, H D = none → Pv D 0 (upd H D (.lst []))) (hl : ∀ D i H', H D = none → i ≤ xs.length → Pv D i H' → Same H H')
    (hs : ∀ D i x H', H D = none → xs[i]? = some x → Pv D i H' → g x (wipe σ vs) H' fun σ2 H2 => wipe σ2 vs = wipe σ vs ∧ tt σ2 H2 fun b H3 =>
      if b = true then te σ2 H3 fun y H4 => ∃ acc, H4 D = some (.lst acc) ∧ acc.length < sizeLine ∧ Pv D (i + 1) (upd H4 D (.lst (acc ++ [y]))) else Pv D (i + 1) H3) (hd : ∀ D H', H D = none → Pv D xs.length H' → Q (.ref D) H') :
    tLc (iSeq K tl) g tt te vs σ H Q :=
  hq.elim (fun h => .inl (ht _ ⟨a, rfl, ⟨xs, h⟩, fun D nD => lc_list (Pv D) (h0 D nD) (fun i H' hi hP => (hl D i H' nD hi hP).seq h) (fun i x H' => hs D i x H' nD) (fun H' => hd D H' nD)⟩))
    (fun h => .inr (ht _ ⟨a, rfl, ⟨xs, h⟩, fun D nD => lc_tup (Pv D) (h0 D nD) (fun i H' hi hP => seqT_same (hl D i H' nD hi hP) h) (fun i x H' => hs D i x H' nD) (fun H' => hd D H' nD)⟩))
/-- the items of a list or a tuple -/
theorem sq_of {K : PySem.W.Frag} {H : Hp} {x : V} {d : PyData} {ds : List PyData} (k : Dq H x d) (e : itemsD d = some ds) : ∃ (p : Addr) (xs : List V), x = .ref p ∧ DqAll H xs ds ∧ Sq K H p xs := by
  cases k with
  | lst h1 h2 =>
    cases e
    exact ⟨_, _, rfl, h2, .inl (SqL.of h1)⟩
  | tup h1 h2 =>
    cases e
    exact ⟨_, _, rfl, h2, .inr (SqT.of h1)⟩
  | _ => cases e
/-- tuple(x), x a list or a tuple of data -/
def rTupD : List V → Hp → VK → Prop := fun xs H Q => ∃ x d ds, xs = [x] ∧ Dq H x d ∧ itemsD d = some ds ∧ ∀ l H', Same H H' → Dq H' (.ref l) (.tuple ds) → Q (.ref l) H'
theorem call_tupD {X : Cx} : CallR X (.type "tuple") rTupD := by
  intro pins s σ H vs us Q I r h
  refine call_tuple_of pins s σ H vs us Q I r ?_
  obtain ⟨x, d, ds, rfl, k, e, q⟩ := h
  cases k with
  | lst h1 h2 =>
    cases e
    exact ⟨_, _, rfl, .inl ⟨SqL.of h1, fun l nl => q l _ (same_new nl) (.tup upd_same (DqAll.same (same_new nl) _ h2))⟩⟩
  | tup h1 h2 =>
    cases e
    exact ⟨_, _, rfl, .inr ⟨SqT.of h1, q _ _ (fun _ _ z => z) (.tup h1 h2)⟩⟩
  | _ => cases e
end TkS
set_option Elab.async false
set_option linter.all false
set_option maxRecDepth 100000
set_option maxHeartbeats 4000000
/-! sums and parts of tuples and lists of data -/
namespace TkS
open PySem PySem.Spec PyProof.Rows L2
theorem DqAll.take {H : Hp} : ∀ {xs : List V} {ds : List PyData}, DqAll H xs ds → ∀ n, DqAll H (xs.take n) (ds.take n)
  | _, _, _, 0 => .nil
  | _, _, .nil, _ + 1 => .nil
  | _, _, .cons h t, n + 1 => .cons h (t.take n)
theorem DqAll.drop {H : Hp} : ∀ {xs : List V} {ds : List PyData}, DqAll H xs ds → ∀ n, DqAll H (xs.drop n) (ds.drop n)
  | _, _, h, 0 => h
  | _, _, .nil, _ + 1 => .nil
  | _, _, .cons h t, n + 1 => t.drop n
theorem DqAll.of_get {H : Hp} : ∀ {xs : List V} {ds : List PyData}, xs.length = ds.length → (∀ (i : Nat) (x : V) (d : PyData), xs[i]? = some x → ds[i]? = some d → Dq H x d) → DqAll H xs ds
  | [], [], _, _ => .nil
  | x :: xs, d :: ds, e, h => .cons (h 0 x d rfl rfl) (DqAll.of_get (by simpa using e) fun i y f h1 h2 => h (i + 1) y f (by simpa using h1) (by simpa using h2))
theorem DqAll.rev {H : Hp} : ∀ {xs : List V} {ds : List PyData}, DqAll H xs ds → DqAll H xs.reverse ds.reverse
  | _, _, .nil => .nil
  | _, _, .cons h t => by
    rw [List.reverse_cons, List.reverse_cons]
    exact t.rev.snoc h
def cutD {α : Type} (xs : List α) (lo hi : Option Int) : List α := (xs.drop (HT.sIx xs.length 0 lo)).take (HT.sIx xs.length xs.length hi - HT.sIx xs.length 0 lo)
theorem cutD_lo {α : Type} (xs : List α) (n : Nat) : cutD xs (some (n : Int)) none = xs.drop n := by
  unfold cutD
  rw [HT.sIx_none, HT.sIx_nat]
  rcases Nat.le_total n xs.length with h | h
  · rw [Nat.min_eq_left h]
    exact List.take_of_length_le (by rw [List.length_drop]; omega)
  · rw [Nat.min_eq_right h, List.drop_of_length_le h, List.drop_of_length_le (Nat.le_refl _), List.take_nil]
theorem cutD_hi {α : Type} (xs : List α) (n : Nat) : cutD xs none (some (n : Int)) = xs.take n := by
  unfold cutD
  rw [HT.sIx_none, HT.sIx_nat]
  rcases Nat.le_total n xs.length with h | h
  · rw [Nat.min_eq_left h]
    rfl
  · rw [Nat.min_eq_right h, List.take_of_length_le h]
    exact List.take_of_length_le (by simp)
theorem DqAll.cut {H : Hp} {xs : List V} {ds : List PyData} (h : DqAll H xs ds) (lo hi : Option Int) : DqAll H (cutV xs lo hi) (cutD ds lo hi) := by
  unfold cutV cutD
  rw [h.len]
  exact (h.drop _).take _
theorem cutV_whole {α : Type} {xs : List α} {lo hi : Option Int} (h : HT.sIx xs.length 0 lo = 0 ∧ HT.sIx xs.length xs.length hi = xs.length) : cutD xs lo hi = xs := by
  unfold cutD
  rw [h.1, h.2]
  exact List.take_of_length_le (by simp)
def rCatD : R2 := fun x y H Q => ∃ ds es, Dq H x (.tuple ds) ∧ Dq H y (.tuple es) ∧ ds.length + es.length ≤ 1000 ∧ ∀ l H', Same H H' → Dq H' (.ref l) (.tuple (ds ++ es)) → Q (.ref l) H'
theorem thousand : 1000 ≤ sizeLine := by decide
theorem op_catD {X : Cx} : OpR X (binaryOp .Add) rCatD := by
  intro pins s σ H x y v u Q I rx ry h
  obtain ⟨ds, es, k1, k2, hl, q⟩ := h
  cases k1 with
  | tup h1 t1 =>
    cases k2 with
    | tup h2 t2 =>
      rename_i a xs b ys
      refine op_catA pins s σ H _ _ v u Q I rx ry ⟨a, b, xs, ys, rfl, rfl, SqT.of h1, SqT.of h2, ?_, fun e => ?_, fun _ e => ?_, fun _ _ p np => ?_⟩
      · rw [t1.len, t2.len]
        exact Nat.le_trans hl thousand
      · subst e
        cases t1
        exact q b H (fun _ _ z => z) (.tup h2 t2)
      · subst e
        cases t2
        exact q a H (fun _ _ z => z) (by rw [List.append_nil]; exact .tup h1 t1)
      · exact q p _ (same_new np) (.tup upd_same ((DqAll.same (same_new np) _ t1).append (DqAll.same (same_new np) _ t2)))
def rSlD : V → Option Int → Option Int → Hp → VK → Prop := fun x lo hi H Q => ∃ ds, Dq H x (.tuple ds) ∧ ∀ l H', Same H H' → Dq H' (.ref l) (.tuple (cutD ds lo hi)) → Q (.ref l) H'
theorem sl_tupD {X : Cx} : SlR X rSlD := by
  intro pins s σ H x v vl vu lo hi sl Q I rx hs pl pu h
  obtain ⟨ds, k, q⟩ := h
  cases k with
  | tup h1 t1 =>
    rename_i a xs
    refine sl_tupA pins s σ H _ v vl vu lo hi sl Q I rx hs pl pu ⟨a, xs, rfl, SqT.of h1, fun e => ?_, fun _ p np => ?_⟩
    · refine q a H (fun _ _ z => z) ?_
      rw [cutV_whole (by rw [← t1.len]; exact e)]
      exact .tup h1 t1
    · exact q p _ (same_new np) (.tup upd_same (DqAll.same (same_new np) _ (t1.cut lo hi)))
def rSlDL : V → Option Int → Option Int → Hp → VK → Prop := fun x lo hi H Q => ∃ ds, Dq H x (.list ds) ∧ ∀ l H', Same H H' → H l = none → Dq H' (.ref l) (.list (cutD ds lo hi)) → Q (.ref l) H'
theorem sl_listD {X : Cx} : SlR X rSlDL := by
  intro pins s σ H x v vl vu lo hi sl Q I rx hs pl pu h
  obtain ⟨ds, k, q⟩ := h
  cases k with
  | lst h1 t1 =>
    rename_i a xs
    exact sl_list pins s σ H _ v vl vu lo hi sl Q I rx hs pl pu ⟨a, xs, rfl, SqL.of h1, fun p np => q p _ (same_new np) np (.lst upd_same (DqAll.same (same_new np) _ (t1.cut lo hi)))⟩
/-- the sum of two lists -/
def rCatDL : R2 := fun x y H Q => ∃ ds es, Dq H x (.list ds) ∧ Dq H y (.list es) ∧ ds.length + es.length ≤ 1000 ∧ ∀ l H', Same H H' → H l = none → Dq H' (.ref l) (.list (ds ++ es)) → Q (.ref l) H'
theorem op_catDL {X : Cx} : OpR X (binaryOp .Add) rCatDL := by
  intro pins s σ H x y v u Q I rx ry h
  obtain ⟨ds, es, k1, k2, hl, q⟩ := h
  cases k1 with
  | lst h1 t1 =>
    cases k2 with
    | lst h2 t2 =>
      rename_i a xs b ys
      exact op_cat pins s σ H _ _ v u Q I rx ry ⟨a, b, xs, ys, rfl, rfl, h1, h2, by
        rw [t1.len, t2.len]
        exact Nat.le_trans hl thousand, fun p np => q p _ (same_new np) np (.lst upd_same ((DqAll.same (same_new np) _ t1).append (DqAll.same (same_new np) _ t2)))⟩
end TkS
set_option Elab.async false
set_option linter.all false
set_option maxRecDepth 100000
set_option maxHeartbeats 4000000
/-! a tuple whose object is known (its methods may be called) -/
namespace TkS
open PySem PySem.Spec PyProof.Rows L2
def Frz (H : Hp) (a : Addr) (xs : List V) : Prop := ∃ o : Obj, H a = some (.frz o (.tup xs)) ∧ o.cls = .type "tuple" ∧ o.dict = none
theorem Frz.same {H H' : Hp} {a : Addr} {xs : List V} (h : Frz H a xs) (s : Same H H') : Frz H' a xs := by
  obtain ⟨o, h1, h2⟩ := h
  exact ⟨o, s _ _ h1, h2⟩
theorem Frz.seq {K : PySem.W.Frag} {H : Hp} {a : Addr} {xs : List V} (h : Frz H a xs) : SqT K H a xs := by
  obtain ⟨o, h1, _⟩ := h
  exact .inl (.inr ⟨o, h1⟩)
theorem Frz.ty {K : PySem.W.Frag} {H : Hp} {a : Addr} {xs : List V} (h : Frz H a xs) : TyX K H (.ref a) (.type "tuple") := by
  obtain ⟨o, h1, _⟩ := h
  exact .fTuple h1
theorem Frz.fn {H : Hp} {a : Addr} {xs ys : List V} (h : Frz H a xs) (h' : Frz H a ys) : xs = ys := by
  obtain ⟨o, h1, _⟩ := h
  obtain ⟨o', h1', _⟩ := h'
  rw [h1] at h1'
  cases h1'
  rfl
def rTupF (K : PySem.W.Frag) : List V → Hp → VK → Prop := fun xs H Q => ∃ p ys, xs = [.ref p] ∧ SqL K H p ys ∧ ∀ l H', Same H H' → H l = none → Frz H' l ys → Q (.ref l) H'
theorem call_tupF {X : Cx} : CallR X (.type "tuple") (rTupF X.K) := by
  intro pins s σ H xs us Q I r h
  obtain ⟨p, ys, rfl, hq, q⟩ := h
  obtain ⟨u, rfl, rx⟩ := vals1 r
  cases rx
  obtain ⟨its, r', pl, hz⟩ := I.list hq
  have hlen := r'.length
  refine call_tuple_list pl.isList (fun h' kp => ?_) (by simp only [List.size_toArray] <;> omega)
  have I1 : Inv X pins σ H { s with heap := h' } := I.kept (t' := s.toks) kp
  have I2 : Inv X pins σ (upd H h'.objs.size (.frz { cls := .type "tuple", data := .seq its.toArray } (.tup ys))) { s with heap := h'.push { cls := .type "tuple", data := .seq its.toArray } } :=
    I1.laid (t' := s.toks) (fun b o e => Heap.get?_push_of_some _ e) (Nat.le_refl _) (show ObjOk X.prog X.w _ _ _ (.frz _ (.tup ys)) from ⟨Heap.get?_push_size _ rfl, hz, its, r', IsTup.new _ _⟩)
  have nf := I1.hok.fresh (Nat.le_refl _)
  exact ⟨.ref h'.objs.size, _, I2, rfl, q _ _ (same_new nf) nf ⟨_, upd_same, rfl, rfl⟩⟩
def tBMF (r : V → List V → Hp → VK → Prop) (to : TE) (t : TA) : TE := fun σ H Q => to σ H fun x H1 => (∃ a xs, x = .ref a ∧ Frz H1 a xs) ∧ t σ H1 fun xs H2 => r x xs H2 Q
theorem pe_bmF {X : Cx} {o e : Expr} {es : List Expr} {to : TE} {t : TA} {name : Str} {apos cpos : Pos} {id : String} {r : V → List V → Hp → VK → Prop} (pa : PlainAttrs "tuple") (slot : Slot "tuple" name id) (hty : typeOf (.builtin id) = pure (.type "method_descriptor")) (hm : MtR X id r) (ho : PE X o to) (ha : PA X (e :: es) t)
    (hbase : attributeBase o name X.env (eval o X.env) = eval o X.env := by rfl)
    (hfew : ((backTo cpos (starEach (e :: es) X.env)).all (fun x => !x.1) && (backToKw cpos (keywordEach [] X.env)).all (fun x => x.1.isSome)
      && decide ((e :: es).length + ([] : List Keyword).length + (if ([] : List Keyword).isEmpty then 0 else 1) < 30)) = true := by rfl)
    (hline : (apos.endLine == cpos.line) = true := by rfl) (hs : starEach (e :: es) X.env = (false, eval e X.env) :: starEach es X.env := by rfl) (hplain : (backTo cpos (starEach es X.env)).any (·.1) = false := by rfl) :
    PE X (.Call (.Attribute o name apos) (e :: es) [] cpos) (tBMF r to t) := by
  refine ⟨fun pins s σ H Q I h => ?_⟩
  refine wpAny_Call_method_late hbase hfew hline rfl (thn (ho.run pins s σ H _ I h) fun v s1 ⟨x, H1, I1, r1, ⟨a, xs, ex, o, h1, h2, h3⟩, q1⟩ => ?_)
  subst ex
  cases r1
  have hk := (I1.hok a _ h1).1
  refine ⟨"tuple", id, pa, slot, hty, ⟨o, hk, h2⟩, fun b e => by cases e; exact ⟨o, hk, h3⟩, ?_⟩
  have hA := ha.run cpos pins s1 σ H1 _ I1 q1
  rw [hs] at hA ⊢
  refine Calls.callWith_builtin (by show (false || (backTo cpos (starEach es X.env)).any (·.1)) = false; rw [hplain] <;> rfl) (Calls.evalArgs_plain ?_)
  exact thn hA fun us s2 ⟨vs, H2, I2, r2, q2⟩ => hm pins s2 σ H2 (.ref a) vs _ us Q I2 rfl r2 q2
theorem Frz.dp {K : PySem.W.Frag} {H : Hp} {a : Addr} {xs : List V} {ds : List PyData} (h : Frz H a xs) (k : DqAll H xs ds) : Dp K H (.ref a) (.tuple ds) := .tup h.seq (DqAll.dp _ k)
/-- such a tuple and a tuple that is not empty -/
def rCatF : R2 := fun x y H Q => ∃ (a : Addr) (xs : List V) (ds es : List PyData), x = .ref a ∧ Frz H a xs ∧ DqAll H xs ds ∧ Dq H y (.tuple es) ∧ es ≠ [] ∧ ds.length + es.length ≤ 1000 ∧ ∀ l H', Same H H' → Dq H' (.ref l) (.tuple (ds ++ es)) → Q (.ref l) H'
theorem op_catF {X : Cx} : OpR X (binaryOp .Add) rCatF := by
  intro pins s σ H x y v u Q I rx ry h
  obtain ⟨a, xs, ds, es, rfl, f, t1, k2, ne, hl, q⟩ := h
  cases k2 with
  | tup h2 t2 =>
    rename_i b ys
    refine op_catA pins s σ H _ _ v u Q I rx ry ⟨a, b, xs, ys, rfl, rfl, f.seq, SqT.of h2, ?_, fun e => ?_, fun _ e => ?_, fun _ _ p np => ?_⟩
    · rw [t1.len, t2.len]
      exact Nat.le_trans hl thousand
    · subst e
      cases t1
      exact q b H (fun _ _ z => z) (.tup h2 t2)
    · subst e
      cases t2
      exact absurd rfl ne
    · exact q p _ (same_new np) (.tup upd_same ((DqAll.same (same_new np) _ t1).append (DqAll.same (same_new np) _ t2)))
/-- a part of such a tuple that is not the whole -/
def rSlF : V → Option Int → Option Int → Hp → VK → Prop := fun x lo hi H Q => ∃ (a : Addr) (xs : List V) (ds : List PyData), x = .ref a ∧ Frz H a xs ∧ DqAll H xs ds ∧ ¬ (HT.sIx ds.length 0 lo = 0 ∧ HT.sIx ds.length ds.length hi = ds.length) ∧
  ∀ l H', Same H H' → Dq H' (.ref l) (.tuple (cutD ds lo hi)) → Q (.ref l) H'
theorem sl_tupF {X : Cx} : SlR X rSlF := by
  intro pins s σ H x v vl vu lo hi sl Q I rx hs pl pu h
  obtain ⟨a, xs, ds, rfl, f, t1, nw, q⟩ := h
  refine sl_tupA pins s σ H _ v vl vu lo hi sl Q I rx hs pl pu ⟨a, xs, rfl, f.seq, fun e => ?_, fun _ p np => ?_⟩
  · rw [t1.len] at e
    exact absurd e nw
  · exact q p _ (same_new np) (.tup upd_same (DqAll.same (same_new np) _ (t1.cut lo hi)))
end TkS
set_option Elab.async false
set_option linter.all false
set_option maxRecDepth 100000
set_option maxHeartbeats 4000000
/-! comprehensions whose items are data -/
namespace TkS
open PySem PySem.Spec PyProof.Rows L2
theorem off_put {h : Addr} {H : Hp} {o : HO} : TkS.Off h (upd H h o) = TkS.Off h H := by
  funext b
  unfold TkS.Off
  by_cases z : b = h
  · rw [if_pos z, if_pos z]
  · rw [if_neg z, if_neg z, upd_ne z]
theorem filter_snoc {α β : Type} (p : α → Bool) (f : α → β) {l : List α} {i : Nat} {x : α} (h : l[i]? = some x) :
    ((l.take (i + 1)).filter p).map f = if p x = true then ((l.take i).filter p).map f ++ [f x] else ((l.take i).filter p).map f := by
  rw [List.take_add_one, h]
  show ((l.take i ++ [x]).filter p).map f = _
  rw [List.filter_append, List.map_append, List.filter_cons]
  by_cases c : p x = true
  · rw [if_pos c, if_pos c]
    rfl
  · rw [if_neg c, if_neg c]
    show ((l.take i).filter p).map f ++ [] = _
    rw [List.append_nil]
theorem len_ft {α β : Type} (p : α → Bool) (f : α → β) (l : List α) : ((l.filter p).map f).length ≤ l.length := by
  rw [List.length_map]
  exact List.length_filter_le _ _
/-- the shared turn: a list D under way -/
def Acc (H0 : Hp) (D : Addr) (ds : List PyData) (H' : Hp) : Prop := Same H0 H' ∧ ∃ ys, H' D = some (.lst ys) ∧ DqAll (TkS.Off D H') ys ds
theorem Acc.nil {H0 : Hp} {D : Addr} (nD : H0 D = none) : Acc H0 D [] (upd H0 D (.lst [])) := ⟨same_new nD, [], upd_same, .nil⟩
theorem Acc.put {H0 H' H'' : Hp} {D : Addr} {ds : List PyData} {y : V} {d : PyData} (a : Acc H0 D ds H') (nD : H0 D = none) (hl : ds.length ≤ 900) (s : Same H' H'') (k : Dq (TkS.Off D H'') y d) :
    ∃ acc, H'' D = some (.lst acc) ∧ acc.length < sizeLine ∧ Acc H0 D (ds ++ [d]) (upd H'' D (.lst (acc ++ [y]))) := by
  obtain ⟨s0, ys, h1, h2⟩ := a
  refine ⟨ys, s _ _ h1, ?_, fun b o e => ?_, ys ++ [y], upd_same, ?_⟩
  · rw [h2.len]
    exact Nat.lt_of_le_of_lt hl (by decide)
  · rw [upd_ne (ne_of_none e nD)]
    exact s _ _ (s0 _ _ e)
  · rw [off_put]
    exact (DqAll.same (off_of s) _ h2).snoc k
theorem Acc.mv {H0 H' H'' : Hp} {D : Addr} {ds : List PyData} (a : Acc H0 D ds H') (s : Same H' H'') : Acc H0 D ds H'' := by
  obtain ⟨s0, ys, h1, h2⟩ := a
  exact ⟨s0.trans s, ys, s _ _ h1, DqAll.same (off_of s) _ h2⟩
theorem Acc.dq {H0 H' : Hp} {D : Addr} {ds : List PyData} (a : Acc H0 D ds H') : Dq H' (.ref D) (.list ds) := by
  obtain ⟨s0, ys, h1, h2⟩ := a
  exact .lst h1 (DqAll.same off_same _ h2)
theorem lc_rngD {tt : TT} {te : TE} {vs : List Nat} {σ : L2.St} {H0 : Hp} {D : Addr} {Qd : Hp → Prop} {j n : Nat} (f : Nat → Bool) (e : Nat → PyData)
    (nD : H0 D = none) (hl : n ≤ 900) (hw : ∀ x : V, wipe ((wipe σ vs).set j (some x)) vs = wipe σ vs)
    (ht : ∀ (i : Nat) (H' : Hp) (Q : Bool → Hp → Prop), i < n → Same H0 H' → (∀ H'', Same H' H'' → Q (f i) H'') → tt ((wipe σ vs).set j (some (.int (0 + (i : Int))))) H' Q)
    (he : ∀ (i : Nat) (H' : Hp) (Q : VK), i < n → f i = true → Same H0 H' → (∃ acc, H' D = some (.lst acc)) → (∀ y H'', Same H' H'' → Dq (TkS.Off D H'') y (e i) → Q y H'') → te ((wipe σ vs).set j (some (.int (0 + (i : Int))))) H' Q)
    (hd : ∀ H', Same H0 H' → Dq H' (.ref D) (.list (((List.range n).filter f).map e)) → Qd H') :
    ∃ W : Nat → Nat → Hp → Prop, (∃ m, W 0 m (upd H0 D (.lst []))) ∧ ∀ i m H, W i m H →
      ((Itr 0 n).stop i H ∧ Qd H) ∨ ((Itr 0 n).go i H ∧ ∃ Nx : Hp → Prop, (∀ H', Nx H' → ∃ m', m' < m ∧ W (i + 1) m' H') ∧ ∀ x H', (Itr 0 n).yld i H x H' → gName j x (wipe σ vs) H' fun σ2 H2 => wipe σ2 vs = wipe σ vs ∧ tt σ2 H2 fun b H3 =>
        if b = true then te σ2 H3 fun y H4 => ∃ acc, H4 D = some (.lst acc) ∧ acc.length < sizeLine ∧ Nx (upd H4 D (.lst (acc ++ [y]))) else Nx H3) := by
  refine lc_range (lo := 0) (n := n) (fun i H' => Acc H0 D (((List.range i).filter f).map e) H') (Acc.nil nD) (fun i H' hi hP => ?_) (fun H' hP => ?_)
  · refine ⟨hw _, ht i H' _ hi hP.1 fun H2 s2 => ?_⟩
    have er : ((List.range (i + 1)).filter f).map e = if f i = true then ((List.range i).filter f).map e ++ [e i] else ((List.range i).filter f).map e := by
      rw [List.range_succ, List.filter_append, List.map_append, List.filter_cons]
      by_cases c : f i = true
      · rw [if_pos c, if_pos c]
        rfl
      · rw [if_neg c, if_neg c]
        show _ ++ [] = _
        rw [List.append_nil]
    have hP2 := hP.mv s2
    cases c : f i with
    | true =>
      refine he i H2 _ hi c hP2.1 ⟨_, hP2.2.choose_spec.1⟩ fun y H3 s3 k => ?_
      rw [er, if_pos c]
      refine hP2.put nD ?_ s3 k
      have := len_ft f e (List.range i)
      rw [List.length_range] at this
      omega
    | false =>
      show Acc _ _ _ _
      rw [er, c, if_neg Bool.false_ne_true]
      exact hP2
  · exact hd H' hP.1 hP.dq
theorem lc_seqD {K : PySem.W.Frag} {a : Addr} {xs : List V} {ds : List PyData} {tl : TE} {tt : TT} {te : TE} {vs : List Nat} {σ : L2.St} {H : Hp} {Q : VK} {j : Nat} (f : PyData → Bool) (e : PyData → PyData)
    (ht0 : ∀ Q : VK, Q (.ref a) H → tl σ H Q) (hq : Sq K H a xs) (hx : DqAll H xs ds) (hl : ds.length ≤ 900) (hw : ∀ x : V, wipe ((wipe σ vs).set j (some x)) vs = wipe σ vs)
    (ht : ∀ (i : Nat) (x : V) (d : PyData) (H' : Hp) (Q : Bool → Hp → Prop), ds[i]? = some d → Same H H' → Dq H' x d → (∀ H'', Same H' H'' → Q (f d) H'') → tt ((wipe σ vs).set j (some x)) H' Q)
    (he : ∀ (D : Addr) (i : Nat) (x : V) (d : PyData) (H' : Hp) (Q : VK), H D = none → ds[i]? = some d → f d = true → Same H H' → Dq H' x d → (∃ acc, H' D = some (.lst acc)) → (∀ y H'', Same H' H'' → Dq (TkS.Off D H'') y (e d) → Q y H'') → te ((wipe σ vs).set j (some x)) H' Q)
    (hd : ∀ D H', H D = none → Same H H' → Dq H' (.ref D) (.list ((ds.filter f).map e)) → Q (.ref D) H') :
    tLc (iSeq K tl) (gName j) tt te vs σ H Q := by
  refine lc_seq (fun D i H' => Acc H D (((ds.take i).filter f).map e) H') ht0 hq (fun D nD => Acc.nil nD) (fun D i H' _ _ hP => hP.1) (fun D i x H' nD hxi hP => ?_) (fun D H' nD hP => ?_)
  · obtain ⟨d, hdi, kd⟩ := hx.get hxi
    have kd1 := kd.same hP.1
    refine ⟨hw _, ht i x d H' _ hdi hP.1 kd1 fun H2 s2 => ?_⟩
    have hP2 := hP.mv s2
    cases c : f d with
    | true =>
      refine he D i x d H2 _ nD hdi c hP2.1 (kd1.same s2) ⟨_, hP2.2.choose_spec.1⟩ fun y H3 s3 k => ?_
      rw [filter_snoc _ _ hdi, if_pos c]
      refine hP2.put nD ?_ s3 k
      have := len_ft f e (ds.take i)
      rw [List.length_take] at this
      omega
    | false =>
      show Acc _ _ _ _
      rw [filter_snoc _ _ hdi, c, if_neg Bool.false_ne_true]
      exact hP2
  · rw [hx.len, List.take_length] at hP
    exact hd D H' nD hP.1 hP.dq
/-! data without a list -/
mutual
def noList : PyData → Bool
  | .list _ => false
  | .tuple ds => noLists ds
  | _ => true
def noLists : List PyData → Bool
  | [] => true
  | d :: ds => noList d && noLists ds
end
mutual
theorem dq_noL {H : Hp} {D : Addr} {acc : List V} (h : H D = some (.lst acc)) : ∀ {v : V} (d : PyData), noList d = true → Dq H v d → Dq (TkS.Off D H) v d
  | _, .none, _, .non => .non
  | _, .bool _, _, .bl b => .bl b
  | _, .int _, _, .int i => .int i
  | _, .str _, _, .str x => .str x
  | _, .list _, n, .lst e t => by cases n
  | _, .tuple ds, n, .tup e t => .tup (off_at (fun z => by rw [z, h] at e; cases e) e) (dqs_noL h ds n t)
theorem dqs_noL {H : Hp} {D : Addr} {acc : List V} (h : H D = some (.lst acc)) : ∀ {vs : List V} (ds : List PyData), noLists ds = true → DqAll H vs ds → DqAll (TkS.Off D H) vs ds
  | _, [], _, .nil => .nil
  | _, d :: ds, n, .cons k t => .cons (dq_noL h d (by
      have n' : (noList d && noLists ds) = true := n
      exact (Bool.and_eq_true_iff.mp n').1) k) (dqs_noL h ds (by
      have n' : (noList d && noLists ds) = true := n
      exact (Bool.and_eq_true_iff.mp n').2) t)
end
/-! a hand (a list of a list and three ints) is no part of other data -/
def handD : PyData → Bool
  | .list [_, .int _, .int _, .int _] => true
  | _ => false
mutual
def noHand : PyData → Bool
  | .list ds => !handD (.list ds) && noHands ds
  | .tuple ds => noHands ds
  | _ => true
def noHands : List PyData → Bool
  | [] => true
  | d :: ds => noHand d && noHands ds
end
mutual
theorem dq_hand {H H' : Hp} {h : Addr} {c : V} {p r t : Int} (hh : H h = some (.lst [c, .int p, .int r, .int t])) (k : ∀ b o, b ≠ h → H b = some o → H' b = some o) : ∀ {v : V} (d : PyData), noHand d = true → Dq H v d → Dq H' v d
  | _, .none, _, .non => .non
  | _, .bool _, _, .bl b => .bl b
  | _, .int _, _, .int i => .int i
  | _, .str _, _, .str x => .str x
  | _, .list ds, n, .lst e u => by
    have n' : (!handD (.list ds) && noHands ds) = true := n
    obtain ⟨n1, n2⟩ := Bool.and_eq_true_iff.mp n'
    refine .lst (k _ _ (fun z => ?_) e) (dqs_hand hh k ds n2 u)
    rw [z, hh] at e
    cases e
    cases u with
    | cons u0 u =>
      cases u with
      | cons u1 u =>
        cases u with
        | cons u2 u =>
          cases u with
          | cons u3 u =>
            cases u
            cases u1
            cases u2
            cases u3
            exact absurd n1 (by simp [handD])
  | _, .tuple ds, n, .tup e u => .tup (k _ _ (fun z => by rw [z, hh] at e; cases e) e) (dqs_hand hh k ds n u)
theorem dqs_hand {H H' : Hp} {h : Addr} {c : V} {p r t : Int} (hh : H h = some (.lst [c, .int p, .int r, .int t])) (k : ∀ b o, b ≠ h → H b = some o → H' b = some o) : ∀ {vs : List V} (ds : List PyData), noHands ds = true → DqAll H vs ds → DqAll H' vs ds
  | _, [], _, .nil => .nil
  | _, d :: ds, n, .cons u v => .cons (dq_hand hh k d (by
      have n' : (noHand d && noHands ds) = true := n
      exact (Bool.and_eq_true_iff.mp n').1) u) (dqs_hand hh k ds (by
      have n' : (noHand d && noHands ds) = true := n
      exact (Bool.and_eq_true_iff.mp n').2) v)
end
end TkS
set_option Elab.async false
set_option linter.all false
set_option maxRecDepth 100000
set_option maxHeartbeats 4000000
/-! len(set(xs)), xs a list of tuples of ints -/
namespace TkS
open PySem PySem.Spec PyProof.Rows L2
def rLenSetT (P : Program) (w : World) : List V → Hp → VK → Prop := fun xs H Q => ∃ (a : Addr) (L : List (Addr × List Int)), xs = [.ref a] ∧ H a = some (SetTO P w a L) ∧ (∀ p ∈ L, ∃ ys, H p.1 = some (.tup ys) ∧ ys = p.2.map V.int) ∧ ((L.map (·.2)).Nodup → Q (.int (L.length : Int)) H)
theorem call_lenSetT {X : Cx} : CallR X (.builtin "len") (rLenSetT X.prog X.w) := by
  intro pins s σ H xs us Q I r h
  obtain ⟨a, L, rfl, ha, ht, q⟩ := h
  obtain ⟨u, rfl, rx⟩ := vals1 r
  cases rx
  have R0 : SetT0 X.prog X.w s.heap a L := (I.hok a _ ha).1
  obtain ⟨es, ep, t, R⟩ := R0.full fun p hp => by
    obtain ⟨ys, h1, h2⟩ := ht p hp
    subst h2
    exact I.isT (.inl (.inl h1))
  obtain ⟨o, ho, hex, hd⟩ := R.ob
  have hsz := R.size
  have few := R.few
  refine call_len_set ho hex hd R.fits (by rw [hsz]; omega) ⟨.int (L.length : Int), H, I.tok _, ⟨_, by rw [hsz]⟩, q R.nd⟩
theorem nd_le {α : Type} [DecidableEq α] : ∀ {A B : List α}, A.Nodup → (∀ x ∈ A, x ∈ B) → A.length ≤ B.length
  | [], _, _, _ => Nat.zero_le _
  | a :: A, B, n, s => by
    have ha := s a List.mem_cons_self
    have n2 := List.nodup_cons.mp n
    have := nd_le (A := A) (B := B.erase a) n2.2 fun x m => (List.mem_erase_of_ne (show x ≠ a from fun z => by subst z; exact n2.1 m)).mpr (s x (List.mem_cons_of_mem _ m))
    have e := (List.perm_cons_erase ha).length_eq
    simp only [List.length_cons] at e ⊢
    omega
theorem nd_perm {α : Type} [DecidableEq α] : ∀ {A B : List α}, A.Nodup → (∀ x ∈ A, x ∈ B) → A.length = B.length → A.Perm B
  | [], B, _, _, e => by
    have : B = [] := List.length_eq_zero_iff.mp e.symm
    rw [this]
  | a :: A, B, n, s, e => by
    have ha := s a List.mem_cons_self
    have n2 := List.nodup_cons.mp n
    have pe := List.perm_cons_erase ha
    have e2 := pe.length_eq
    simp only [List.length_cons] at e e2
    exact ((nd_perm (A := A) (B := B.erase a) n2.2 (fun x m => (List.mem_erase_of_ne (show x ≠ a from fun z => by subst z; exact n2.1 m)).mpr (s x (List.mem_cons_of_mem _ m))) (by omega)).cons a).trans pe.symm
theorem nd_iff {α : Type} [DecidableEq α] {A B : List α} (n : A.Nodup) (s : ∀ x ∈ A, x ∈ B) (s' : ∀ x ∈ B, x ∈ A) : A.length = B.length ↔ B.Nodup :=
  ⟨fun e => (nd_perm n s e).nodup_iff.mp n, fun nb => Nat.le_antisymm (nd_le n s) (nd_le nb s')⟩
end TkS
set_option Elab.async false
set_option linter.all false
set_option maxRecDepth 100000
set_option maxHeartbeats 4000000
/-! try with several clauses that each bind the error to one and the same name -/
namespace TkS
open PySem PySem.Spec PyProof.Rows L2
/-- a clause's ends: behind the suite the name is gone -/
def goneE (i : Nat) (D : Ends) : Ends := { nx := fun σ' H' => D.nx (σ'.set i none) H', rt := D.rt, bk := fun σ' H' => D.bk (σ'.set i none) H', ct := fun σ' H' => D.ct (σ'.set i none) H' }
def wAsM (K : PySem.W.Frag) (i : Nat) (Wout : WX) (D : Ends) : List (Value × (Addr → Value → Option Addr → TS)) → WX
  | [] => Wout
  | (c, ts) :: r => fun cls d σ H => ∃ b, PySem.W.exmOne K cls c = some b ∧ (b = true → ∀ a, H a = none → ts a cls d (goneE i D) (σ.set i (some (.ref a))) H) ∧ (b = false → wAsM K i Wout D r cls d σ H)
inductive AsOk (X : Cx) (n : Str) : List ExceptHandler → List (Value × (Addr → Value → Option Addr → TS)) → Prop
  | nil : AsOk X n [] []
  | cons {x : Str} {c : Value} {ts : Addr → Value → Option Addr → TS} {b₀ : Stmt} {suite : List Stmt} {np pos' : Pos} {hds : List ExceptHandler} {l : List (Value × (Addr → Value → Option Addr → TS))} (hc : Names X x c)
      (hsu : ∀ (a : Addr) (oe : Obj) (cls : Value) (d : Option Addr) (pn : List (Addr × Obj)), Zc cls d oe → (∃ vs, oe.data = .fields vs) → PSs (X.suite a ((a, oe) :: pn)) (b₀ :: suite) (ts a cls d)) (r : AsOk X n hds l) :
      AsOk X n (.ExceptHandler (some (.Name x np)) (some n) (b₀ :: suite) pos' :: hds) ((c, ts) :: l)
section
variable {X : Cx} {n : Str} {i : Nat} {body : List Stmt} {h₀ : ExceptHandler} {hds : List ExceptHandler} {l : List (Value × (Addr → Value → Option Addr → TS))} {pos : Pos} {tb : WX → TS} {Wout : WX}
theorem ps_try_asM (hs : X.stack = X.env :: X.outer) (hf : X.env.frame = some X.env.locals) (hN : X.N.Nodup) (hi : X.N[i]? = some n) (hln : X.env.kindOf n = some .local) (tk : Takes X Wout)
    (hb : ∀ (W : WX) (pn : List (Addr × Obj)) (xe : Value → Shared → Prop), Takes (X.tr pn xe) W → PassesOwn (model X.prog X.w) X.A X.env xe → PSs (X.tr pn xe) body (tb W))
    (hh : AsOk X n (h₀ :: hds) l) : PS X (.Try body (h₀ :: hds) [] [] pos) (fun D σ H => tb (wAsM X.K i Wout D l) D σ H) := by
  refine ⟨fun pins s σ H D I h => wpAny_Try_except ?_⟩
  have ok := I.ok
  have hfr : X.A.frames = some (X.env :: X.outer) := by rw [ok.frames, hs]
  refine wpAny_mono ((hb (wAsM X.K i Wout D l) (X.pn ++ pins) (fun e s₁ => wpAny (model X.prog X.w) X.A (noteFrame e X.env) (fun _ s₂ => wpAny (model X.prog X.w) X.A (setFlight e none) (fun _ s₃ =>
    wpAny (model X.prog X.w) X.A (handleBy e X.env (h₀ :: hds)) (SP X pins D) X.xe s₃) X.xe s₂) X.xe s₁) (fun u s' xx => ?_) PassesOwn.looking).run [] s σ H D (I.toTry _) h) (fun f s1 hsp => ?_) (fun e s1 he => he)
  · obtain ⟨a, B, sI, pins', σ', H', cls, d, rfl, J', nb, up, sky, na, os, ag, w⟩ := xx
    have J : Inv X pins σ' H' sI := J'.ofTry ok
    refine Sky.land Zc.steady hfr hf (by rw [← hs]; exact sky) fun h3 fl3 up3 => ?_
    have J3 : Inv X pins σ' H' { s' with heap := h3 } := J.landed nb fl3.1 (up.trans up3) os ag
    obtain ⟨oe3, vs3, he3, hz3, hd3⟩ := fl3.there
    have nfr : a ∉ frs (X.env :: X.outer) := fun hm => by
      obtain ⟨_, o', e', hnf⟩ := fl3.2.2.1.mem hm
      rw [he3] at e'
      cases e'
      exact hnf _ hd3
    have nL : a ≠ X.env.locals := fun z => nfr (List.mem_filterMap.mpr ⟨X.env, List.mem_cons_self, by rw [hf, z]⟩)
    have nF : a ∉ X.fs := fun hm => by
      obtain ⟨e, he, q⟩ := List.mem_filterMap.mp hm
      exact nfr (List.mem_filterMap.mpr ⟨e, List.mem_cons_of_mem _ he, q⟩)
    have S3 := J3.suite he3 hd3 na nL nF
    have go : ∀ {hds' : List ExceptHandler} {l' : List (Value × (Addr → Value → Option Addr → TS))}, AsOk X n hds' l' → wAsM X.K i Wout D l' cls d σ' H' →
        wpAny (model X.prog X.w) X.A (handleBy (.ref a) X.env hds') (SP X pins D) X.xe { s' with heap := h3 } := by
      intro hds' l' hk
      induction hk with
      | nil =>
        intro w
        refine wpAny_handleBy_nil ?_
        obtain ⟨k1, k2, k3, oe, vs, T, oT, ts', he, hz, hd, h1, hr⟩ := id fl3
        unfold PySem.passOn
        refine wpAny_bind (wpAny_field he hd h1 ?_)
        rw [if_neg (show ¬ ((Value.ref T == Value.none) = true) from by simp)]
        have fin : wpAny (model X.prog X.w) X.A (setFlight (.ref a) X.env.frame) (fun _ s4 => wpAny (model X.prog X.w) X.A (throw (.ref a) : Sem Flow) (SP X pins D) X.xe s4) X.xe { s' with heap := h3 } := by
          rw [hf]
          exact HandSPX.setFlight_upZ fl3 fun h4 hh4 up4 => wpAny_throw (tk _ _ ⟨a, B, sI, pins, σ', H', cls, d, rfl, J, nb, (up.trans up3).trans up4, .inr (.inr (by rw [hs]; exact hh4)), na, os, ag, w⟩)
        first
          | exact wpAny_bind (wpAny_pure (wpAny_bind fin))
          | exact wpAny_bind fin
      | @cons x c ts b₀ suite np pos' hds2 l2 hc hsu r ih =>
        intro w
        obtain ⟨b, hb1, hyes, hno⟩ := w
        refine wpAny_handleBy_cons (codeAny_handlers_test ?_) (by intro q; cases q)
        have LM := PySem.W.exm_one (M := model X.prog X.w) (J3.kIn) (fun A Q E s k q => wpAny_typeOf_ref (k _ _ he3) (by rw [hz3.1]; exact q)) hb1
        have test : ∀ {Q : Value → Shared → Prop} {E : Value → Shared → Prop}, Q c { s' with heap := h3 } → wpAny (model X.prog X.w) (X.A.mark (some (.ref a))) (eval (.Name x np) X.env) Q E { s' with heap := h3 } := fun {Q E} q => by
          obtain ⟨hg, hdbg, hm | ⟨hm, hv, hnn⟩⟩ := hc
          · exact ld_glob (X := X.suite a ((a, oe3) :: (X.pn ++ pins))) S3 hg hm q hdbg
          · exact ld_blt (X := X.suite a ((a, oe3) :: (X.pn ++ pins))) S3 hg hm hv q hnn hdbg
        refine test (LM.here ?_)
        cases b with
        | false => exact ih (hno rfl)
        | true =>
          refine codeAny_handlers_suite_as (HandSPX.lands_againZ fl3 fun h4 fl4 up4 => ?_)
          have J4 : Inv X pins σ' H' { s' with heap := h4 } := J.landed nb fl4.1 ((up.trans up3).trans up4) os ag
          obtain ⟨oe4, vs4, he4, hz4, hd4⟩ := fl4.there
          have S4 := J4.suite he4 hd4 na nL nF
          refine store_ok (X := X.suite a ((a, oe4) :: (X.pn ++ pins))) (v := .ref a) S4 hN hi (.inl hln) rfl (fun s5 S5 => ?_) (.inr hln)
          refine wpAny_mono ((hsu a oe4 cls d (X.pn ++ pins) hz4 ⟨_, hd4⟩).run [] s5 _ H' _ S5 (hyes rfl a na)) (fun f s6 hsp => ?_) (fun _ _ z => False.elim z)
          have end_ : ∀ {σ6 : L2.St} {H6 : Hp} {Q : Shared → Prop}, Inv (X.suite a ((a, oe4) :: (X.pn ++ pins))) [] σ6 H6 s6 → (∀ s7, Inv X pins (σ6.set i none) H6 s7 → Q s7) →
              wpAny (model X.prog X.w) X.A (do bindName X.env n .none; unbindBehindTheSuite X.env n pos') (fun _ s7 => Q s7) X.xe s6 := fun {σ6 H6 Q} S6 hq => gone_ok (S6.unsuite ok) hN hi hln hq
          cases f with
          | ret u =>
            obtain ⟨v6, σ6, H6, S6, r6, q6⟩ := hsp
            exact end_ S6 fun s7 J7 => ⟨_, _, _, J7, r6, q6⟩
          | next =>
            obtain ⟨σ6, H6, S6, q6⟩ := hsp
            exact end_ S6 fun s7 J7 => ⟨_, _, J7, q6⟩
          | brk =>
            obtain ⟨σ6, H6, S6, q6⟩ := hsp
            exact end_ S6 fun s7 J7 => ⟨_, _, J7, q6⟩
          | cont =>
            obtain ⟨σ6, H6, S6, q6⟩ := hsp
            exact end_ S6 fun s7 J7 => ⟨_, _, J7, q6⟩
    exact go hh w
  · cases f with
    | ret u =>
      obtain ⟨v, σ', H', J', r, q⟩ := hsp
      exact ⟨v, σ', H', J'.ofTry ok, r, q⟩
    | next =>
      obtain ⟨σ', H', J', q⟩ := hsp
      exact wpAny_execs_nil ⟨σ', H', J'.ofTry ok, q⟩
    | brk =>
      obtain ⟨σ', H', J', q⟩ := hsp
      exact ⟨σ', H', J'.ofTry ok, q⟩
    | cont =>
      obtain ⟨σ', H', J', q⟩ := hsp
      exact ⟨σ', H', J'.ofTry ok, q⟩
end
end TkS
set_option Elab.async false
set_option linter.all false
set_option maxRecDepth 100000
set_option maxHeartbeats 4000000
/-! the law's def at its caller alone, where it is known that nothing is being printed (repr asks for that) -/
namespace TkS
open PySem PySem.Spec PyProof.Rows L2
/-- a def's promise at the law's caller -/
def TopOk (P : Program) (w : World) (K : PySem.W.Frag) (mg : Str → Option Value) (base : Heap) (CX : CXT) (f : Addr) (fd : FuncData) (ps : List Str) (sp : Sp) : Prop :=
  ∀ (outer : List Env) (s : Shared) (H : Hp) (args : Args) (us : List Value) (vs : List V) (Q : VK) (E : XK), Env0 P w K mg base callerA outer s H → BindsTo s fd args (ps.zip us) → Vals vs us → sp vs H Q E →
    codeAny (model P w) callerA (.call (.ref f) args) (CR CX outer P w H s Q E) s
theorem room_top : Room 200 callerA := ⟨rfl, by decide, by decide⟩
theorem top_of {CX : CXT} {P : Program} {w : World} {K : PySem.W.Frag} {mg : Str → Option Value} {base : Heap} {f : Addr} {name qual : Str} {params : Arguments} {body : List Stmt} {scope : Scope} {dV kV doc pm cdv ct oc : Value} {an od : Option Addr}
    {osl : Array (Option Value)} {N ps : List Str} {sp : Sp} (lk : K.lookup f = some ⟨oc, od, .func (PySem.W.fnOf name qual params body scope dV kV doc pm an cdv ct), osl⟩) (hcd : PySem.W.codeIn K cdv qual = true) (S : FnScope N ps scope)
    (len : ∀ vs H Q E, sp vs H Q E → vs.length = ps.length)
    (hbody : ∀ (outer : List Env) (s : Shared) (H : Hp) (vs : List V) (Q : VK) (E : XK), Room 199 (callerA.deeper (envOfC qual scope s.heap.objs.size f cdv)) → sp vs H Q E →
      ∃ t, PSs (cxOf CX P w K mg base N qual scope f cdv callerA outer s H E) body t ∧ t { nx := fun _ H' => Q .non H', rt := Q } (start N vs) H) :
    TopOk P w K mg base CX f (PySem.W.fnOf name qual params body scope dV kV doc pm an cdv ct) ps sp := by
  intro outer s H args us vs Q E e0 hb r hsp
  have hr := room_top
  have hl := len _ _ _ _ hsp
  have KX : K.In s.heap := e0.mod.kin.keeps fun b o e => (e0.bs b o e).1
  have lim : s.heap.NoLimit := e0.mod.nolimit.keeps fun b o e => (e0.bs b o e).1
  have hkind : ∀ y ∈ ps.zip us, scope.names.lookup y.1 = some .local ∨ (scope.names.lookup y.1 = some .cell ∧ ((cellsFrom (s.heap.objs.size + 1) scope.names []).lookup y.1).isSome = true) := fun ⟨n, v⟩ hy => by
    rcases S.par n (List.of_mem_zip hy).1 with q | q
    · exact .inl q
    · exact .inr ⟨q, PySem.W.cellsFrom_some _ _ _ (.inl q)⟩
  refine codeAny_call_function hr.depth (KX _ _ lk) rfl S.co S.gen rfl (PySem.W.codeRec_of KX hcd) (hb _ _ _ _ ?_)
  refine wpAny_newFunctionEnv_cells S.kind hkind fun env he s1 x => ?_
  subst he
  refine ⟨lim.keeps x.toInCall.keep, codeAny_func ?_⟩
  obtain ⟨t, ht, hq⟩ := hbody outer s H vs Q E (hr.deeper _) hsp
  have I : Inv (cxOf CX P w K mg base N qual scope f cdv callerA outer s H E) [] (start N vs) H s1 := inv_start S hr.hd e0 hl r x
  refine wpAny_mono (ht.run [] s1 (start N vs) H _ I hq) (fun fl s' hs => ?_) fun e s' hs => hs
  have fin : ∀ {σ' : L2.St} {H' : Hp} {v : V} {u : Value}, Inv (cxOf CX P w K mg base N qual scope f cdv callerA outer s H E) [] σ' H' s' → RelV v u → Q v H' → CE outer P w H s Q u s' :=
    fun {σ' H' v u} J rv q => ⟨v, H', J.os, J.bare, J.base, J.hok, rv, q⟩
  cases fl with
  | ret u =>
    obtain ⟨v, σ', H', J, rv, q⟩ := hs
    exact fin J rv q
  | next =>
    obtain ⟨σ', H', J, q⟩ := hs
    exact fin (v := V.non) (u := Value.none) J rfl q
  | brk =>
    obtain ⟨_, _, _, q⟩ := hs
    exact False.elim q
  | cont =>
    obtain ⟨_, _, _, q⟩ := hs
    exact False.elim q
theorem top_call {P : Program} {w : World} {K : PySem.W.Frag} {mg mb : Str → Option Value} {CX : CXT} {fa a : Addr} {fd : FuncData} {x : Str} {sp : Sp} {s₁ : Shared} {vs : List Value} {ns : List Int}
    (KX : K.In s₁.heap) (hns : s₁.heap.Ns mainGlobals mg) (hb : s₁.heap.Ns builtinsNs mb) (hbb : ∀ x : Str, x ≠ "__name__" → mb x = bootBuiltins x) (hlim : s₁.heap.NoLimit) (hg : s₁.gens = #[])
    (ha : s₁.heap.get? a = some { cls := .type "list", data := .seq vs.toArray }) (hi : IntsAre vs ns) (hl : ns.length ≤ sizeLine)
    (F : ∀ base : Heap, K.In base → base.Ns mainGlobals mg → TopOk P w K mg base CX fa fd [x] sp) (hbind : ∀ (s : Shared) (u : Value), BindsTo s fd ⟨[u], []⟩ [(x, u)])
    (hsp : ∀ H : Hp, Only H → SqL K H a (ns.map V.int) → sp [.ref a] H (fun v _ => v = .bl true) fun _ _ _ => False)
    (hCX : ∀ H e s', CX [] H s₁ (fun _ _ _ => False) e s' → False) :
    codeAny (model P w) callerA (.call (.ref fa) ⟨[.ref a], []⟩) (fun r s' => r = .ok (.ret (.bool true)) ∧ OldK s₁.heap s'.heap ∧ s'.os = s₁.os ∧ AllBare s'.gens) s₁ := by
  have rv := vals_ints hi
  have lenV := hi.length
  -- from an abstract heap in which nothing but the script may be tracked
  have core : ∀ H : Hp, Only H → SqL K H a (ns.map V.int) → HOk P w H s₁.heap → (∀ b, H b ≠ none → b = a) → (H a ≠ none → K.lookup a = none) →
      codeAny (model P w) callerA (.call (.ref fa) ⟨[.ref a], []⟩) (fun r s' => r = .ok (.ret (.bool true)) ∧ OldK s₁.heap s'.heap ∧ s'.os = s₁.os ∧ AllBare s'.gens) s₁ := by
    intro H hO hS hok hA hK
    have base_of : ∀ {b : Addr} {o : Obj}, s₁.heap.get? b = some o → H b = none → (hidT s₁.heap H).get? b = some o := fun e n => hidT_get e n
    have noA : ∀ {b : Addr} {o : Obj} {es : Array DictEntry} {ep : Nat}, s₁.heap.get? b = some o → o.data = .dict es ep → H b = none := fun {b o es ep} e d => by
      cases q : H b with
      | none => rfl
      | some u =>
        have e' : b = a := hA b (by rw [q]; simp)
        subst e'
        rw [ha] at e; cases e
        have d' : Data.seq vs.toArray _ = Data.dict es ep := d
        cases d'
    have nsK : ∀ {b : Addr} {m : Str → Option Value}, s₁.heap.Ns b m → (hidT s₁.heap H).Ns b m := fun {b m} ⟨o, es, ep, e, d, r⟩ => ⟨o, es, ep, base_of e (noA e d), d, r⟩
    have hKb : K.In (hidT s₁.heap H) := fun b o e => base_of (KX b o e) (by
      cases q : H b with
      | none => rfl
      | some u =>
        have e' : b = a := hA b (by rw [q]; simp)
        subst e'
        rw [hK (by rw [q]; simp)] at e; cases e)
    have hM : Mod K mg (hidT s₁.heap H) := ⟨hKb, nsK hns, ⟨mb, nsK hb, hbb⟩, let ⟨mc, h1, h2⟩ := hlim; ⟨mc, nsK h1, h2⟩⟩
    have e0 : Env0 P w K mg (hidT s₁.heap H) callerA [] s₁ H := ⟨rfl, hM, fun b o e => of_hidT e, Nat.le_of_eq (hidT_size _ _), trivial, fun b hb => absurd (show b ∈ ([] : List Addr) from hb) (by simp), hok, .of_eq hg⟩
    refine codeAny_mono (F _ hKb (nsK hns) [] s₁ H ⟨[.ref a], []⟩ [.ref a] [.ref a] _ _ e0 (hbind s₁ (.ref a)) (.cons rfl .nil) (hsp H hO hS)) fun r s' h => ?_
    cases r with
    | error e => exact (hCX H e s' h).elim
    | ok fl =>
      cases fl with
      | next => exact False.elim h
      | brk => exact False.elim h
      | cont => exact False.elim h
      | ret u =>
        obtain ⟨v, H', os, bare, un, hok', r', q⟩ := h
        have q' : v = .bl true := q
        subst q'
        obtain rfl : u = Value.bool true := r'
        refine ⟨rfl, OldK.of_keep fun b o e => ?_, os, bare⟩
        cases q : H b with
        | none => exact un.keep b o e q (by intro z; exact absurd (show b ∈ ([] : List Addr) from z) (by simp)) (by simp)
        | some u =>
          rcases hO b with z | ⟨ob, xs, z⟩
          · rw [q] at z; cases z
          · have z2 := un.frzs b ob _ z
            obtain ⟨e1, _⟩ := hok b _ z
            obtain ⟨e2, _⟩ := hok' b _ z2
            rw [e] at e1; cases e1
            exact e2
  cases hk : K.lookup a with
  | some o =>
    -- the script is one of the module's own objects
    have e := KX a o hk
    rw [ha] at e
    cases e
    refine core (fun _ => none) (fun _ => .inl rfl) (.inr ⟨_, vs.toArray, _, hk, rfl, rfl, rfl, by rw [List.size_toArray, lenV]; exact hl, by simpa using rv⟩) (fun b u z => by have z' : (none : Option HO) = some u := z; cases z') (fun b z => absurd rfl z) fun z => absurd rfl z
  | none =>
    refine core (fun b => if b = a then some (.frz { cls := .type "list", data := .seq vs.toArray } (.lst (ns.map V.int))) else none) (fun b => ?_) (.inl (.inr ⟨{ cls := .type "list", data := .seq vs.toArray }, if_pos rfl⟩)) (fun b u z => ?_) (fun b z => ?_) fun _ => hk
    · by_cases hb : b = a
      · exact .inr ⟨_, _, if_pos hb⟩
      · exact .inl (if_neg hb)
    · by_cases hb : b = a
      · have z' := (if_pos hb).symm.trans z
        cases z'
        subst hb
        exact ⟨ha, by rw [List.length_map]; exact hl, vs, _, rv, ha⟩
      · have z' := (if_neg hb).symm.trans z
        cases z'
    · by_cases hb : b = a
      · exact hb
      · exact absurd (if_neg hb) z
theorem walk_top {l : PySem.W.OpenLaw} {n : Nat} {q : Program} {loose : List Str} {XP : (Str → Option Value) → Heap → Prop} {YP : World → Heap → Prop} {d : DefRec} {K : Params → PySem.W.Frag} {CX : World → CXT} {sp : World → Sp} {x : Str}
    (hn : l.most = some n) (hn2 : n ≤ sizeLine) (hdf : d.params.defaults = [])
    (hY : ∀ (w : World) (h : Heap), YP w h → (K w.params).In h)
    (F : ∀ (w : World) (mg : Str → Option Value) (fa : Addr) (h : Heap), (K w.params).In h → h.Ns mainGlobals mg → mg d.name = some (.ref fa) →
      ∃ fd : FuncData, (∀ (s : Shared) (u : Value), BindsTo s fd ⟨[u], []⟩ [(x, u)]) ∧
        ∀ base : Heap, (K w.params).In base → base.Ns mainGlobals mg → TopOk l.prog w (K w.params) mg base (CX w) fa fd [x] (sp w))
    (hsp : ∀ (w : World) (H : Hp) (a : Addr) (ns : List Int), ns.length ≤ n → Only H → SqL (K w.params) H a (ns.map V.int) → sp w [.ref a] H (fun v _ => v = .bl true) fun _ _ _ => False)
    (hCX : ∀ (w : World) (H : Hp) (s : Shared) (e : Value) (s' : Shared), CX w [] H s (fun _ _ _ => False) e s' → False) :
    PySem.W.WalkO q loose XP YP l.row.toRowW d [] (fun f vs => PySem.call f vs) := by
  refine Att.attach_call hn hdf fun w s₀ s₁ mg mb fa o pm cd doc a vs ns G Y ho hd hcd hmg hobj hints hlen hg => ?_
  have KX := hY w _ Y
  obtain ⟨fd, hb, hF⟩ := F w mg fa _ KX G.T.g hmg
  exact top_call KX G.T.g G.T.b G.T.builtins G.T.nolimit hg hobj hints (Nat.le_trans hlen hn2) hF hb (fun H hO hS => hsp w H a ns hlen hO hS) fun H e s' => hCX w H s₁ e s'
end TkS
set_option Elab.async false
set_option linter.all false
set_option maxRecDepth 100000
set_option maxHeartbeats 4000000
/-! list(reversed(xs)), xs a list -/
namespace TkS
open PySem PySem.Spec PyProof.Rows L2
section
variable {prog : Program} {w : World} {A : Around} {E : Value → Shared → Prop} {s : Shared} {R : Result → Shared → Prop}
theorem extend_rev {it l S : Addr} {items : Array Value} {res : Value} {c₀ : Nat} (hh : A.in1.handled = none) (hit : s.heap.IsRevIter it l ((items.size : Int) - 1)) (hl : s.heap.IsList l items) (hne : l ≠ it) (hn : items.size ≤ sizeLine) (hSi : S ≠ it) (hSl : S ≠ l)
    (hS : s.heap.get? S = some { cls := .type "list", data := .seq #[] c₀ })
    (hR : ∀ (s' : Shared) (acc' : Array Value) (c' : Nat), Moved (S :: [it]) (fun a b => b = a) s s' → s'.heap.get? S = some { cls := .type "list", dict := none, data := .seq acc' c', slots := #[] } → ItemsOf (fun i v => items[items.size - 1 - i]? = some v) acc' items.size → R (.ok (.ret res)) s') :
    wpAny (model prog w) A.in1 (Builtin.List.listExtendWith (.ref S) (.ref it) res)
      (fun fin s' => match fin with | .done f => R (.ok f) s' | .again c' => c'.quiet = true ∧ codeAny (model prog w) A c' R s') (fun e s' => R (.error e) s') s := by
  have W := (Walks.listRev (prog := prog) (w := w) (A := A.in1) hh it l hne items).toS
  have hSf : S ∉ [it, l] := by simp only [List.mem_cons, List.not_mem_nil, or_false, not_or]; exact ⟨hSi, hSl⟩
  have hT : s.TypeIs (.ref it) "list_reverseiterator" := hit.typeIs
  have h1 : Builtin.List.listSameRef (.ref S) (.ref it) = false := by simp [Builtin.List.listSameRef, hSi]
  unfold Builtin.List.listExtendWith
  refine wpAny_bind (wpAny_typeOf hT ?_)
  rw [if_neg (by rw [h1]; decide)]
  refine wpAny_bind (wpAny_pyIter_revIter hit ?_)
  refine wpAny_bind (wpAny_holding ?_)
  unfold Builtin.List.listLengthHint
  refine wpAny_bind (wpAny_specialOf hT RT.nolen_lri ?_)
  show wpAny _ A.in1 (specialOf (Value.ref it) (Str.ofString "__length_hint__") >>= _) _ _ _
  refine wpAny_bind (wpAny_specialOf hT RT.hint_lri ?_)
  generalize hid : ("list_reverseiterator.__length_hint__" : String) = id0
  wp_delta
  rw [show splitId id0 = some ("list_reverseiterator", "__length_hint__") from by subst hid; decide +kernel]
  subst hid
  refine wpAny_bind (wpAny_isInstance (b := true) hT (by rw [isSubtype_type]; kernel_rfl) ?_)
  refine wpAny_pure ?_
  rw [if_neg (by decide)]
  have e0 : ((items.size : Nat) : Int) - 1 - ((0 : Nat) : Int) = (items.size : Int) - 1 := by omega
  exact wpAny_pure ⟨plainId_quiet F.plain_extend_loop _, codeAny_extend_loopS W hn _ hSf _ items.size 0 _ _ _ rfl (Nat.zero_le _) ⟨Nat.zero_le _, by rw [e0]; exact hit, hl⟩ hS (ItemsOf.nil _) fun s' acc' c' hm hS' hacc => hR s' acc' c' hm hS' hacc⟩
theorem list_init_rev {it l S : Addr} {items : Array Value} (hh : A.in1.handled = none) (hit : s.heap.IsRevIter it l ((items.size : Int) - 1)) (hl : s.heap.IsList l items) (hne : l ≠ it) (hn : items.size ≤ sizeLine) (hSi : S ≠ it) (hSl : S ≠ l)
    (hS : s.heap.get? S = some { cls := .type "list", data := .seq #[] })
    (hR : ∀ (s' : Shared) (acc' : Array Value) (c' : Nat), (∀ b o, b ≠ S → b ≠ it → s.heap.get? b = some o → s'.heap.get? b = some o) → s' = { s with heap := s'.heap, toks := s'.toks } → s'.heap.get? S = some { cls := .type "list", dict := none, data := .seq acc' c', slots := #[] } → ItemsOf (fun i v => items[items.size - 1 - i]? = some v) acc' items.size → R (.ok (.ret .none)) s') :
    wpAny (model prog w) A.in1 (Builtin.«list.__init__» ⟨[.ref S, .ref it], []⟩)
      (fun fin s' => match fin with | .done f => R (.ok f) s' | .again c' => c'.quiet = true ∧ codeAny (model prog w) A c' R s') (fun e s' => R (.error e) s') s := by
  show wpAny _ A.in1 (do let old ← Builtin.List.listItems (.ref S); Builtin.List.listUpdate (.ref S) (fun _ => #[]); letGo old.toList.reverse; Builtin.List.listExtendWith (.ref S) (.ref it) .none) _ _ s
  refine wpAny_bind ?_
  unfold Builtin.List.listItems
  refine wpAny_bind (wpAny_seqItems hS rfl (wpAny_pure ?_))
  show wpAny _ A.in1 (updateSeq S (fun _ => #[]) >>= fun _ => letGo (#[] : Array Value).toList.reverse >>= fun _ => Builtin.List.listExtendWith (.ref S) (.ref it) .none) _ _ s
  refine wpAny_bind (wpAny_updateSeq hS rfl ?_)
  have hS₂ := Heap.get?_update_self (Obj.mapSeq (fun _ => (#[] : Array Value))) hS rfl
  have oth : ∀ b o, b ≠ S → s.heap.get? b = some o → (s.heap.update S (Obj.mapSeq (fun _ => (#[] : Array Value)))).get? b = some o :=
    fun b o hb e => (Heap.get?_update_other _ _ (Ne.symm hb)).trans e
  refine wpAny_bind (wpAny_letGo ?_)
  have hl' := hl
  obtain ⟨ol, hol, hlc, nl, hld⟩ := hl'
  refine extend_rev hh (hit.at fun o e => oth it o (Ne.symm hSi) e) ⟨ol, oth l _ (Ne.symm hSl) hol, hlc, nl, hld⟩ hne hn hSi hSl hS₂ fun s' acc' c' hm hS' hacc => ?_
  refine hR s' acc' c' (fun b o h1 h2 e => hm.heap b o (by simp [h1, h2]) (oth b o h1 e)) ?_ hS' hacc
  have := Moved.eq_with hm
  exact this
theorem call_list_rev {it l : Addr} {items : Array Value} {Q : Value → Shared → Prop} (hh : A.handled = none) (hit : s.heap.IsRevIter it l ((items.size : Int) - 1)) (hl : s.heap.IsList l items) (hne : l ≠ it) (hn : items.size ≤ sizeLine)
    (hQ : ∀ (h' : Heap) (tk : Nat) (acc : Array Value) (c' : Nat), (∀ b o, b ≠ it → s.heap.get? b = some o → h'.get? b = some o) → h'.get? s.heap.objs.size = some { cls := .type "list", dict := none, data := .seq acc c', slots := #[] } →
      ItemsOf (fun i v => items[items.size - 1 - i]? = some v) acc items.size → Q (.ref s.heap.objs.size) { s with heap := h', toks := tk }) :
    wpAny (model prog w) A (call (.type "list") [.ref it]) Q E s := by
  refine callType_codes (Q₁ := fun obj s₁ => obj = .ref s.heap.objs.size ∧ s₁ = { s with heap := s.heap.push { cls := .type "list", data := .seq #[] } }) F.called_list (F.typeCall_list_1 _) F.entry_list_init
    (code_list_new _ ⟨rfl, rfl⟩) fun obj s₁ h₁ => ?_
  obtain ⟨rfl, rfl⟩ := h₁
  have hS : (s.heap.push { cls := .type "list", data := .seq #[] }).get? s.heap.objs.size = some { cls := .type "list", data := .seq #[] } := Heap.get?_push_size _ rfl
  obtain ⟨oi, hoi, _⟩ := id hit
  obtain ⟨ol, hol, _⟩ := id hl
  refine ⟨⟨_, hS, rfl⟩, F.args_list_init_2 _ _, list_init_rev (A := A.in1) hh (hit.at fun o e => Heap.get?_push_of_some _ e) (hl.push _) hne hn (Nat.ne_of_gt (Heap.lt_size hoi)) (Nat.ne_of_gt (Heap.lt_size hol)) hS fun s' acc' c' k e hS' hacc => ?_⟩
  rw [e]
  exact ⟨rfl, hQ s'.heap s'.toks acc' c' (fun b o hb eo => k b o (Nat.ne_of_lt (Heap.lt_size eo)) hb (Heap.get?_push_of_some _ eo)) hS' hacc⟩
end
def tLstRev (K : PySem.W.Frag) (te : TE) : TE := fun σ H Q => te σ H fun v H1 => ∃ (a : Addr) (xs : List V), v = .ref a ∧ SqL K H1 a xs ∧ ∀ q, H1 q = none → Q (.ref q) (upd H1 q (.lst xs.reverse))
section
variable {X : Cx}
theorem pe_lstRev {e : Expr} {te : TE} {p p2 pos pos2 : Pos} (hc : X.calm = true) (hg : Gl X "list") (hm : X.mg "list" = none) (hg2 : Gl X "reversed") (hm2 : X.mg "reversed" = none) (he : PE X e te)
    (hs : starEach [e] X.env = (false, eval e X.env) :: starEach [] X.env := by rfl)
    (hs2 : starEach [.Call (.Name "reversed" p2) [e] [] pos2] X.env = (false, eval (.Call (.Name "reversed" p2) [e] [] pos2) X.env) :: starEach [] X.env := by rfl) :
    PE X (.Call (.Name "list" p) [.Call (.Name "reversed" p2) [e] [] pos2] [] pos) (tLstRev X.K te) := by
  refine ⟨fun pins s σ H Q I h => ?_⟩
  refine Call_ (ld_blt I hg hm boot_list (PyProof.Rows.callWith_type1 (args_cons (Call_ (ld_blt I hg2 hm2 PyProof.Rows.boot_reversed (PyProof.Rows.callWith_type1 (args_cons (thn (he.run pins s σ H _ I h) fun u s1 ⟨v, H1, I1, r1, q1⟩ => args_nil ?_) hs) hs rfl))) hs2) hs2 rfl))
  obtain ⟨a, xs, ev, hq, q⟩ := q1
  subst ev
  obtain rfl : u = Value.ref a := r1
  obtain ⟨its, rv, p', hz⟩ := I1.list hq
  refine call_reversed_list p'.isList (args_nil ?_)
  have k0 : ∀ b o, s1.heap.get? b = some o → (s1.heap.push (revObj a ((its.toArray.size : Int) - 1))).get? b = some o := fun b o e => Heap.get?_push_of_some _ e
  have I2 : Inv X pins σ H1 { s1 with heap := s1.heap.push (revObj a ((its.toArray.size : Int) - 1)) } := I1.kept (t' := s1.toks) k0
  obtain ⟨f0, f1, f2, f3, f4, f5⟩ := I1.fpOk (H' := H1) (b := s1.heap.objs.size) (Nat.le_refl _) (I1.hok.fresh (Nat.le_refl _))
  have hl := p'.isList
  obtain ⟨ol, hol, _⟩ := id hl
  have hn : its.toArray.size ≤ sizeLine := by rw [List.size_toArray, ← rv.length]; exact hz
  refine call_list_rev (s := { s1 with heap := s1.heap.push (revObj a ((its.toArray.size : Int) - 1)) }) (I1.ok.hd hc) ⟨_, Heap.get?_push_size _ rfl, rfl, rfl⟩ (hl.push _) (Nat.ne_of_lt (Heap.lt_size hol)) hn fun h' tk acc c' hk e' hi => ?_
  have hsz : (s1.heap.push (revObj a ((its.toArray.size : Int) - 1))).objs.size = s1.heap.objs.size + 1 := Heap.size_push ..
  rw [hsz] at e' ⊢
  refine ⟨.ref (s1.heap.objs.size + 1), upd H1 (s1.heap.objs.size + 1) (.lst xs.reverse), I1.laid (t' := tk) (fun b o e => hk b o (Nat.ne_of_lt (Heap.lt_size e)) (k0 b o e)) (Nat.le_succ _) (show ObjOk X.prog X.w _ _ _ (.lst xs.reverse) from ⟨by rw [List.length_reverse]; exact hz, acc.toList, c', RT.vals_rev rv hi, ?_⟩), rfl, q _ (I1.hok.fresh (Nat.le_succ _))⟩
  rw [Array.toArray_toList]
  exact e'
end
end TkS
set_option Elab.async false
set_option linter.all false
set_option maxRecDepth 100000
set_option maxHeartbeats 4000000
/-! how long a shown list of pairs of small numbers is -/
namespace TkS
open PySem PySem.Spec PyProof.Rows L2
theorem small_pair {a b : Int} (a0 : 0 ≤ a) (a1 : a < 5) (b0 : 0 ≤ b) (b1 : b < 5) :
    (PyData.shown (.tuple [.int a, .int b])).length ≤ 10 ∧ (PyData.shown (.list [.int a, .int b])).length ≤ 10 ∧ PyData.showable (.tuple [.int a, .int b]) = true ∧ PyData.showable (.list [.int a, .int b]) = true := by
  have ha : a = 0 ∨ a = 1 ∨ a = 2 ∨ a = 3 ∨ a = 4 := by omega
  have hb : b = 0 ∨ b = 1 ∨ b = 2 ∨ b = 3 ∨ b = 4 := by omega
  rcases ha with rfl | rfl | rfl | rfl | rfl <;> rcases hb with rfl | rfl | rfl | rfl | rfl <;> decide +kernel
theorem textFrom_le (n : Nat) : ∀ (ts : List Str) (k : Nat) (acc : Str), (∀ t ∈ ts, t.length ≤ n) → (textFrom k acc ts).length ≤ acc.length + ts.length * (n + 2)
  | [], _, acc, _ => by
    show acc.length ≤ acc.length + _
    omega
  | t :: r, k, acc, h => by
    have ih := textFrom_le n r (k + 1) (acc ++ (if k > 0 then ", " else "" : String) ++ t) fun u m => h u (List.mem_cons_of_mem _ m)
    have e : (acc ++ (if k > 0 then ", " else "" : String) ++ t).length = acc.length + (if k > 0 then 2 else 0) + t.length := by
      rw [strLen_append, strLen_append]
      split <;> rfl
    have ht := h t List.mem_cons_self
    have e3 : (t :: r).length * (n + 2) = r.length * (n + 2) + (n + 2) := by
      rw [List.length_cons, Nat.succ_mul]
    rw [e] at ih
    show (textFrom (k + 1) _ r).length ≤ _
    rw [e3]
    have hb : (if k > 0 then 2 else 0 : Nat) ≤ 2 := by split <;> omega
    omega
def SmallPair (d : PyData) : Prop := ∃ a b : Int, 0 ≤ a ∧ a < 5 ∧ 0 ≤ b ∧ b < 5 ∧ (d = .tuple [.int a, .int b] ∨ d = .list [.int a, .int b])
theorem small_show {d : PyData} (h : SmallPair d) : d.shown.length ≤ 10 ∧ d.showable = true ∧ d.hasDict = false ∧ d.depth ≤ 1 := by
  obtain ⟨a, b, a0, a1, b0, b1, rfl | rfl⟩ := h
  · obtain ⟨h1, _, h3, _⟩ := small_pair a0 a1 b0 b1
    exact ⟨h1, h3, by simp [PyData.hasDict, PyData.hasDictAll], by simp [PyData.depth, PyData.depthAll]⟩
  · obtain ⟨_, h2, _, h4⟩ := small_pair a0 a1 b0 b1
    exact ⟨h2, h4, by simp [PyData.hasDict, PyData.hasDictAll], by simp [PyData.depth, PyData.depthAll]⟩
theorem shown_pairs {ds : List PyData} (h : ∀ d ∈ ds, SmallPair d) (hl : ds.length ≤ 30) : (PyData.list ds).showable = true ∧ (PyData.list ds).hasDict = false ∧ (PyData.list ds).depth ≤ 60 ∧ (PyData.list ds).shown.length ≤ sizeLine := by
  have key : PyData.showableAll ds = true ∧ PyData.hasDictAll ds = false ∧ PyData.depthAll ds ≤ 1 ∧ (∀ t ∈ PyData.shownAll ds, t.length ≤ 10) ∧ (PyData.shownAll ds).length = ds.length := by
    clear hl
    induction ds with
    | nil => exact ⟨by simp [PyData.showableAll], by simp [PyData.hasDictAll], by simp [PyData.depthAll], by simp [PyData.shownAll], by simp [PyData.shownAll]⟩
    | cons d ds ih =>
      obtain ⟨i1, i2, i3, i4, i5⟩ := ih fun x m => h x (List.mem_cons_of_mem _ m)
      obtain ⟨s1, s2, s3, s4⟩ := small_show (h d List.mem_cons_self)
      refine ⟨by simp [PyData.showableAll, s2, i1], by simp [PyData.hasDictAll, s3, i2], by simp only [PyData.depthAll]; omega, fun t m => ?_, by simp [PyData.shownAll, i5]⟩
      rw [PyData.shownAll] at m
      rcases List.mem_cons.mp m with e | e
      · rw [e]
        exact s1
      · exact i4 t e
  obtain ⟨k1, k2, k3, k4, k5⟩ := key
  refine ⟨by simp [PyData.showable, k1], by simp [PyData.hasDict, k2], by simp only [PyData.depth]; omega, ?_⟩
  have e := textFrom_le 10 (PyData.shownAll ds) 0 "[" k4
  rw [k5] at e
  have e1 : (PyData.list ds).shown = textFrom 0 "[" (PyData.shownAll ds) ++ "]" := by
    simp only [PyData.shown, listText]
  rw [e1, strLen_append]
  have e2 : (("[" : Str)).length = 1 := rfl
  have e3 : (("]" : Str)).length = 1 := rfl
  rw [e2] at e
  rw [e3]
  have : 1000 ≤ sizeLine := by decide
  omega
end TkS
set_option Elab.async false
set_option linter.all false
set_option maxRecDepth 100000
set_option maxHeartbeats 4000000
/-! comprehensions over a list that is made on the way, and over zip -/
namespace TkS
open PySem PySem.Spec PyProof.Rows L2
theorem lc_listD {K : PySem.W.Frag} {a : Addr} {xs : List V} {ds : List PyData} {tt : TT} {te : TE} {vs : List Nat} {σ : L2.St} {H : Hp} {D : Addr} {Qd : Hp → Prop} {j : Nat} (f : PyData → Bool) (e : PyData → PyData)
    (hq : SqL K H a xs) (hx : DqAll H xs ds) (nD : H D = none) (hl : ds.length ≤ 900) (hw : ∀ x : V, wipe ((wipe σ vs).set j (some x)) vs = wipe σ vs)
    (ht : ∀ (i : Nat) (x : V) (d : PyData) (H' : Hp) (Q : Bool → Hp → Prop), ds[i]? = some d → Same H H' → Dq H' x d → (∀ H'', Same H' H'' → Q (f d) H'') → tt ((wipe σ vs).set j (some x)) H' Q)
    (he : ∀ (i : Nat) (x : V) (d : PyData) (H' : Hp) (Q : VK), ds[i]? = some d → f d = true → Same H H' → Dq H' x d → (∃ acc, H' D = some (.lst acc)) → (∀ y H'', Same H' H'' → Dq (TkS.Off D H'') y (e d) → Q y H'') → te ((wipe σ vs).set j (some x)) H' Q)
    (hd : ∀ H', Same H H' → Dq H' (.ref D) (.list ((ds.filter f).map e)) → Qd H') :
    ∃ W : Nat → Nat → Hp → Prop, (∃ m, W 0 m (upd H D (.lst []))) ∧ ∀ i m H, W i m H →
      ((Itl K a).stop i H ∧ Qd H) ∨ ((Itl K a).go i H ∧ ∃ Nx : Hp → Prop, (∀ H', Nx H' → ∃ m', m' < m ∧ W (i + 1) m' H') ∧ ∀ x H', (Itl K a).yld i H x H' → gName j x (wipe σ vs) H' fun σ2 H2 => wipe σ2 vs = wipe σ vs ∧ tt σ2 H2 fun b H3 =>
        if b = true then te σ2 H3 fun y H4 => ∃ acc, H4 D = some (.lst acc) ∧ acc.length < sizeLine ∧ Nx (upd H4 D (.lst (acc ++ [y]))) else Nx H3) := by
  refine lc_list (xs := xs) (fun i H' => Acc H D (((ds.take i).filter f).map e) H') (Acc.nil nD) (fun i H' _ hP => hP.1.seq hq) (fun i x H' hxi hP => ?_) (fun H' hP => ?_)
  · obtain ⟨d, hdi, kd⟩ := hx.get hxi
    have kd1 := kd.same hP.1
    refine ⟨hw _, ht i x d H' _ hdi hP.1 kd1 fun H2 s2 => ?_⟩
    have hP2 := hP.mv s2
    cases c : f d with
    | true =>
      refine he i x d H2 _ hdi c hP2.1 (kd1.same s2) ⟨_, hP2.2.choose_spec.1⟩ fun y H3 s3 k => ?_
      rw [filter_snoc _ _ hdi, if_pos c]
      refine hP2.put nD ?_ s3 k
      have := len_ft f e (ds.take i)
      rw [List.length_take] at this
      omega
    | false =>
      show Acc _ _ _ _
      rw [filter_snoc _ _ hdi, c, if_neg Bool.false_ne_true]
      exact hP2
  · rw [hx.len, List.take_length] at hP
    exact hd H' hP.1 hP.dq
theorem lc_zipS {t1 t2 : Bool} {K : PySem.W.Frag} {a b : Addr} {xs ys : List V} {g : TG} {tt : TT} {te : TE} {vs : List Nat} {σ : L2.St} {H1 : Hp} {D : Addr} {Qd : Hp → Prop} (hl : xs.length = ys.length) (Pv : Nat → Hp → Prop) (h0 : Pv 0 (upd H1 D (.lst []))) (hq : ∀ i H, Pv i H → RZM.SqS t1 K H a xs ∧ RZM.SqS t2 K H b ys)
    (hs : ∀ (i : Nat) (x y : V) (T : Addr) (H : Hp), xs[i]? = some x → ys[i]? = some y → Pv i H → H T = none → g (.ref T) (wipe σ vs) (upd H T (.tup [x, y])) fun σ2 H2 => wipe σ2 vs = wipe σ vs ∧ tt σ2 H2 fun b H3 =>
      if b = true then te σ2 H3 fun y H4 => ∃ acc, H4 D = some (.lst acc) ∧ acc.length < sizeLine ∧ Pv (i + 1) (upd H4 D (.lst (acc ++ [y]))) else Pv (i + 1) H3) (hd : ∀ H, Pv xs.length H → Qd H) :
    ∃ W : Nat → Nat → Hp → Prop, (∃ m, W 0 m (upd H1 D (.lst []))) ∧ ∀ i m H, W i m H →
      ((RZM.ItzS t1 t2 K a b).stop i H ∧ Qd H) ∨ ((RZM.ItzS t1 t2 K a b).go i H ∧ ∃ Nx : Hp → Prop, (∀ H', Nx H' → ∃ m', m' < m ∧ W (i + 1) m' H') ∧ ∀ x H', (RZM.ItzS t1 t2 K a b).yld i H x H' → g x (wipe σ vs) H' fun σ2 H2 => wipe σ2 vs = wipe σ vs ∧ tt σ2 H2 fun b H3 =>
        if b = true then te σ2 H3 fun y H4 => ∃ acc, H4 D = some (.lst acc) ∧ acc.length < sizeLine ∧ Nx (upd H4 D (.lst (acc ++ [y]))) else Nx H3) := by
  refine ⟨fun i m H => m = xs.length - i ∧ i ≤ xs.length ∧ Pv i H, ⟨xs.length, rfl, Nat.zero_le _, h0⟩, ?_⟩
  rintro i m H ⟨rfl, hi, p⟩
  obtain ⟨qx, qy⟩ := hq i H p
  rcases Nat.lt_or_ge i xs.length with hlt | hge
  · refine .inr ⟨⟨xs, ys, _, _, qx, qy, List.getElem?_eq_getElem hlt, List.getElem?_eq_getElem (by omega)⟩, Pv (i + 1), fun H' p' => ⟨xs.length - (i + 1), by omega, rfl, hlt, p'⟩, fun v H' y => ?_⟩
    obtain ⟨T, x', y', rfl, hT, rfl, f1, f2⟩ := y
    exact hs i x' y' T H (f1 xs qx) (f2 ys qy) p hT
  · have e : i = xs.length := by omega
    subst e
    exact .inl ⟨⟨xs, ys, qx, qy, Or.inl (Nat.le_refl _)⟩, hd H p⟩
end TkS
set_option Elab.async false
set_option linter.all false
set_option maxRecDepth 100000
set_option maxHeartbeats 4000000
/-! X() of an own error without __init__; any() of whole numbers; defs and calls that know that nothing is being printed -/
namespace TkS
open PySem PySem.Spec PyProof.Rows L2
theorem pmk_own0 {X : Cx} {C : Addr} {bmB : List Value} {B newId initId : String} {x : Str} {p pos : Pos} (F : ExcBaseFacts B newId initId bmB) (q : PySem.W.excIn X.K C bmB newId = true) (gC : X.mg x = some (.ref C)) (kC : PySem.W.keepIn X.K (.ref C) = true)
    (r : Raises X (.ref C)) (hg : Gl X x) (hdb : (x == ("__debug__" : Str)) = false := by decide) : PMk X (.Call (.Name x p) [] [] pos) (fun _ H Q => Q (.ref C) none H) := by
  intro pins s σ H Q I h
  refine wpAny_Call_Name_kw (ld_glob I hg gC ?_ hdb)
  refine PySem.W.callWith_K0 I.kIn kC ?_
  show wpAny _ _ (call (.ref C) []) _ _ _
  obtain ⟨bm, N, nm, qn, bs, hdct, sn, sub, ab, col, dd, k0, k1, k2, k3, k5, mN, hC, hN, hni, T⟩ := exc_obj I.kIn q
  refine wpAny_call_exc_subT F T hC hN hni (fun h' e hm => ?_) (Nat.zero_le _)
  exact mk_of I hm r h (I.hok.gone hm.new)
theorem truth_ints {prog : Program} {w : World} {A : Around} {ns : List Int} {its : List Value} (e : Vals (ns.map V.int) its) :
    TruthOf prog w A (fun i v => its.toArray[i]? = some v) (fun i => decide (ns.getD i 0 ≠ 0)) := fun i v s Q E hv hq => by
  have hv' : its[i]? = some v := by simpa using hv
  have hi : i < ns.length := by
    have := (List.getElem?_eq_some_iff.mp hv').1
    rw [← e.length, List.length_map] at this
    exact this
  obtain ⟨u, hu, t, rfl⟩ : ∃ u, its[i]? = some u ∧ ∃ t, u = Value.int (ns.getD i 0) t := by
    have h1 : (ns.map V.int)[i]? = some (.int (ns.getD i 0)) := by
      rw [List.getElem?_map, List.getElem?_eq_getElem hi, List.getD_eq_getElem?_getD, List.getElem?_eq_getElem hi]
      rfl
    obtain ⟨u, hu, r⟩ := e.get h1
    exact ⟨u, hu, r⟩
  rw [hv'] at hu
  cases hu
  have hq2 : Q (decide (ns.getD i 0 ≠ 0)) s := hq
  generalize ns.getD i 0 = z at hq2
  have z2 : decide (z ≠ 0) = (z != 0) := by
    by_cases c : z = 0
    · subst c
      rfl
    · rw [decide_eq_true c, bne_iff_ne.mpr c]
  rw [z2] at hq2
  exact PyProof.Rows.truthy_int hq2
theorem any_rangeI : ∀ ns : List Int, (List.range ns.length).any (fun i => decide (ns.getD i 0 ≠ 0)) = ns.any fun z => decide (z ≠ 0)
  | [] => rfl
  | b :: bs => by
    rw [List.length_cons, List.range_succ_eq_map, List.any_cons, List.any_map, List.any_cons, ← any_rangeI bs]
    all_goals rfl
def rAnyI (K : PySem.W.Frag) : List V → Hp → VK → Prop := fun vs H Q => ∃ (a : Addr) (ns : List Int), vs = [V.ref a] ∧ SqL K H a (ns.map V.int) ∧ Q (.bl (ns.any fun z => decide (z ≠ 0))) H
theorem cr_anyI {X : Cx} (hc : X.calm = true) : CallR X (.builtin "any") (rAnyI X.K) := by
  intro pins s σ H vs us Q I r h
  obtain ⟨a, bs, rfl, hs, q⟩ := h
  obtain ⟨its, rv, hl, _⟩ := I.list hs
  rw [Vals.ref1 r]
  refine call_any_walk (iter_any hl.isList fun s₂ e2 st hne => ?_)
  subst e2
  refine ⟨_, _, _, _, _, _, _, rfl, Walks.list (A := X.A.in1) (I.ok.hd hc) _ a hne its.toArray, st, truth_ints rv, fun h' tk hk => ?_⟩
  refine ⟨.bl _, H, I.kept fun b o eo => hk b o (fun hmem => ?_) (Heap.get?_push_of_some _ eo), ?_, q⟩
  · rcases List.mem_cons.mp hmem with e1 | hmem
    · exact absurd (e1 ▸ Heap.lt_size eo) (Nat.lt_irrefl _)
    · cases hmem
  · show Value.bool _ = Value.bool _
    rw [← any_rangeI, List.size_toArray, ← rv.length, List.length_map]
/-- a def's promise where nothing is being printed -/
structure FnG (P : Program) (w : World) (K : PySem.W.Frag) (mg : Str → Option Value) (base : Heap) (CX : CXT) (k : Nat) (f : Addr) (fd : FuncData) (ps : List Str) (sp : Sp) : Prop where
  len : ∀ vs H Q E, sp vs H Q E → vs.length = ps.length
  run : ∀ (A : Around) (outer : List Env) (s : Shared) (H : Hp) (args : Args) (us : List Value) (vs : List V) (Q : VK) (E : XK), A.guards = some [] → Room k A → Env0 P w K mg base A outer s H → BindsTo s fd args (ps.zip us) → Vals vs us → sp vs H Q E →
    codeAny (model P w) A (.call (.ref f) args) (CR CX outer P w H s Q E) s
theorem fnG_of {CX : CXT} {P : Program} {w : World} {K : PySem.W.Frag} {mg : Str → Option Value} {base : Heap} {k : Nat} {f : Addr} {name qual : Str} {params : Arguments} {body : List Stmt} {scope : Scope} {dV kV doc pm cdv ct oc : Value} {an od : Option Addr}
    {osl : Array (Option Value)} {N ps : List Str} {sp : Sp} (lk : K.lookup f = some ⟨oc, od, .func (PySem.W.fnOf name qual params body scope dV kV doc pm an cdv ct), osl⟩) (hcd : PySem.W.codeIn K cdv qual = true) (S : FnScope N ps scope)
    (len : ∀ vs H Q E, sp vs H Q E → vs.length = ps.length)
    (hbody : ∀ (A : Around) (outer : List Env) (s : Shared) (H : Hp) (vs : List V) (Q : VK) (E : XK), A.guards = some [] → Room k (A.deeper (envOfC qual scope s.heap.objs.size f cdv)) → sp vs H Q E →
      ∃ t, PSs (cxOf CX P w K mg base N qual scope f cdv A outer s H E) body t ∧ t { nx := fun _ H' => Q .non H', rt := Q } (start N vs) H) :
    FnG P w K mg base CX (k + 1) f (PySem.W.fnOf name qual params body scope dV kV doc pm an cdv ct) ps sp := by
  refine ⟨len, fun A outer s H args us vs Q E gd hr e0 hb r hsp => ?_⟩
  have hl := len _ _ _ _ hsp
  have KX : K.In s.heap := e0.mod.kin.keeps fun b o e => (e0.bs b o e).1
  have lim : s.heap.NoLimit := e0.mod.nolimit.keeps fun b o e => (e0.bs b o e).1
  have hkind : ∀ y ∈ ps.zip us, scope.names.lookup y.1 = some .local ∨ (scope.names.lookup y.1 = some .cell ∧ ((cellsFrom (s.heap.objs.size + 1) scope.names []).lookup y.1).isSome = true) := fun ⟨n, v⟩ hy => by
    rcases S.par n (List.of_mem_zip hy).1 with q | q
    · exact .inl q
    · exact .inr ⟨q, PySem.W.cellsFrom_some _ _ _ (.inl q)⟩
  refine codeAny_call_function hr.depth (KX _ _ lk) rfl S.co S.gen rfl (PySem.W.codeRec_of KX hcd) (hb _ _ _ _ ?_)
  refine wpAny_newFunctionEnv_cells S.kind hkind fun env he s1 x => ?_
  subst he
  refine ⟨lim.keeps x.toInCall.keep, codeAny_func ?_⟩
  obtain ⟨t, ht, hq⟩ := hbody A outer s H vs Q E gd (hr.deeper _) hsp
  have I : Inv (cxOf CX P w K mg base N qual scope f cdv A outer s H E) [] (start N vs) H s1 := inv_start S hr.hd e0 hl r x
  refine wpAny_mono (ht.run [] s1 (start N vs) H _ I hq) (fun fl s' hs => ?_) fun e s' hs => hs
  have fin : ∀ {σ' : L2.St} {H' : Hp} {v : V} {u : Value}, Inv (cxOf CX P w K mg base N qual scope f cdv A outer s H E) [] σ' H' s' → RelV v u → Q v H' → CE outer P w H s Q u s' :=
    fun {σ' H' v u} J rv q => ⟨v, H', J.os, J.bare, J.base, J.hok, rv, q⟩
  cases fl with
  | ret u =>
    obtain ⟨v, σ', H', J, rv, q⟩ := hs
    exact fin J rv q
  | next =>
    obtain ⟨σ', H', J, q⟩ := hs
    exact fin (v := V.non) (u := Value.none) J rfl q
  | brk =>
    obtain ⟨_, _, _, q⟩ := hs
    exact False.elim q
  | cont =>
    obtain ⟨_, _, _, q⟩ := hs
    exact False.elim q
theorem FnG.of_fun {P : Program} {w : World} {K : PySem.W.Frag} {mg : Str → Option Value} {base : Heap} {x qual : Str} {st : Stmt} {f : Addr} {fd : FuncData} {N ps : List Str} {k : Nat} {sp : Sp} (F : Fun K x qual st f fd) (S : FnScope N ps (defScope st)) (len : ∀ vs H Q E, sp vs H Q E → vs.length = ps.length)
    (hbody : ∀ (cdv : Value) (A : Around) (outer : List Env) (s : Shared) (H : Hp) (vs : List V) (Q : VK) (E : XK), A.guards = some [] → Room k (A.deeper (envOfC qual (defScope st) s.heap.objs.size f cdv)) → sp vs H Q E →
      ∃ t, PSs (cxOf CX0 P w K mg base N qual (defScope st) f cdv A outer s H E).nox (defBody st) t ∧ t { nx := fun _ H' => Q .non H', rt := Q } (start N vs) H) : FnG P w K mg base CX0 (k + 1) f fd ps sp := by
  obtain ⟨oc, od, kV, doc, pm, an, cdv, ct, osl, rfl, lk, hcd⟩ := F.ex
  refine fnG_of lk hcd S len fun A outer s H vs Q E gd hr hsp => ?_
  obtain ⟨t, h, q⟩ := hbody cdv A outer s H vs Q E gd hr hsp
  exact ⟨t, h.nox, q⟩
section
variable {X : Cx} {CX : CXT} {k : Nat} {f : Addr} {fd : FuncData} {ps : List Str} {sp : Sp} {dvs : List V} {ds : List Value} {E : XK} {x : Str} {p pos : Pos} {e : Expr} {es : List Expr} {t : TA}
theorem pe_callG (gd : X.A.guards = some []) (F : FnG X.prog X.w X.K X.mg X.base CX k f fd ps sp) (hr : Room k X.A) (hg : Gl X x) (hm : X.mg x = some (.ref f)) (hk : PySem.W.keepIn X.K (.ref f) = true) (hb : Binds X.K fd ps ds) (hd : Vals dvs ds) (hx : Passes CX X E)
    (ha : PA X (e :: es) t) (hdb : (x == ("__debug__" : Str)) = false := by decide) (he : starEach (e :: es) X.env = (false, eval e X.env) :: starEach es X.env := by rfl) (hpl : (backTo pos (starEach es X.env)).any (·.1) = false := by rfl) :
    PE X (.Call (.Name x p) (e :: es) [] pos) (tCall sp dvs E t) := by
  refine ⟨fun pins s σ H Q I h => ?_⟩
  refine wpAny_Call_Name_kw (ld_glob I hg hm ?_ hdb)
  refine PySem.W.callWith_K (h₀ := X.base) I.ok.mod.kin hk (thn (ha.run pos pins s σ H _ I h) fun us s1 ⟨vs, H1, I1, r, q⟩ => ⟨I1.kIn, ?_⟩) he hpl
  have r2 : Vals (vs ++ dvs) (us ++ ds) := r.append hd
  have hl : (us ++ ds).length = ps.length := by rw [← r2.length]; exact F.len _ _ _ _ q
  refine wpAny_call (codeAny_mono (F.run X.A X.stack s1 H1 ⟨us, []⟩ (us ++ ds) (vs ++ dvs) Q E gd hr I1.env0 (hb s1 us I1.kIn hl) r2 q) fun r s' hq => ?_)
  cases r with
  | error e => exact hx pins σ H1 s1 e s' I1 hq
  | ok fl =>
    cases fl with
    | ret u => exact I1.after hq
    | next => exact False.elim hq
    | brk => exact False.elim hq
    | cont => exact False.elim hq
end
end TkS
set_option Elab.async false
set_option linter.all false
set_option maxRecDepth 100000
set_option maxHeartbeats 4000000
/-! comprehensions whose items are known values: over zip, over a list or a tuple, over a range -/
namespace TkS
open PySem PySem.Spec PyProof.Rows L2
theorem sqs_same {t : Bool} {K : PySem.W.Frag} {H H' : Hp} {a : Addr} {xs : List V} (s : Same H H') (h : RZM.SqS t K H a xs) : RZM.SqS t K H' a xs := by
  cases t with
  | true => exact seqT_same s h
  | false => exact s.seq h
theorem sqs_of {K : PySem.W.Frag} {H : Hp} {a : Addr} {xs : List V} (h : Sq K H a xs) : ∃ t, RZM.SqS t K H a xs := h.elim (fun z => ⟨false, z⟩) (fun z => ⟨true, z⟩)
theorem range_snoc {α : Type} (f : Nat → Bool) (e : Nat → α) (i : Nat) : ((List.range (i + 1)).filter f).map e = if f i = true then ((List.range i).filter f).map e ++ [e i] else ((List.range i).filter f).map e := by
  rw [List.range_succ, List.filter_append, List.map_append]
  cases c : f i with
  | true =>
    rw [if_pos rfl, List.filter_cons_of_pos c]
    rfl
  | false =>
    rw [if_neg Bool.false_ne_true, List.filter_cons_of_neg (by rw [c]; exact Bool.false_ne_true)]
    exact List.append_nil _
theorem range_len {α : Type} (f : Nat → Bool) (e : Nat → α) (i : Nat) : (((List.range i).filter f).map e).length ≤ i := by
  rw [List.length_map]
  exact Nat.le_trans (List.length_filter_le _ _) (by rw [List.length_range]; exact Nat.le_refl _)
/-- the list under way -/
def AccV (H0 : Hp) (D : Addr) (vs : List V) (H' : Hp) : Prop := Same H0 H' ∧ H' D = some (.lst vs)
theorem AccV.put {H0 H' H'' : Hp} {D : Addr} {vs : List V} {v : V} (a : AccV H0 D vs H') (nD : H0 D = none) (hl : vs.length ≤ 900) (s : Same H' H'') :
    ∃ acc, H'' D = some (.lst acc) ∧ acc.length < sizeLine ∧ AccV H0 D (vs ++ [v]) (upd H'' D (.lst (acc ++ [v]))) := by
  refine ⟨vs, s _ _ a.2, small1000 (by omega), fun b o e => ?_, upd_same⟩
  rw [upd_ne (ne_of_none e nD)]
  exact s _ _ (a.1 _ _ e)
theorem AccV.mv {H0 H' H'' : Hp} {D : Addr} {vs : List V} (a : AccV H0 D vs H') (s : Same H' H'') : AccV H0 D vs H'' := ⟨a.1.trans s, s _ _ a.2⟩
theorem lc_zipV {t1 t2 : Bool} {K : PySem.W.Frag} {a b : Addr} {xs ys : List V} {g : TG} {tt : TT} {te : TE} {vs : List Nat} {σ : L2.St} {H1 : Hp} {D : Addr} {Qd : Hp → Prop} (f : Nat → Bool) (e : Nat → V) (hl : xs.length = ys.length) (hn : xs.length ≤ 900) (nD : H1 D = none)
    (qx : RZM.SqS t1 K H1 a xs) (qy : RZM.SqS t2 K H1 b ys)
    (hs : ∀ (i : Nat) (x y : V) (T : Addr) (H' : Hp) (R : V → Hp → Prop) (N : Hp → Prop), xs[i]? = some x → ys[i]? = some y → Same H1 H' → H' T = some (.tup [x, y]) → (f i = true → ∀ H'', Same H' H'' → R (e i) H'') → (f i = false → ∀ H'', Same H' H'' → N H'') →
      g (.ref T) (wipe σ vs) H' fun σ2 H2 => wipe σ2 vs = wipe σ vs ∧ tt σ2 H2 fun b H3 => if b = true then te σ2 H3 R else N H3)
    (hd : ∀ H', Same H1 H' → H' D = some (.lst (((List.range xs.length).filter f).map e)) → Qd H') :
    ∃ W : Nat → Nat → Hp → Prop, (∃ m, W 0 m (upd H1 D (.lst []))) ∧ ∀ i m H, W i m H →
      ((RZM.ItzS t1 t2 K a b).stop i H ∧ Qd H) ∨ ((RZM.ItzS t1 t2 K a b).go i H ∧ ∃ Nx : Hp → Prop, (∀ H', Nx H' → ∃ m', m' < m ∧ W (i + 1) m' H') ∧ ∀ x H', (RZM.ItzS t1 t2 K a b).yld i H x H' → g x (wipe σ vs) H' fun σ2 H2 => wipe σ2 vs = wipe σ vs ∧ tt σ2 H2 fun b H3 =>
        if b = true then te σ2 H3 fun y H4 => ∃ acc, H4 D = some (.lst acc) ∧ acc.length < sizeLine ∧ Nx (upd H4 D (.lst (acc ++ [y]))) else Nx H3) := by
  refine lc_zipS hl (fun i H' => AccV H1 D (((List.range i).filter f).map e) H') ⟨same_new nD, upd_same⟩ (fun i H' hP => ⟨sqs_same hP.1 qx, sqs_same hP.1 qy⟩) (fun i x y T H' hx hy hP nT => ?_) (fun H' hP => hd H' hP.1 hP.2)
  have hi : i < xs.length := (List.getElem?_eq_some_iff.mp hx).1
  have sT : Same H' (upd H' T (.tup [x, y])) := same_new nT
  have hP2 := hP.mv sT
  refine hs i x y T _ _ _ hx hy hP2.1 upd_same (fun c H'' s => ?_) (fun c H'' s => ?_)
  · rw [range_snoc, if_pos c]
    exact hP2.put nD (Nat.le_trans (range_len _ _ _) (by omega)) s
  · show AccV _ _ _ _
    rw [range_snoc, c, if_neg Bool.false_ne_true]
    exact hP2.mv s
theorem lc_seqV {K : PySem.W.Frag} {a : Addr} {xs : List V} {tl : TE} {g : TG} {tt : TT} {te : TE} {vs : List Nat} {σ : L2.St} {H : Hp} {Q : VK} (f : Nat → Bool) (e : Nat → V)
    (ht0 : ∀ Q : VK, Q (.ref a) H → tl σ H Q) (hq : Sq K H a xs) (hn : xs.length ≤ 900)
    (hs : ∀ (i : Nat) (x : V) (H' : Hp) (R : V → Hp → Prop) (N : Hp → Prop), xs[i]? = some x → Same H H' → (f i = true → ∀ H'', Same H' H'' → R (e i) H'') → (f i = false → ∀ H'', Same H' H'' → N H'') →
      g x (wipe σ vs) H' fun σ2 H2 => wipe σ2 vs = wipe σ vs ∧ tt σ2 H2 fun b H3 => if b = true then te σ2 H3 R else N H3)
    (hd : ∀ D H', H D = none → Same H H' → H' D = some (.lst (((List.range xs.length).filter f).map e)) → Q (.ref D) H') :
    tLc (iSeq K tl) g tt te vs σ H Q := by
  refine lc_seq (fun D i H' => AccV H D (((List.range i).filter f).map e) H') ht0 hq (fun D nD => ⟨same_new nD, upd_same⟩) (fun D i H' _ _ hP => hP.1) (fun D i x H' nD hx hP => ?_) (fun D H' nD hP => hd D H' nD hP.1 hP.2)
  have hi : i < xs.length := (List.getElem?_eq_some_iff.mp hx).1
  refine hs i x _ _ _ hx hP.1 (fun c H'' s => ?_) (fun c H'' s => ?_)
  · rw [range_snoc, if_pos c]
    exact hP.put nD (Nat.le_trans (range_len _ _ _) (by omega)) s
  · show AccV _ _ _ _
    rw [range_snoc, c, if_neg Bool.false_ne_true]
    exact hP.mv s
theorem range_all {α : Type} (e : Nat → α) (n : Nat) : ((List.range n).filter fun _ => true).map e = (List.range n).map e := by
  rw [List.filter_eq_self.mpr fun _ _ => rfl]
theorem ret_cb_lc {r : List V → Hp → VK → Prop} {wi : TI} {g : TG} {tt : TT} {te : TE} {vs : List Nat} {D : Ends} {σ : L2.St} {H : Hp} (h : tLc wi g tt te vs σ H fun v H1 => r [v] H1 D.rt) : tRet (tCB r (tCons (tLc wi g tt te vs) tNil)) D σ H := h
theorem lc_tupV {K : PySem.W.Frag} {a : Addr} {xs : List V} {g : TG} {tt : TT} {te : TE} {vs : List Nat} {σ : L2.St} {H : Hp} {D : Addr} {Qd : Hp → Prop} (f : Nat → Bool) (e : Nat → V)
    (hq : SqT K H a xs) (hn : xs.length ≤ 900) (nD : H D = none)
    (hs : ∀ (i : Nat) (x : V) (H' : Hp) (R : V → Hp → Prop) (N : Hp → Prop), xs[i]? = some x → Same H H' → (f i = true → ∀ H'', Same H' H'' → R (e i) H'') → (f i = false → ∀ H'', Same H' H'' → N H'') →
      g x (wipe σ vs) H' fun σ2 H2 => wipe σ2 vs = wipe σ vs ∧ tt σ2 H2 fun b H3 => if b = true then te σ2 H3 R else N H3)
    (hd : ∀ H', Same H H' → H' D = some (.lst (((List.range xs.length).filter f).map e)) → Qd H') :
    ∃ W : Nat → Nat → Hp → Prop, (∃ m, W 0 m (upd H D (.lst []))) ∧ ∀ i m H, W i m H →
      ((Itt K a).stop i H ∧ Qd H) ∨ ((Itt K a).go i H ∧ ∃ Nx : Hp → Prop, (∀ H', Nx H' → ∃ m', m' < m ∧ W (i + 1) m' H') ∧ ∀ x H', (Itt K a).yld i H x H' → g x (wipe σ vs) H' fun σ2 H2 => wipe σ2 vs = wipe σ vs ∧ tt σ2 H2 fun b H3 =>
        if b = true then te σ2 H3 fun y H4 => ∃ acc, H4 D = some (.lst acc) ∧ acc.length < sizeLine ∧ Nx (upd H4 D (.lst (acc ++ [y]))) else Nx H3) := by
  refine lc_tup (fun i H' => AccV H D (((List.range i).filter f).map e) H') ⟨same_new nD, upd_same⟩ (fun i H' _ hP => seqT_same hP.1 hq) (fun i x H' hx hP => ?_) (fun H' hP => hd H' hP.1 hP.2)
  have hi : i < xs.length := (List.getElem?_eq_some_iff.mp hx).1
  refine hs i x _ _ _ hx hP.1 (fun c H'' s => ?_) (fun c H'' s => ?_)
  · rw [range_snoc, if_pos c]
    exact hP.put nD (Nat.le_trans (range_len _ _ _) (by omega)) s
  · show AccV _ _ _ _
    rw [range_snoc, c, if_neg Bool.false_ne_true]
    exact hP.mv s
theorem nx_go {f : L2.St → Hp → Prop} {D : Ends} {σ : L2.St} {H : Hp} (hD : D.nx = f) (h : f σ H) : tNext D σ H := by
  unfold tNext
  rw [hD]
  exact h
theorem if_lcOp {r : R2} {wi : TI} {g : TG} {tt : TT} {te tb : TE} {vs : List Nat} {t1 t2 rest : TS} {D : Ends} {σ : L2.St} {H : Hp}
    (h : tLc wi g tt te vs σ H fun x H1 => tb σ H1 fun y H2 => r x y H2 fun v H3 => ∃ b, v = .bl b ∧ if b = true then t1 { D with nx := rest D } σ H3 else t2 { D with nx := rest D } σ H3) :
    tSeq (tIfS (tTest (tOp r (tLc wi g tt te vs) tb)) t1 t2) rest D σ H := h
theorem lc_listD2 {K : PySem.W.Frag} {a : Addr} {xs : List V} {ds : List PyData} {tt : TT} {te : TE} {vs : List Nat} {σ : L2.St} {H : Hp} {D : Addr} {Qd : Hp → Prop} {j : Nat} (f : PyData → Bool) (e : PyData → PyData)
    (hq : SqL K H a xs) (hx : DqAll H xs ds) (nD : H D = none) (hl : ds.length ≤ 900) (hw : ∀ x : V, wipe ((wipe σ vs).set j (some x)) vs = wipe σ vs)
    (ht : ∀ (i : Nat) (x : V) (d : PyData) (H' : Hp) (Q : Bool → Hp → Prop), ds[i]? = some d → Same H H' → Dq H' x d → (∀ H'', Same H' H'' → Q (f d) H'') → tt ((wipe σ vs).set j (some x)) H' Q)
    (he : ∀ (i : Nat) (x : V) (d : PyData) (H' : Hp) (Q : VK), ds[i]? = some d → f d = true → Dq H x d → Same H H' → Dq H' x d → (∃ acc, H' D = some (.lst acc)) → (∀ y H'', Same H' H'' → Dq (TkS.Off D H'') y (e d) → Q y H'') → te ((wipe σ vs).set j (some x)) H' Q)
    (hd : ∀ H', Same H H' → Dq H' (.ref D) (.list ((ds.filter f).map e)) → Qd H') :
    ∃ W : Nat → Nat → Hp → Prop, (∃ m, W 0 m (upd H D (.lst []))) ∧ ∀ i m H, W i m H →
      ((Itl K a).stop i H ∧ Qd H) ∨ ((Itl K a).go i H ∧ ∃ Nx : Hp → Prop, (∀ H', Nx H' → ∃ m', m' < m ∧ W (i + 1) m' H') ∧ ∀ x H', (Itl K a).yld i H x H' → gName j x (wipe σ vs) H' fun σ2 H2 => wipe σ2 vs = wipe σ vs ∧ tt σ2 H2 fun b H3 =>
        if b = true then te σ2 H3 fun y H4 => ∃ acc, H4 D = some (.lst acc) ∧ acc.length < sizeLine ∧ Nx (upd H4 D (.lst (acc ++ [y]))) else Nx H3) := by
  refine lc_list (xs := xs) (fun i H' => Acc H D (((ds.take i).filter f).map e) H') (Acc.nil nD) (fun i H' _ hP => hP.1.seq hq) (fun i x H' hxi hP => ?_) (fun H' hP => ?_)
  · obtain ⟨d, hdi, kd⟩ := hx.get hxi
    have kd1 := kd.same hP.1
    refine ⟨hw _, ht i x d H' _ hdi hP.1 kd1 fun H2 s2 => ?_⟩
    have hP2 := hP.mv s2
    cases c : f d with
    | true =>
      refine he i x d H2 _ hdi c kd hP2.1 (kd1.same s2) ⟨_, hP2.2.choose_spec.1⟩ fun y H3 s3 k => ?_
      rw [filter_snoc _ _ hdi, if_pos c]
      refine hP2.put nD ?_ s3 k
      have := len_ft f e (ds.take i)
      rw [List.length_take] at this
      omega
    | false =>
      show Acc _ _ _ _
      rw [filter_snoc _ _ hdi, c, if_neg Bool.false_ne_true]
      exact hP2
  · rw [hx.len, List.take_length] at hP
    exact hd H' hP.1 hP.dq
theorem same_off {H H' : Hp} {D : Addr} (nD : H D = none) (s : Same H H') : Same H (TkS.Off D H') := fun b o e => off_at (ne_of_none e nD) (s _ _ e)
end TkS
set_option Elab.async false
set_option linter.all false
set_option maxRecDepth 100000
set_option maxHeartbeats 4000000
/-! errors with an own __init__ whose context is known to be None; a try whose suite raises another error -/
namespace TkS
open PySem PySem.Spec PyProof.Rows L2
theorem CX.ofN {P : Program} {w : World} {outer : List Env} {H : Hp} {s : Shared} {E : XK} {u : Value} {s' : Shared} (c : L2N.CX P w outer H s E u s') : L2.CX P w outer H s E u s' := by
  obtain ⟨a, B, H', cls, d, e, fl, r⟩ := c
  exact ⟨a, B, H', cls, d, e, L2H.flyingZ_imp (fun _ z => z.zc) fl, r⟩
theorem FnOk.ofN {P : Program} {w : World} {K : PySem.W.Frag} {mg : Str → Option Value} {base : Heap} {k : Nat} {f : Addr} {fd : FuncData} {ps : List Str} {sp : Sp} (F : FnOk P w K mg base (L2N.CX P w) k f fd ps sp) : FnOk P w K mg base (L2.CX P w) k f fd ps sp :=
  ⟨F.len, fun A outer s H args us vs Q E hr e0 hb r hsp => codeAny_mono (F.run A outer s H args us vs Q E hr e0 hb r hsp) fun r s' h => by
    cases r with
    | error e => exact CX.ofN h
    | ok fl => cases fl <;> exact h⟩
theorem Fun.okN {P : Program} {w : World} {K : PySem.W.Frag} {mg : Str → Option Value} {base : Heap} {x qual : Str} {st : Stmt} {f : Addr} {fd : FuncData} {N ps : List Str} {k : Nat} {sp : Sp} (F : Fun K x qual st f fd) (S : FnScope N ps (defScope st)) (len : ∀ vs H Q E, sp vs H Q E → vs.length = ps.length)
    (hbody : ∀ (cdv : Value) (A : Around) (outer : List Env) (s : Shared) (H : Hp) (vs : List V) (Q : VK) (E : XK), Room k (A.deeper (envOfC qual (defScope st) s.heap.objs.size f cdv)) → sp vs H Q E →
      ∃ t, PSs (cxOf (L2N.CX P w) P w K mg base N qual (defScope st) f cdv A outer s H E) (defBody st) t ∧ t { nx := fun _ H' => Q .non H', rt := Q } (start N vs) H) : FnOk P w K mg base (L2N.CX P w) (k + 1) f fd ps sp := by
  obtain ⟨oc, od, kV, doc, pm, an, cdv, ct, osl, rfl, lk, hcd⟩ := F.ex
  exact fn_of lk hcd S len fun A outer s H vs Q E hr hsp => hbody cdv A outer s H vs Q E hr hsp
section
variable {X : Cx} {e : Expr} {es : List Expr} {ta : TA} {p pos : Pos}
theorem mk_endN {pins : List (Addr × Obj)} {σ : L2.St} {H1 H2 : Hp} {Q : XK} {hp hp2 h2 : Heap} {g1 g2 : Array GenState} {d1 d2 : Drawn} {t1 t2 : Nat} {os1 os2 : OsState} {a C d p : Addr} {fs : List (Str × V)} (T : Raises X (.ref C)) (I1 : Inv X pins σ H1 ⟨hp, g1, d1, t1, os1⟩)
    (ha : hp.objs.size ≤ a) (k : ∀ b o, hp.get? b = some o → hp2.get? b = some o) (un : Un (frs X.stack) [] (upd H1 a (exo a C none)) H2 hp2 h2) (hok : HOk X.prog X.w H2 h2) (ho : os2 = os1) (hb : AllBare g2)
    (ea : H2 a = some (exo a C (some d))) (ed : H2 d = some (exd d fs)) (hd1 : H1 d = none) (q : Q (.ref C) (some d) (upd (del H2 a) d (.xd fs))) : L2N.MkP X pins σ Q (.ref a) ⟨h2, g2, d2, t2, os2⟩ := by
  obtain ⟨t0, G, J, kG, ge, hoe, na⟩ := mk_end0 (d2 := d2) (t2 := t2) I1 ha k un hok ho hb ea ed hd1
  refine ⟨a, _, _, ⟨G, g2, d2, t2, os2⟩, _, .ref C, some d, rfl, J, kG, ge, hoe, ⟨rfl, rfl, fun vs hv => ?_⟩, rfl, rfl, na, rfl, hb, T, q⟩
  cases hv
  rfl
theorem pmkN_oex {CX : CXT} {x : Str} {C fI : Addr} {k : Nat} {fd : FuncData} {ps : List Str} {sp : Sp} {ds : List Value} {dvs : List V} (T : OexC X.K C) (iC : PySem.W.findIn X.K (.ref C) "__init__" = some (some (.ref fI))) (tI : PySem.W.typeIn X.K (.ref fI) = some (.type "function"))
    (F1 : FnOk X.prog X.w X.K X.mg X.base CX k fI fd ps sp) (hr : Room (k + 1) X.A) (hb : Binds X.K fd ps ds) (hd : Vals dvs ds) (hx : Passes CX X (fun _ _ _ => False)) (hg : Gl X x) (hm : X.mg x = some (.ref C)) (ha : PA X (e :: es) ta)
    (hdb : (x == ("__debug__" : Str)) = false := by decide) (he : starEach (e :: es) X.env = (false, eval e X.env) :: starEach es X.env := by rfl) (hpl : (backTo pos (starEach es X.env)).any (·.1) = false := by rfl) :
    L2N.PMk X (.Call (.Name x p) (e :: es) [] pos) (tMkO C sp dvs ta) := by
  intro pins s σ H Q I h
  obtain ⟨nm, q, N, bs, bm, sn, sub, ab, col, dd, k0, k1, k2, k3, k5, hC, hbm⟩ := T.cls
  refine wpAny_Call_Name_kw (ld_glob I hg hm ?_ hdb)
  refine PySem.W.callWith_K (h₀ := X.base) I.ok.mod.kin T.kC (thn (ha.run pos pins s σ H _ I h) fun us s1 ⟨vs, H1, I1, r1, hz, q1⟩ => ⟨I1.kIn, ?_⟩) he hpl
  show wpAny _ _ (call (.ref C) us) _ _ _
  obtain ⟨hp, g, dr, tk, os⟩ := s1
  have hsz : hp.objs.size ≤ hp.objs.size + 1 := Nat.le_succ _
  have hn : H1 (hp.objs.size + 1) = none := I1.hok.fresh hsz
  have hq := q1 (hp.objs.size + 1) hn
  have kk : ∀ b o, hp.get? b = some o → ((hp.push (PySem.W.kdv_tup us)).push (PySem.HandSPX.excO C hp.objs.size)).get? b = some o := fun b o e => Heap.get?_push_of_some _ (Heap.get?_push_of_some _ e)
  have hget : ((hp.push (PySem.W.kdv_tup us)).push (PySem.HandSPX.excO C hp.objs.size)).get? (hp.objs.size + 1) = some (PySem.HandSPX.excO C hp.objs.size) := by heap_get
  have I2 : Inv X pins σ (upd H1 (hp.objs.size + 1) (exo (hp.objs.size + 1) C none)) ⟨(hp.push (PySem.W.kdv_tup us)).push (PySem.HandSPX.excO C hp.objs.size), g, dr, tk, os⟩ :=
    I1.laid (t' := tk) (a := hp.objs.size + 1) (o := exo (hp.objs.size + 1) C none) (h' := (hp.push (PySem.W.kdv_tup us)).push (PySem.HandSPX.excO C hp.objs.size)) kk hsz (exo_ok hget)
  have r2 : Vals (V.ref (hp.objs.size + 1) :: (vs ++ dvs)) (Value.ref (hp.objs.size + 1) :: (us ++ ds)) := .cons rfl (r1.append hd)
  have hl : (Value.ref (hp.objs.size + 1) :: us ++ ds).length = ps.length := by
    have e := r2.length
    rw [F1.len _ _ _ _ hq] at e
    exact e.symm
  have hus : us.length ≤ sizeLine := by
    rw [← Paired.length r1, sizeLine_eq]
    omega
  refine wpAny_call (PySem.HandSPX.call_own F.excBase_ValueError (fun Y => PySem.HandSPX.refsVE_contains Y bm hbm) (I1.kIn _ _ hC) (PySem.W.looks_findIn I1.kIn iC) (fun self => PySem.W.bind_fn I1.kIn self tI) hus
    (codeAny_mono (F1.run _ X.stack _ _ ⟨Value.ref (hp.objs.size + 1) :: us, []⟩ (Value.ref (hp.objs.size + 1) :: (us ++ ds)) _ _ (fun _ _ _ => False) (hr.make C us []) (I2.env0.make C us []) (hb _ (Value.ref (hp.objs.size + 1) :: us) I2.kIn hl) r2 hq) fun r s' hq' => ?_))
  cases r with
  | error er => exact hx pins σ _ _ er s' I2 hq'
  | ok fl =>
    cases fl with
    | ret u =>
      obtain ⟨v, H2, os2, bare2, un2, hok2, rv, ev, d, fs, ea, ed, hd1, q2⟩ := hq'
      subst ev
      obtain ⟨h2, g2, d2, t2, os'⟩ := s'
      exact ⟨rv, mk_endN (p := hp.objs.size) (raises_own T.exC T.tyC) I1 hsz kk un2 hok2 os2 bare2 ea ed hd1 q2⟩
    | next => exact False.elim hq'
    | brk => exact False.elim hq'
    | cont => exact False.elim hq'
end
theorem Fun.okH {P : Program} {w : World} {K : PySem.W.Frag} {mg : Str → Option Value} {base : Heap} {x qual : Str} {st : Stmt} {f : Addr} {fd : FuncData} {N ps : List Str} {k : Nat} {sp : Sp} (F : Fun K x qual st f fd) (S : FnScope N ps (defScope st)) (len : ∀ vs H Q E, sp vs H Q E → vs.length = ps.length)
    (hbody : ∀ (cdv : Value) (A : Around) (outer : List Env) (s : Shared) (H : Hp) (vs : List V) (Q : VK) (E : XK) (p : Addr × Obj), L2H.Hot1 A p → L2H.RoomH k (A.deeper (envOfC qual (defScope st) s.heap.objs.size f cdv)) → sp vs H Q E →
      ∃ t, PSs (L2H.cxH CX0 P w K mg base N qual (defScope st) f cdv A outer s H E p) (defBody st) t ∧ t { nx := fun _ H' => Q .non H', rt := Q } (start N vs) H) : L2H.FnH P w K mg base CX0 (k + 1) f fd ps sp := by
  obtain ⟨oc, od, kV, doc, pm, an, cdv, ct, osl, rfl, lk, hcd⟩ := F.ex
  exact L2H.fn_ofH lk hcd S len fun A outer s H vs Q E p hot hr hsp => hbody cdv A outer s H vs Q E p hot hr hsp
end TkS
set_option Elab.async false
set_option linter.all false
set_option maxRecDepth 100000
set_option maxHeartbeats 4000000
/-! data that the hand can't be part of: a hand's first item is a list -/
namespace TkS
open PySem PySem.Spec PyProof.Rows L2
def hdD : PyData → Bool
  | .list [.list _, .int _, .int _, .int _] => true
  | _ => false
mutual
def noHd : PyData → Bool
  | .list ds => !hdD (.list ds) && noHds ds
  | .tuple ds => noHds ds
  | _ => true
def noHds : List PyData → Bool
  | [] => true
  | d :: ds => noHd d && noHds ds
end
mutual
theorem dq_hd {H H' : Hp} {h c : Addr} {cs : List V} {p r t : Int} (hh : H h = some (.lst [.ref c, .int p, .int r, .int t])) (hc : H c = some (.lst cs)) (k : ∀ b o, b ≠ h → H b = some o → H' b = some o) : ∀ {v : V} (d : PyData), noHd d = true → Dq H v d → Dq H' v d
  | _, .none, _, .non => .non
  | _, .bool _, _, .bl b => .bl b
  | _, .int _, _, .int i => .int i
  | _, .str _, _, .str x => .str x
  | _, .list ds, n, .lst e u => by
    have n' : (!hdD (.list ds) && noHds ds) = true := n
    obtain ⟨n1, n2⟩ := Bool.and_eq_true_iff.mp n'
    refine .lst (k _ _ (fun z => ?_) e) (dqs_hd hh hc k ds n2 u)
    rw [z, hh] at e
    cases e
    cases u with
    | cons u0 u =>
      cases u with
      | cons u1 u =>
        cases u with
        | cons u2 u =>
          cases u with
          | cons u3 u =>
            cases u
            cases u1
            cases u2
            cases u3
            cases u0 with
            | lst e0 _ => exact absurd n1 (by simp [hdD])
            | tup e0 _ =>
              rw [hc] at e0
              cases e0
  | _, .tuple ds, n, .tup e u => .tup (k _ _ (fun z => by rw [z, hh] at e; cases e) e) (dqs_hd hh hc k ds n u)
theorem dqs_hd {H H' : Hp} {h c : Addr} {cs : List V} {p r t : Int} (hh : H h = some (.lst [.ref c, .int p, .int r, .int t])) (hc : H c = some (.lst cs)) (k : ∀ b o, b ≠ h → H b = some o → H' b = some o) : ∀ {vs : List V} (ds : List PyData), noHds ds = true → DqAll H vs ds → DqAll H' vs ds
  | _, [], _, .nil => .nil
  | _, d :: ds, n, .cons u v => .cons (dq_hd hh hc k d (by
      have n' : (noHd d && noHds ds) = true := n
      exact (Bool.and_eq_true_iff.mp n').1) u) (dqs_hd hh hc k ds (by
      have n' : (noHd d && noHds ds) = true := n
      exact (Bool.and_eq_true_iff.mp n').2) v)
end
theorem noHds_all {ds : List PyData} : noHds ds = true ↔ ∀ d ∈ ds, noHd d = true := by
  induction ds with
  | nil => exact ⟨(fun _ _ m => nomatch m), (fun _ => rfl)⟩
  | cons a ds ih =>
    show (noHd a && noHds ds) = true ↔ _
    rw [Bool.and_eq_true, ih]
    constructor
    · rintro ⟨h1, h2⟩ d m
      rcases List.mem_cons.mp m with e | m
      · rw [e]; exact h1
      · exact h2 d m
    · exact fun h => ⟨h a List.mem_cons_self, fun d m => h d (List.mem_cons_of_mem _ m)⟩
theorem noHd_list {ds : List PyData} (h : ∀ d ∈ ds, noHd d = true) (n : ds.length ≠ 4 ∨ ∀ d ∈ ds, ∀ es, d ≠ .list es) : noHd (.list ds) = true := by
  show (!hdD (.list ds) && noHds ds) = true
  rw [noHds_all.mpr h, Bool.and_true]
  cases c : hdD (.list ds) with
  | false => rfl
  | true =>
    exfalso
    unfold hdD at c
    split at c
    · rename_i es a b cc e
      cases e
      rcases n with n | n
      · exact n rfl
      · exact n _ List.mem_cons_self es rfl
    · cases c
theorem noHd_tup {ds : List PyData} (h : ∀ d ∈ ds, noHd d = true) : noHd (.tuple ds) = true := noHds_all.mpr h
/-! data of before stands beside a new object -/
mutual
theorem dq_new {H : Hp} {l : Addr} {o : HO} (n : H l = none) : ∀ {v : V} (d : PyData), Dq H v d → Dq (TkS.Off l (upd H l o)) v d
  | _, .none, .non => .non
  | _, .bool _, .bl b => .bl b
  | _, .int _, .int i => .int i
  | _, .str _, .str x => .str x
  | _, .list _, .lst e t => .lst (off_at (ne_of_none e n) ((same_new n) _ _ e)) (dqs_new n _ t)
  | _, .tuple _, .tup e t => .tup (off_at (ne_of_none e n) ((same_new n) _ _ e)) (dqs_new n _ t)
theorem dqs_new {H : Hp} {l : Addr} {o : HO} (n : H l = none) : ∀ {vs : List V} (ds : List PyData), DqAll H vs ds → DqAll (TkS.Off l (upd H l o)) vs ds
  | _, [], .nil => .nil
  | _, _ :: _, .cons k t => .cons (dq_new n _ k) (dqs_new n _ t)
end
end TkS
set_option Elab.async false
set_option linter.all false
set_option maxRecDepth 100000
set_option maxHeartbeats 4000000
set_option exponentiation.threshold 5000
/-! data of bounded depth, width and numbers: it can be laid, shown, compared -/
namespace TkS
open PySem PySem.Spec PyProof.Rows L2
def mild : Nat → PyData → Bool
  | _, .none => true
  | _, .bool _ => true
  | _, .int i => decide (i.natAbs < 10 ^ 121)
  | _, .str x => PyData.canLay0 (.str x) && decide ((PyData.shown (.str x)).length ≤ 130)
  | n + 1, .list ds => decide (ds.length ≤ 40) && ds.all (mild n)
  | n + 1, .tuple ds => decide (ds.length ≤ 40) && ds.all (mild n)
  | _, _ => false
theorem int_len {i : Int} (h : i.natAbs < 10 ^ 121) : (PyData.shown (.int i)).length ≤ 130 := by
  have e : PyData.shown (.int i) = Str.ofString (toString i) := by simp only [PyData.shown]
  rw [e, PySem.ofString_length]
  have nat : ∀ n : Nat, n < 10 ^ 121 → n.repr.length ≤ 121 := fun n hn => by
    have : n.repr = String.ofList (Nat.toDigits 10 n) := rfl
    rw [this, String.length_ofList]
    exact (Nat.length_toDigits_le_iff (by decide) (by decide)).mpr hn
  have e2 : toString i = i.repr := rfl
  rw [e2]
  cases i with
  | ofNat m =>
    have := nat m h
    show m.repr.length ≤ 130
    omega
  | negSucc m =>
    have := nat (m + 1) h
    show ("-" ++ (m + 1).repr).length ≤ 130
    rw [String.length_append]
    have : ("-" : String).length = 1 := by decide
    omega
def bnd : Nat → Nat
  | 0 => 130
  | n + 1 => 40 * (bnd n + 2) + 10
theorem bnd_ge : ∀ n, 130 ≤ bnd n
  | 0 => Nat.le_refl _
  | n + 1 => by
    have := bnd_ge n
    show 130 ≤ 40 * (bnd n + 2) + 10
    omega
theorem join_le (n : Nat) : ∀ ts : List Str, (∀ t ∈ ts, t.length ≤ n) → (Str.join ", " ts).length ≤ ts.length * (n + 2)
  | [], _ => by
    show (0 : Nat) ≤ _
    omega
  | [x], h => by
    show x.length ≤ _
    have := h x List.mem_cons_self
    rw [List.length_singleton]
    omega
  | x :: y :: r, h => by
    have ih := join_le n (y :: r) fun t m => h t (List.mem_cons_of_mem _ m)
    show (x ++ ", " ++ Str.join ", " (y :: r)).length ≤ _
    have e2 : ((", " : String) : Str).length = 2 := rfl
    rw [strLen_append, strLen_append, e2]
    have := h x List.mem_cons_self
    have e3 : (x :: y :: r).length * (n + 2) = (y :: r).length * (n + 2) + (n + 2) := by
      rw [List.length_cons, Nat.succ_mul]
    rw [e3]
    omega
structure Mild (n : Nat) (d : PyData) : Prop where
  lay : d.canLay0 = true
  dep : d.depth ≤ n
  sh : d.showable = true
  len : d.shown.length ≤ bnd n
theorem log_small {i : Int} (h : i.natAbs < 10 ^ 121) : i.natAbs.log2 < 1920 := by
  have : i.natAbs < 2 ^ 1920 := Nat.lt_of_lt_of_le h (by decide)
  by_cases z : i.natAbs = 0
  · rw [z]
    decide
  · exact (Nat.log2_lt z).mpr this
theorem mild_is : ∀ (n : Nat) (d : PyData), mild n d = true → Mild n d
  | n, .none, _ => ⟨by simp [PyData.canLay0], by simp [PyData.depth], by simp [PyData.showable], by
    have : (PyData.shown .none).length = 4 := by decide +kernel
    have := bnd_ge n
    omega⟩
  | n, .bool b, _ => ⟨by simp [PyData.canLay0], by simp [PyData.depth], by simp [PyData.showable], by
    have : (PyData.shown (.bool b)).length ≤ 5 := by cases b <;> decide +kernel
    have := bnd_ge n
    omega⟩
  | n, .int i, h => ⟨by simp [PyData.canLay0], by simp [PyData.depth], by
    have h' : i.natAbs < 10 ^ 121 := by
      unfold mild at h
      exact of_decide_eq_true h
    simp only [PyData.showable]
    exact decide_eq_true (log_small h'), by
    have h' : i.natAbs < 10 ^ 121 := by
      unfold mild at h
      exact of_decide_eq_true h
    exact Nat.le_trans (int_len h') (bnd_ge n)⟩
  | n, .str x, h => by
    have h' : (PyData.canLay0 (.str x) && decide ((PyData.shown (.str x)).length ≤ 130)) = true := by
      unfold mild at h
      exact h
    rw [Bool.and_eq_true] at h'
    exact ⟨h'.1, by simp [PyData.depth], by simp [PyData.showable], Nat.le_trans (of_decide_eq_true h'.2) (bnd_ge n)⟩
  | 0, .list ds, h => by
    unfold mild at h
    cases h
  | 0, .tuple ds, h => by
    unfold mild at h
    cases h
  | n, .dict k, h => by
    unfold mild at h
    cases n <;> cases h
  | n + 1, .list ds, h => by
    have h' : (decide (ds.length ≤ 40) && ds.all (mild n)) = true := by
      unfold mild at h
      exact h
    rw [Bool.and_eq_true] at h'
    have hl := of_decide_eq_true h'.1
    obtain ⟨k1, k2, k3, k4, k5⟩ := mild_all n ds (fun d m => mild_is n d (List.all_eq_true.mp h'.2 d m))
    refine ⟨by simp [PyData.canLay0, k1], by simp only [PyData.depth]; omega, by simp [PyData.showable, k3], ?_⟩
    have e1 : (PyData.list ds).shown = textFrom 0 "[" (PyData.shownAll ds) ++ "]" := by simp only [PyData.shown, listText]
    have e := textFrom_le (bnd n) (PyData.shownAll ds) 0 "[" k4
    rw [e1, strLen_append]
    have e2 : (("[" : Str)).length = 1 := rfl
    have e3 : (("]" : Str)).length = 1 := rfl
    rw [k5, e2] at e
    rw [e3]
    have : ds.length * (bnd n + 2) ≤ 40 * (bnd n + 2) := Nat.mul_le_mul_right _ hl
    show _ ≤ 40 * (bnd n + 2) + 10
    omega
  | n + 1, .tuple ds, h => by
    have h' : (decide (ds.length ≤ 40) && ds.all (mild n)) = true := by
      unfold mild at h
      exact h
    rw [Bool.and_eq_true] at h'
    have hl := of_decide_eq_true h'.1
    obtain ⟨k1, k2, k3, k4, k5⟩ := mild_all n ds (fun d m => mild_is n d (List.all_eq_true.mp h'.2 d m))
    refine ⟨by simp [PyData.canLay0, k1], by simp only [PyData.depth]; omega, by simp [PyData.showable, k3], ?_⟩
    have e := join_le (bnd n) (PyData.shownAll ds) k4
    have e1 : (PyData.tuple ds).shown = ("(" : Str) ++ Str.join ", " (PyData.shownAll ds) ++ (if (PyData.shownAll ds).length == 1 then ",)" else ")" : String) := by simp only [PyData.shown, tupleText]
    rw [e1, strLen_append, strLen_append]
    have e2 : (("(" : Str)).length = 1 := rfl
    have e3 : (((if (PyData.shownAll ds).length == 1 then ",)" else ")" : String) : Str)).length ≤ 2 := by split <;> decide
    rw [e2]
    rw [k5] at e
    have : ds.length * (bnd n + 2) ≤ 40 * (bnd n + 2) := Nat.mul_le_mul_right _ hl
    show _ ≤ 40 * (bnd n + 2) + 10
    omega
where mild_all (n : Nat) : ∀ ds : List PyData, (∀ d ∈ ds, Mild n d) → PyData.canLayAll0 ds = true ∧ PyData.depthAll ds ≤ n ∧ PyData.showableAll ds = true ∧ (∀ t ∈ PyData.shownAll ds, t.length ≤ bnd n) ∧ (PyData.shownAll ds).length = ds.length
  | [], _ => ⟨by simp [PyData.canLayAll0], by simp [PyData.depthAll], by simp [PyData.showableAll], by simp [PyData.shownAll], by simp [PyData.shownAll]⟩
  | d :: ds, h => by
    obtain ⟨k1, k2, k3, k4, k5⟩ := mild_all n ds fun x m => h x (List.mem_cons_of_mem _ m)
    obtain ⟨m1, m2, m3, m4⟩ := h d List.mem_cons_self
    refine ⟨by simp [PyData.canLayAll0, m1, k1], by simp only [PyData.depthAll]; omega, by simp [PyData.showableAll, m3, k3], fun t m => ?_, by simp [PyData.shownAll, k5]⟩
    rw [PyData.shownAll] at m
    rcases List.mem_cons.mp m with e | e
    · rw [e]
      exact m4
    · exact k4 t e
theorem Mild.shaped {n : Nat} {d : PyData} (h : Mild n d) (hn : n ≤ 60) : SeqAt.shaped d = true := by
  unfold SeqAt.shaped
  rw [h.lay, decide_eq_true (by have := h.dep; omega)]
  rfl
theorem Mild.noDict {n : Nat} {d : PyData} (h : Mild n d) : d.hasDict = false := PyData.hasDict_of_canLay d h.lay
theorem Mild.fits {d : PyData} (h : Mild 3 d) : d.shown.length ≤ sizeLine := Nat.le_trans h.len (by decide)
theorem mild_items {n : Nat} {d : PyData} {ds : List PyData} (h : mild (n + 1) d = true) (e : itemsD d = some ds) : ds.length ≤ 40 ∧ ∀ x ∈ ds, mild n x = true := by
  cases d with
  | list es =>
    cases e
    unfold mild at h
    rw [Bool.and_eq_true] at h
    exact ⟨of_decide_eq_true h.1, fun x m => List.all_eq_true.mp h.2 x m⟩
  | tuple es =>
    cases e
    unfold mild at h
    rw [Bool.and_eq_true] at h
    exact ⟨of_decide_eq_true h.1, fun x m => List.all_eq_true.mp h.2 x m⟩
  | _ => cases e
theorem mild_tup {n : Nat} {ds : List PyData} (hl : ds.length ≤ 40) (h : ∀ x ∈ ds, mild n x = true) : mild (n + 1) (.tuple ds) = true := by
  unfold mild
  rw [decide_eq_true hl, List.all_eq_true.mpr h]
  rfl
theorem mild_lst {n : Nat} {ds : List PyData} (hl : ds.length ≤ 40) (h : ∀ x ∈ ds, mild n x = true) : mild (n + 1) (.list ds) = true := by
  unfold mild
  rw [decide_eq_true hl, List.all_eq_true.mpr h]
  rfl
theorem mild_up : ∀ (n : Nat) (d : PyData), mild n d = true → mild (n + 1) d = true
  | n, .none, _ => by unfold mild; rfl
  | n, .bool b, _ => by unfold mild; rfl
  | n, .int i, h => by
    unfold mild at h ⊢
    exact h
  | n, .str x, h => by
    unfold mild at h ⊢
    exact h
  | 0, .list ds, h => by
    unfold mild at h
    cases h
  | 0, .tuple ds, h => by
    unfold mild at h
    cases h
  | n, .dict k, h => by
    unfold mild at h
    cases n <;> cases h
  | n + 1, .list ds, h => by
    obtain ⟨hl, hi⟩ := mild_items h rfl
    exact mild_lst hl fun x m => mild_up n x (hi x m)
  | n + 1, .tuple ds, h => by
    obtain ⟨hl, hi⟩ := mild_items h rfl
    exact mild_tup hl fun x m => mild_up n x (hi x m)
theorem mild_filter {n : Nat} {ds : List PyData} {f : PyData → Bool} (hl : ds.length ≤ 40) (h : ∀ x ∈ ds, mild n x = true) : mild (n + 1) (.list (ds.filter f)) = true :=
  mild_lst (Nat.le_trans (List.length_filter_le _ _) hl) fun x m => h x (List.mem_filter.mp m).1
end TkS
set_option Elab.async false
set_option linter.all false
set_option maxRecDepth 100000
set_option maxHeartbeats 4000000
/-! repr of data of bounded depth, width and numbers -/
namespace TkS
open PySem PySem.Spec PyProof.Rows L2
def rReprM : List V → Hp → VK → Prop := fun xs H Q => ∃ x d, xs = [x] ∧ Dq H x d ∧ mild 3 d = true ∧ Q (.str d.shown) H
theorem call_reprM {X : Cx} (hg : X.A.guards = some []) (hu : X.A.units + 65 < cLine) : CallR X (.builtin "repr") rReprM := by
  intro pins s σ H xs us Q I r h
  obtain ⟨x, d, rfl, k, hm, q⟩ := h
  have M := mild_is 3 d hm
  have big : ∀ a, x = .ref a → wpAny (model X.prog X.w) X.A (call (.builtin "repr") us) (EP X pins σ Q) X.xe s := fun a e => by
    subst e
    exact call_reprD hg hu pins s σ H _ us Q I r ⟨a, d, rfl, k.dp, M.sh, M.noDict, Nat.le_trans M.dep (by decide), M.fits, q⟩
  cases k with
  | non =>
    obtain ⟨u, rfl, ru⟩ := vals1 r
    cases ru
    have e : PyData.shown .none = ("None" : Str) := by simp only [PyData.shown]
    rw [e] at q
    exact PySem.P.repr_of_none ⟨.str _, H, I.tok _, ⟨_, rfl⟩, q⟩
  | bl b =>
    obtain ⟨u, rfl, ru⟩ := vals1 r
    cases ru
    have e : PyData.shown (.bool b) = if b = true then ("True" : Str) else ("False" : Str) := by simp only [PyData.shown]
    rw [e] at q
    exact PySem.P.repr_of_bool ⟨.str _, H, I.tok _, ⟨_, rfl⟩, q⟩
  | int i =>
    obtain ⟨u, rfl, t, rfl⟩ := vals1 r
    have e : PyData.shown (.int i) = Str.ofString (toString i) := by simp only [PyData.shown]
    rw [e] at q
    have hz : i.natAbs.log2 < 1920 := by
      have := M.sh
      simp only [PyData.showable] at this
      exact of_decide_eq_true this
    exact PySem.P.repr_of_int hz ⟨.str _, H, I.tok _, ⟨_, rfl⟩, q⟩
  | str z =>
    obtain ⟨u, rfl, t, rfl⟩ := vals1 r
    have e : PyData.shown (.str z) = reprText z := by simp only [PyData.shown]
    have hs := M.fits
    rw [e] at q hs
    exact PySem.P.repr_of_str ⟨.str _, H, I.tok _, ⟨_, rfl⟩, q⟩ hs
  | lst h1 h2 => exact big _ rfl
  | tup h1 h2 => exact big _ rfl
end TkS
set_option Elab.async false
set_option linter.all false
set_option maxRecDepth 100000
set_option maxHeartbeats 4000000
set_option exponentiation.threshold 5000
namespace K01
open PySem PySem.Spec PyProof.Rows L2 TkS
/-! the text -/
def topS (i : Nat) : Stmt := PySem.Challenge.pw_sheetproofs_k01_whole_tours_and_sayings.main.body.getD i (.Pass ⟨0, 0, 0, 0⟩)
abbrev s_BadPicture_init : Stmt := inClass (topS 3) 0
theorem sc_BadPicture_init : FnScope ["self", "what"] ["self", "what"] (defScope s_BadPicture_init) := ⟨rfl, rfl, rfl, by decide +kernel, rfl, by decide +kernel, by decide +kernel⟩
abbrev s_NotOpen_init : Stmt := inClass (topS 4) 0
theorem sc_NotOpen_init : FnScope ["self", "pair"] ["self", "pair"] (defScope s_NotOpen_init) := ⟨rfl, rfl, rfl, by decide +kernel, rfl, by decide +kernel, by decide +kernel⟩
abbrev s_BadTour_init : Stmt := inClass (topS 5) 0
theorem sc_BadTour_init : FnScope ["self", "what"] ["self", "what"] (defScope s_BadTour_init) := ⟨rfl, rfl, rfl, by decide +kernel, rfl, by decide +kernel, by decide +kernel⟩
abbrev s_BadSaying_init : Stmt := inClass (topS 7) 0
theorem sc_BadSaying_init : FnScope ["self", "what"] ["self", "what"] (defScope s_BadSaying_init) := ⟨rfl, rfl, rfl, by decide +kernel, rfl, by decide +kernel, by decide +kernel⟩
abbrev s_is_whole : Stmt := topS 9
theorem sc_is_whole : FnScope ["thing", "low", "high"] ["thing", "low", "high"] (defScope s_is_whole) := ⟨rfl, rfl, rfl, by decide +kernel, rfl, by decide +kernel, by decide +kernel⟩
abbrev s_is_sign : Stmt := topS 10
theorem sc_is_sign : FnScope ["thing"] ["thing"] (defScope s_is_sign) := ⟨rfl, rfl, rfl, by decide +kernel, rfl, by decide +kernel, by decide +kernel⟩
abbrev s_is_sequence : Stmt := topS 12
theorem sc_is_sequence : FnScope ["thing", "length"] ["thing", "length"] (defScope s_is_sequence) := ⟨rfl, rfl, rfl, by decide +kernel, rfl, by decide +kernel, by decide +kernel⟩
abbrev s_check_tour : Stmt := topS 14
theorem sc_check_tour : FnScope ["picture", "tour", "number", "point_sums", "wall_sums", "point", "wall"] ["picture", "tour"] (defScope s_check_tour) := ⟨rfl, rfl, rfl, by decide +kernel, rfl, by decide +kernel, by decide +kernel⟩
abbrev s_no_tour : Stmt := topS 15
theorem sc_no_tour : FnScope ["picture"] ["picture"] (defScope s_no_tour) := ⟨rfl, rfl, rfl, by decide +kernel, rfl, by decide +kernel, by decide +kernel⟩
abbrev s_tour_sum : Stmt := topS 16
theorem sc_tour_sum : FnScope ["picture", "one", "other", "first", "second", "number", "added"] ["picture", "one", "other"] (defScope s_tour_sum) := ⟨rfl, rfl, rfl, by decide +kernel, rfl, by decide +kernel, by decide +kernel⟩
abbrev s_tour_times : Stmt := topS 17
theorem sc_tour_times : FnScope ["picture", "tour", "whole", "numbers", "number"] ["picture", "tour", "whole"] (defScope s_tour_times) := ⟨rfl, rfl, rfl, by decide +kernel, rfl, by decide +kernel, by decide +kernel⟩
abbrev s_tour_size : Stmt := topS 18
theorem sc_tour_size : FnScope ["picture", "tour", "number"] ["picture", "tour"] (defScope s_tour_size) := ⟨rfl, rfl, rfl, by decide +kernel, rfl, by decide +kernel, by decide +kernel⟩
abbrev s_led_tour : Stmt := topS 19
theorem sc_led_tour : FnScope ["one", "other", "tour", "led", "pair", "number"] ["one", "other", "tour"] (defScope s_led_tour) := ⟨rfl, rfl, rfl, by decide +kernel, rfl, by decide +kernel, by decide +kernel⟩
abbrev s_merged_labels : Stmt := topS 22
theorem sc_merged_labels : FnScope ["labels", "one", "other", "least", "label"] ["labels", "one", "other"] (defScope s_merged_labels) := ⟨rfl, rfl, rfl, by decide +kernel, rfl, by decide +kernel, by decide +kernel⟩
abbrev s_piece_labels : Stmt := topS 23
theorem sc_piece_labels : FnScope ["points", "walls", "pairs", "labels", "point", "wall"] ["points", "walls", "pairs"] (defScope s_piece_labels) := ⟨rfl, rfl, rfl, by decide +kernel, rfl, by decide +kernel, by decide +kernel⟩
abbrev s_pieces_by_labels : Stmt := topS 24
theorem sc_pieces_by_labels : FnScope ["points", "labels", "pieces", "label", "corners", "inside", "corner"] ["points", "labels"] (defScope s_pieces_by_labels) := ⟨rfl, rfl, rfl, by decide +kernel, rfl, by decide +kernel, by decide +kernel⟩
abbrev s_Picture_init : Stmt := inClass (topS 25) 0
theorem sc_Picture_init : FnScope ["self", "points", "walls", "pairs", "pair", "kept", "at"] ["self", "points", "walls", "pairs"] (defScope s_Picture_init) := ⟨rfl, rfl, rfl, by decide +kernel, rfl, by decide +kernel, by decide +kernel⟩
abbrev s_Picture_eq : Stmt := inClass (topS 25) 1
theorem sc_Picture_eq : FnScope ["self", "other"] ["self", "other"] (defScope s_Picture_eq) := ⟨rfl, rfl, rfl, by decide +kernel, rfl, by decide +kernel, by decide +kernel⟩
abbrev s_Picture_len : Stmt := inClass (topS 25) 2
theorem sc_Picture_len : FnScope ["self"] ["self"] (defScope s_Picture_len) := ⟨rfl, rfl, rfl, by decide +kernel, rfl, by decide +kernel, by decide +kernel⟩
abbrev s_Picture_pieces : Stmt := inClass (topS 25) 3
theorem sc_Picture_pieces : FnScope ["self"] ["self"] (defScope s_Picture_pieces) := ⟨rfl, rfl, rfl, by decide +kernel, rfl, by decide +kernel, by decide +kernel⟩
abbrev s_Pictureis_pair : Stmt := inClass (topS 25) 4
theorem sc_Pictureis_pair : FnScope ["self", "thing"] ["self", "thing"] (defScope s_Pictureis_pair) := ⟨rfl, rfl, rfl, by decide +kernel, rfl, by decide +kernel, by decide +kernel⟩
abbrev s_Picture_place_of : Stmt := inClass (topS 25) 5
theorem sc_Picture_place_of : FnScope ["self", "pair"] ["self", "pair"] (defScope s_Picture_place_of) := ⟨rfl, rfl, rfl, by decide +kernel, rfl, by decide +kernel, by decide +kernel⟩
abbrev s_Picture_is_open : Stmt := inClass (topS 25) 6
theorem sc_Picture_is_open : FnScope ["self", "pair"] ["self", "pair"] (defScope s_Picture_is_open) := ⟨rfl, rfl, rfl, by decide +kernel, rfl, by decide +kernel, by decide +kernel⟩
abbrev s_check_saying : Stmt := topS 27
theorem sc_check_saying : FnScope ["picture", "saying", "tour", "sign", "numbers"] ["picture", "saying"] (defScope s_check_saying) := ⟨rfl, rfl, rfl, by decide +kernel, rfl, by decide +kernel, by decide +kernel⟩
abbrev s_minus_saying : Stmt := topS 28
theorem sc_minus_saying : FnScope ["picture"] ["picture"] (defScope s_minus_saying) := ⟨rfl, rfl, rfl, by decide +kernel, rfl, by decide +kernel, by decide +kernel⟩
abbrev s_saying_sum : Stmt := topS 29
theorem sc_saying_sum : FnScope ["picture", "one", "other", "tour", "sign", "added", "more"] ["picture", "one", "other"] (defScope s_saying_sum) := ⟨rfl, rfl, rfl, by decide +kernel, rfl, by decide +kernel, by decide +kernel⟩
abbrev s_saying_times : Stmt := topS 30
theorem sc_saying_times : FnScope ["picture", "saying", "whole", "tour", "sign", "multiplied"] ["picture", "saying", "whole"] (defScope s_saying_times) := ⟨rfl, rfl, rfl, by decide +kernel, rfl, by decide +kernel, by decide +kernel⟩
abbrev s_law_hand : Stmt := topS 32
theorem sc_law_hand : FnScope ["_law_script", "_law_total", "_law_cells", "_law_cell"] ["_law_script"] (defScope s_law_hand) := ⟨rfl, rfl, rfl, by decide +kernel, rfl, by decide +kernel, by decide +kernel⟩
abbrev s_law_mixed : Stmt := topS 33
theorem sc_law_mixed : FnScope ["_law_number", "_law_turn", "_law_once", "_law_twice"] ["_law_number", "_law_turn"] (defScope s_law_mixed) := ⟨rfl, rfl, rfl, by decide +kernel, rfl, by decide +kernel, by decide +kernel⟩
abbrev s_law_take : Stmt := topS 34
theorem sc_law_take : FnScope ["_law_hand_here", "_law_many", "_law_cell", "_law_rest"] ["_law_hand_here", "_law_many"] (defScope s_law_take) := ⟨rfl, rfl, rfl, by decide +kernel, rfl, by decide +kernel, by decide +kernel⟩
abbrev s_law_whole : Stmt := topS 35
theorem sc_law_whole : FnScope ["_law_thing"] ["_law_thing"] (defScope s_law_whole) := ⟨rfl, rfl, rfl, by decide +kernel, rfl, by decide +kernel, by decide +kernel⟩
abbrev s_law_full : Stmt := topS 36
theorem sc_law_full : FnScope ["_law_points", "_law_shuts", "_law_told", "_law_point", "_law_shut_here"] ["_law_points", "_law_shuts"] (defScope s_law_full) := ⟨rfl, rfl, rfl, by decide +kernel, rfl, by decide +kernel, by decide +kernel⟩
abbrev s_law_picture : Stmt := topS 37
theorem sc_law_picture : FnScope ["_law_hand_here", "_law_pick", "_law_shut", "_law_shuts", "_law_pairs", "_law_k", "_law_pair"] ["_law_hand_here"] (defScope s_law_picture) := ⟨rfl, rfl, rfl, by decide +kernel, rfl, by decide +kernel, by decide +kernel⟩
abbrev s_law_marks : Stmt := topS 38
theorem sc_law_marks : FnScope ["_law_points", "_law_shuts", "_law_pairs", "_law_marks_here", "_law_point", "_law_shut_here", "_law_one", "_law_other", "_law_mark"] ["_law_points", "_law_shuts", "_law_pairs"] (defScope s_law_marks) := ⟨rfl, rfl, rfl, by decide +kernel, rfl, by decide +kernel, by decide +kernel⟩
abbrev s_law_tree : Stmt := topS 39
theorem sc_law_tree : FnScope ["_law_points", "_law_shuts", "_law_pairs", "_law_tree_here", "_law_rest", "_law_k", "_law_marks_here", "_law_j"] ["_law_points", "_law_shuts", "_law_pairs"] (defScope s_law_tree) := ⟨rfl, rfl, rfl, by decide +kernel, rfl, by decide +kernel, by decide +kernel⟩
abbrev s_law_tour_of : Stmt := topS 40
theorem sc_law_tour_of : FnScope ["_law_points", "_law_shuts", "_law_pairs", "_law_row", "_law_tree_here", "_law_rest", "_law_told", "_law_k", "_law_number", "_law_due", "_law_j", "_law_marks_here", "_law_side", "_law_total", "_law_here", "_law_there"] ["_law_points", "_law_shuts", "_law_pairs", "_law_row"] (defScope s_law_tour_of) := ⟨rfl, rfl, rfl, by decide +kernel, rfl, by decide +kernel, by decide +kernel⟩
abbrev s_law_sum : Stmt := topS 41
theorem sc_law_sum : FnScope ["_law_one", "_law_other", "_law_a", "_law_b"] ["_law_one", "_law_other"] (defScope s_law_sum) := ⟨rfl, rfl, rfl, by decide +kernel, rfl, by decide +kernel, by decide +kernel⟩
abbrev s_law_times : Stmt := topS 42
theorem sc_law_times : FnScope ["_law_saying_here", "_law_whole_here", "_law_a"] ["_law_saying_here", "_law_whole_here"] (defScope s_law_times) := ⟨rfl, rfl, rfl, by decide +kernel, rfl, by decide +kernel, by decide +kernel⟩
abbrev s_law_numbers : Stmt := topS 43
theorem sc_law_numbers : FnScope ["_law_hand_here", "_law_many", "_law_told", "_law_k", "_law_number"] ["_law_hand_here", "_law_many"] (defScope s_law_numbers) := ⟨rfl, rfl, rfl, by decide +kernel, rfl, by decide +kernel, by decide +kernel⟩
abbrev s_law_tour_due : Stmt := topS 44
theorem sc_law_tour_due : FnScope ["_law_points", "_law_shuts", "_law_pairs", "_law_tour", "_law_point", "_law_shut_here", "_law_number", "_law_pair"] ["_law_points", "_law_shuts", "_law_pairs", "_law_tour"] (defScope s_law_tour_due) := ⟨rfl, rfl, rfl, by decide +kernel, rfl, by decide +kernel, by decide +kernel⟩
abbrev s_law_saying_due : Stmt := topS 45
theorem sc_law_saying_due : FnScope ["_law_points", "_law_shuts", "_law_pairs", "_law_saying_here"] ["_law_points", "_law_shuts", "_law_pairs", "_law_saying_here"] (defScope s_law_saying_due) := ⟨rfl, rfl, rfl, by decide +kernel, rfl, by decide +kernel, by decide +kernel⟩
abbrev s_law_tuple : Stmt := topS 46
theorem sc_law_tuple : FnScope ["_law_told", "_law_due", "_law_x"] ["_law_told", "_law_due"] (defScope s_law_tuple) := ⟨rfl, rfl, rfl, by decide +kernel, rfl, by decide +kernel, by decide +kernel⟩
abbrev s_law_saying : Stmt := topS 47
theorem sc_law_saying : FnScope ["_law_told", "_law_due"] ["_law_told", "_law_due"] (defScope s_law_saying) := ⟨rfl, rfl, rfl, by decide +kernel, rfl, by decide +kernel, by decide +kernel⟩
abbrev s_law_asked : Stmt := topS 48
theorem sc_law_asked : FnScope ["_law_way", "_law_picture_here", "_law_one", "_law_other", "_law_told", "_law_word", "e"] ["_law_way", "_law_picture_here", "_law_one", "_law_other"] (defScope s_law_asked) := ⟨rfl, rfl, rfl, by decide +kernel, rfl, by decide +kernel, by decide +kernel⟩
abbrev s_law_spoiled : Stmt := topS 49
theorem sc_law_spoiled : FnScope ["_law_hand_here", "_law_pairs", "_law_tour", "_law_told", "_law_at", "_law_odd", "_law_step", "_law_mates", "_law_mate", "_law_k"] ["_law_hand_here", "_law_pairs", "_law_tour"] (defScope s_law_spoiled) := ⟨rfl, rfl, rfl, by decide +kernel, rfl, by decide +kernel, by decide +kernel⟩
abbrev s_law_tours : Stmt := topS 50
theorem sc_law_tours : FnScope ["_law_hand_here", "_law_world", "_law_picture_here", "_law_one", "_law_other", "_law_points", "_law_shuts", "_law_pairs", "_law_whole_here", "_law_odd", "_law_thing", "_law_due", "_law_word", "_law_kept", "_law_way", "_law_mate", "_law_right", "_law_told", "_law_size", "_law_rows", "_law_number", "_law_a", "_law_b"] ["_law_hand_here", "_law_world", "_law_picture_here", "_law_one", "_law_other"] (defScope s_law_tours) := ⟨rfl, rfl, rfl, by decide +kernel, rfl, by decide +kernel, by decide +kernel⟩
abbrev s_law_sayings : Stmt := topS 51
theorem sc_law_sayings : FnScope ["_law_hand_here", "_law_world", "_law_picture_here", "_law_one", "_law_other", "_law_points", "_law_shuts", "_law_pairs", "_law_whole_here", "_law_odd", "_law_signs", "_law_second", "_law_things", "_law_sign", "_law_thing", "_law_due", "_law_kept", "_law_way", "_law_mate", "_law_told", "_law_rows", "_law_back", "_law_tour"] ["_law_hand_here", "_law_world", "_law_picture_here", "_law_one", "_law_other"] (defScope s_law_sayings) := ⟨rfl, rfl, rfl, by decide +kernel, rfl, by decide +kernel, by decide +kernel⟩
abbrev s_law_led : Stmt := topS 52
theorem sc_law_led : FnScope ["_law_hand_here", "_law_world", "_law_picture_here", "_law_tour", "_law_points", "_law_shuts", "_law_pairs", "_law_high", "_law_gone", "_law_pair", "_law_here", "_law_other", "_law_due", "_law_lacks", "_law_number", "_law_told", "_law_word", "e"] ["_law_hand_here", "_law_world", "_law_picture_here", "_law_tour"] (defScope s_law_led) := ⟨rfl, rfl, rfl, by decide +kernel, rfl, by decide +kernel, by decide +kernel⟩
abbrev s_law_led_refused : Stmt := topS 53
theorem sc_law_led_refused : FnScope ["_law_world", "_law_picture_here", "_law_tour", "_law_points", "_law_shuts", "_law_pairs", "_law_other", "_law_thing", "_law_word", "e"] ["_law_world", "_law_picture_here", "_law_tour"] (defScope s_law_led_refused) := ⟨rfl, rfl, rfl, by decide +kernel, rfl, by decide +kernel, by decide +kernel⟩
abbrev s_law : Stmt := topS 54
theorem sc_law : FnScope ["_law_script", "_law_hand_here", "_law_world", "_law_points", "_law_shuts", "_law_pairs", "_law_picture_here", "_law_many", "_law_one", "_law_other", "_law_tour"] ["_law_script"] (defScope s_law) := ⟨rfl, rfl, rfl, by decide +kernel, rfl, by decide +kernel, by decide +kernel⟩
/-! what the top leaves -/
structure Txt (K : PySem.W.Frag) (mg : Str → Option Value) where
  f_BadPicture_init : Addr
  d_BadPicture_init : FuncData
  F_BadPicture_init : Fun K "__init__" "BadPicture.__init__" s_BadPicture_init f_BadPicture_init d_BadPicture_init
  b_BadPicture_init : Binds K d_BadPicture_init ["self", "what"] []
  f_NotOpen_init : Addr
  d_NotOpen_init : FuncData
  F_NotOpen_init : Fun K "__init__" "NotOpen.__init__" s_NotOpen_init f_NotOpen_init d_NotOpen_init
  b_NotOpen_init : Binds K d_NotOpen_init ["self", "pair"] []
  f_BadTour_init : Addr
  d_BadTour_init : FuncData
  F_BadTour_init : Fun K "__init__" "BadTour.__init__" s_BadTour_init f_BadTour_init d_BadTour_init
  b_BadTour_init : Binds K d_BadTour_init ["self", "what"] []
  f_BadSaying_init : Addr
  d_BadSaying_init : FuncData
  F_BadSaying_init : Fun K "__init__" "BadSaying.__init__" s_BadSaying_init f_BadSaying_init d_BadSaying_init
  b_BadSaying_init : Binds K d_BadSaying_init ["self", "what"] []
  f_is_whole : Addr
  d_is_whole : FuncData
  F_is_whole : FunD K "is_whole" "is_whole" (defArgs s_is_whole) (defBody s_is_whole) (defScope s_is_whole) [.non, .non] [] f_is_whole d_is_whole
  b2_is_whole : Binds K d_is_whole ["thing", "low", "high"] [.none, .none]
  b_is_whole : Binds K d_is_whole ["thing", "low", "high"] []
  g_is_whole : mg "is_whole" = some (.ref f_is_whole)
  f_is_sign : Addr
  d_is_sign : FuncData
  F_is_sign : Fun K "is_sign" "is_sign" s_is_sign f_is_sign d_is_sign
  b_is_sign : Binds K d_is_sign ["thing"] []
  g_is_sign : mg "is_sign" = some (.ref f_is_sign)
  f_is_sequence : Addr
  d_is_sequence : FuncData
  F_is_sequence : FunD K "is_sequence" "is_sequence" (defArgs s_is_sequence) (defBody s_is_sequence) (defScope s_is_sequence) [.non] [] f_is_sequence d_is_sequence
  b1_is_sequence : Binds K d_is_sequence ["thing", "length"] [.none]
  b_is_sequence : Binds K d_is_sequence ["thing", "length"] []
  g_is_sequence : mg "is_sequence" = some (.ref f_is_sequence)
  f_check_tour : Addr
  d_check_tour : FuncData
  F_check_tour : Fun K "check_tour" "check_tour" s_check_tour f_check_tour d_check_tour
  b_check_tour : Binds K d_check_tour ["picture", "tour"] []
  g_check_tour : mg "check_tour" = some (.ref f_check_tour)
  f_no_tour : Addr
  d_no_tour : FuncData
  F_no_tour : Fun K "no_tour" "no_tour" s_no_tour f_no_tour d_no_tour
  b_no_tour : Binds K d_no_tour ["picture"] []
  g_no_tour : mg "no_tour" = some (.ref f_no_tour)
  f_tour_sum : Addr
  d_tour_sum : FuncData
  F_tour_sum : Fun K "tour_sum" "tour_sum" s_tour_sum f_tour_sum d_tour_sum
  b_tour_sum : Binds K d_tour_sum ["picture", "one", "other"] []
  g_tour_sum : mg "tour_sum" = some (.ref f_tour_sum)
  f_tour_times : Addr
  d_tour_times : FuncData
  F_tour_times : Fun K "tour_times" "tour_times" s_tour_times f_tour_times d_tour_times
  b_tour_times : Binds K d_tour_times ["picture", "tour", "whole"] []
  g_tour_times : mg "tour_times" = some (.ref f_tour_times)
  f_tour_size : Addr
  d_tour_size : FuncData
  F_tour_size : Fun K "tour_size" "tour_size" s_tour_size f_tour_size d_tour_size
  b_tour_size : Binds K d_tour_size ["picture", "tour"] []
  g_tour_size : mg "tour_size" = some (.ref f_tour_size)
  f_led_tour : Addr
  d_led_tour : FuncData
  F_led_tour : Fun K "led_tour" "led_tour" s_led_tour f_led_tour d_led_tour
  b_led_tour : Binds K d_led_tour ["one", "other", "tour"] []
  g_led_tour : mg "led_tour" = some (.ref f_led_tour)
  f_merged_labels : Addr
  d_merged_labels : FuncData
  F_merged_labels : Fun K "merged_labels" "merged_labels" s_merged_labels f_merged_labels d_merged_labels
  b_merged_labels : Binds K d_merged_labels ["labels", "one", "other"] []
  g_merged_labels : mg "merged_labels" = some (.ref f_merged_labels)
  f_piece_labels : Addr
  d_piece_labels : FuncData
  F_piece_labels : Fun K "_piece_labels" "_piece_labels" s_piece_labels f_piece_labels d_piece_labels
  b_piece_labels : Binds K d_piece_labels ["points", "walls", "pairs"] []
  g_piece_labels : mg "_piece_labels" = some (.ref f_piece_labels)
  f_pieces_by_labels : Addr
  d_pieces_by_labels : FuncData
  F_pieces_by_labels : Fun K "_pieces_by_labels" "_pieces_by_labels" s_pieces_by_labels f_pieces_by_labels d_pieces_by_labels
  b_pieces_by_labels : Binds K d_pieces_by_labels ["points", "labels"] []
  g_pieces_by_labels : mg "_pieces_by_labels" = some (.ref f_pieces_by_labels)
  f_Picture_init : Addr
  d_Picture_init : FuncData
  F_Picture_init : Fun K "__init__" "Picture.__init__" s_Picture_init f_Picture_init d_Picture_init
  b_Picture_init : Binds K d_Picture_init ["self", "points", "walls", "pairs"] []
  f_Picture_eq : Addr
  d_Picture_eq : FuncData
  F_Picture_eq : Fun K "__eq__" "Picture.__eq__" s_Picture_eq f_Picture_eq d_Picture_eq
  b_Picture_eq : Binds K d_Picture_eq ["self", "other"] []
  f_Picture_len : Addr
  d_Picture_len : FuncData
  F_Picture_len : Fun K "__len__" "Picture.__len__" s_Picture_len f_Picture_len d_Picture_len
  b_Picture_len : Binds K d_Picture_len ["self"] []
  f_Picture_pieces : Addr
  d_Picture_pieces : FuncData
  F_Picture_pieces : Fun K "pieces" "Picture.pieces" s_Picture_pieces f_Picture_pieces d_Picture_pieces
  b_Picture_pieces : Binds K d_Picture_pieces ["self"] []
  f_Pictureis_pair : Addr
  d_Pictureis_pair : FuncData
  F_Pictureis_pair : Fun K "_is_pair" "Picture._is_pair" s_Pictureis_pair f_Pictureis_pair d_Pictureis_pair
  b_Pictureis_pair : Binds K d_Pictureis_pair ["self", "thing"] []
  f_Picture_place_of : Addr
  d_Picture_place_of : FuncData
  F_Picture_place_of : Fun K "place_of" "Picture.place_of" s_Picture_place_of f_Picture_place_of d_Picture_place_of
  b_Picture_place_of : Binds K d_Picture_place_of ["self", "pair"] []
  f_Picture_is_open : Addr
  d_Picture_is_open : FuncData
  F_Picture_is_open : Fun K "is_open" "Picture.is_open" s_Picture_is_open f_Picture_is_open d_Picture_is_open
  b_Picture_is_open : Binds K d_Picture_is_open ["self", "pair"] []
  f_check_saying : Addr
  d_check_saying : FuncData
  F_check_saying : Fun K "check_saying" "check_saying" s_check_saying f_check_saying d_check_saying
  b_check_saying : Binds K d_check_saying ["picture", "saying"] []
  g_check_saying : mg "check_saying" = some (.ref f_check_saying)
  f_minus_saying : Addr
  d_minus_saying : FuncData
  F_minus_saying : Fun K "minus_saying" "minus_saying" s_minus_saying f_minus_saying d_minus_saying
  b_minus_saying : Binds K d_minus_saying ["picture"] []
  g_minus_saying : mg "minus_saying" = some (.ref f_minus_saying)
  f_saying_sum : Addr
  d_saying_sum : FuncData
  F_saying_sum : Fun K "saying_sum" "saying_sum" s_saying_sum f_saying_sum d_saying_sum
  b_saying_sum : Binds K d_saying_sum ["picture", "one", "other"] []
  g_saying_sum : mg "saying_sum" = some (.ref f_saying_sum)
  f_saying_times : Addr
  d_saying_times : FuncData
  F_saying_times : Fun K "saying_times" "saying_times" s_saying_times f_saying_times d_saying_times
  b_saying_times : Binds K d_saying_times ["picture", "saying", "whole"] []
  g_saying_times : mg "saying_times" = some (.ref f_saying_times)
  f_law_hand : Addr
  d_law_hand : FuncData
  F_law_hand : Fun K "_law_hand" "_law_hand" s_law_hand f_law_hand d_law_hand
  b_law_hand : Binds K d_law_hand ["_law_script"] []
  g_law_hand : mg "_law_hand" = some (.ref f_law_hand)
  f_law_mixed : Addr
  d_law_mixed : FuncData
  F_law_mixed : Fun K "_law_mixed" "_law_mixed" s_law_mixed f_law_mixed d_law_mixed
  b_law_mixed : Binds K d_law_mixed ["_law_number", "_law_turn"] []
  g_law_mixed : mg "_law_mixed" = some (.ref f_law_mixed)
  f_law_take : Addr
  d_law_take : FuncData
  F_law_take : Fun K "_law_take" "_law_take" s_law_take f_law_take d_law_take
  b_law_take : Binds K d_law_take ["_law_hand_here", "_law_many"] []
  g_law_take : mg "_law_take" = some (.ref f_law_take)
  f_law_whole : Addr
  d_law_whole : FuncData
  F_law_whole : Fun K "_law_whole" "_law_whole" s_law_whole f_law_whole d_law_whole
  b_law_whole : Binds K d_law_whole ["_law_thing"] []
  g_law_whole : mg "_law_whole" = some (.ref f_law_whole)
  f_law_full : Addr
  d_law_full : FuncData
  F_law_full : Fun K "_law_full" "_law_full" s_law_full f_law_full d_law_full
  b_law_full : Binds K d_law_full ["_law_points", "_law_shuts"] []
  g_law_full : mg "_law_full" = some (.ref f_law_full)
  f_law_picture : Addr
  d_law_picture : FuncData
  F_law_picture : Fun K "_law_picture" "_law_picture" s_law_picture f_law_picture d_law_picture
  b_law_picture : Binds K d_law_picture ["_law_hand_here"] []
  g_law_picture : mg "_law_picture" = some (.ref f_law_picture)
  f_law_marks : Addr
  d_law_marks : FuncData
  F_law_marks : Fun K "_law_marks" "_law_marks" s_law_marks f_law_marks d_law_marks
  b_law_marks : Binds K d_law_marks ["_law_points", "_law_shuts", "_law_pairs"] []
  g_law_marks : mg "_law_marks" = some (.ref f_law_marks)
  f_law_tree : Addr
  d_law_tree : FuncData
  F_law_tree : Fun K "_law_tree" "_law_tree" s_law_tree f_law_tree d_law_tree
  b_law_tree : Binds K d_law_tree ["_law_points", "_law_shuts", "_law_pairs"] []
  g_law_tree : mg "_law_tree" = some (.ref f_law_tree)
  f_law_tour_of : Addr
  d_law_tour_of : FuncData
  F_law_tour_of : Fun K "_law_tour_of" "_law_tour_of" s_law_tour_of f_law_tour_of d_law_tour_of
  b_law_tour_of : Binds K d_law_tour_of ["_law_points", "_law_shuts", "_law_pairs", "_law_row"] []
  g_law_tour_of : mg "_law_tour_of" = some (.ref f_law_tour_of)
  f_law_sum : Addr
  d_law_sum : FuncData
  F_law_sum : Fun K "_law_sum" "_law_sum" s_law_sum f_law_sum d_law_sum
  b_law_sum : Binds K d_law_sum ["_law_one", "_law_other"] []
  g_law_sum : mg "_law_sum" = some (.ref f_law_sum)
  f_law_times : Addr
  d_law_times : FuncData
  F_law_times : Fun K "_law_times" "_law_times" s_law_times f_law_times d_law_times
  b_law_times : Binds K d_law_times ["_law_saying_here", "_law_whole_here"] []
  g_law_times : mg "_law_times" = some (.ref f_law_times)
  f_law_numbers : Addr
  d_law_numbers : FuncData
  F_law_numbers : Fun K "_law_numbers" "_law_numbers" s_law_numbers f_law_numbers d_law_numbers
  b_law_numbers : Binds K d_law_numbers ["_law_hand_here", "_law_many"] []
  g_law_numbers : mg "_law_numbers" = some (.ref f_law_numbers)
  f_law_tour_due : Addr
  d_law_tour_due : FuncData
  F_law_tour_due : Fun K "_law_tour_due" "_law_tour_due" s_law_tour_due f_law_tour_due d_law_tour_due
  b_law_tour_due : Binds K d_law_tour_due ["_law_points", "_law_shuts", "_law_pairs", "_law_tour"] []
  g_law_tour_due : mg "_law_tour_due" = some (.ref f_law_tour_due)
  f_law_saying_due : Addr
  d_law_saying_due : FuncData
  F_law_saying_due : Fun K "_law_saying_due" "_law_saying_due" s_law_saying_due f_law_saying_due d_law_saying_due
  b_law_saying_due : Binds K d_law_saying_due ["_law_points", "_law_shuts", "_law_pairs", "_law_saying_here"] []
  g_law_saying_due : mg "_law_saying_due" = some (.ref f_law_saying_due)
  f_law_tuple : Addr
  d_law_tuple : FuncData
  F_law_tuple : Fun K "_law_tuple" "_law_tuple" s_law_tuple f_law_tuple d_law_tuple
  b_law_tuple : Binds K d_law_tuple ["_law_told", "_law_due"] []
  g_law_tuple : mg "_law_tuple" = some (.ref f_law_tuple)
  f_law_saying : Addr
  d_law_saying : FuncData
  F_law_saying : Fun K "_law_saying" "_law_saying" s_law_saying f_law_saying d_law_saying
  b_law_saying : Binds K d_law_saying ["_law_told", "_law_due"] []
  g_law_saying : mg "_law_saying" = some (.ref f_law_saying)
  f_law_asked : Addr
  d_law_asked : FuncData
  F_law_asked : Fun K "_law_asked" "_law_asked" s_law_asked f_law_asked d_law_asked
  b_law_asked : Binds K d_law_asked ["_law_way", "_law_picture_here", "_law_one", "_law_other"] []
  g_law_asked : mg "_law_asked" = some (.ref f_law_asked)
  f_law_spoiled : Addr
  d_law_spoiled : FuncData
  F_law_spoiled : Fun K "_law_spoiled" "_law_spoiled" s_law_spoiled f_law_spoiled d_law_spoiled
  b_law_spoiled : Binds K d_law_spoiled ["_law_hand_here", "_law_pairs", "_law_tour"] []
  g_law_spoiled : mg "_law_spoiled" = some (.ref f_law_spoiled)
  f_law_tours : Addr
  d_law_tours : FuncData
  F_law_tours : Fun K "_law_tours" "_law_tours" s_law_tours f_law_tours d_law_tours
  b_law_tours : Binds K d_law_tours ["_law_hand_here", "_law_world", "_law_picture_here", "_law_one", "_law_other"] []
  g_law_tours : mg "_law_tours" = some (.ref f_law_tours)
  f_law_sayings : Addr
  d_law_sayings : FuncData
  F_law_sayings : Fun K "_law_sayings" "_law_sayings" s_law_sayings f_law_sayings d_law_sayings
  b_law_sayings : Binds K d_law_sayings ["_law_hand_here", "_law_world", "_law_picture_here", "_law_one", "_law_other"] []
  g_law_sayings : mg "_law_sayings" = some (.ref f_law_sayings)
  f_law_led : Addr
  d_law_led : FuncData
  F_law_led : Fun K "_law_led" "_law_led" s_law_led f_law_led d_law_led
  b_law_led : Binds K d_law_led ["_law_hand_here", "_law_world", "_law_picture_here", "_law_tour"] []
  g_law_led : mg "_law_led" = some (.ref f_law_led)
  f_law_led_refused : Addr
  d_law_led_refused : FuncData
  F_law_led_refused : Fun K "_law_led_refused" "_law_led_refused" s_law_led_refused f_law_led_refused d_law_led_refused
  b_law_led_refused : Binds K d_law_led_refused ["_law_world", "_law_picture_here", "_law_tour"] []
  g_law_led_refused : mg "_law_led_refused" = some (.ref f_law_led_refused)
  f_law : Addr
  d_law : FuncData
  F_law : Fun K "law" "law" s_law f_law d_law
  m_abs : mg "abs" = none
  m_any : mg "any" = none
  m_bool : mg "bool" = none
  m_int : mg "int" = none
  m_isinstance : mg "isinstance" = none
  m_len : mg "len" = none
  m_list : mg "list" = none
  m_min : mg "min" = none
  m_property : mg "property" = none
  m_range : mg "range" = none
  m_repr : mg "repr" = none
  m_sorted : mg "sorted" = none
  m_sum : mg "sum" = none
  m_tuple : mg "tuple" = none
  m_zip : mg "zip" = none
  tk_MOST_CORNERS : Tok
  c_MOST_CORNERS : mg "MOST_CORNERS" = some (.int 5 tk_MOST_CORNERS)
  C_SheetError : Addr
  g_SheetError : mg "SheetError" = some (.ref C_SheetError)
  C_BadPicture : Addr
  g_BadPicture : mg "BadPicture" = some (.ref C_BadPicture)
  x_BadPicture : XfC K C_BadPicture
  e_BadPicture : ExcC K C_BadPicture
  o_BadPicture : OexC K C_BadPicture
  i_BadPicture : PySem.W.findIn K (.ref C_BadPicture) "__init__" = some (some (.ref f_BadPicture_init))
  t_BadPicture : PySem.W.typeIn K (.ref f_BadPicture_init) = some (.type "function")
  n_BadPicture : PySem.W.findIn K (.ref C_BadPicture) "what" = some none
  C_NotOpen : Addr
  g_NotOpen : mg "NotOpen" = some (.ref C_NotOpen)
  x_NotOpen : XfC K C_NotOpen
  e_NotOpen : ExcC K C_NotOpen
  o_NotOpen : OexC K C_NotOpen
  i_NotOpen : PySem.W.findIn K (.ref C_NotOpen) "__init__" = some (some (.ref f_NotOpen_init))
  t_NotOpen : PySem.W.typeIn K (.ref f_NotOpen_init) = some (.type "function")
  n_NotOpen : PySem.W.findIn K (.ref C_NotOpen) "pair" = some none
  C_BadTour : Addr
  g_BadTour : mg "BadTour" = some (.ref C_BadTour)
  x_BadTour : XfC K C_BadTour
  e_BadTour : ExcC K C_BadTour
  o_BadTour : OexC K C_BadTour
  i_BadTour : PySem.W.findIn K (.ref C_BadTour) "__init__" = some (some (.ref f_BadTour_init))
  t_BadTour : PySem.W.typeIn K (.ref f_BadTour_init) = some (.type "function")
  n_BadTour : PySem.W.findIn K (.ref C_BadTour) "what" = some none
  C_BadWhole : Addr
  g_BadWhole : mg "BadWhole" = some (.ref C_BadWhole)
  x_BadWhole : XfC K C_BadWhole
  e_BadWhole : ExcC K C_BadWhole
  q_BadWhole : PySem.W.excIn K C_BadWhole [Value.type "ValueError", Value.type "Exception", Value.type "BaseException", Value.type "object"] "ValueError.__new__" = true
  k_BadWhole : PySem.W.keepIn K (.ref C_BadWhole) = true
  b_BadWhole : PySem.W.subIn K (.ref C_BadWhole) (.type "BaseException") = some true
  ty_BadWhole : PySem.W.typeIn K (.ref C_BadWhole) = some (.type "type")
  C_BadSaying : Addr
  g_BadSaying : mg "BadSaying" = some (.ref C_BadSaying)
  x_BadSaying : XfC K C_BadSaying
  e_BadSaying : ExcC K C_BadSaying
  o_BadSaying : OexC K C_BadSaying
  i_BadSaying : PySem.W.findIn K (.ref C_BadSaying) "__init__" = some (some (.ref f_BadSaying_init))
  t_BadSaying : PySem.W.typeIn K (.ref f_BadSaying_init) = some (.type "function")
  n_BadSaying : PySem.W.findIn K (.ref C_BadSaying) "what" = some none
  mm_BadPicture_BadTour : PySem.W.exmOne K (.ref C_BadPicture) (.ref C_BadTour) = some false
  mm_NotOpen_BadTour : PySem.W.exmOne K (.ref C_NotOpen) (.ref C_BadTour) = some false
  mm_BadTour_BadTour : PySem.W.exmOne K (.ref C_BadTour) (.ref C_BadTour) = some true
  mm_BadWhole_BadTour : PySem.W.exmOne K (.ref C_BadWhole) (.ref C_BadTour) = some false
  mm_BadSaying_BadTour : PySem.W.exmOne K (.ref C_BadSaying) (.ref C_BadTour) = some false
  mm_BadPicture_BadSaying : PySem.W.exmOne K (.ref C_BadPicture) (.ref C_BadSaying) = some false
  mm_NotOpen_BadSaying : PySem.W.exmOne K (.ref C_NotOpen) (.ref C_BadSaying) = some false
  mm_BadTour_BadSaying : PySem.W.exmOne K (.ref C_BadTour) (.ref C_BadSaying) = some false
  mm_BadWhole_BadSaying : PySem.W.exmOne K (.ref C_BadWhole) (.ref C_BadSaying) = some false
  mm_BadSaying_BadSaying : PySem.W.exmOne K (.ref C_BadSaying) (.ref C_BadSaying) = some true
  mm_BadPicture_BadWhole : PySem.W.exmOne K (.ref C_BadPicture) (.ref C_BadWhole) = some false
  mm_NotOpen_BadWhole : PySem.W.exmOne K (.ref C_NotOpen) (.ref C_BadWhole) = some false
  mm_BadTour_BadWhole : PySem.W.exmOne K (.ref C_BadTour) (.ref C_BadWhole) = some false
  mm_BadWhole_BadWhole : PySem.W.exmOne K (.ref C_BadWhole) (.ref C_BadWhole) = some true
  mm_BadSaying_BadWhole : PySem.W.exmOne K (.ref C_BadSaying) (.ref C_BadWhole) = some false
  mm_BadPicture_NotOpen : PySem.W.exmOne K (.ref C_BadPicture) (.ref C_NotOpen) = some false
  mm_NotOpen_NotOpen : PySem.W.exmOne K (.ref C_NotOpen) (.ref C_NotOpen) = some true
  mm_BadTour_NotOpen : PySem.W.exmOne K (.ref C_BadTour) (.ref C_NotOpen) = some false
  mm_BadWhole_NotOpen : PySem.W.exmOne K (.ref C_BadWhole) (.ref C_NotOpen) = some false
  mm_BadSaying_NotOpen : PySem.W.exmOne K (.ref C_BadSaying) (.ref C_NotOpen) = some false
  kit_BadTour_SheetError : PySem.W.kitOne K (.ref C_BadTour) (.ref C_SheetError) = some true
  kit_BadTour_BadSaying : PySem.W.kitOne K (.ref C_BadTour) (.ref C_BadSaying) = some false
  kit_BadSaying_SheetError : PySem.W.kitOne K (.ref C_BadSaying) (.ref C_SheetError) = some true
  kit_BadSaying_BadTour : PySem.W.kitOne K (.ref C_BadSaying) (.ref C_BadTour) = some false
  kit_BadWhole_SheetError : PySem.W.kitOne K (.ref C_BadWhole) (.ref C_SheetError) = some true
  kit_NotOpen_SheetError : PySem.W.kitOne K (.ref C_NotOpen) (.ref C_SheetError) = some true
  C_Picture : Addr
  g_Picture : mg "Picture" = some (.ref C_Picture)
  cl_Picture : Cls K C_Picture
  M_Picture : Mk K C_Picture f_Picture_init
  na_points : NoAttr K C_Picture "points"
  na_walls : NoAttr K C_Picture "walls"
  na_pairs : NoAttr K C_Picture "pairs"
  na_pieces : NoAttr K C_Picture "_pieces"
  eq_at : PySem.W.findIn K (.ref C_Picture) "__eq__" = some (some (.ref f_Picture_eq))
  eq_fn : PySem.W.isFn K (.ref f_Picture_eq) = true
  len_at : PySem.W.findIn K (.ref C_Picture) "__len__" = some (some (.ref f_Picture_len))
  len_fn : PySem.W.isFn K (.ref f_Picture_len) = true
  p_pieces : Addr
  pr_pieces : PropOf K C_Picture "pieces" p_pieces f_Picture_pieces
  M_is_pair : Meth K C_Picture "_is_pair" f_Pictureis_pair
  M_place_of : Meth K C_Picture "place_of" f_Picture_place_of
  M_is_open : Meth K C_Picture "is_open" f_Picture_is_open
  k_class : PySem.W.findIn K (.ref C_Picture) "__class__" = some (some (.builtin "object.__class__"))
  k_get : PySem.W.specialIn K (.builtin "object.__class__") "__get__" = some (some (.builtin "getset_descriptor.__get__"))
  k_takes : PySem.W.takesIn K (.builtin "object.__class__") = some true
  k_mro : PySem.W.mroIn K C_Picture (.type "object") = some true
  k_isp : PySem.W.kitOne K (.ref C_Picture) (.ref C_Picture) = some true
/-! errors -/
def Raised (C : Addr) (f : Str) (v : V) (H : Hp) (E : XK) : Prop := ∀ d H', Same H H' → H d = none → H' d = some (.xd [(f, v)]) → E (.ref C) (some d) H'
/-- the promise of an error's __init__ that stores its one argument -/
def sp_exc (C : Addr) (f : Str) : Sp := fun vs H Q _ => ∃ (a : Addr) (v : V), vs = [.ref a, v] ∧ H a = some (exo a C none) ∧ ∀ dx, H dx = none → dx ≠ a → Q .non (upd (upd H dx (exd dx [(f, v)])) a (exo a C (some dx)))
theorem mk_exc {C : Addr} {f : Str} {w : V} {H : Hp} {Q : XK} (h : ∀ d H', Same H H' → H d = none → H' d = some (.xd [(f, w)]) → Q (.ref C) (some d) H') :
    [w].length ≤ 1000 ∧ ∀ a, H a = none → sp_exc C f (.ref a :: ([w] ++ [])) (upd H a (exo a C none))
      (fun v H2 => v = .non ∧ ∃ (d : Addr) (fs : List (Str × V)), H2 a = some (exo a C (some d)) ∧ H2 d = some (exd d fs) ∧ H d = none ∧ Q (.ref C) (some d) (upd (del H2 a) d (.xd fs))) (fun _ _ _ => False) := by
  refine ⟨by simp, fun a na => ⟨a, w, rfl, upd_same, fun dx nd ne => ⟨rfl, dx, _, upd_same, by rw [upd_ne ne, upd_same], ?_, ?_⟩⟩⟩
  · rw [upd_ne ne] at nd
    exact nd
  · rw [upd_ne ne] at nd
    refine h dx _ (fun b o e => ?_) nd upd_same
    have hb : b ≠ dx := ne_of_none e nd
    have hb2 : b ≠ a := ne_of_none e na
    rw [upd_ne hb, del_ne hb2, upd_ne hb2, upd_ne hb, upd_ne hb2]
    exact e
section
variable {P : Program} {w : World} {K : PySem.W.Frag} {mg : Str → Option Value} {base : Heap}
theorem ok_BadPicture_init (T : Txt K mg) : FnOk P w K mg base CX0 1 T.f_BadPicture_init T.d_BadPicture_init ["self", "what"] (sp_exc T.C_BadPicture "what") := by
  refine T.F_BadPicture_init.ok sc_BadPicture_init (fun vs H Q E h => ?_) (fun cdv A outer s H vs Q E hr h => ?_)
  · obtain ⟨a, v, rfl, _⟩ := h
    rfl
  · obtain ⟨a, v, rfl, ha, q⟩ := h
    refine ⟨_, pss_one (ps_ost (pv 0) (pv 1)), ?_⟩
    exact ⟨v, rfl, _, rfl, a, T.C_BadPicture, rfl, T.o_BadPicture, T.n_BadPicture, .inl ⟨ha, fun dx n ne => q dx n ne⟩⟩
theorem ok_NotOpen_init (T : Txt K mg) : FnOk P w K mg base CX0 1 T.f_NotOpen_init T.d_NotOpen_init ["self", "pair"] (sp_exc T.C_NotOpen "pair") := by
  refine T.F_NotOpen_init.ok sc_NotOpen_init (fun vs H Q E h => ?_) (fun cdv A outer s H vs Q E hr h => ?_)
  · obtain ⟨a, v, rfl, _⟩ := h
    rfl
  · obtain ⟨a, v, rfl, ha, q⟩ := h
    refine ⟨_, pss_one (ps_ost (pv 0) (pv 1)), ?_⟩
    exact ⟨v, rfl, _, rfl, a, T.C_NotOpen, rfl, T.o_NotOpen, T.n_NotOpen, .inl ⟨ha, fun dx n ne => q dx n ne⟩⟩
theorem ok_BadTour_init (T : Txt K mg) : FnOk P w K mg base CX0 1 T.f_BadTour_init T.d_BadTour_init ["self", "what"] (sp_exc T.C_BadTour "what") := by
  refine T.F_BadTour_init.ok sc_BadTour_init (fun vs H Q E h => ?_) (fun cdv A outer s H vs Q E hr h => ?_)
  · obtain ⟨a, v, rfl, _⟩ := h
    rfl
  · obtain ⟨a, v, rfl, ha, q⟩ := h
    refine ⟨_, pss_one (ps_ost (pv 0) (pv 1)), ?_⟩
    exact ⟨v, rfl, _, rfl, a, T.C_BadTour, rfl, T.o_BadTour, T.n_BadTour, .inl ⟨ha, fun dx n ne => q dx n ne⟩⟩
theorem ok_BadSaying_init (T : Txt K mg) : FnOk P w K mg base CX0 1 T.f_BadSaying_init T.d_BadSaying_init ["self", "what"] (sp_exc T.C_BadSaying "what") := by
  refine T.F_BadSaying_init.ok sc_BadSaying_init (fun vs H Q E h => ?_) (fun cdv A outer s H vs Q E hr h => ?_)
  · obtain ⟨a, v, rfl, _⟩ := h
    rfl
  · obtain ⟨a, v, rfl, ha, q⟩ := h
    refine ⟨_, pss_one (ps_ost (pv 0) (pv 1)), ?_⟩
    exact ⟨v, rfl, _, rfl, a, T.C_BadSaying, rfl, T.o_BadSaying, T.n_BadSaying, .inl ⟨ha, fun dx n ne => q dx n ne⟩⟩
end
end K01
set_option Elab.async false
set_option linter.all false
set_option maxRecDepth 100000
set_option maxHeartbeats 4000000
set_option exponentiation.threshold 5000
namespace K01
open PySem PySem.Spec PyProof.Rows L2 TkS
/-! bounds, sequences -/
def Lim (v : V) : Prop := v = .non ∨ ∃ l : Int, v = .int l
def wholeIn : V → V → V → Bool
  | .int i, lo, hi => (match lo with | .int l => decide (l ≤ i) | _ => true) && (match hi with | .int h => decide (i ≤ h) | _ => true)
  | _, _, _ => false
theorem wi_low {i l : Int} {hi : V} : wholeIn (.int i) (.int l) hi = (decide (l ≤ i) && wholeIn (.int i) .non hi) := by
  simp [wholeIn]
theorem wi_high {i m : Int} : wholeIn (.int i) .non (.int m) = decide (i ≤ m) := by
  simp [wholeIn]
def seqIs (d : PyData) (n : V) : Bool := match itemsD d with
  | none => false
  | some ds => match n with
    | .int k => decide ((ds.length : Int) = k)
    | _ => true
theorem int_dec {a b : Int} : decide (V.int a = V.int b) = decide (a = b) := by
  by_cases h : a = b
  · subst h
    simp
  · rw [decide_eq_false h, decide_eq_false fun z => h (V.int.inj z)]
def sp_is_whole : Sp := fun vs H Q _ => ∃ x lo hi d, vs = [x, lo, hi] ∧ Dq H x d ∧ Lim lo ∧ Lim hi ∧ Q (.bl (wholeIn x lo hi)) H
def sp_is_sequence : Sp := fun vs H Q _ => ∃ x n d, vs = [x, n] ∧ Dq H x d ∧ (n = .non ∨ ∃ k : Int, n = .int k) ∧ ∀ H', Same H H' → Q (.bl (seqIs d n)) H'
section
variable {P : Program} {w : World} {K : PySem.W.Frag} {mg : Str → Option Value} {base : Heap}
theorem ok_is_whole (T : Txt K mg) : FnOk P w K mg base CX0 1 T.f_is_whole T.d_is_whole ["thing", "low", "high"] sp_is_whole := by
  refine T.F_is_whole.ok sc_is_whole (fun vs H Q E h => ?_) (fun cdv A outer s H vs Q E hr h => ?_)
  · obtain ⟨x, lo, hi, d, rfl, _⟩ := h
    rfl
  · obtain ⟨x, lo, hi, d, rfl, hk, hl, hh, q⟩ := h
    obtain ⟨t, ty, k1, k2, _⟩ := dq_ty (K := K) hk
    refine ⟨_, (pss_cons (ps_if (PW.pt (pw_or (pt_val (pe_callB call_isi (by rfl) T.m_isinstance (by decide +kernel) (pa_cons (pv 0) (pa_cons (pe_bltn (v := .ty "bool") (u := .type "bool") (by rfl) T.m_bool (by decide +kernel) rfl) pa_nil)))) (pw_or1 (pt_not (pt_val (pe_callB call_isi (by rfl) T.m_isinstance (by decide +kernel) (pa_cons (pv 0) (pa_cons (pe_bltn (v := .ty "int") (u := .type "int") (by rfl) T.m_int (by decide +kernel) rfl) pa_nil))))))))
        (pss_one (ps_ret pe_bl))
        pss_nil)
      (pss_cons (ps_if (PW.pt (pw_and (pt_cmpR op_notN (pv 1) pe_non (nomark _)) (pw_and1 (pt_cmpR op_lt (pv 0) (pv 1) (nomark _)))))
        (pss_one (ps_ret pe_bl))
        pss_nil)
      (pss_one (ps_ret (pe_or (pe_cmpR op_isN (pv 2) pe_non (nomark _)) (pe_one (pe_cmpR op_le (pv 0) (pv 2) (nomark _)))))))), ?_⟩
    refine ⟨x, rfl, x, .ty "bool", t, _, isBlV x, rfl, .ty _, ty, k1, isBlV x, rfl, ?_⟩
    have tail : ∀ i : Int, Q (.bl (wholeIn (.int i) .non hi)) H → tRet (tOrV (tOp (fun x y H Q => y = V.non ∧ Q (V.bl (decide (x = V.non))) H) (tVar 2) (tC V.non)) (tOp (rI0 fun i j => V.bl (decide (i ≤ j))) (tVar 0) (tVar 2))) { nx := fun x H' => Q V.non H', rt := Q } (L2.start ["thing", "low", "high"] [V.int i, lo, hi]) H := by
      intro i q
      rcases hh with rfl | ⟨m, rfl⟩
      · exact ⟨.non, rfl, rfl, _, rfl, iteT q⟩
      · refine ⟨.int m, rfl, rfl, _, rfl, iteF ?_⟩
        rw [wi_high] at q
        exact ⟨_, rfl, _, rfl, i, m, rfl, rfl, q⟩
    cases hk with
    | bl b => exact iteT (iteT q)
    | int i =>
      refine iteF ⟨_, rfl, _, .ty "int", t, _, true, rfl, .ty _, ty, k2, true, rfl, iteF ?_⟩
      rcases hl with rfl | ⟨l, rfl⟩
      · exact ⟨.non, rfl, rfl, _, rfl, iteF (iteF (tail i q))⟩
      · rw [wi_low] at q
        refine ⟨.int l, rfl, rfl, _, rfl, iteT ⟨.int i, rfl, .int l, rfl, i, l, rfl, rfl, _, rfl, ite2 (fun e => ?_) (fun e => ?_)⟩⟩
        · have e2 := of_decide_eq_true e
          rw [decide_eq_false (by omega : ¬ l ≤ i)] at q
          exact q
        · have e2 : l ≤ i := Int.not_lt.mp fun z => e (decide_eq_true z)
          rw [decide_eq_true e2] at q
          exact tail i q
    | non => exact iteF ⟨_, rfl, _, .ty "int", t, _, false, rfl, .ty _, ty, k2, false, rfl, iteT q⟩
    | str z => exact iteF ⟨_, rfl, _, .ty "int", t, _, false, rfl, .ty _, ty, k2, false, rfl, iteT q⟩
    | lst z y => exact iteF ⟨_, rfl, _, .ty "int", t, _, false, rfl, .ty _, ty, k2, false, rfl, iteT q⟩
    | tup z y => exact iteF ⟨_, rfl, _, .ty "int", t, _, false, rfl, .ty _, ty, k2, false, rfl, iteT q⟩
theorem ok_is_sequence (T : Txt K mg) : FnOk P w K mg base CX0 1 T.f_is_sequence T.d_is_sequence ["thing", "length"] sp_is_sequence := by
  refine T.F_is_sequence.ok sc_is_sequence (fun vs H Q E h => ?_) (fun cdv A outer s H vs Q E hr h => ?_)
  · obtain ⟨x, n, d, rfl, _⟩ := h
    rfl
  · obtain ⟨x, n, d, rfl, hk, hn, q⟩ := h
    refine ⟨_, (pss_cons (ps_if (pt_not (pt_val (pe_callB call_isiT (by rfl) T.m_isinstance (by decide +kernel) (pa_cons (pv 0) (pa_cons (pe_tup (pa_cons (pe_bltn (v := .ty "list") (u := .type "list") (by rfl) T.m_list (by decide +kernel) rfl) (pa_cons (pe_bltn (v := .ty "tuple") (u := .type "tuple") (by rfl) T.m_tuple (by decide +kernel) rfl) pa_nil))) pa_nil)))))
        (pss_one (ps_ret pe_bl))
        pss_nil)
      (pss_one (ps_ret (pe_or (pe_cmpR op_isN (pv 1) pe_non (nomark _)) (pe_one (pe_cmpR op_eq (pe_callB call_len_seq (by rfl) T.m_len (by decide +kernel) (pa_cons (pv 0) pa_nil)) (pv 1) (nomark _))))))), ?_⟩
    refine ⟨x, rfl, (by show 2 ≤ sizeLine; decide), fun u nu => ?_⟩
    have sm : Same H (upd H u (.tup [.ty "list", .ty "tuple"])) := same_new nu
    obtain ⟨t, ty, _, _, k3, _⟩ := dq_ty (K := K) (Dq.same sm d hk)
    have q' := q _ sm
    refine ⟨x, u, _, t, _, (itemsD d).isSome, rfl, upd_same, .cons (.ty _) (.cons (.ty _) .nil), ty, k3, _, rfl, ?_⟩
    have no : itemsD d = none → (if (!(itemsD d).isSome) = true then tRet (tC (V.bl false)) { nx := tRet (tOrV (tOp (fun x y H Q => y = V.non ∧ Q (V.bl (decide (x = V.non))) H) (tVar 1) (tC V.non)) (tOp rEq (tCB (fun xs H Q => ∃ p ys, xs = [V.ref p] ∧ (SqL K H p ys ∨ SqT K H p ys) ∧ Q (V.int ↑ys.length) H) (tCons (tVar 0) tNil)) (tVar 1))) { nx := fun x H' => Q V.non H', rt := Q }, rt := Q } (L2.start ["thing", "length"] [x, n]) (upd H u (.tup [.ty "list", .ty "tuple"]))
        else tNext { nx := tRet (tOrV (tOp (fun x y H Q => y = V.non ∧ Q (V.bl (decide (x = V.non))) H) (tVar 1) (tC V.non)) (tOp rEq (tCB (fun xs H Q => ∃ p ys, xs = [V.ref p] ∧ (SqL K H p ys ∨ SqT K H p ys) ∧ Q (V.int ↑ys.length) H) (tCons (tVar 0) tNil)) (tVar 1))) { nx := fun x H' => Q V.non H', rt := Q }, rt := Q } (L2.start ["thing", "length"] [x, n]) (upd H u (.tup [.ty "list", .ty "tuple"]))) := fun e => by
      unfold seqIs at q'
      rw [e] at q' ⊢
      exact iteT q'
    have yes : ∀ (a : Addr) (xs : List V) (ds : List PyData), x = .ref a → itemsD d = some ds → xs.length = ds.length → (SqL K (upd H u (.tup [.ty "list", .ty "tuple"])) a xs ∨ SqT K (upd H u (.tup [.ty "list", .ty "tuple"])) a xs) →
        tRet (tOrV (tOp (fun x y H Q => y = V.non ∧ Q (V.bl (decide (x = V.non))) H) (tVar 1) (tC V.non)) (tOp rEq (tCB (fun xs H Q => ∃ p ys, xs = [V.ref p] ∧ (SqL K H p ys ∨ SqT K H p ys) ∧ Q (V.int ↑ys.length) H) (tCons (tVar 0) tNil)) (tVar 1))) { nx := fun x H' => Q V.non H', rt := Q } (L2.start ["thing", "length"] [x, n]) (upd H u (.tup [.ty "list", .ty "tuple"])) := fun a xs ds ex ed el hs => by
      unfold seqIs at q'
      rw [ed] at q'
      rcases hn with rfl | ⟨k, rfl⟩
      · exact ⟨.non, rfl, rfl, _, rfl, iteT q'⟩
      · refine ⟨.int k, rfl, rfl, _, rfl, iteF ⟨_, rfl, a, xs, by rw [ex], hs, _, rfl, rfl, ?_⟩⟩
        rw [el, int_dec]
        exact q'
    cases hk with
    | lst h1 h2 => exact iteF (yes _ _ _ rfl rfl h2.len (.inl (SqL.of (sm _ _ h1))))
    | tup h1 h2 => exact iteF (yes _ _ _ rfl rfl h2.len (.inr (SqT.of (sm _ _ h1))))
    | non => exact no rfl
    | bl b => exact no rfl
    | int b => exact no rfl
    | str b => exact no rfl
end
/-! labels -/
def mrg (ls : List Int) (a b : Int) : List Int := ls.map fun l => if l = a ∨ l = b then (if b < a then b else a) else l
theorem mrg_len (ls : List Int) (a b : Int) : (mrg ls a b).length = ls.length := by
  unfold mrg
  rw [List.length_map]
def row0 (n : Nat) : List Int := (List.range n).map fun (i : Nat) => (i : Int)
theorem row0_len (n : Nat) : (row0 n).length = n := by
  unfold row0
  rw [List.length_map, List.length_range]
def stepM (P : Int) (ls : List Int) (p : Int × Int) : List Int := mrg ls (ls.getD p.1.toNat 0) (ls.getD (P + p.2).toNat 0)
def marks (P W : Int) (ps : List (Int × Int)) : List Int := ps.foldl (stepM P) (row0 (P + W).toNat)
theorem fold_len (P : Int) : ∀ (ps : List (Int × Int)) (ls : List Int), (ps.foldl (stepM P) ls).length = ls.length
  | [], _ => rfl
  | p :: ps, ls => by
    show (ps.foldl (stepM P) (stepM P ls p)).length = _
    rw [fold_len P ps]
    exact mrg_len _ _ _
theorem marks_len (P W : Int) (ps : List (Int × Int)) : (marks P W ps).length = (P + W).toNat := by
  unfold marks
  rw [fold_len, row0_len]
/-- the pairs lie in the picture -/
def Ins (P W : Int) (ps : List (Int × Int)) : Prop := ∀ p ∈ ps, 0 ≤ p.1 ∧ p.1 < P ∧ 0 ≤ p.2 ∧ p.2 < W
def prD (p : Int × Int) : PyData := .tuple [.int p.1, .int p.2]
theorem pr_items {H : Hp} {xs : List V} {ps : List (Int × Int)} {i : Nat} {x : V} (h : DqAll H xs (ps.map prD)) (hx : xs[i]? = some x) : ∃ (t : Addr) (p : Int × Int), x = .ref t ∧ ps[i]? = some p ∧ H t = some (.tup [.int p.1, .int p.2]) := by
  obtain ⟨d, h1, h2⟩ := h.get hx
  rw [List.getElem?_map] at h1
  obtain ⟨p, hp, rfl⟩ := Option.map_eq_some_iff.mp h1
  cases h2 with
  | tup ht ha =>
    cases ha with
    | cons u v =>
      cases v with
      | cons u' v' =>
        cases v'
        cases u
        cases u'
        exact ⟨_, p, rfl, hp, ht⟩
def sp_merged_labels (K : PySem.W.Frag) : Sp := fun vs H Q _ => ∃ (l : Addr) (ls : List Int) (a b : Int), vs = [.ref l, .int a, .int b] ∧ SqL K H l (ls.map V.int) ∧ ls.length ≤ 100 ∧ ∀ H' p, Same H H' → H p = none → H' p = some (.lst ((mrg ls a b).map V.int)) → Q (.ref p) H'
def sp_piece_labels (K : PySem.W.Frag) : Sp := fun vs H Q _ => ∃ (P W : Int) (l : Addr) (xs : List V) (ps : List (Int × Int)), vs = [.int P, .int W, .ref l] ∧ 0 ≤ P ∧ 0 ≤ W ∧ P + W ≤ 100 ∧ SqL K H l xs ∧ DqAll H xs (ps.map prD) ∧ Ins P W ps ∧
  ∀ H' p, Same H H' → H' p = some (.lst ((marks P W ps).map V.int)) → Q (.ref p) H'
theorem in2 {l a b : Int} : inV (.int l) [.int a, .int b] = decide (l = a ∨ l = b) := by
  have e : inV (.int l) [.int a, .int b] = ((a == l) || ((b == l) || false)) := rfl
  rw [e]
  by_cases h1 : l = a
  · subst h1
    simp
  · by_cases h2 : l = b
    · subst h2
      simp
    · have n1 : (a == l) = false := beq_eq_false_iff_ne.mpr fun z => h1 z.symm
      have n2 : (b == l) = false := beq_eq_false_iff_ne.mpr fun z => h2 z.symm
      rw [n1, n2, decide_eq_false (by intro z; rcases z with z | z <;> contradiction)]
      rfl
theorem map_at {ls : List Int} {i : Nat} {x : V} (h : (ls.map V.int)[i]? = some x) : ∃ n, ls[i]? = some n ∧ x = .int n := by
  rw [List.getElem?_map] at h
  obtain ⟨n, hn, e⟩ := Option.map_eq_some_iff.mp h
  exact ⟨n, hn, e.symm⟩
theorem take_snoc {α β : Type} (f : α → β) {l : List α} {i : Nat} {x : α} (h : l[i]? = some x) : (l.take (i + 1)).map f = (l.take i).map f ++ [f x] := by
  rw [List.take_add_one, h, List.map_append]
  rfl
section
variable {P : Program} {w : World} {K : PySem.W.Frag} {mg : Str → Option Value} {base : Heap}
theorem ok_merged_labels (T : Txt K mg) : FnOk P w K mg base CX0 1 T.f_merged_labels T.d_merged_labels ["labels", "one", "other"] (sp_merged_labels K) := by
  refine T.F_merged_labels.ok sc_merged_labels (fun vs H Q E h => ?_) (fun cdv A outer s H vs Q E hr h => ?_)
  · obtain ⟨l, ls, a, b, rfl, _⟩ := h
    rfl
  · obtain ⟨l, ls, a, b, rfl, hS, hlen, q⟩ := h
    refine ⟨_, (pss_cons (ps_set (i := 3) sc_merged_labels.nd rfl (.inr rfl) (pe_callB (call_min2 rfl) (by rfl) T.m_min (by decide +kernel) (pa_cons (pv 1) (pa_cons (pv 2) pa_nil))))
      (pss_one (ps_ret (pe_lc rfl sc_merged_labels.nd (pi_list (pv 0)) (blkOk_by (own := [("label", 4)]) (N := ["labels", "one", "other", "least", "label"]) (sc := defScope s_merged_labels) (by decide +kernel)) (fun _ _ _ _ _ => (pg_name (i := 4) sc_merged_labels.nd rfl (.inl rfl))) (fun _ _ _ _ _ => pts_nil) (fun _ _ _ _ _ => (pe_ifExp (pt_cmpR (show OpR _ (compareOp .In) (rIn K false) from op_in_seq) (pv 4) (pe_tup (pa_cons (pv 1) (pa_cons (pv 2) pa_nil))) rfl) (pv 3) (pv 4))))))), ?_⟩
    refine ⟨_, rfl, _, rfl, a, b, rfl, _, rfl, l, rfl, ⟨_, hS⟩, fun D nD => ?_⟩
    refine lc_list (xs := ls.map V.int) (fun i H' => Same H H' ∧ H' D = some (.lst (((ls.take i).map fun l => if l = a ∨ l = b then (if b < a then b else a) else l).map V.int)))
      ⟨same_new nD, upd_same⟩ (fun i H' _ hP => hP.1.seq hS) (fun i x H' hx hP => ?_) (fun H' hP => ?_)
    · obtain ⟨sm, hD⟩ := hP
      obtain ⟨n, hn, rfl⟩ := map_at hx
      have hi : i < ls.length := (List.getElem?_eq_some_iff.mp hn).1
      refine ⟨rfl, ?_⟩
      refine ⟨_, rfl, _, rfl, _, rfl, (by show 2 ≤ sizeLine; decide), fun u nu => ⟨u, _, rfl, .inr (SqT.of upd_same), rfl, rfl, _, rfl, ?_⟩⟩
      have nDu : D ≠ u := ne_of_none hD nu
      have sm2 : Same H (upd H' u (.tup [.int a, .int b])) := fun c o e => (same_new nu) _ _ (sm _ _ e)
      have fin : ∀ z : Int, z = (if n = a ∨ n = b then (if b < a then b else a) else n) → ∃ acc, (upd H' u (.tup [.int a, .int b])) D = some (.lst acc) ∧ acc.length < sizeLine ∧
          (Same H (upd (upd H' u (.tup [.int a, .int b])) D (.lst (acc ++ [.int z]))) ∧ (upd (upd H' u (.tup [.int a, .int b])) D (.lst (acc ++ [.int z]))) D = some (.lst (((ls.take (i + 1)).map fun l => if l = a ∨ l = b then (if b < a then b else a) else l).map V.int))) := fun z ez => by
        refine ⟨_, by rw [upd_ne nDu]; exact hD, ?_, fun c o e => ?_, ?_⟩
        · rw [List.length_map, List.length_map, List.length_take]
          exact small1000 (by omega)
        · rw [upd_ne (ne_of_none e nD)]
          exact sm2 _ _ e
        · rw [upd_same, take_snoc _ hn, List.map_append, ez]
          rfl
      by_cases c : n = a ∨ n = b
      · refine (show (if (if false = true then !inV (V.int n) [V.int a, V.int b] else inV (V.int n) [V.int a, V.int b]) = true then _ else _) from ?_)
        rw [if_neg Bool.false_ne_true, in2, decide_eq_true c]
        exact iteT ⟨_, rfl, fin _ (by rw [if_pos c])⟩
      · refine (show (if (if false = true then !inV (V.int n) [V.int a, V.int b] else inV (V.int n) [V.int a, V.int b]) = true then _ else _) from ?_)
        rw [if_neg Bool.false_ne_true, in2, decide_eq_false c]
        exact iteF ⟨_, rfl, fin _ (by rw [if_neg c])⟩
    · obtain ⟨sm, hD⟩ := hP
      rw [List.length_map, List.take_length] at hD
      exact q H' D sm nD hD
end
end K01
set_option Elab.async false
set_option linter.all false
set_option maxRecDepth 100000
set_option maxHeartbeats 4000000
set_option exponentiation.threshold 5000
namespace K01
open PySem PySem.Spec PyProof.Rows L2 TkS
/-! comprehensions of ints -/
theorem filter_snoc {α β : Type} (p : α → Bool) (f : α → β) {l : List α} {i : Nat} {x : α} (h : l[i]? = some x) :
    ((l.take (i + 1)).filter p).map f = if p x = true then ((l.take i).filter p).map f ++ [f x] else ((l.take i).filter p).map f := by
  rw [List.take_add_one, h]
  show ((l.take i ++ [x]).filter p).map f = _
  rw [List.filter_append, List.map_append, List.filter_cons]
  by_cases c : p x = true
  · rw [if_pos c, if_pos c]
    rfl
  · rw [if_neg c, if_neg c]
    show ((l.take i).filter p).map f ++ [] = _
    rw [List.append_nil]
theorem filter_range {β : Type} (p : Nat → Bool) (f : Nat → β) (i : Nat) :
    ((List.range (i + 1)).filter p).map f = if p i = true then ((List.range i).filter p).map f ++ [f i] else ((List.range i).filter p).map f := by
  rw [List.range_succ, List.filter_append, List.map_append, List.filter_cons]
  by_cases c : p i = true
  · rw [if_pos c, if_pos c]
    rfl
  · rw [if_neg c, if_neg c]
    show ((List.range i).filter p).map f ++ [] = _
    rw [List.append_nil]
theorem len_filter_take {α β : Type} (p : α → Bool) (f : α → β) (l : List α) (i : Nat) : (((l.take i).filter p).map f).length ≤ l.length := by
  rw [List.length_map]
  exact Nat.le_trans (List.length_filter_le _ _) (by rw [List.length_take]; omega)
theorem len_filter_range {β : Type} (p : Nat → Bool) (f : Nat → β) (i : Nat) : (((List.range i).filter p).map f).length ≤ i := by
  rw [List.length_map]
  exact Nat.le_trans (List.length_filter_le _ _) (by rw [List.length_range]; exact Nat.le_refl _)
/-- a comprehension over any items, each turn told by f (kept) and e (the new item), which leave the heap -/
theorem lc_vals {α : Type} {K : PySem.W.Frag} {a : Addr} {ns : List α} {h : α → V} {tt : TT} {te : TE} {vs : List Nat} {σ : L2.St} {H0 H1 : Hp} {D : Addr} {Qd : Hp → Prop} {j : Nat} (f : α → Bool) (e : α → V)
    (sm : Same H0 H1) (nD : H1 D = none) (hl : ns.length ≤ 1000) (hS : ∀ H', Same H0 H' → SqL K H' a (ns.map h)) (hw : ∀ x : V, wipe ((wipe σ vs).set j (some x)) vs = wipe σ vs)
    (ht : ∀ (i : Nat) (n : α) (H' : Hp) (Q : Bool → Hp → Prop), ns[i]? = some n → Same H0 H' → (∀ H'', Same H' H'' → Q (f n) H'') → tt ((wipe σ vs).set j (some (h n))) H' Q)
    (he : ∀ (i : Nat) (n : α) (H' : Hp) (Q : VK), ns[i]? = some n → f n = true → Same H0 H' → (∀ H'', Same H' H'' → Q (e n) H'') → te ((wipe σ vs).set j (some (h n))) H' Q)
    (hd : ∀ H', Same H0 H' → H' D = some (.lst ((ns.filter f).map e)) → Qd H') :
    ∃ W : Nat → Nat → Hp → Prop, (∃ m, W 0 m (upd H1 D (.lst []))) ∧ ∀ i m H, W i m H →
      ((Itl K a).stop i H ∧ Qd H) ∨ ((Itl K a).go i H ∧ ∃ Nx : Hp → Prop, (∀ H', Nx H' → ∃ m', m' < m ∧ W (i + 1) m' H') ∧ ∀ x H', (Itl K a).yld i H x H' → gName j x (wipe σ vs) H' fun σ2 H2 => wipe σ2 vs = wipe σ vs ∧ tt σ2 H2 fun b H3 =>
        if b = true then te σ2 H3 fun y H4 => ∃ acc, H4 D = some (.lst acc) ∧ acc.length < sizeLine ∧ Nx (upd H4 D (.lst (acc ++ [y]))) else Nx H3) := by
  refine lc_list (xs := ns.map h) (fun i H' => Same H0 H' ∧ H' D = some (.lst (((ns.take i).filter f).map e)) ∧ ∀ b o, H0 b = some o → b ≠ D) ⟨sm.trans (same_new nD), upd_same, fun b o z => ne_of_none (sm _ _ z) nD⟩ (fun i H' _ hP => hS _ hP.1) (fun i x H' hx hP => ?_) (fun H' hP => ?_)
  · obtain ⟨s, hD, ap⟩ := hP
    rw [List.getElem?_map] at hx
    obtain ⟨n, hn, rfl⟩ := Option.map_eq_some_iff.mp hx
    refine ⟨hw _, ht i n H' _ hn s fun H2 s2 => ?_⟩
    have hD2 := s2 _ _ hD
    cases c : f n with
    | true =>
      refine he i n H2 _ hn c (s.trans s2) fun H3 s3 => ⟨_, s3 _ _ hD2, ?_, fun b o z => ?_, ?_, ap⟩
      · exact small1000 (Nat.le_trans (len_filter_take _ _ _ _) hl)
      · rw [upd_ne (ap b o z)]
        exact s3 _ _ (s2 _ _ (s _ _ z))
      · rw [upd_same, filter_snoc _ _ hn, if_pos c]
    | false =>
      refine ⟨s.trans s2, ?_, ap⟩
      rw [filter_snoc _ _ hn, c, if_neg Bool.false_ne_true]
      exact hD2
  · obtain ⟨s, hD, _⟩ := hP
    rw [List.length_map, List.take_length] at hD
    exact hd H' s hD
/-- the same over a range -/
theorem lc_rng {tt : TT} {te : TE} {vs : List Nat} {σ : L2.St} {H0 H1 : Hp} {D : Addr} {Qd : Hp → Prop} {j n : Nat} (f : Nat → Bool) (e : Nat → V)
    (sm : Same H0 H1) (nD : H1 D = none) (hl : n ≤ 1000) (hw : ∀ x : V, wipe ((wipe σ vs).set j (some x)) vs = wipe σ vs)
    (ht : ∀ (i : Nat) (H' : Hp) (Q : Bool → Hp → Prop), i < n → Same H0 H' → (∀ H'', Same H' H'' → Q (f i) H'') → tt ((wipe σ vs).set j (some (.int (0 + (i : Int))))) H' Q)
    (he : ∀ (i : Nat) (H' : Hp) (Q : VK), i < n → f i = true → Same H0 H' → (∀ H'', Same H' H'' → Q (e i) H'') → te ((wipe σ vs).set j (some (.int (0 + (i : Int))))) H' Q)
    (hd : ∀ H', Same H0 H' → H' D = some (.lst (((List.range n).filter f).map e)) → Qd H') :
    ∃ W : Nat → Nat → Hp → Prop, (∃ m, W 0 m (upd H1 D (.lst []))) ∧ ∀ i m H, W i m H →
      ((Itr 0 n).stop i H ∧ Qd H) ∨ ((Itr 0 n).go i H ∧ ∃ Nx : Hp → Prop, (∀ H', Nx H' → ∃ m', m' < m ∧ W (i + 1) m' H') ∧ ∀ x H', (Itr 0 n).yld i H x H' → gName j x (wipe σ vs) H' fun σ2 H2 => wipe σ2 vs = wipe σ vs ∧ tt σ2 H2 fun b H3 =>
        if b = true then te σ2 H3 fun y H4 => ∃ acc, H4 D = some (.lst acc) ∧ acc.length < sizeLine ∧ Nx (upd H4 D (.lst (acc ++ [y]))) else Nx H3) := by
  refine lc_range (lo := 0) (n := n) (fun i H' => Same H0 H' ∧ H' D = some (.lst (((List.range i).filter f).map e)) ∧ ∀ b o, H0 b = some o → b ≠ D) ⟨sm.trans (same_new nD), upd_same, fun b o z => ne_of_none (sm _ _ z) nD⟩ (fun i H' hi hP => ?_) (fun H' hP => ?_)
  · obtain ⟨s, hD, ap⟩ := hP
    refine ⟨hw _, ht i H' _ hi s fun H2 s2 => ?_⟩
    have hD2 := s2 _ _ hD
    cases c : f i with
    | true =>
      refine he i H2 _ hi c (s.trans s2) fun H3 s3 => ⟨_, s3 _ _ hD2, ?_, fun b o z => ?_, ?_, ap⟩
      · exact small1000 (Nat.le_trans (len_filter_range _ _ _) (by omega))
      · rw [upd_ne (ap b o z)]
        exact s3 _ _ (s2 _ _ (s _ _ z))
      · rw [upd_same, filter_range, if_pos c]
    | false =>
      refine ⟨s.trans s2, ?_, ap⟩
      rw [filter_range, c, if_neg Bool.false_ne_true]
      exact hD2
  · exact hd H' hP.1 hP.2.1
/-! pieces -/
def cs (ls : List Int) (label : Nat) : List Nat := (List.range ls.length).filter fun c => decide (ls.getD c 0 = (label : Int))
def pieceD (P : Int) (c : List Nat) : PyData := .tuple [.tuple ((c.filter fun (k : Nat) => decide ((k : Int) < P)).map fun (k : Nat) => .int (k : Int)), .tuple ((c.filter fun (k : Nat) => decide (P ≤ (k : Int))).map fun (k : Nat) => .int ((k : Int) - P))]
def piecesD (P : Int) (ls : List Int) : List PyData := ((List.range ls.length).filter fun l => !(cs ls l).isEmpty).map fun l => pieceD P (cs ls l)
theorem dq_ints {H : Hp} {α : Type} (f : α → Int) : ∀ l : List α, DqAll H (l.map fun x => .int (f x)) (l.map fun x => .int (f x))
  | [] => .nil
  | _ :: l => .cons (.int _) (dq_ints f l)
theorem off_upd {h : Addr} {H : Hp} {o : HO} : TkS.Off h (upd H h o) = TkS.Off h H := by
  funext b
  unfold TkS.Off
  by_cases z : b = h
  · rw [if_pos z, if_pos z]
  · rw [if_neg z, if_neg z, upd_ne z]
theorem ix_at {ls : List Int} {z : Int} (h0 : 0 ≤ z) (h1 : z < ls.length) : atI (ls.map V.int) z = some (.int (ls.getD z.toNat 0)) := by
  have hp : z.toNat < ls.length := by omega
  refine at_of (j := z.toNat) (by omega) ?_
  rw [List.getElem?_map, List.getElem?_eq_getElem hp]
  show some (V.int ls[z.toNat]) = _
  rw [List.getD_eq_getElem?_getD, List.getElem?_eq_getElem hp]
  rfl
def sp_pieces_by_labels (K : PySem.W.Frag) : Sp := fun vs H Q _ => ∃ (P : Int) (l : Addr) (ls : List Int), vs = [.int P, .ref l] ∧ SqL K H l (ls.map V.int) ∧ ls.length ≤ 100 ∧ ∀ H' v, Same H H' → Dq H' v (.tuple (piecesD P ls)) → Q v H'
section
variable {P : Program} {w : World} {K : PySem.W.Frag} {mg : Str → Option Value} {base : Heap}
theorem rg_row {a b : Int} (h : 0 ≤ b) : rgV 0 b = (row0 b.toNat).map V.int := by
  unfold rgV row0
  rw [List.map_map, Int.sub_zero]
  refine List.map_congr_left fun i _ => ?_
  show V.int (0 + (i : Int)) = V.int (i : Int)
  rw [Int.zero_add]
theorem ok_piece_labels (T : Txt K mg) : FnOk P w K mg base CX0 2 T.f_piece_labels T.d_piece_labels ["points", "walls", "pairs"] (sp_piece_labels K) := by
  refine T.F_piece_labels.ok sc_piece_labels (fun vs H Q E h => ?_) (fun cdv A outer s H vs Q E hr h => ?_)
  · obtain ⟨P', W, l, xs, ps, rfl, _⟩ := h
    rfl
  · obtain ⟨P', W, l, xs, ps, rfl, p0, w0, pw, hS, hD, hin, q⟩ := h
    refine ⟨_, (pss_cons (ps_set (i := 3) sc_piece_labels.nd rfl (.inl rfl) (pe_listRg rfl (by rfl) T.m_list (prg_1 (by rfl) T.m_range (pe_op op_add (pv 0) (pv 1)))))
      (pss_cons (ps_for PassesOwn.never rfl (pi_list (pv 2)) (pg_tup rfl (pgs_cons (pg_name (i := 4) sc_piece_labels.nd rfl (.inl rfl)) (pgs_cons (pg_name (i := 5) sc_piece_labels.nd rfl (.inl rfl)) pgs_nil)))
        (pss_one (ps_set (i := 3) sc_piece_labels.nd rfl (.inl rfl) (pe_call (ok_merged_labels T) (hr.mono (by decide)) (by rfl) T.g_merged_labels T.F_merged_labels.kp T.b_merged_labels .nil pass0 (pa_cons (pv 3) (pa_cons (pe_ix ix_list (pv 3) (pv 4) (fun _ _ => rfl)) (pa_cons (pe_ix ix_list (pv 3) (pe_op op_add (pv 0) (pv 5)) (fun _ _ => rfl)) pa_nil)))))))
      (pss_one (ps_ret (pv 3))))), ?_⟩
    refine ⟨_, rfl, _, rfl, P', W, rfl, rfl, P' + W, rfl, RgOk.of_le (by decide) (by omega) (by decide) (by omega), fun l0 n0 => ?_⟩
    have hlen : xs.length = ps.length := by
      rw [hD.len, List.length_map]
    refine ⟨_, rfl, l, rfl, ⟨_, (same_new n0).seq hS⟩, for_list (xs := xs) (fun i σ H' => ∃ (a : Addr) (y4 y5 : Option V), σ = [some (.int P'), some (.int W), some (.ref l), some (.ref a), y4, y5] ∧ Same H H' ∧ H' a = some (.lst (((ps.take i).foldl (stepM P') (row0 (P' + W).toNat)).map V.int)))
      ⟨l0, none, none, rfl, same_new n0, ?_⟩ (fun i σ H' _ hP => by obtain ⟨_, _, _, _, sm, _⟩ := hP; exact sm.seq hS) (fun i x σ H' hx hP => ?_) (fun σ H' hP => ?_)⟩
    · rw [upd_same, rg_row (a := 0) (by omega)]
      rfl
    · obtain ⟨a, y4, y5, rfl, sm, ha⟩ := hP
      obtain ⟨t, p, rfl, hp, ht⟩ := pr_items hD hx
      obtain ⟨b1, b2, b3, b4⟩ := hin p (List.mem_of_getElem? hp)
      generalize el : (ps.take i).foldl (stepM P') (row0 (P' + W).toNat) = ls at ha
      have ll : ls.length = (P' + W).toNat := by rw [← el, fold_len, row0_len]
      refine ⟨t, _, rfl, SqT.of (sm _ _ ht), rfl, _, _, rfl, _, _, rfl, rfl, ?_⟩
      refine ⟨_, rfl, _, rfl, _, rfl, a, _, p.1, _, rfl, rfl, SqL.of ha, ix_at b1 (by omega), _, rfl, _, rfl, _, rfl, P', p.2, rfl, rfl, a, _, P' + p.2, _, rfl, rfl, SqL.of ha, ix_at (by omega) (by omega), ?_⟩
      refine ⟨a, ls, _, _, rfl, SqL.of ha, by omega, fun H2 b s2 nb hb => ⟨b, _, _, rfl, sm.trans s2, ?_⟩⟩
      rw [hb, List.take_add_one, hp, List.foldl_append, el]
      rfl
    · obtain ⟨a, y4, y5, rfl, sm, ha⟩ := hP
      refine ⟨_, rfl, q H' a sm ?_⟩
      rw [hlen, List.take_length] at ha
      exact ha
theorem ok_pieces_by_labels (T : Txt K mg) : FnOk P w K mg base CX0 1 T.f_pieces_by_labels T.d_pieces_by_labels ["points", "labels"] (sp_pieces_by_labels K) := by
  refine T.F_pieces_by_labels.ok sc_pieces_by_labels (fun vs H Q E h => ?_) (fun cdv A outer s H vs Q E hr h => ?_)
  · obtain ⟨P', l, ls, rfl, _⟩ := h
    rfl
  · obtain ⟨P', l, ls, rfl, hS, hlen, q⟩ := h
    refine ⟨_, (pss_cons (ps_set (i := 2) sc_pieces_by_labels.nd rfl (.inl rfl) (pe_lst pa_nil))
      (pss_cons (ps_for PassesOwn.never rfl (pi_range1 (by rfl) T.m_range (pa_cons (pe_callB call_len_seq (by rfl) T.m_len (by decide +kernel) (pa_cons (pv 1) pa_nil)) pa_nil)) (pg_name (i := 3) sc_pieces_by_labels.nd rfl (.inr rfl))
        (pss_cons (ps_setLc (i := 4) rfl sc_pieces_by_labels.nd rfl rfl (sw_true rfl rfl rfl (by decide +kernel)) (pi_range1 (by rfl) T.m_range (pa_cons (pe_callB call_len_seq (by rfl) T.m_len (by decide +kernel) (pa_cons (pv 1) pa_nil)) pa_nil)) (blkOk_by (own := [("corner", 6)]) (N := ["points", "labels", "pieces", "label", "corners", "inside", "corner"]) (sc := defScope s_pieces_by_labels) (by decide +kernel)) (fun _ _ _ _ _ => (pg_name (i := 6) sc_pieces_by_labels.nd rfl (.inl rfl))) (fun _ _ _ _ _ => (pts_one (pt_cmpR op_eq (pe_ix (show IxR _ (rIxL K) from ix_list) (pv 1) (pv 6) (fun _ _ => rfl)) (pv 3) (nomark _)))) (fun _ _ _ _ _ => (pv 6)))
        (pss_one (ps_if (pt_truth (pv 4) (by intro _; rfl))
          (pss_cons (ps_set (i := 5) sc_pieces_by_labels.nd rfl (.inl rfl) (pe_callTy call_tuple_of (by rfl) T.m_tuple (by decide +kernel) (pa_cons (pe_lc rfl sc_pieces_by_labels.nd (pi_list (pv 4)) (blkOk_by (own := [("corner", 6)]) (N := ["points", "labels", "pieces", "label", "corners", "inside", "corner"]) (sc := defScope s_pieces_by_labels) (by decide +kernel)) (fun _ _ _ _ _ => (pg_name (i := 6) sc_pieces_by_labels.nd rfl (.inl rfl))) (fun _ _ _ _ _ => (pts_one (pt_cmpR op_lt (pv 6) (pv 0) (nomark _)))) (fun _ _ _ _ _ => (pv 6))) pa_nil)))
          (pss_one (ps_expr (pe_bm PySem.F.plainAttrs_list PySem.F.slot_list_append PySem.F.type_list_append mt_append (pv 2) (pa_cons (pe_tup (pa_cons (pv 5) (pa_cons (pe_callTy call_tuple_of (by rfl) T.m_tuple (by decide +kernel) (pa_cons (pe_lc rfl sc_pieces_by_labels.nd (pi_list (pv 4)) (blkOk_by (own := [("corner", 6)]) (N := ["points", "labels", "pieces", "label", "corners", "inside", "corner"]) (sc := defScope s_pieces_by_labels) (by decide +kernel)) (fun _ _ _ _ _ => (pg_name (i := 6) sc_pieces_by_labels.nd rfl (.inl rfl))) (fun _ _ _ _ _ => (pts_one (pt_cmpR op_ge (pv 6) (pv 0) (nomark _)))) (fun _ _ _ _ _ => (pe_op op_sub (pv 6) (pv 0)))) pa_nil)) pa_nil))) pa_nil)))))
          pss_nil))))
      (pss_one (ps_ret (pe_callTy call_tuple_of (by rfl) T.m_tuple (by decide +kernel) (pa_cons (pv 2) pa_nil)))))), ?_⟩
    refine ⟨Nat.zero_le _, fun pp np => ?_⟩
    have sm0 : Same H (upd H pp (.lst [])) := same_new np
    refine ⟨_, rfl, l, _, rfl, .inl (sm0.seq hS), _, rfl, by omega, by rw [List.length_map]; omega, for_range (n := ((ls.map V.int).length : Int).toNat)
      (fun i σ H' => ∃ (xs : List V) (y3 y4 y5 : Option V), σ = [some (.int P'), some (.ref l), some (.ref pp), y3, y4, y5, none] ∧ Same H H' ∧ H' pp = some (.lst xs) ∧ DqAll (TkS.Off pp H') xs (((List.range i).filter fun l => !(cs ls l).isEmpty).map fun l => pieceD P' (cs ls l)))
      ⟨[], none, none, none, rfl, sm0, upd_same, .nil⟩ (fun i σ H' hi hP => ?_) (fun σ H' hP => ?_)⟩
    · obtain ⟨xs, y3, y4, y5, rfl, sm, hpp, hd⟩ := hP
      have hi' : i < ls.length := by simpa using hi
      have lx : xs.length ≤ ls.length := by
        rw [hd.len]
        exact Nat.le_trans (len_filter_range _ _ _) (by omega)
      refine ⟨_, rfl, l, _, rfl, .inl (sm.seq hS), _, rfl, by omega, by rw [List.length_map]; omega, fun D nD => ?_⟩
      refine lc_rng (fun k => decide (ls.getD k 0 = (i : Int))) (fun k => .int (k : Int)) (H0 := H') (fun _ _ h => h) nD (by rw [List.length_map]; omega) (fun _ => rfl)
        (fun k H2 Q hk s2 q2 => ?_) (fun k H2 Q hk _ s2 q2 => ?_) (fun H2 s2 hD => ?_)
      · have hk' : k < ls.length := by simpa using hk
        refine ⟨_, rfl, _, rfl, l, ls.map V.int, (k : Int), .int (ls.getD k 0), rfl, by rw [Int.zero_add], (sm.trans s2).seq hS, ix_at (z := (k : Int)) (by omega) (by omega), _, rfl, rfl, _, rfl, ?_⟩
        rw [int_dec, Int.zero_add]
        exact q2 _ (fun _ _ h => h)
      · refine ⟨_, rfl, ?_⟩
        rw [Int.zero_add]
        exact q2 _ (fun _ _ h => h)
      · have e : ((ls.map V.int).length : Int).toNat = ls.length := by simp
        rw [e] at hD
        refine ⟨_, rfl, _, .inl ⟨_, SqL.of hD, rfl⟩, ?_⟩
        have hD' : H2 D = some (.lst ((cs ls i).map fun (k : Nat) => .int (k : Int))) := hD
        have cl : (cs ls i).length ≤ 100 := Nat.le_trans (List.length_filter_le _ _) (by rw [List.length_range]; exact hlen)
        refine (show (if (!((cs ls i).map fun (k : Nat) => V.int (k : Int)).isEmpty) = true then _ else _) from ?_)
        rw [show ((cs ls i).map fun (k : Nat) => V.int (k : Int)).isEmpty = (cs ls i).isEmpty from List.isEmpty_map]
        cases hc : (cs ls i).isEmpty with
        | true =>
          refine iteF ⟨xs, _, _, _, rfl, sm.trans s2, s2 _ _ hpp, ?_⟩
          rw [filter_range, hc, if_neg (by decide)]
          exact DqAll.same (off_of s2) _ hd
        | false =>
          refine iteT ⟨_, rfl, D, rfl, ⟨_, SqL.of hD'⟩, fun D2 nD2 => ?_⟩
          refine lc_vals (ns := cs ls i) (h := fun (k : Nat) => .int (k : Int)) (fun k => decide ((k : Int) < P')) (fun k => .int (k : Int)) (H0 := H2) (fun _ _ h => h) nD2 (by omega) (fun H3 s3 => SqL.of (s3 _ _ hD')) (fun _ => rfl)
            (fun j k H3 Q hk s3 q3 => ?_) (fun j k H3 Q hk _ s3 q3 => ?_) (fun H3 s3 hD2 => ?_)
          · exact ⟨_, rfl, _, rfl, _, _, rfl, rfl, _, rfl, q3 _ (fun _ _ h => h)⟩
          · exact ⟨_, rfl, q3 _ (fun _ _ h => h)⟩
          · refine ⟨D2, _, rfl, .inl ⟨SqL.of hD2, fun t1 n1 => ?_⟩⟩
            have m1 : Same H2 (upd H3 t1 (.tup (((cs ls i).filter fun (k : Nat) => decide ((k : Int) < P')).map fun (k : Nat) => .int (k : Int)))) := s3.trans (same_new n1)
            generalize e4 : upd H3 t1 (.tup (((cs ls i).filter fun (k : Nat) => decide ((k : Int) < P')).map fun (k : Nat) => .int (k : Int))) = H4 at m1
            have t1e : H4 t1 = some (.tup (((cs ls i).filter fun (k : Nat) => decide ((k : Int) < P')).map fun (k : Nat) => .int (k : Int))) := by rw [← e4, upd_same]
            refine ⟨_, rfl, by rw [← e4]; exact .inl ⟨rfl, xs, SqL.of ((s3.trans (same_new n1)) _ _ (s2 _ _ hpp))⟩, _, rfl, _, rfl, D, rfl, ⟨_, SqL.of (m1 _ _ hD')⟩, fun D3 nD3 => ?_⟩
            refine lc_vals (ns := cs ls i) (h := fun (k : Nat) => .int (k : Int)) (fun k => decide (P' ≤ (k : Int))) (fun k => .int ((k : Int) - P')) (H0 := H4) (fun _ _ h => h) nD3 (by omega) (fun H5 s5 => SqL.of (s5 _ _ (m1 _ _ hD'))) (fun _ => rfl)
              (fun j k H5 Q hk s5 q5 => ?_) (fun j k H5 Q hk _ s5 q5 => ?_) (fun H5 s5 hD3 => ?_)
            · exact ⟨_, rfl, _, rfl, _, _, rfl, rfl, _, rfl, q5 _ (fun _ _ h => h)⟩
            · exact ⟨_, rfl, _, rfl, _, _, rfl, rfl, q5 _ (fun _ _ h => h)⟩
            · refine ⟨D3, _, rfl, .inl ⟨SqL.of hD3, fun t2 n2 => ?_⟩⟩
              generalize e6 : upd H5 t2 (.tup (((cs ls i).filter fun (k : Nat) => decide (P' ≤ (k : Int))).map fun (k : Nat) => .int ((k : Int) - P'))) = H6
              have m6 : Same H4 H6 := by rw [← e6]; exact s5.trans (same_new n2)
              have t2e : H6 t2 = some (.tup (((cs ls i).filter fun (k : Nat) => decide (P' ≤ (k : Int))).map fun (k : Nat) => .int ((k : Int) - P'))) := by rw [← e6, upd_same]
              have p4 : H4 pp = some (.lst xs) := m1 _ _ (s2 _ _ hpp)
              have p6 : H6 pp = some (.lst xs) := m6 _ _ p4
              have ne1 : t1 ≠ pp := fun z => by
                subst z
                rw [t1e] at p4
                cases p4
              have ne2 : t2 ≠ pp := fun z => by
                subst z
                rw [t2e] at p6
                cases p6
              refine ⟨(by show 2 ≤ sizeLine; decide), fun t3 n3 => ⟨pp, xs, _, rfl, rfl, (same_new n3) _ _ p6, small1000 (by omega), ?_⟩⟩
              have ne3 : t3 ≠ pp := (ne_of_none p6 n3).symm
              have all : Same H (upd H6 t3 (.tup [.ref t1, .ref t2])) := (((sm.trans s2).trans m1).trans m6).trans (same_new n3)
              refine ⟨xs ++ [.ref t3], _, _, _, rfl, fun b o z => ?_, upd_same, ?_⟩
              · rw [upd_ne (ne_of_none z np)]
                exact all b o z
              · rw [off_upd, filter_range, hc, if_pos (by decide)]
                refine (DqAll.same (off_of (((s2.trans m1).trans m6).trans (same_new n3))) _ hd).snoc (.tup (off_at ne3 upd_same) (.cons (.tup (off_at ne1 ((same_new n3) _ _ (m6 _ _ t1e))) ?_) (.cons (.tup (off_at ne2 ((same_new n3) _ _ t2e)) ?_) .nil)))
                · exact dq_ints (fun (k : Nat) => (k : Int)) _
                · exact dq_ints (fun (k : Nat) => (k : Int) - P') _
    · obtain ⟨xs, y3, y4, y5, rfl, sm, hpp, hd⟩ := hP
      refine ⟨_, rfl, pp, xs, rfl, .inl ⟨SqL.of hpp, fun t nt => ?_⟩⟩
      refine q _ _ (sm.trans (same_new nt)) (.tup upd_same ?_)
      have e : ((ls.map V.int).length : Int).toNat = ls.length := by simp
      rw [e] at hd
      exact DqAll.same ((off_same).trans (same_new nt)) _ hd
end
end K01
set_option Elab.async false
set_option linter.all false
set_option maxRecDepth 100000
set_option maxHeartbeats 4000000
set_option exponentiation.threshold 5000
namespace K01
open PySem PySem.Spec PyProof.Rows L2 TkS
/-! pairs as data -/
theorem prD_datum (p : Int × Int) : prD p = PySem.W.Datum.toD p := rfl
theorem eqv_pr (p q : Int × Int) : PyData.eqv (prD p) (prD q) = decide (p = q) := PySem.W.Datum.eqv p q
theorem eqv_prs (ps qs : List (Int × Int)) : PyData.eqvAll (ps.map prD) (qs.map prD) = decide (ps = qs) := PySem.W.eqvAll_map ps qs
theorem any_pr (ps : List (Int × Int)) (p : Int × Int) : ((ps.map prD).any fun d => PyData.eqv d (prD p)) = decide (p ∈ ps) := (PySem.W.any_datum ps p).trans (decide_eq_decide.mpr Iff.rfl)
theorem shaped_pr (p : Int × Int) : SeqAt.shaped (prD p) = true := by
  simp [SeqAt.shaped, prD, PyData.canLay0, PyData.canLayAll0, PyData.depth, PyData.depthAll]
theorem lay_prs : ∀ ps : List (Int × Int), PyData.canLayAll0 (ps.map prD) = true ∧ PyData.depthAll (ps.map prD) ≤ 1
  | [] => ⟨rfl, Nat.zero_le _⟩
  | p :: ps => by
    have h := lay_prs ps
    constructor
    · simp [PyData.canLayAll0, prD, PyData.canLay0] at h ⊢
      exact h.1
    · simp [PyData.depthAll, prD, PyData.depth] at h ⊢
      exact Nat.max_le.mpr ⟨Nat.le_refl _, h.2⟩
theorem shaped_prs (ps : List (Int × Int)) : SeqAt.shaped (.tuple (ps.map prD)) = true := by
  have h := lay_prs ps
  simp [SeqAt.shaped, PyData.canLay0, PyData.depth, h.1]
  omega
theorem shaped_prs_l (ps : List (Int × Int)) : SeqAt.shaped (.list (ps.map prD)) = true := by
  have h := lay_prs ps
  simp [SeqAt.shaped, PyData.canLay0, PyData.depth, h.1]
  omega
def wholeD (d : PyData) (lo hi : Int) : Bool := match d with | .int i => decide (lo ≤ i) && decide (i ≤ hi) | _ => false
theorem wi_dq {H : Hp} {x : V} {d : PyData} {lo hi : Int} (k : Dq H x d) : wholeIn x (.int lo) (.int hi) = wholeD d lo hi := by cases k <;> rfl
theorem wholeD_of {d : PyData} {lo hi : Int} (h : wholeD d lo hi = true) : ∃ i, d = .int i ∧ lo ≤ i ∧ i ≤ hi := by
  cases d with
  | int i =>
    have h' : (decide (lo ≤ i) && decide (i ≤ hi)) = true := h
    rw [Bool.and_eq_true, decide_eq_true_iff, decide_eq_true_iff] at h'
    exact ⟨i, rfl, h'⟩
  | _ => cases h
def isPair (P W : Int) (d : PyData) : Bool := match itemsD d with | some [a, b] => wholeD a 0 (P - 1) && wholeD b 0 (W - 1) | _ => false
def prOf (d : PyData) : Int × Int := match itemsD d with | some [.int a, .int b] => (a, b) | _ => (0, 0)
theorem prOf_prD (p : Int × Int) : prOf (prD p) = p := rfl
theorem isPair_of {P W : Int} {d : PyData} (h : isPair P W d = true) : itemsD d = some [.int (prOf d).1, .int (prOf d).2] ∧ 0 ≤ (prOf d).1 ∧ (prOf d).1 < P ∧ 0 ≤ (prOf d).2 ∧ (prOf d).2 < W := by
  unfold isPair at h
  split at h
  · rename_i a b e
    rw [Bool.and_eq_true] at h
    obtain ⟨i, rfl, h1, h2⟩ := wholeD_of h.1
    obtain ⟨j, rfl, h3, h4⟩ := wholeD_of h.2
    unfold prOf
    rw [e]
    exact ⟨rfl, h1, by show i < P; omega, h3, by show j < W; omega⟩
  · cases h
theorem isPair_prD {P W : Int} {p : Int × Int} : isPair P W (prD p) = true ↔ 0 ≤ p.1 ∧ p.1 < P ∧ 0 ≤ p.2 ∧ p.2 < W := by
  constructor
  · intro h
    exact (isPair_of h).2
  · rintro ⟨h1, h2, h3, h4⟩
    show (decide (0 ≤ p.1) && decide (p.1 ≤ P - 1) && (decide (0 ≤ p.2) && decide (p.2 ≤ W - 1))) = true
    simp
    omega
/-! sorted lists of pairs -/
def leP (p q : Int × Int) : Prop := SrtO.lexB q p = false
theorem leP_iff {p q : Int × Int} : leP p q ↔ p.1 < q.1 ∨ (p.1 = q.1 ∧ p.2 ≤ q.2) := by
  unfold leP
  rw [SrtO.lexB_no]
  omega
def leB (p q : Int × Int) : Bool := !SrtO.lexB q p
def srt (l : List (Int × Int)) : List (Int × Int) := l.mergeSort leB
theorem leB_iff {p q : Int × Int} : leB p q = true ↔ leP p q := by
  unfold leB leP
  cases SrtO.lexB q p <;> simp
theorem srt_sorted (l : List (Int × Int)) : (srt l).Pairwise leP := by
  have h := List.pairwise_mergeSort (le := leB) (fun a b c h1 h2 => leB_iff.mpr (by
    have a1 := leP_iff.mp (leB_iff.mp h1)
    have a2 := leP_iff.mp (leB_iff.mp h2)
    exact leP_iff.mpr (by omega))) (fun a b => by
    by_cases h : leB a b = true
    · rw [h]
      rfl
    · have h2 : leB b a = true := leB_iff.mpr (leP_iff.mpr (by
        have n : ¬ leP a b := fun z => h (leB_iff.mpr z)
        rw [leP_iff] at n
        omega))
      rw [h2]
      simp) l
  exact h.imp fun z => leB_iff.mp z
theorem srt_perm (l : List (Int × Int)) : (srt l).Perm l := List.mergeSort_perm l leB
theorem srt_len (l : List (Int × Int)) : (srt l).length = l.length := (srt_perm l).length_eq
theorem srt_uniq {l m : List (Int × Int)} (h : l.Pairwise leP) (p : l.Perm m) : l = srt m :=
  List.Perm.eq_of_pairwise (le := leP) (fun a b _ _ h1 h2 => by
    have a1 := leP_iff.mp h1
    have a2 := leP_iff.mp h2
    exact Prod.ext (by omega) (by omega)) h (srt_sorted m) (p.trans (srt_perm m).symm)
def Asc (l : List (Int × Int)) : Prop := l.Pairwise fun p q => SrtO.lexB p q = true
theorem asc_le {l : List (Int × Int)} (h : Asc l) : l.Pairwise leP := h.imp fun z => leP_iff.mpr (by
  have := SrtO.lexB_iff.mp z
  omega)
theorem asc_nodup {l : List (Int × Int)} (h : Asc l) : l.Nodup := h.imp fun {a b} z e => by
  subst e
  have := SrtO.lexB_iff.mp z
  omega
theorem asc_of {l : List (Int × Int)} (h : l.Pairwise leP) (n : l.Nodup) : Asc l := by
  have := List.Pairwise.and h n
  exact this.imp fun {a b} z => SrtO.lexB_iff.mpr (by
    have z1 := leP_iff.mp z.1
    have z2 : ¬ (a.1 = b.1 ∧ a.2 = b.2) := fun e => z.2 (Prod.ext e.1 e.2)
    omega)
/-- equal neighbours tell of a double -/
theorem twins {l : List (Int × Int)} (h : l.Pairwise leP) (n : ∀ i, 1 ≤ i → i < l.length → l.getD (i - 1) (0, 0) ≠ l.getD i (0, 0)) : l.Nodup := by
  induction l with
  | nil => exact .nil
  | cons a r ih =>
    cases r with
    | nil => exact List.pairwise_singleton _ _
    | cons b r =>
      have h2 := (List.pairwise_cons.mp h).2
      have nd : (b :: r).Nodup := ih h2 fun i i1 i2 => by
        have := n (i + 1) (by omega) (by simp at i2 ⊢; omega)
        have e : i + 1 - 1 = (i - 1) + 1 := by omega
        rw [e] at this
        exact this
      refine List.nodup_cons.mpr ⟨fun m => ?_, nd⟩
      have hab : a ≠ b := n 1 (by omega) (by simp)
      have l1 : leP a b := (List.pairwise_cons.mp h).1 b List.mem_cons_self
      rcases List.mem_cons.mp m with e | e
      · exact hab e
      · have l2 : leP b a := (List.pairwise_cons.mp h2).1 a e
        have z1 := leP_iff.mp l1
        have z2 := leP_iff.mp l2
        exact hab (Prod.ext (by omega) (by omega))
/-! pictures -/
structure Pic (C : Addr) (H : Hp) (a : Addr) (P W : Int) (ps : List (Int × Int)) : Prop where
  at_ : ∃ (dx t : Addr) (v : V) (xs : List V), H a = some (.ins C dx [("points", .int P), ("walls", .int W), ("pairs", .ref t), ("_pieces", v)]) ∧ Frz H t xs ∧ DqAll H xs (ps.map prD) ∧ Dq H v (.tuple (piecesD P (marks P W ps)))
  ok : 1 ≤ P ∧ P ≤ 5 ∧ 1 ≤ W ∧ W ≤ 5
  ins : Ins P W ps
  asc : Asc ps
theorem Pic.same {C : Addr} {H H' : Hp} {a : Addr} {P W : Int} {ps : List (Int × Int)} (h : Pic C H a P W ps) (s : Same H H') : Pic C H' a P W ps := by
  obtain ⟨⟨dx, t, v, xs, h1, h2, h2', h3⟩, h4, h5, h6⟩ := h
  exact ⟨⟨dx, t, v, xs, s _ _ h1, h2.same s, DqAll.same s _ h2', h3.same s⟩, h4, h5, h6⟩
def wordD (p w ps : PyData) : Option Str :=
  if wholeD p 1 5 = true then
    if wholeD w 1 5 = true then
      match p, w, itemsD ps with
      | .int P, .int W, some ds => if ds.all (isPair P W) = true then (if (ds.map prOf).Nodup then none else some "double") else some "pair"
      | _, _, _ => some "pair"
    else some "walls"
  else some "points"
def sp_is_pair (C : Addr) : Sp := fun vs H Q _ => ∃ (a dx : Addr) (x : V) (d : PyData) (P W : Int) (fs : List (Str × V)), vs = [.ref a, x] ∧ H a = some (.ins C dx fs) ∧ fs.lookup ("points" : Str) = some (.int P) ∧ fs.lookup ("walls" : Str) = some (.int W) ∧ Dq H x d ∧
  ∀ H', Same H H' → Q (.bl (isPair P W d)) H'
section
variable {P : Program} {w : World} {K : PySem.W.Frag} {mg : Str → Option Value} {base : Heap}
theorem ok_is_pair (T : Txt K mg) : FnOk P w K mg base CX0 2 T.f_Pictureis_pair T.d_Pictureis_pair ["self", "thing"] (sp_is_pair T.C_Picture) := by
  refine T.F_Pictureis_pair.ok sc_Pictureis_pair (fun vs H Q E h => ?_) (fun cdv A outer s H vs Q E hr h => ?_)
  · obtain ⟨a, dx, x, d, P', W, fs, rfl, _⟩ := h
    rfl
  · obtain ⟨a, dx, x, d, P', W, fs, rfl, ha, hp, hw, hk, q⟩ := h
    refine ⟨_, (pss_one (ps_ret (pe_and (pe_call (ok_is_sequence T) (hr.mono (by decide)) (by rfl) T.g_is_sequence T.F_is_sequence.kp T.b_is_sequence .nil pass0 (pa_cons (pv 1) (pa_cons pe_int pa_nil))) (pe_and (pe_call (ok_is_whole T) (hr.mono (by decide)) (by rfl) T.g_is_whole T.F_is_whole.kp T.b_is_whole .nil pass0 (pa_cons (pe_ix ix_seq (pv 1) pe_int (fun _ _ => rfl)) (pa_cons pe_int (pa_cons (pe_op op_sub (pe_fld (pv 0) rfl) pe_int) pa_nil)))) (pe_one (pe_call (ok_is_whole T) (hr.mono (by decide)) (by rfl) T.g_is_whole T.F_is_whole.kp T.b_is_whole .nil pass0 (pa_cons (pe_ix ix_seq (pv 1) pe_int (fun _ _ => rfl)) (pa_cons pe_int (pa_cons (pe_op op_sub (pe_fld (pv 0) rfl) pe_int) pa_nil))))))))), ?_⟩
    refine ⟨x, rfl, x, .int 2, d, rfl, hk, .inr ⟨2, rfl⟩, fun H1 s1 => ?_⟩
    have hk1 := hk.same s1
    have no : seqIs d (.int 2) = false → isPair P' W d = false := fun z => by
      unfold seqIs at z
      unfold isPair
      cases e : itemsD d with
      | none => rfl
      | some ds =>
        rw [e] at z
        match ds, z with
        | [], _ => rfl
        | [_], _ => rfl
        | [_, _], z => exact (of_decide_eq_false z rfl).elim
        | _ :: _ :: _ :: _, _ => rfl
    cases hz : seqIs d (.int 2) with
    | false =>
      have q' := q _ s1
      rw [no hz] at q'
      exact ⟨_, rfl, iteF q'⟩
    | true =>
      obtain ⟨a0, a1, e⟩ : ∃ a0 a1, itemsD d = some [a0, a1] := by
        unfold seqIs at hz
        cases e : itemsD d with
        | none =>
          rw [e] at hz
          cases hz
        | some ds =>
          rw [e] at hz
          match ds, hz with
          | [], z => exact absurd z (by decide)
          | [_], z => exact absurd (show ((1 : Nat) : Int) = 2 from of_decide_eq_true z) (by decide)
          | [a, b], _ => exact ⟨a, b, rfl⟩
          | a :: b :: c :: r, z =>
            exfalso
            have z' : ((r.length + 1 + 1 + 1 : Nat) : Int) = 2 := of_decide_eq_true z
            omega
      obtain ⟨p, xs, rfl, hxs, hsq⟩ := sq_of (K := K) hk1 e
      cases hxs with
      | cons k0 t =>
        cases t with
        | cons k1 t =>
          cases t
          rename_i v0 v1
          have ix : ∀ (i : Int) (v : V) (Q' : VK), atI [v0, v1] i = some v → Q' v H1 → rIx K (.ref p) (.int i) H1 Q' := fun i v Q' hv qv =>
            hsq.elim (fun h => .inl ⟨p, _, i, v, rfl, rfl, h, hv, qv⟩) (fun h => .inr (.inl ⟨p, _, i, v, rfl, rfl, h, hv, qv⟩))
          have e2 : isPair P' W d = (wholeD a0 0 (P' - 1) && wholeD a1 0 (W - 1)) := by
            unfold isPair
            rw [e]
          have ha1 := s1 _ _ ha
          refine ⟨_, rfl, iteT ⟨_, rfl, ix 0 v0 _ rfl ⟨_, rfl, a, T.C_Picture, dx, fs, _, rfl, ha1, T.cl_Picture, T.na_points, hp, P', 1, rfl, rfl, v0, .int 0, .int (P' - 1), a0, rfl, k0, .inr ⟨0, rfl⟩, .inr ⟨_, rfl⟩, ?_⟩⟩⟩
          rw [wi_dq k0]
          have q' := q _ s1
          rw [e2] at q'
          cases b0 : wholeD a0 0 (P' - 1) with
          | false =>
            rw [b0] at q'
            exact ⟨_, rfl, iteF q'⟩
          | true =>
            rw [b0] at q'
            refine ⟨_, rfl, iteT ⟨_, rfl, ix 1 v1 _ rfl ⟨_, rfl, a, T.C_Picture, dx, fs, _, rfl, ha1, T.cl_Picture, T.na_walls, hw, W, 1, rfl, rfl, v1, .int 0, .int (W - 1), a1, rfl, k1, .inr ⟨0, rfl⟩, .inr ⟨_, rfl⟩, ?_⟩⟩⟩
            rw [wi_dq k1]
            exact q'
end
end K01
set_option Elab.async false
set_option linter.all false
set_option maxRecDepth 100000
set_option maxHeartbeats 4000000
set_option exponentiation.threshold 5000
namespace K01
open PySem PySem.Spec PyProof.Rows L2 TkS
/-! stores to an instance leave data as it is -/
mutual
theorem dq_put {H : Hp} {a C dx : Addr} {fs : List (Str × V)} {o : HO} (h : H a = some (.ins C dx fs)) : ∀ {v : V} (d : PyData), Dq H v d → Dq (upd H a o) v d
  | _, .none, .non => .non
  | _, .bool _, .bl b => .bl b
  | _, .int _, .int i => .int i
  | _, .str _, .str x => .str x
  | _, .list _, .lst e t => .lst (by
      rw [upd_ne (fun z => by rw [z, h] at e; cases e)]
      exact e) (dqAll_put h _ t)
  | _, .tuple _, .tup e t => .tup (by
      rw [upd_ne (fun z => by rw [z, h] at e; cases e)]
      exact e) (dqAll_put h _ t)
theorem dqAll_put {H : Hp} {a C dx : Addr} {fs : List (Str × V)} {o : HO} (h : H a = some (.ins C dx fs)) : ∀ {vs : List V} (ds : List PyData), DqAll H vs ds → DqAll (upd H a o) vs ds
  | _, [], .nil => .nil
  | _, _ :: _, .cons k t => .cons (dq_put h _ k) (dqAll_put h _ t)
end
theorem sq_put {K : PySem.W.Frag} {H : Hp} {a C dx p : Addr} {fs : List (Str × V)} {o : HO} {d : PyData} {ds : List PyData} (h : H a = some (.ins C dx fs)) (k : Dq H (.ref p) d) (e : itemsD d = some ds) : ∃ xs, DqAll (upd H a o) xs ds ∧ Sq K (upd H a o) p xs := by
  obtain ⟨p', xs, z, h1, h2⟩ := sq_of (K := K) (dq_put (o := o) h _ k) e
  cases z
  exact ⟨xs, h1, h2⟩
def KeepA (a : Addr) (H H' : Hp) : Prop := ∀ b o, H b = some o → b ≠ a → H' b = some o
theorem KeepA.same {a : Addr} {H H1 H2 : Hp} (k : KeepA a H H1) (s : Same H1 H2) : KeepA a H H2 := fun b o e n => s _ _ (k b o e n)
theorem KeepA.put {a : Addr} {H H1 : Hp} {o : HO} (k : KeepA a H H1) : KeepA a H (upd H1 a o) := fun b x e n => by
  rw [upd_ne n]
  exact k b x e n
def prV (H : Hp) : V → Int × Int
  | .ref t => match H t with
    | some (.tup [.int a, .int b]) => (a, b)
    | _ => (0, 0)
  | _ => (0, 0)
theorem prV_of {H : Hp} {x : V} {p : Int × Int} (k : Dq H x (prD p)) : prV H x = p ∧ ∃ t, x = .ref t ∧ H t = some (.tup [.int p.1, .int p.2]) := by
  cases k with
  | tup e t =>
    cases t with
    | cons u v =>
      cases v with
      | cons u' v' =>
        cases v'
        cases u
        cases u'
        refine ⟨?_, _, rfl, e⟩
        unfold prV
        simp only [e]
theorem prV_map {H : Hp} : ∀ {xs : List V} {l : List (Int × Int)}, DqAll H xs (l.map prD) → xs.map (prV H) = l ∧ ∀ x ∈ xs, Dq H x (prD (prV H x)) ∧ ∃ t, x = .ref t ∧ H t = some (.tup [.int (prV H x).1, .int (prV H x).2])
  | _, [], .nil => ⟨rfl, fun x m => nomatch m⟩
  | _, p :: l, .cons k t => by
    obtain ⟨e1, t1, e2, e3⟩ := prV_of k
    obtain ⟨f1, f2⟩ := prV_map t
    refine ⟨by rw [List.map_cons, e1, f1], fun x m => ?_⟩
    rcases List.mem_cons.mp m with z | m
    · subst z
      rw [e1]
      exact ⟨k, t1, e2, e3⟩
    · exact f2 x m
theorem dqAll_by {H : Hp} {k : V → Int × Int} : ∀ {xs : List V}, (∀ x ∈ xs, Dq H x (prD (k x))) → DqAll H xs ((xs.map k).map prD)
  | [], _ => .nil
  | x :: xs, h => .cons (h x List.mem_cons_self) (dqAll_by fun y m => h y (List.mem_cons_of_mem _ m))
theorem two_ints {H H' : Hp} {xs : List V} {i j : Int} (h : DqAll H xs [.int i, .int j]) : xs = [.int i, .int j] ∧ DqAll H' xs [.int i, .int j] := by
  cases h with
  | cons u v =>
    cases v with
    | cons u' v' =>
      cases v'
      cases u
      cases u'
      exact ⟨rfl, .cons (.int _) (.cons (.int _) .nil)⟩
theorem sorted_is {k : V → Int × Int} {ys zs : List V} {l : List (Int × Int)} (e : ys.map k = l) (s : SrtO.Srtd (ltP k) zs) (b : SrtO.Stb (ltP k) zs ys) : zs.map k = srt l := by
  refine srt_uniq ?_ (by rw [← e]; exact b.perm.map k)
  rw [List.pairwise_map]
  exact s
theorem asg_cb_lc {r : List V → Hp → VK → Prop} {wi : TI} {g : TG} {tt : TT} {te : TE} {vs : List Nat} {gi : TG} {rest : TS} {D : Ends} {σ : L2.St} {H : Hp} (h : tLc wi g tt te vs σ H fun v H1 => r [v] H1 fun x H2 => gi x σ H2 fun σ' H' => rest D σ' H') :
    tSeq (tAsg (tCB r (tCons (tLc wi g tt te vs) tNil)) gi) rest D σ H := h
def sp_Picture_init (C CB : Addr) : Sp := fun vs H Q E => ∃ (a dx : Addr) (p w ps : V) (dp dw dps : PyData), vs = [.ref a, p, w, ps] ∧ H a = some (.ins C dx []) ∧ Dq H p dp ∧ Dq H w dw ∧ Dq H ps dps ∧ (∀ ds, itemsD dps = some ds → ds.length ≤ 200) ∧
  (∀ e, wordD dp dw dps = some e → ∀ d H', KeepA a H H' → H' d = some (.xd [("what", .str e)]) → E (.ref CB) (some d) H') ∧
  (∀ P W ds, dp = .int P → dw = .int W → itemsD dps = some ds → wordD dp dw dps = none → ∀ H', KeepA a H H' → Pic C H' a P W (srt (ds.map prOf)) → Q .non H')
section
variable {P : Program} {w : World} {K : PySem.W.Frag} {mg : Str → Option Value} {base : Heap}
theorem ok_Picture_init (T : Txt K mg) : FnOk P w K mg base (L2.CX P w) 4 T.f_Picture_init T.d_Picture_init ["self", "points", "walls", "pairs"] (sp_Picture_init T.C_Picture T.C_BadPicture) := by
  refine T.F_Picture_init.okX sc_Picture_init (fun vs H Q E h => ?_) (fun cdv A outer s H vs Q E hr h => ?_)
  · obtain ⟨a, dx, p, w, ps, dp, dw, dps, rfl, _⟩ := h
    rfl
  · obtain ⟨a, dx, p, w, ps, dp, dw, dps, rfl, ha, kp, kw, kps, hlen, hE, hQ⟩ := h
    refine ⟨_, (pss_cons (ps_if (pt_not (pt_val (pe_call (ok_is_whole T) (hr.mono (by decide)) (by rfl) T.g_is_whole T.F_is_whole.kp T.b_is_whole .nil pass0 (pa_cons (pv 1) (pa_cons pe_int (pa_cons (pe_glob (v := .int 5) rfl T.c_MOST_CORNERS ⟨_, rfl⟩) pa_nil))))))
        (pss_one (ps_raise (W := fun cls d _ H => E cls d H) rfl (takes_of rfl rfl rfl rfl) (pmk_oex T.o_BadPicture T.i_BadPicture T.t_BadPicture (ok_BadPicture_init T) (hr.mono (by decide)) T.b_BadPicture_init .nil pass0 (by rfl) T.g_BadPicture (pa_cons pe_str pa_nil))))
        pss_nil)
      (pss_cons (ps_if (pt_not (pt_val (pe_call (ok_is_whole T) (hr.mono (by decide)) (by rfl) T.g_is_whole T.F_is_whole.kp T.b_is_whole .nil pass0 (pa_cons (pv 2) (pa_cons pe_int (pa_cons (pe_glob (v := .int 5) rfl T.c_MOST_CORNERS ⟨_, rfl⟩) pa_nil))))))
        (pss_one (ps_raise (W := fun cls d _ H => E cls d H) rfl (takes_of rfl rfl rfl rfl) (pmk_oex T.o_BadPicture T.i_BadPicture T.t_BadPicture (ok_BadPicture_init T) (hr.mono (by decide)) T.b_BadPicture_init .nil pass0 (by rfl) T.g_BadPicture (pa_cons pe_str pa_nil))))
        pss_nil)
      (pss_cons (ps_fld (pv 0) (pv 1) rfl)
      (pss_cons (ps_fld (pv 0) (pv 2) rfl)
      (pss_cons (ps_if (pt_not (pt_val (pe_call (ok_is_sequence T) (hr.mono (by decide)) (by rfl) T.g_is_sequence T.F_is_sequence.kp T.b1_is_sequence (show L2.Vals [.non] [.none] from .cons rfl .nil) pass0 (pa_cons (pv 3) pa_nil))))
        (pss_one (ps_raise (W := fun cls d _ H => E cls d H) rfl (takes_of rfl rfl rfl rfl) (pmk_oex T.o_BadPicture T.i_BadPicture T.t_BadPicture (ok_BadPicture_init T) (hr.mono (by decide)) T.b_BadPicture_init .nil pass0 (by rfl) T.g_BadPicture (pa_cons pe_str pa_nil))))
        pss_nil)
      (pss_cons (ps_for (by exact passes_of rfl) rfl (pi_seq (pv 3)) (pg_name (i := 4) sc_Picture_init.nd rfl (.inl rfl))
        (pss_one (ps_if (pt_not (pt_val (pe_meth (pv 0) T.cl_Picture T.M_is_pair (ok_is_pair T) (hr.mono (by decide)) T.b_Pictureis_pair .nil pass0 (pa_cons (pv 4) pa_nil))))
          (pss_one (ps_raise (W := fun cls d _ H => E cls d H) rfl (takes_of rfl rfl rfl rfl) (pmk_oex T.o_BadPicture T.i_BadPicture T.t_BadPicture (ok_BadPicture_init T) (hr.mono (by decide)) T.b_BadPicture_init .nil pass0 (by rfl) T.g_BadPicture (pa_cons pe_str pa_nil))))
          pss_nil)))
      (pss_cons (ps_set (i := 5) sc_Picture_init.nd rfl (.inl rfl) (pe_callB cr_sortedPO (by rfl) T.m_sorted (by decide +kernel) (pa_cons (pe_lc rfl sc_Picture_init.nd (pi_seq (pv 3)) (blkOk_by (own := [("pair", 4)]) (N := ["self", "points", "walls", "pairs", "pair", "kept", "at"]) (sc := defScope s_Picture_init) (by decide +kernel)) (fun _ _ _ _ _ => (pg_name (i := 4) sc_Picture_init.nd rfl (.inl rfl))) (fun _ _ _ _ _ => pts_nil) (fun _ _ _ _ _ => (pe_callTy call_tupD (by rfl) T.m_tuple (by decide +kernel) (pa_cons (pv 4) pa_nil)))) pa_nil)))
      (pss_cons (ps_for (by exact passes_of rfl) rfl (pi_range2 (by rfl) T.m_range (pa_cons pe_int (pa_cons (pe_callB call_len_seq (by rfl) T.m_len (by decide +kernel) (pa_cons (pv 5) pa_nil)) pa_nil))) (pg_name (i := 6) sc_Picture_init.nd rfl (.inl rfl))
        (pss_one (ps_if (pt_cmpR (op_eqD hr.units) (pe_ix ix_list (pv 5) (pe_op op_sub (pv 6) pe_int) (fun _ _ => rfl)) (pe_ix ix_list (pv 5) (pv 6) (fun _ _ => rfl)) (nomark _))
          (pss_one (ps_raise (W := fun cls d _ H => E cls d H) rfl (takes_of rfl rfl rfl rfl) (pmk_oex T.o_BadPicture T.i_BadPicture T.t_BadPicture (ok_BadPicture_init T) (hr.mono (by decide)) T.b_BadPicture_init .nil pass0 (by rfl) T.g_BadPicture (pa_cons pe_str pa_nil))))
          pss_nil)))
      (pss_cons (ps_fld (pv 0) (pe_callTy call_tupF (by rfl) T.m_tuple (by decide +kernel) (pa_cons (pv 5) pa_nil)) rfl)
      (pss_one (ps_fld (pv 0) (pe_call (ok_pieces_by_labels T) (hr.mono (by decide)) (by rfl) T.g_pieces_by_labels T.F_pieces_by_labels.kp T.b_pieces_by_labels .nil pass0 (pa_cons (pv 1) (pa_cons (pe_call (ok_piece_labels T) (hr.mono (by decide)) (by rfl) T.g_piece_labels T.F_piece_labels.kp T.b_piece_labels .nil pass0 (pa_cons (pv 1) (pa_cons (pv 2) (pa_cons (pv 5) pa_nil)))) pa_nil))) rfl))))))))))), ?_⟩
    refine ⟨p, rfl, p, .int 1, .int 5, dp, rfl, kp, .inr ⟨_, rfl⟩, .inr ⟨_, rfl⟩, ?_⟩
    rw [wi_dq kp]
    cases b1 : wholeD dp 1 5 with
    | false =>
      exact ⟨_, rfl, iteT (mk_exc fun d H' s nd hd => hE _ (by unfold wordD; rw [b1]; rfl) d H' (fun b o e _ => s b o e) hd)⟩
    | true =>
      refine ⟨_, rfl, iteF ?_⟩
      refine ⟨w, rfl, w, .int 1, .int 5, dw, rfl, kw, .inr ⟨_, rfl⟩, .inr ⟨_, rfl⟩, ?_⟩
      rw [wi_dq kw]
      cases b2 : wholeD dw 1 5 with
      | false =>
        exact ⟨_, rfl, iteT (mk_exc fun d H' s nd hd => hE _ (by unfold wordD; rw [b1, b2]; rfl) d H' (fun b o e _ => s b o e) hd)⟩
      | true =>
        obtain ⟨P', rfl, p1, p2⟩ := wholeD_of b1
        obtain ⟨W, rfl, w1, w2⟩ := wholeD_of b2
        cases kp
        cases kw
        refine ⟨_, rfl, iteF ?_⟩
        refine ⟨_, rfl, _, rfl, a, T.C_Picture, dx, [], rfl, ha, T.cl_Picture, T.na_points, by decide, ?_⟩
        refine ⟨_, rfl, _, rfl, a, T.C_Picture, dx, _, rfl, upd_same, T.cl_Picture, T.na_walls, by simp [putF], ?_⟩
        generalize eH2 : upd (upd H a (.ins T.C_Picture dx (putF "points" (.int P') []))) a (.ins T.C_Picture dx (putF "walls" (.int W) (putF "points" (.int P') []))) = H2
        have a2 : H2 a = some (.ins T.C_Picture dx [("points", .int P'), ("walls", .int W)]) := by
          rw [← eH2, upd_same]
          rfl
        have k2 : KeepA a H H2 := by
          rw [← eH2]
          exact KeepA.put (KeepA.put fun b o e _ => e)
        have kps2 : Dq H2 ps dps := by
          rw [← eH2]
          exact dq_put upd_same _ (dq_put ha _ kps)
        refine ⟨ps, rfl, ps, .non, dps, rfl, kps2, .inl rfl, fun H3 s3 => ?_⟩
        cases e3 : itemsD dps with
        | none =>
          refine ⟨_, rfl, ?_⟩
          unfold seqIs
          rw [e3]
          exact iteT (mk_exc fun d H' s nd hd => hE _ (by unfold wordD; rw [b1, b2, e3]; rfl) d H' ((k2.same s3).same s) hd)
        | some ds =>
          have wd : wordD (.int P') (.int W) dps = if ds.all (isPair P' W) = true then (if (ds.map prOf).Nodup then (none : Option Str) else some ("double" : Str)) else some ("pair" : Str) := by
            unfold wordD
            rw [b1, b2, e3]
            rfl
          have ld := hlen ds e3
          refine ⟨_, rfl, ?_⟩
          unfold seqIs
          rw [e3]
          refine iteF ?_
          obtain ⟨pp, xs, rfl, hxs, hq⟩ := sq_of (K := K) (kps2.same s3) e3
          have a3 := s3 _ _ a2
          have k3 := k2.same s3
          have lx := hxs.len
          refine for_seq (xs := xs) (a := pp) (fun i σ H' => ∃ y4, σ = [some (.ref a), some (.int P'), some (.int W), some (.ref pp), y4, none, none] ∧ Same H3 H' ∧ ∀ d ∈ ds.take i, isPair P' W d = true) (fun Q h => ⟨_, rfl, h⟩) hq
            ⟨none, rfl, fun _ _ h => h, fun d m => by simp at m⟩ (fun i σ H' _ hP => by obtain ⟨_, _, sm, _⟩ := hP; exact sm) (fun i x σ H4 hx hP => ?_) (fun σ H4 hP => ?_)
          · obtain ⟨y4, rfl, s4, hall⟩ := hP
            obtain ⟨d, hd, kd⟩ := hxs.get hx
            refine ⟨_, rfl, a, dx, _, rfl, s4 _ _ a3, rfl, ?_⟩
            refine ⟨_, rfl, a, dx, x, d, P', W, _, rfl, s4 _ _ a3, rfl, rfl, kd.same s4, fun H5 s5 => ⟨_, rfl, ?_⟩⟩
            cases hb : isPair P' W d with
            | false =>
              refine iteT (mk_exc fun dd H' s nd hdd => hE _ ?_ dd H' ((k3.same (s4.trans s5)).same s) hdd)
              rw [wd, if_neg]
              intro z
              have := List.all_eq_true.mp z d (List.mem_of_getElem? hd)
              rw [hb] at this
              cases this
            | true =>
              refine iteF ⟨_, rfl, s4.trans s5, fun d' m => ?_⟩
              rw [List.take_add_one, hd] at m
              rcases List.mem_append.mp m with m | m
              · exact hall d' m
              · have : d' = d := by simpa using m
                rw [this]
                exact hb
          · obtain ⟨y4, rfl, s4, hall⟩ := hP
            rw [lx, List.take_length] at hall
            have k4 := k3.same s4
            have a4 := s4 _ _ a3
            have hxs4 := DqAll.same s4 _ hxs
            have hq4 := hq.same s4
            dsimp only
            refine asg_cb_lc ?_
            refine lc_seq (xs := xs) (a := pp) (fun D i H' => Same H4 H' ∧ ∃ ys, H' D = some (.lst ys) ∧ DqAll (TkS.Off D H') ys (((ds.take i).map prOf).map prD)) (fun Q h => ⟨_, rfl, h⟩) hq4
              (fun D nD => ⟨same_new nD, [], upd_same, .nil⟩) (fun D i H' nD _ hP => hP.1) (fun D i x H' nD hx hP => ?_) (fun D H' nD hP => ?_)
            · obtain ⟨s5, ys, hD, hy⟩ := hP
              obtain ⟨d, hd, kd⟩ := hxs4.get hx
              obtain ⟨f1, f2⟩ := isPair_of (hall d (List.mem_of_getElem? hd))
              have ly := hy.len
              rw [List.length_map, List.length_map, List.length_take] at ly
              refine ⟨rfl, x, rfl, x, d, _, rfl, kd.same s5, f1, fun l H6 s6 k6 => ⟨ys, s6 _ _ hD, small1000 (by omega), fun b o e => ?_, ys ++ [.ref l], upd_same, ?_⟩⟩
              · rw [upd_ne (ne_of_none e nD)]
                exact s6 _ _ (s5 _ _ e)
              · rw [off_upd, List.take_add_one, hd]
                show DqAll _ _ (((ds.take i ++ [d]).map prOf).map prD)
                rw [List.map_append, List.map_append]
                refine (DqAll.same (off_of s6) _ hy).snoc ?_
                have n6 : l ≠ D := fun z => by
                  subst z
                  have e6 := s6 _ _ hD
                  cases k6 with
                  | tup e7 _ =>
                    rw [e6] at e7
                    cases e7
                cases k6 with
                | tup e7 t7 =>
                  exact .tup (off_at n6 e7) (two_ints t7).2
            · obtain ⟨s5, ys, hD, hy⟩ := hP
              rw [lx, List.take_length] at hy
              have hy' : DqAll H' ys ((ds.map prOf).map prD) := DqAll.same off_same _ hy
              obtain ⟨m1, m2⟩ := prV_map hy'
              refine ⟨D, ys, prV H', rfl, SqL.of hD, fun x m => (m2 x m).2, fun zs p srt1 stb1 np => ?_⟩
              have hz := sorted_is m1 srt1 stb1
              have hz2 : DqAll (upd H' p (.lst zs)) zs ((srt (ds.map prOf)).map prD) := by
                rw [← hz]
                exact DqAll.same (same_new np) _ (dqAll_by fun x m => (m2 x (stb1.perm.mem_iff.mp m)).1)
              have s6 : Same H4 (upd H' p (.lst zs)) := s5.trans (same_new np)
              have hp6 : (upd H' p (.lst zs)) p = some (.lst zs) := upd_same
              generalize upd H' p (.lst zs) = H6 at hz2 s6 hp6
              have lz : zs.length = ds.length := by rw [stb1.perm.length_eq, ← lx, lx, hy'.len, List.length_map, List.length_map]
              have nds : ∀ i, 1 ≤ i → i < (srt (ds.map prOf)).length → (srt (ds.map prOf)).getD (i - 1) (0, 0) = (srt (ds.map prOf)).getD i (0, 0) → ¬ (ds.map prOf).Nodup := fun i h1 h2 he nd => by
                have nd2 : (srt (ds.map prOf)).Nodup := (srt_perm _).nodup_iff.mpr nd
                rw [List.getD_eq_getElem?_getD, List.getD_eq_getElem?_getD, List.getElem?_eq_getElem (by omega : i - 1 < _), List.getElem?_eq_getElem h2] at he
                exact List.pairwise_iff_getElem.mp nd2 (i - 1) i (by omega) h2 (by omega) he
              have kall : ds.all (isPair P' W) = true := List.all_eq_true.mpr hall
              have lsr : (srt (ds.map prOf)).length = zs.length := by rw [srt_len, List.length_map, lz]
              refine ⟨_, rfl, p, zs, rfl, .inl (SqL.of hp6), 1, (zs.length : Int), rfl, ⟨by decide, by decide, by omega, by omega⟩, for_range (lo := 1) (n := ((zs.length : Int) - 1).toNat)
                (fun i σ H7 => ∃ y6, σ = [some (.ref a), some (.int P'), some (.int W), some (.ref pp), y4, some (.ref p), y6] ∧ H6 = H7 ∧ ∀ j, 1 ≤ j → j < i + 1 → (srt (ds.map prOf)).getD (j - 1) (0, 0) ≠ (srt (ds.map prOf)).getD j (0, 0))
                ⟨none, rfl, rfl, fun j h1 h2 => by omega⟩ (fun i σ H7 hi hP => ?_) (fun σ H7 hP => ?_)⟩
              · obtain ⟨y6, rfl, rfl, nt⟩ := hP
                have hi' : i + 1 < zs.length := by omega
                have at_ : ∀ j, j < zs.length → ∃ z, zs[j]? = some z ∧ Dq H6 z (prD ((srt (ds.map prOf)).getD j (0, 0))) := fun j hj => by
                  obtain ⟨d, e1, e2⟩ := hz2.get (List.getElem?_eq_getElem hj)
                  refine ⟨_, List.getElem?_eq_getElem hj, ?_⟩
                  rw [List.getElem?_map] at e1
                  obtain ⟨q, e3, rfl⟩ := Option.map_eq_some_iff.mp e1
                  rw [List.getD_eq_getElem?_getD, e3]
                  exact e2
                obtain ⟨z0, g0, k0⟩ := at_ i (by omega)
                obtain ⟨z1, g1, k1⟩ := at_ (i + 1) hi'
                refine ⟨_, rfl, _, rfl, (1 + (i : Int)), 1, rfl, rfl, p, zs, (i : Int), z0, rfl, by show V.int (1 + (i : Int) - 1) = _; rw [show (1 + (i : Int) - 1) = (i : Int) by omega], SqL.of hp6, at_of (j := i) (by omega) g0, ?_⟩
                refine ⟨_, rfl, _, rfl, p, zs, (1 + (i : Int)), z1, rfl, rfl, SqL.of hp6, at_of (j := i + 1) (by omega) g1, ?_⟩
                refine ⟨_, _, k0.dp, k1.dp, shaped_pr _, shaped_pr _, _, rfl, ?_⟩
                rw [eqv_pr]
                by_cases c : (srt (ds.map prOf)).getD i (0, 0) = (srt (ds.map prOf)).getD (i + 1) (0, 0)
                · rw [decide_eq_true c]
                  refine iteT (mk_exc fun dd H' s nd hdd => hE _ ?_ dd H' ((k4.same s6).same s) hdd)
                  rw [wd, if_pos kall, if_neg (nds (i + 1) (by omega) (by omega) c)]
                · rw [decide_eq_false c]
                  refine iteF ⟨_, rfl, rfl, fun j h1 h2 => ?_⟩
                  by_cases e : j = i + 1
                  · subst e
                    exact c
                  · exact nt j h1 (by omega)
              · obtain ⟨y6, rfl, rfl, nt⟩ := hP
                have nd0 : (srt (ds.map prOf)).Nodup := twins (srt_sorted _) fun j h1 h2 => nt j h1 (by omega)
                have nd : (ds.map prOf).Nodup := (srt_perm _).nodup_iff.mp nd0
                have hins : Ins P' W (srt (ds.map prOf)) := fun q m => by
                  obtain ⟨d, md, rfl⟩ := List.mem_map.mp ((srt_perm _).mem_iff.mp m)
                  exact (isPair_of (hall d md)).2
                have a6 := s6 _ _ (s4 _ _ a3)
                have k6 := k4.same s6
                refine ⟨_, rfl, p, zs, rfl, SqL.of hp6, fun t H7 s7 nt ft => ?_⟩
                have a7 := s7 _ _ a6
                refine ⟨_, rfl, a, T.C_Picture, dx, _, rfl, a7, T.cl_Picture, T.na_pairs, by simp, ?_⟩
                have nta : t ≠ a := fun z => by
                  obtain ⟨o, f1, _⟩ := ft
                  rw [z, a7] at f1
                  cases f1
                have ft8 : Frz (upd H7 a (.ins T.C_Picture dx (putF "pairs" (.ref t) [("points", .int P'), ("walls", .int W)]))) t zs := by
                  obtain ⟨o, f1, f2⟩ := ft
                  exact ⟨o, by rw [upd_ne nta]; exact f1, f2⟩
                have hp8 : (upd H7 a (.ins T.C_Picture dx (putF "pairs" (.ref t) [("points", .int P'), ("walls", .int W)]))) p = some (.lst zs) := by
                  rw [upd_ne (fun z => by
                    have q9 := s7 _ _ hp6
                    rw [z, a7] at q9
                    cases q9)]
                  exact s7 _ _ hp6
                have hz8 := dqAll_put (o := .ins T.C_Picture dx (putF "pairs" (.ref t) [("points", .int P'), ("walls", .int W)])) a7 _ (DqAll.same s7 _ hz2)
                have k8 : KeepA a H (upd H7 a (.ins T.C_Picture dx (putF "pairs" (.ref t) [("points", .int P'), ("walls", .int W)]))) := (k6.same s7).put
                have a8 : (upd H7 a (.ins T.C_Picture dx (putF "pairs" (.ref t) [("points", .int P'), ("walls", .int W)]))) a = some (.ins T.C_Picture dx [("points", .int P'), ("walls", .int W), ("pairs", .ref t)]) := upd_same
                generalize upd H7 a (.ins T.C_Picture dx (putF "pairs" (.ref t) [("points", .int P'), ("walls", .int W)])) = H8 at ft8 hp8 hz8 k8 a8
                refine ⟨_, rfl, _, rfl, _, rfl, _, rfl, P', W, p, zs, srt (ds.map prOf), rfl, by omega, by omega, by omega, SqL.of hp8, hz8, hins, fun H9 q9 s9 hq9 => ?_⟩
                refine ⟨P', q9, marks P' W (srt (ds.map prOf)), rfl, SqL.of hq9, by rw [marks_len]; omega, fun H10 v s10 kv => ?_⟩
                have a10 := s10 _ _ (s9 _ _ a8)
                have s8 : Same H8 H10 := s9.trans s10
                refine ⟨_, rfl, a, T.C_Picture, dx, _, rfl, a10, T.cl_Picture, T.na_pieces, by simp, ?_⟩
                refine hQ P' W ds rfl rfl e3 (by rw [wd, if_pos kall, if_pos nd]) _ (((k8.same s9).same s10).put) ⟨⟨dx, t, v, zs, upd_same, ?_, dqAll_put a10 _ (DqAll.same s8 _ hz8), dq_put a10 _ kv⟩, ⟨p1, p2, w1, w2⟩, hins, asc_of (srt_sorted _) nd0⟩
                obtain ⟨o, f1, f2⟩ := ft8.same s8
                exact ⟨o, by rw [upd_ne nta]; exact f1, f2⟩
end
end K01
set_option Elab.async false
set_option linter.all false
set_option maxRecDepth 100000
set_option maxHeartbeats 4000000
set_option exponentiation.threshold 5000
namespace K01
open PySem PySem.Spec PyProof.Rows L2 TkS
/-- all pairs -/
def fullPs (p w : Nat) : List (Int × Int) := (List.range p).flatMap fun (i : Nat) => (List.range w).map fun (j : Nat) => ((i : Int), (j : Int))
def isOpen (P W : Int) (ps : List (Int × Int)) (d : PyData) : Bool := isPair P W d && decide (prOf d ∈ ps)
theorem isOpen_of {P W : Int} {ps : List (Int × Int)} {d : PyData} (h : isOpen P W ps d = true) : isPair P W d = true ∧ prOf d ∈ ps := by
  unfold isOpen at h
  rw [Bool.and_eq_true, decide_eq_true_iff] at h
  exact h
theorem tup_items {P W : Int} {d : PyData} (h : isPair P W d = true) : itemsD d = some [.int (prOf d).1, .int (prOf d).2] := (isPair_of h).1
theorem word_none {P W : Int} {ps : List (Int × Int)} {dps : PyData} (ok : 1 ≤ P ∧ P ≤ 5 ∧ 1 ≤ W ∧ W ≤ 5) (hi : Ins P W ps) (nd : ps.Nodup) (e : itemsD dps = some (ps.map prD)) : wordD (.int P) (.int W) dps = none := by
  have b1 : wholeD (.int P) 1 5 = true := by
    show (decide (1 ≤ P) && decide (P ≤ 5)) = true
    simp
    omega
  have b2 : wholeD (.int W) 1 5 = true := by
    show (decide (1 ≤ W) && decide (W ≤ 5)) = true
    simp
    omega
  have b3 : (ps.map prD).all (isPair P W) = true := by
    rw [List.all_map, List.all_eq_true]
    exact fun p m => isPair_prD.mpr (hi p m)
  have b4 : ((ps.map prD).map prOf) = ps := by
    rw [List.map_map, show (prOf ∘ prD) = id from rfl, List.map_id]
  unfold wordD
  rw [b1, b2, e]
  show (if (ps.map prD).all (isPair P W) = true then (if ((ps.map prD).map prOf).Nodup then (none : Option Str) else some ("double" : Str)) else some ("pair" : Str)) = none
  rw [if_pos b3, b4, if_pos nd]
theorem rm_at : ∀ {ps : List (Int × Int)} {j : Nat} {q : Int × Int}, ps.Nodup → ps[j]? = some q → ps.take j ++ ps.drop (j + 1) = ps.filter fun p => decide (p ≠ q)
  | p :: ps, 0, q, nd, e => by
    have e' : p = q := Option.some.inj e
    subst e'
    have n := (List.nodup_cons.mp nd).1
    rw [List.filter_cons_of_neg (by simp)]
    show ps = _
    exact (List.filter_eq_self.mpr fun x m => by
      simp
      intro z
      subst z
      exact n m).symm
  | p :: ps, j + 1, q, nd, e => by
    have m : q ∈ ps := List.mem_of_getElem? (i := j) (by simpa using e)
    have n : p ≠ q := fun z => (List.nodup_cons.mp nd).1 (z ▸ m)
    rw [List.filter_cons_of_pos (by simpa using n), ← rm_at (j := j) (List.nodup_cons.mp nd).2 (by simpa using e)]
    rfl
theorem asc_filter {ps : List (Int × Int)} (f : Int × Int → Bool) (h : Asc ps) : Asc (ps.filter f) := List.Pairwise.sublist List.filter_sublist h
theorem srt_asc {ps : List (Int × Int)} (h : Asc ps) : srt ps = ps := (srt_uniq (asc_le h) (List.Perm.refl _)).symm
/-- a new picture, as the caller of the class sees it -/
theorem mk_pic {C CB : Addr} {H1 : Hp} {R : Addr → Hp → Prop} {E : XK} {p w ps : V} {dp dw dps : PyData} (kp : Dq H1 p dp) (kw : Dq H1 w dw) (kps : Dq H1 ps dps) (hlen : ∀ ds, itemsD dps = some ds → ds.length ≤ 200)
    (hE : ∀ e, wordD dp dw dps = some e → ∀ d H', Same H1 H' → H' d = some (.xd [("what", .str e)]) → E (.ref CB) (some d) H')
    (hQ : ∀ P W ds, dp = .int P → dw = .int W → itemsD dps = some ds → wordD dp dw dps = none → ∀ H' y, Same H1 H' → H1 y = none → Pic C H' y P W (srt (ds.map prOf)) → R y H') :
    ∀ x dx, H1 x = none → H1 dx = none → dx ≠ x → sp_Picture_init C CB (.ref x :: ([p, w, ps] ++ [])) (upd (upd H1 dx (.own x)) x (.ins C dx [])) (fun v H2 => v = .non ∧ R x H2) E := fun x dx nx nd ne => by
  have s0 : Same H1 (upd (upd H1 dx (.own x)) x (.ins C dx [])) := Same.made nx nd fun b o e _ => e
  have sm : ∀ H', KeepA x (upd (upd H1 dx (.own x)) x (.ins C dx [])) H' → Same H1 H' := fun H' k => Same.made nx nd k
  exact ⟨x, dx, p, w, ps, dp, dw, dps, rfl, upd_same, kp.same s0, kw.same s0, kps.same s0, hlen, fun e he d H' k hd => hE e he d H' (sm H' k) hd, fun P W ds e1 e2 e3 e4 H' k hp => ⟨rfl, hQ P W ds e1 e2 e3 e4 H' x (sm H' k) nx hp⟩⟩
def sp_is_open (C : Addr) : Sp := fun vs H Q _ => ∃ (a : Addr) (x : V) (d : PyData) (P W : Int) (ps : List (Int × Int)), vs = [.ref a, x] ∧ Pic C H a P W ps ∧ Dq H x d ∧ ∀ H', Same H H' → Q (.bl (isOpen P W ps d)) H'
def sp_place_of (C CN : Addr) : Sp := fun vs H Q E => ∃ (a : Addr) (x : V) (d : PyData) (P W : Int) (ps : List (Int × Int)), vs = [.ref a, x] ∧ Pic C H a P W ps ∧ Dq H x d ∧
  (isOpen P W ps d = false → ∀ e H', Same H H' → H' e = some (.xd [("pair", x)]) → E (.ref CN) (some e) H') ∧
  (isOpen P W ps d = true → ∀ (j : Nat) H', ps[j]? = some (prOf d) → Same H H' → Q (.int (j : Int)) H')
def sp_Picture_len (C : Addr) : Sp := fun vs H Q _ => ∃ (a : Addr) (P W : Int) (ps : List (Int × Int)), vs = [.ref a] ∧ Pic C H a P W ps ∧ ∀ H', Same H H' → Q (.int (ps.length : Int)) H'
def sp_Picture_pieces (C : Addr) : Sp := fun vs H Q _ => ∃ (a : Addr) (P W : Int) (ps : List (Int × Int)), vs = [.ref a] ∧ Pic C H a P W ps ∧ ∀ v, Dq H v (.tuple (piecesD P (marks P W ps))) → Q v H
def sp_Picture_eq (C : Addr) : Sp := fun vs H Q _ => ∃ (a b : Addr) (P W : Int) (ps : List (Int × Int)) (P' W' : Int) (ps' : List (Int × Int)), vs = [.ref a, .ref b] ∧ Pic C H a P W ps ∧ Pic C H b P' W' ps' ∧ ∀ H', Same H H' → Q (.bl (decide (P = P' ∧ W = W' ∧ ps = ps'))) H'
section
variable {P : Program} {w : World} {K : PySem.W.Frag} {mg : Str → Option Value} {base : Heap}
theorem hu65 {k : Nat} {A : Around} (hr : Room k A) : A.units + 65 < cLine := by
  have := hr.un
  omega
theorem ok_Picture_pieces (T : Txt K mg) : FnOk P w K mg base CX0 1 T.f_Picture_pieces T.d_Picture_pieces ["self"] (sp_Picture_pieces T.C_Picture) := by
  refine T.F_Picture_pieces.ok sc_Picture_pieces (fun vs H Q E h => ?_) (fun cdv A outer s H vs Q E hr h => ?_)
  · obtain ⟨a, P', W, ps, rfl, _⟩ := h
    rfl
  · obtain ⟨a, P', W, ps, rfl, pic, q⟩ := h
    obtain ⟨dx, t, v, xs, ha, ht, hx, hv⟩ := pic.at_
    refine ⟨_, (pss_one (ps_ret (pe_fld (pv 0) rfl))), ?_⟩
    exact ⟨_, rfl, a, T.C_Picture, dx, _, v, rfl, ha, T.cl_Picture, T.na_pieces, rfl, q v hv⟩
theorem ok_Picture_len (T : Txt K mg) : FnOk P w K mg base CX0 1 T.f_Picture_len T.d_Picture_len ["self"] (sp_Picture_len T.C_Picture) := by
  refine T.F_Picture_len.ok sc_Picture_len (fun vs H Q E h => ?_) (fun cdv A outer s H vs Q E hr h => ?_)
  · obtain ⟨a, P', W, ps, rfl, _⟩ := h
    rfl
  · obtain ⟨a, P', W, ps, rfl, pic, q⟩ := h
    obtain ⟨dx, t, v, xs, ha, ht, hx, hv⟩ := pic.at_
    refine ⟨_, (pss_one (ps_ret (pe_callB call_len_seq (by rfl) T.m_len (by decide +kernel) (pa_cons (pe_fld (pv 0) rfl) pa_nil)))), ?_⟩
    refine ⟨_, rfl, a, T.C_Picture, dx, _, _, rfl, ha, T.cl_Picture, T.na_pairs, rfl, t, _, rfl, .inr ht.seq, ?_⟩
    have l := hx.len
    rw [List.length_map] at l
    rw [l]
    exact q H fun _ _ z => z
theorem ok_Picture_eq (T : Txt K mg) : FnOk P w K mg base CX0 1 T.f_Picture_eq T.d_Picture_eq ["self", "other"] (sp_Picture_eq T.C_Picture) := by
  refine T.F_Picture_eq.ok sc_Picture_eq (fun vs H Q E h => ?_) (fun cdv A outer s H vs Q E hr h => ?_)
  · obtain ⟨a, b, P', W, ps, P2, W2, ps2, rfl, _⟩ := h
    rfl
  · obtain ⟨a, b, P', W, ps, P2, W2, ps2, rfl, pa, pb, q⟩ := h
    obtain ⟨dx, t, v, xs, ha, ht, hx, hv⟩ := pa.at_
    obtain ⟨dy, t2, v2, xs2, hb, ht2, hx2, hv2⟩ := pb.at_
    refine ⟨_, (pss_one (ps_ret (pe_and (pe_callB call_isi (by rfl) T.m_isinstance (by decide +kernel) (pa_cons (pv 1) (pa_cons (pe_glob (v := .ref T.C_Picture) rfl T.g_Picture rfl) pa_nil))) (pe_and (pe_cmpR op_eq (pe_fld (pv 0) rfl) (pe_fld (pv 1) rfl) (nomark _)) (pe_and (pe_cmpR op_eq (pe_fld (pv 0) rfl) (pe_fld (pv 1) rfl) (nomark _)) (pe_one (pe_cmpR (op_eqD hr.units) (pe_fld (pv 0) rfl) (pe_fld (pv 1) rfl) (nomark _)))))))), ?_⟩
    refine ⟨_, rfl, .ref b, .ref T.C_Picture, .ref T.C_Picture, .ref T.C_Picture, true, rfl, .own _, .base (.ins hb T.cl_Picture T.k_class T.k_get T.k_takes T.k_mro), T.k_isp, true, rfl, iteT ?_⟩
    refine ⟨_, rfl, a, T.C_Picture, dx, _, _, rfl, ha, T.cl_Picture, T.na_points, rfl, _, rfl, b, T.C_Picture, dy, _, _, rfl, hb, T.cl_Picture, T.na_points, rfl, rfl, _, rfl, ?_⟩
    have q' := q H fun _ _ z => z
    by_cases c1 : P' = P2
    · subst c1
      rw [decide_eq_true (rfl : V.int P' = V.int P')]
      refine iteT ?_
      refine ⟨_, rfl, a, T.C_Picture, dx, _, _, rfl, ha, T.cl_Picture, T.na_walls, rfl, _, rfl, b, T.C_Picture, dy, _, _, rfl, hb, T.cl_Picture, T.na_walls, rfl, rfl, _, rfl, ?_⟩
      by_cases c2 : W = W2
      · subst c2
        rw [decide_eq_true (rfl : V.int W = V.int W)]
        refine iteT ?_
        refine ⟨_, rfl, a, T.C_Picture, dx, _, _, rfl, ha, T.cl_Picture, T.na_pairs, rfl, _, rfl, b, T.C_Picture, dy, _, _, rfl, hb, T.cl_Picture, T.na_pairs, rfl, _, _, ht.dp hx, ht2.dp hx2, shaped_prs _, shaped_prs _, ?_⟩
        have e : PyData.eqv (.tuple (ps.map prD)) (.tuple (ps2.map prD)) = decide (P' = P' ∧ W = W ∧ ps = ps2) := by
          rw [PyData.eqv, eqv_prs]
          exact decide_eq_decide.mpr ⟨fun z => ⟨rfl, rfl, z⟩, fun z => z.2.2⟩
        rw [e]
        exact q'
      · rw [int_dec, decide_eq_false c2]
        refine iteF ?_
        rw [decide_eq_false fun z => c2 z.2.1] at q'
        exact q'
    · rw [int_dec, decide_eq_false c1]
      refine iteF ?_
      rw [decide_eq_false fun z => c1 z.1] at q'
      exact q'
theorem ok_Picture_is_open (T : Txt K mg) : FnOk P w K mg base CX0 4 T.f_Picture_is_open T.d_Picture_is_open ["self", "pair"] (sp_is_open T.C_Picture) := by
  refine T.F_Picture_is_open.ok sc_Picture_is_open (fun vs H Q E h => ?_) (fun cdv A outer s H vs Q E hr h => ?_)
  · obtain ⟨a, x, d, P', W, ps, rfl, _⟩ := h
    rfl
  · obtain ⟨a, x, d, P', W, ps, rfl, pic, hk, q⟩ := h
    obtain ⟨dx, t, v, xs, ha, ht, hx, hv⟩ := pic.at_
    refine ⟨_, (pss_one (ps_ret (pe_and (pe_meth (pv 0) T.cl_Picture T.M_is_pair (ok_is_pair T) (hr.mono (by decide)) T.b_Pictureis_pair .nil pass0 (pa_cons (pv 1) pa_nil)) (pe_one (pe_cmpR (op_inT (hu65 hr)) (pe_callTy call_tupD (by rfl) T.m_tuple (by decide +kernel) (pa_cons (pv 1) pa_nil)) (pe_fld (pv 0) rfl) rfl))))), ?_⟩
    refine ⟨_, rfl, a, dx, _, rfl, ha, rfl, _, rfl, a, dx, x, d, P', W, _, rfl, ha, rfl, rfl, hk, fun H1 s1 => ⟨_, rfl, ?_⟩⟩
    cases hb : isPair P' W d with
    | false =>
      have q' := q H1 s1
      unfold isOpen at q'
      rw [hb] at q'
      exact iteF q'
    | true =>
      refine iteT ⟨x, rfl, x, d, _, rfl, hk.same s1, tup_items hb, fun l H2 s2 kl => ?_⟩
      refine ⟨_, rfl, a, T.C_Picture, dx, _, _, rfl, s2 _ _ (s1 _ _ ha), T.cl_Picture, T.na_pairs, rfl, _, _, kl.dp, ((ht.same s1).same s2).dp (DqAll.same (s1.trans s2) _ hx), shaped_pr (prOf d), shaped_prs _, ?_⟩
      have q' := q H2 (s1.trans s2)
      unfold isOpen at q'
      rw [hb] at q'
      have e : ((ps.map prD).any fun z => PyData.eqv z (prD (prOf d))) = decide (prOf d ∈ ps) := any_pr _ _
      have e2 : ((ps.map prD).any fun z => PyData.eqv z (.tuple [.int (prOf d).1, .int (prOf d).2])) = decide (prOf d ∈ ps) := e
      rw [if_neg Bool.false_ne_true, e2]
      exact q'
theorem at_of_mem {ps : List (Int × Int)} {q : Int × Int} (h : q ∈ ps) : ∃ j : Nat, ps[j]? = some q ∧ ∀ m, m < j → ps[m]? ≠ some q := by
  induction ps with
  | nil => cases h
  | cons p ps ih =>
    by_cases e : p = q
    · exact ⟨0, by rw [e]; rfl, fun m hm => absurd hm (Nat.not_lt_zero _)⟩
    · rcases List.mem_cons.mp h with z | z
      · exact absurd z.symm e
      · obtain ⟨j, h1, h2⟩ := ih z
        refine ⟨j + 1, h1, fun m hm => ?_⟩
        cases m with
        | zero => exact fun z => e (Option.some.inj z)
        | succ m => exact h2 m (by omega)
theorem ok_Picture_place_of (T : Txt K mg) : FnOk P w K mg base (L2.CX P w) 6 T.f_Picture_place_of T.d_Picture_place_of ["self", "pair"] (sp_place_of T.C_Picture T.C_NotOpen) := by
  refine T.F_Picture_place_of.okX sc_Picture_place_of (fun vs H Q E h => ?_) (fun cdv A outer s H vs Q E hr h => ?_)
  · obtain ⟨a, x, d, P', W, ps, rfl, _⟩ := h
    rfl
  · obtain ⟨a, x, d, P', W, ps, rfl, pic, hk, hE, hQ⟩ := h
    obtain ⟨dx, t, v, xs, ha, ht, hx, hv⟩ := pic.at_
    refine ⟨_, (pss_cons (ps_if (pt_not (pt_val (pe_meth (pv 0) T.cl_Picture T.M_is_open (ok_Picture_is_open T) (hr.mono (by decide)) T.b_Picture_is_open .nil pass0 (pa_cons (pv 1) pa_nil))))
        (pss_one (ps_raise (W := fun cls d _ H => E cls d H) rfl (takes_of rfl rfl rfl rfl) (pmk_oex T.o_NotOpen T.i_NotOpen T.t_NotOpen (ok_NotOpen_init T) (hr.mono (by decide)) T.b_NotOpen_init .nil pass0 (by rfl) T.g_NotOpen (pa_cons (pv 1) pa_nil))))
        pss_nil)
      (pss_one (ps_ret (pe_bmF PySem.F.plainAttrs_tuple PySem.F.slot_tuple_index PySem.F.type_tuple_index (mt_tupIx (hu65 hr)) (pe_fld (pv 0) rfl) (pa_cons (pe_callTy call_tupD (by rfl) T.m_tuple (by decide +kernel) (pa_cons (pv 1) pa_nil)) pa_nil))))), ?_⟩
    refine ⟨_, rfl, a, dx, _, rfl, ha, rfl, _, rfl, a, x, d, P', W, ps, rfl, pic, hk, fun H1 s1 => ⟨_, rfl, ?_⟩⟩
    cases hb : isOpen P' W ps d with
    | false => exact iteT ⟨_, rfl, mk_exc fun e H' s' _ he => hE hb e H' (s1.trans s') he⟩
    | true =>
      obtain ⟨b1, b2⟩ := isOpen_of hb
      obtain ⟨j, j1, j2⟩ := at_of_mem b2
      have ht1 := ht.same s1
      have hx1 := DqAll.same s1 _ hx
      refine iteF ⟨_, rfl, a, T.C_Picture, dx, _, _, rfl, s1 _ _ ha, T.cl_Picture, T.na_pairs, rfl, ⟨t, xs, rfl, ht1⟩, x, rfl, x, d, _, rfl, hk.same s1, tup_items b1, fun l H2 s2 kl => ?_⟩
      refine ⟨t, .ref l, prD (prOf d), ps.map prD, j, prD (prOf d), rfl, rfl, (ht1.same s2).dp (DqAll.same s2 _ hx1), kl.dp, shaped_prs _, shaped_pr _, ?_, ?_, fun m z hm hz => ?_, hQ hb j H2 j1 (s1.trans s2)⟩
      · rw [List.getElem?_map, j1]
        rfl
      · rw [eqv_pr]
        simp
      · rw [List.getElem?_map] at hz
        obtain ⟨q, hq, rfl⟩ := Option.map_eq_some_iff.mp hz
        rw [eqv_pr]
        refine decide_eq_false fun z => ?_
        subst z
        exact j2 m hm hq
end
end K01
set_option Elab.async false
set_option linter.all false
set_option maxRecDepth 100000
set_option maxHeartbeats 4000000
set_option exponentiation.threshold 5000
namespace K01
open PySem PySem.Spec PyProof.Rows L2 TkS
def rowPs (i w : Nat) : List (Int × Int) := (List.range w).map fun (j : Nat) => ((i : Int), (j : Int))
theorem fullPs_eq (p w : Nat) : fullPs p w = (List.range p).flatMap fun i => rowPs i w := rfl
theorem fullPs_succ (p w : Nat) : fullPs (p + 1) w = fullPs p w ++ rowPs p w := by
  rw [fullPs_eq, fullPs_eq, List.range_succ, List.flatMap_append]
  simp
theorem rowPs_succ (i j : Nat) : rowPs i (j + 1) = rowPs i j ++ [((i : Int), (j : Int))] := by
  unfold rowPs
  rw [List.range_succ, List.map_append]
  rfl
theorem fullPs_len (p w : Nat) : (fullPs p w).length = p * w := by
  induction p with
  | zero => simp [fullPs]
  | succ p ih =>
    rw [fullPs_succ, List.length_append, ih, Nat.succ_mul]
    congr 1
    unfold rowPs
    simp
theorem mem_fullPs {p w : Nat} {q : Int × Int} : q ∈ fullPs p w ↔ 0 ≤ q.1 ∧ q.1 < p ∧ 0 ≤ q.2 ∧ q.2 < w := by
  unfold fullPs
  simp only [List.mem_flatMap, List.mem_map, List.mem_range]
  constructor
  · rintro ⟨i, hi, j, hj, rfl⟩
    refine ⟨?_, ?_, ?_, ?_⟩ <;> simp <;> omega
  · rintro ⟨h1, h2, h3, h4⟩
    exact ⟨q.1.toNat, by omega, q.2.toNat, by omega, Prod.ext (by simp; omega) (by simp; omega)⟩
theorem fullPs_asc (p w : Nat) : Asc (fullPs p w) := by
  unfold fullPs Asc
  rw [List.pairwise_flatMap]
  refine ⟨fun i _ => ?_, ?_⟩
  · rw [List.pairwise_map]
    refine List.Pairwise.imp (R := fun (a b : Nat) => a < b) ?_ List.pairwise_lt_range
    intro a b h
    exact SrtO.lexB_iff.mpr (.inr ⟨rfl, Int.ofNat_lt.mpr h⟩)
  · refine List.pairwise_lt_range.imp fun {a b} h => ?_
    intro x hx y hy
    obtain ⟨j, _, rfl⟩ := List.mem_map.mp hx
    obtain ⟨k, _, rfl⟩ := List.mem_map.mp hy
    exact SrtO.lexB_iff.mpr (.inl (Int.ofNat_lt.mpr h))
theorem fullPs_ins {P W : Int} (p0 : 0 ≤ P) (w0 : 0 ≤ W) : Ins P W (fullPs P.toNat W.toNat) := fun q m => by
  have := mem_fullPs.mp m
  omega
/-- two ranges in a comprehension -/
theorem lc2_rr {n m : Nat} {g g1 : TG} {tt tt1 : TT} {te : TE} {vs vs1 : List Nat} {wi wi1 : TI} {σ : L2.St} {H : Hp} {Q : VK} (Pv : Addr → Nat → Nat → Hp → Prop)
    (hi : ∀ R, R (Itr 0 n) H → wi σ H R) (h0 : ∀ D, H D = none → Pv D 0 0 (upd H D (.lst [])))
    (hs : ∀ D i H', H D = none → i < n → Pv D i 0 H' → g (.int (0 + (i : Int))) (wipe σ vs) H' fun σ2 H2 => wipe σ2 vs = wipe σ vs ∧ tt σ2 H2 fun b H3 => b = true ∧ wi1 σ2 H3 fun J1 H4 => J1 = Itr 0 m ∧ Pv D i 0 H4 ∧
      ∀ j H5, j < m → Pv D i j H5 → g1 (.int (0 + (j : Int))) (wipe σ2 vs1) H5 fun σ3 H6 => wipe σ3 vs1 = wipe σ2 vs1 ∧ tt1 σ3 H6 fun b H7 => b = true ∧ te σ3 H7 fun y H8 => ∃ acc, H8 D = some (.lst acc) ∧ acc.length < sizeLine ∧ Pv D i (j + 1) (upd H8 D (.lst (acc ++ [y]))))
    (hrow : ∀ D i H', i < n → Pv D i m H' → Pv D (i + 1) 0 H') (hd : ∀ D H', H D = none → Pv D n 0 H' → Q (.ref D) H')
    (mono : ∀ σ H (R R' : It → Hp → Prop), (∀ J H, R J H → R' J H) → wi1 σ H R → wi1 σ H R')
    (mg : ∀ x σ H (R R' : L2.St → Hp → Prop), (∀ σ H, R σ H → R' σ H) → g x σ H R → g x σ H R') (mg1 : ∀ x σ H (R R' : L2.St → Hp → Prop), (∀ σ H, R σ H → R' σ H) → g1 x σ H R → g1 x σ H R')
    (mt : ∀ σ H (R R' : Bool → Hp → Prop), (∀ b H, R b H → R' b H) → tt σ H R → tt σ H R') (mt1 : ∀ σ H (R R' : Bool → Hp → Prop), (∀ b H, R b H → R' b H) → tt1 σ H R → tt1 σ H R') :
    tLc2 wi g tt wi1 g1 tt1 te vs vs1 σ H Q := by
  refine hi _ fun D nD => ⟨fun i k H' => k = n - i ∧ i ≤ n ∧ Pv D i 0 H', ⟨n, by simp, Nat.zero_le _, h0 D nD⟩, ?_⟩
  rintro i k H' ⟨rfl, hin, p⟩
  by_cases hlt : i < n
  · refine .inr ⟨hlt, Pv D (i + 1) 0, fun H2 p' => ⟨n - (i + 1), by omega, rfl, hlt, p'⟩, fun x H2 y => ?_⟩
    obtain ⟨e, y⟩ := y
    subst e y
    refine mg _ _ _ _ _ (fun σ2 H3 h => ⟨h.1, mt _ _ _ _ (fun b H4 h => ?_) h.2⟩) (hs D i _ nD hlt p)
    obtain ⟨rfl, h⟩ := h
    rw [if_pos rfl]
    refine mono _ _ _ _ (fun J H5 h => ?_) h
    obtain ⟨rfl, q0, h⟩ := h
    refine ⟨fun j k H6 => k = m - j ∧ j ≤ m ∧ Pv D i j H6, ⟨m, by simp, Nat.zero_le _, q0⟩, ?_⟩
    rintro j k H6 ⟨rfl, hjm, p2⟩
    by_cases hj : j < m
    · refine .inr ⟨hj, Pv D i (j + 1), fun H7 p' => ⟨m - (j + 1), by omega, rfl, hj, p'⟩, fun x H7 y => ?_⟩
      obtain ⟨e, y⟩ := y
      subst e y
      refine mg1 _ _ _ _ _ (fun σ3 H8 h => ⟨h.1, mt1 _ _ _ _ (fun b H9 h => ?_) h.2⟩) (h j _ hj p2)
      obtain ⟨rfl, h⟩ := h
      rw [if_pos rfl]
      exact h
    · have e : j = m := by omega
      subst e
      exact .inl ⟨Nat.le_refl _, hrow D i _ hlt p2⟩
  · have e : i = n := by omega
    subst e
    exact .inl ⟨Nat.le_refl _, hd D _ nD p⟩
theorem asg_next {i : Nat} {x : V} {t : TE} {g : TG} {rest : TS} {D : Ends} {σ : L2.St} {H : Hp} (h : t (σ.set i (some x)) H fun y H2 => g y (σ.set i (some x)) H2 (rest D)) : gName i x σ H (tSeq (tAsg t g) rest D) := h
section
variable {P : Program} {w : World} {K : PySem.W.Frag} {mg : Str → Option Value} {base : Heap}
end
end K01
set_option Elab.async false
set_option linter.all false
set_option maxRecDepth 100000
set_option maxHeartbeats 4000000
set_option exponentiation.threshold 5000
namespace K01
open PySem PySem.Spec PyProof.Rows L2 TkS
/-! the hand -/
structure Hand (H : Hp) (h : Addr) : Prop where
  ex : ∃ (c : Addr) (cells : List Int) (p r t : Int), H h = some (.lst [.ref c, .int p, .int r, .int t]) ∧ H c = some (.lst (cells.map V.int)) ∧ c ≠ h ∧ 0 ≤ p ∧ 0 ≤ r ∧ ∀ z ∈ cells, (0 : Int) ≤ z
structure Keep (h : Addr) (H H' : Hp) : Prop where
  kp : ∀ b o, b ≠ h → H b = some o → H' b = some o
  cc : ∀ (c : Addr) (p r t : Int), H h = some (.lst [.ref c, .int p, .int r, .int t]) → ∃ p' r' t' : Int, H' h = some (.lst [.ref c, .int p', .int r', .int t'])
instance {h : Addr} {H H' : Hp} : CoeFun (Keep h H H') (fun _ => ∀ b o, b ≠ h → H b = some o → H' b = some o) := ⟨Keep.kp⟩
theorem Keep.trans {h : Addr} {H H1 H2 : Hp} (a : Keep h H H1) (b : Keep h H1 H2) : Keep h H H2 := ⟨fun c o n e => b c o n (a c o n e), fun c p r t e => by
  obtain ⟨p', r', t', e'⟩ := a.cc c p r t e
  exact b.cc c p' r' t' e'⟩
theorem Keep.refl {h : Addr} {H : Hp} : Keep h H H := ⟨fun _ _ _ e => e, fun c p r t e => ⟨p, r, t, e⟩⟩
theorem Keep.of {h : Addr} {H H' : Hp} (s : Same H H') : Keep h H H' := ⟨fun b o _ e => s b o e, fun c p r t e => ⟨p, r, t, s _ _ e⟩⟩
theorem keep_put {h : Addr} {H : Hp} {c : Addr} {p r t p' r' t' : Int} (e : H h = some (.lst [.ref c, .int p, .int r, .int t])) : Keep h H (upd H h (.lst [.ref c, .int p', .int r', .int t'])) :=
  ⟨fun b u n e => by rw [upd_ne n]; exact e, fun c2 p2 r2 t2 e2 => by
    rw [e] at e2
    cases e2
    exact ⟨p', r', t', upd_same⟩⟩
theorem Hand.same {H H' : Hp} {h : Addr} (e : Same H H') (x : Hand H h) : Hand H' h := by
  obtain ⟨c, cells, p, r, t, h1, h2, q⟩ := x.ex
  exact ⟨c, cells, p, r, t, e _ _ h1, e _ _ h2, q⟩
def sp_law_hand (K : PySem.W.Frag) : Sp := fun vs H Q _ => ∃ (a : Addr) (ns : List Int), vs = [.ref a] ∧ SqL K H a (ns.map V.int) ∧ ns.length ≤ 63 ∧ ∀ H' h, Same H H' → H h = none → Hand H' h → Q (.ref h) H'
def sp_law_mixed (K : PySem.W.Frag) : Sp := fun vs H Q _ => ∃ a b : Int, vs = [.int a, .int b] ∧ ∀ r : Int, 0 ≤ r → Q (.int r) H
def sp_law_take (K : PySem.W.Frag) : Sp := fun vs H Q _ => ∃ (h : Addr) (m : Int), vs = [.ref h, .int m] ∧ Hand H h ∧ 0 < m ∧ m.natAbs < 2 ^ 100 ∧ ∀ H' r, Keep h H H' → Hand H' h → 0 ≤ r → r < m → Q (.int r) H'
section
variable {P : Program} {w : World} {K : PySem.W.Frag} {mg : Str → Option Value} {base : Heap}
theorem ok_law_mixed (T : Txt K mg) : FnOk P w K mg base CX0 1 T.f_law_mixed T.d_law_mixed ["_law_number", "_law_turn"] (sp_law_mixed K) := by
  refine T.F_law_mixed.ok sc_law_mixed (fun vs H Q E h => ?_) (fun cdv A outer s H vs Q E hr h => ?_)
  · obtain ⟨a, b, rfl, _⟩ := h
    rfl
  · obtain ⟨a, b, rfl, q⟩ := h
    refine ⟨_, (pss_cons (ps_set (i := 2) sc_law_mixed.nd rfl (.inl rfl) (pe_op op_mod (pe_callTy call_int1 (by rfl) T.m_int (by decide +kernel) (pa_cons (pe_op op_add (pe_op op_add (pe_op op_mul (pv 0) pe_int) (pe_op op_mul (pv 1) pe_int)) pe_int) pa_nil)) pe_int))
      (pss_cons (ps_set (i := 3) sc_law_mixed.nd rfl (.inl rfl) (pe_op op_mod (pe_callTy call_int1 (by rfl) T.m_int (by decide +kernel) (pa_cons (pe_op op_add (pe_op op_add (pe_op op_mul (pv 2) (pv 2)) (pe_op op_mul (pv 1) pe_int)) (pe_op op_fdiv (pv 2) pe_int)) pa_nil)) pe_int))
      (pss_one (ps_ret (pe_op op_fdiv (pe_callTy call_int1 (by rfl) T.m_int (by decide +kernel) (pa_cons (pe_op op_mod (pe_callTy call_int1 (by rfl) T.m_int (by decide +kernel) (pa_cons (pe_op op_add (pe_op op_mul (pv 3) pe_int) (pe_op op_fdiv (pv 2) pe_int)) pa_nil)) pe_int) pa_nil)) pe_int))))), ?_⟩
    refine ⟨_, rfl, a, 40692, rfl, rfl, .inr (by decide), _, rfl, b, 7177, rfl, rfl, .inr (by decide), _, _, rfl, rfl, _, _, rfl, rfl, .inl ⟨_, rfl, _, _, rfl, rfl, (by show (0 : Int) < _; decide), ?_⟩⟩
    generalize (a * 40692 + b * 7177 + 60013 : Int) = z
    have z0 : (0 : Int) ≤ z % 2147483399 := Int.emod_nonneg _ (by decide)
    have z1 : z % 2147483399 < 2147483399 := Int.emod_lt_of_pos _ (by decide)
    refine ⟨_, rfl, _, rfl, z % 2147483399, z % 2147483399, rfl, rfl, .inl ⟨by omega, by omega⟩, _, rfl, b, 90523, rfl, rfl, .inr (by decide), _, _, rfl, rfl, _, rfl, z % 2147483399, 149, rfl, rfl, ⟨by decide, by decide⟩, _, _, rfl, rfl, .inl ⟨_, rfl, _, _, rfl, rfl, (by show (0 : Int) < _; decide), ?_⟩⟩
    generalize (z % 2147483399 * (z % 2147483399) + b * 90523 + z % 2147483399 / 149 : Int) = y
    have y0 : (0 : Int) ≤ y % 2147483629 := Int.emod_nonneg _ (by decide)
    have y1 : y % 2147483629 < 2147483629 := Int.emod_lt_of_pos _ (by decide)
    refine ⟨_, rfl, y % 2147483629, 52774, rfl, rfl, .inl ⟨by omega, by omega⟩, _, rfl, z % 2147483399, 13, rfl, rfl, ⟨by decide, by decide⟩, _, _, rfl, rfl, .inl ⟨_, rfl, _, _, rfl, rfl, (by show (0 : Int) < _; decide), .inl ⟨_, rfl, _, _, rfl, rfl, ⟨by decide, by decide⟩, q _ ?_⟩⟩⟩
    have x0 : (0 : Int) ≤ (y % 2147483629 * 52774 + z % 2147483399 / 13) % 2147483587 := Int.emod_nonneg _ (by decide)
    exact Int.ediv_nonneg x0 (by decide)
theorem all_push {cells : List Int} {z : Int} (h : ∀ x ∈ cells, (0 : Int) ≤ x) (hz : 0 ≤ z) : ∀ x ∈ cells ++ [z], (0 : Int) ≤ x := by
  intro x hx
  rcases List.mem_append.mp hx with e | e
  · exact h x e
  · rw [List.mem_singleton.mp e]
    exact hz
theorem ok_law_hand (T : Txt K mg) : FnOk P w K mg base CX0 1 T.f_law_hand T.d_law_hand ["_law_script"] (sp_law_hand K) := by
  refine T.F_law_hand.ok sc_law_hand (fun vs H Q E h => ?_) (fun cdv A outer s H vs Q E hr h => ?_)
  · obtain ⟨a, b, rfl, _⟩ := h
    rfl
  · obtain ⟨a, ns, rfl, hS, hlen, q⟩ := h
    refine ⟨_, (pss_cons (ps_set (i := 1) sc_law_hand.nd rfl (.inl rfl) (pe_op op_add (pe_callB call_len_seq (by rfl) T.m_len (by decide +kernel) (pa_cons (pv 0) pa_nil)) pe_int))
      (pss_cons (ps_set (i := 2) sc_law_hand.nd rfl (.inl rfl) (pe_lst pa_nil))
      (pss_cons (ps_for PassesOwn.never rfl (pi_list (pv 0)) (pg_name (i := 3) sc_law_hand.nd rfl (.inl rfl))
        (pss_cons (ps_set (i := 1) sc_law_hand.nd rfl (.inl rfl) (pe_op op_mod (pe_callTy call_int1 (by rfl) T.m_int (by decide +kernel) (pa_cons (pe_op op_add (pe_op op_mul (pv 1) pe_int) (pe_callTy call_int1 (by rfl) T.m_int (by decide +kernel) (pa_cons (pv 3) pa_nil))) pa_nil)) pe_int))
        (pss_one (ps_expr (pe_bm PySem.F.plainAttrs_list PySem.F.slot_list_append PySem.F.type_list_append mt_append (pv 2) (pa_cons (pe_callB call_abs (by rfl) T.m_abs (by decide +kernel) (pa_cons (pe_callTy call_int1 (by rfl) T.m_int (by decide +kernel) (pa_cons (pv 3) pa_nil)) pa_nil)) pa_nil))))))
      (pss_one (ps_ret (pe_lst (pa_cons (pv 2) (pa_cons pe_int (pa_cons pe_int (pa_cons (pv 1) pa_nil)))))))))), ?_⟩
    refine ⟨_, rfl, a, _, rfl, .inl hS, _, _, rfl, rfl, Nat.zero_le _, fun c nc => ?_⟩
    have s1 : Same H (upd H c (.lst [])) := fun b x e => by
      rw [upd_ne (ne_of_none e nc)]
      exact e
    refine ⟨_, rfl, a, rfl, ⟨_, s1.seq hS⟩, for_list (xs := ns.map V.int) (fun i σ H' => ∃ (t : Int) (y : Option V) (cells : List Int), σ = [some (.ref a), some (.int t), some (.ref c), y] ∧ Same H H' ∧ H' c = some (.lst (cells.map V.int)) ∧ cells.length = i ∧ ∀ z ∈ cells, (0 : Int) ≤ z)
      ⟨_, none, [], rfl, s1, upd_same, rfl, fun z hz => by cases hz⟩ (fun i σ H' _ hP => by obtain ⟨_, _, _, _, sm, _⟩ := hP; exact sm.seq hS) (fun i x σ H' hx hP => ?_) (fun σ H' hP => ?_)⟩
    · obtain ⟨t, y, cells, rfl, sm, ec, el, hz⟩ := hP
      obtain ⟨n, hn, rfl⟩ : ∃ n, ns[i]? = some n ∧ V.int n = x := by
        rw [List.getElem?_map] at hx
        exact Option.map_eq_some_iff.mp hx
      have hi : i < ns.length := (List.getElem?_eq_some_iff.mp hn).1
      have nca : c ≠ a → True := fun _ => trivial
      refine ⟨_, rfl, t, 2011, rfl, rfl, .inr (by decide), _, rfl, .inl ⟨_, rfl, _, _, rfl, rfl, .inl ⟨_, rfl, _, _, rfl, rfl, (by show (0 : Int) < _; decide), ?_⟩⟩⟩
      refine ⟨_, rfl, .inl ⟨rfl, _, .inl (.inl ec)⟩, _, rfl, .inl ⟨_, rfl, _, rfl, c, _, _, rfl, rfl, ec, ?_, ?_⟩⟩
      · rw [List.length_map, el]
        exact small1000 (by omega)
      · refine ⟨_, _, cells ++ [(if n < 0 then -n else n)], rfl, fun b u e => ?_, ?_, ?_, all_push hz (by split <;> omega)⟩
        · rw [upd_ne (ne_of_none e nc)]
          exact sm _ _ e
        · rw [upd_same, List.map_append]
          rfl
        · rw [List.length_append, el]
          rfl
    · obtain ⟨t, y, cells, rfl, sm, ec, el, hz⟩ := hP
      refine ⟨_, rfl, _, rfl, (by show 4 ≤ sizeLine; decide), fun h nh => ?_⟩
      have nch : c ≠ h := ne_of_none ec nh
      refine q _ h (fun b u e => ?_) (sm.free nh) ⟨c, cells, 0, 0, t, upd_same, ?_, nch, Int.le_refl _, Int.le_refl _, hz⟩
      · rw [upd_ne (ne_of_none (sm _ _ e) nh)]
        exact sm _ _ e
      · rw [upd_ne nch]
        exact ec
theorem cells_at {cells : List Int} {p : Int} (h0 : 0 ≤ p) (h : p < ((cells.map V.int).length : Int)) : ∃ z, z ∈ cells ∧ atI (cells.map V.int) p = some (.int z) := by
  rw [List.length_map] at h
  have hp : p.toNat < cells.length := by omega
  refine ⟨cells[p.toNat], List.getElem_mem hp, at_of (j := p.toNat) (by omega) ?_⟩
  rw [List.getElem?_map, List.getElem?_eq_getElem hp]
  rfl
theorem ok_law_take (T : Txt K mg) : FnOk P w K mg base CX0 2 T.f_law_take T.d_law_take ["_law_hand_here", "_law_many"] (sp_law_take K) := by
  refine T.F_law_take.ok sc_law_take (fun vs H Q E h => ?_) (fun cdv A outer s H vs Q E hr h => ?_)
  · obtain ⟨a, b, rfl, _⟩ := h
    rfl
  · obtain ⟨h, m, rfl, ⟨c, cells, p, r, t, hh, hc, nch, hp, hr0, hz⟩, hm, hmb, q⟩ := h
    refine ⟨_, (Evl.pss_cut (ps_if (PW.pt (pw_and (pt_cmpR op_eq (pe_ix ix_list (pv 0) pe_int (fun _ _ => rfl)) pe_int (nomark _)) (pw_and1 (pt_cmpR op_lt (pe_ix ix_list (pv 0) pe_int (fun _ _ => rfl)) (pe_callB call_len_seq (by rfl) T.m_len (by decide +kernel) (pa_cons (pe_ix ix_list (pv 0) pe_int (fun _ _ => rfl)) pa_nil)) (nomark _)))))
        (pss_cons (ps_set (i := 2) sc_law_take.nd rfl (.inl rfl) (pe_ix ix_list (pe_ix ix_list (pv 0) pe_int (fun _ _ => rfl)) (pe_ix ix_list (pv 0) pe_int (fun _ _ => rfl)) (fun _ _ => rfl)))
        (pss_cons (ps_asg (pe_op op_add (pe_ix ix_list (pv 0) pe_int (fun _ _ => rfl)) pe_int) (pg_sub (pv 0) pe_int set_list))
        (pss_cons (ps_if (pt_cmpR op_lt (pv 2) (pe_op op_pow pe_int pe_int) (nomark _))
          (pss_one (ps_ret (pe_op op_mod (pe_callTy call_int1 (by rfl) T.m_int (by decide +kernel) (pa_cons (pe_call (ok_law_mixed T) (hr.mono (by decide)) (by rfl) T.g_law_mixed T.F_law_mixed.kp T.b_law_mixed .nil pass0 (pa_cons (pe_op op_mod (pe_callTy call_int1 (by rfl) T.m_int (by decide +kernel) (pa_cons (pv 2) pa_nil)) pe_int) (pa_cons (pe_ix ix_list (pv 0) pe_int (fun _ _ => rfl)) pa_nil))) pa_nil)) (pv 1))))
          pss_nil)
        (pss_one (ps_asg (pv 2) (pg_sub (pv 0) pe_int set_list))))))
        pss_nil)
      (pss_cons (ps_if (pt_cmpR op_gt (pe_ix ix_list (pv 0) pe_int (fun _ _ => rfl)) pe_int (nomark _))
        (pss_cons (ps_set (i := 3) sc_law_take.nd rfl (.inl rfl) (pe_ix ix_list (pv 0) pe_int (fun _ _ => rfl)))
        (pss_cons (ps_asg (pe_op op_fdivW (pe_callTy call_int1 (by rfl) T.m_int (by decide +kernel) (pa_cons (pv 3) pa_nil)) (pv 1)) (pg_sub (pv 0) pe_int set_list))
        (pss_one (ps_ret (pe_op op_mod (pe_callTy call_int1 (by rfl) T.m_int (by decide +kernel) (pa_cons (pv 3) pa_nil)) (pv 1))))))
        pss_nil)
      (pss_cons (ps_asg (pe_op op_mod (pe_callTy call_int1 (by rfl) T.m_int (by decide +kernel) (pa_cons (pe_op op_add (pe_ix ix_list (pv 0) pe_int (fun _ _ => rfl)) pe_int) pa_nil)) pe_int) (pg_sub (pv 0) pe_int set_list))
      (pss_one (ps_ret (pe_op op_mod (pe_callTy call_int1 (by rfl) T.m_int (by decide +kernel) (pa_cons (pe_call (ok_law_mixed T) (hr.mono (by decide)) (by rfl) T.g_law_mixed T.F_law_mixed.kp T.b_law_mixed .nil pass0 (pa_cons (pe_ix ix_list (pv 0) pe_int (fun _ _ => rfl)) (pa_cons (pe_ix ix_list (pv 0) pe_int (fun _ _ => rfl)) pa_nil))) pa_nil)) (pv 1))))))), ?_⟩
    refine ⟨fun σ' H' => ∃ (y : Option V) (p r t : Int), σ' = [some (.ref h), some (.int m), y, none] ∧ Keep h H H' ∧ H' h = some (.lst [.ref c, .int p, .int r, .int t]) ∧ 0 ≤ p ∧ 0 ≤ r, ?_, fun σ' H' hM => ?_⟩
    · -- the first if
      refine ⟨_, rfl, h, _, 2, .int r, rfl, rfl, SqL.of hh, rfl, rfl, _, rfl, ite2 (fun c1 => ?_) (fun c1 => ?_)⟩
      · refine ⟨_, rfl, h, _, 1, .int p, rfl, rfl, SqL.of hh, rfl, _, rfl, h, _, 0, .ref c, rfl, rfl, SqL.of hh, rfl, c, _, rfl, .inl (SqL.of hc), p, _, rfl, rfl, _, rfl, ite2 (fun c2 => ?_) (fun c2 => ?_)⟩
        · obtain ⟨z, hzm, hza⟩ := cells_at hp (of_decide_eq_true c2)
          refine ⟨_, rfl, h, _, 0, .ref c, rfl, rfl, SqL.of hh, rfl, _, rfl, h, _, 1, .int p, rfl, rfl, SqL.of hh, rfl, c, _, p, .int z, rfl, rfl, SqL.of hc, hza, ?_⟩
          refine ⟨_, rfl, h, _, 1, .int p, rfl, rfl, SqL.of hh, rfl, p, 1, rfl, rfl, _, rfl, h, _, 1, 1, rfl, rfl, hh, rfl, ?_⟩
          have e1 : (upd H h (.lst ([V.ref c, .int p, .int r, .int t].set 1 (.int (p + 1))))) h = some (.lst [.ref c, .int (p + 1), .int r, .int t]) := upd_same
          refine ⟨_, rfl, 10, 18, rfl, rfl, ⟨by decide, by decide, by decide⟩, _, _, rfl, rfl, _, rfl, ite2 (fun c3 => ?_) (fun c3 => ?_)⟩
          · refine ⟨_, rfl, .inl ⟨_, rfl, z, 2147483399, rfl, rfl, (by show (0 : Int) < _; decide), _, rfl, h, _, 1, .int (p + 1), rfl, rfl, SqL.of e1, rfl, _, _, rfl, fun x hx => .inl ⟨x, rfl, _, rfl, x, m, rfl, rfl, hm, ?_⟩⟩⟩
            refine q _ _ (keep_put hh) ⟨c, cells, p + 1, r, t, e1, ?_, nch, by omega, hr0, hz⟩ (Int.emod_nonneg _ (by omega)) (Int.emod_lt_of_pos _ hm)
            rw [upd_ne nch]
            exact hc
          · refine ⟨_, rfl, _, rfl, h, _, 2, 2, rfl, rfl, e1, rfl, some (.int z), p + 1, z, t, rfl, ?_, upd_same, by omega, hz z hzm⟩
            rw [upd_upd]
            exact (keep_put hh)
        · exact ⟨none, p, r, t, rfl, Keep.refl, hh, hp, hr0⟩
      · exact ⟨none, p, r, t, rfl, Keep.refl, hh, hp, hr0⟩
    · -- what follows it
      obtain ⟨y, p, r, t, rfl, kp, hh, hp, hr0⟩ := hM
      have hc' : H' c = some (.lst (cells.map V.int)) := kp _ _ nch hc
      have hcu : ∀ o, (upd H' h o) c = some (.lst (cells.map V.int)) := fun o => by
        rw [upd_ne nch]
        exact hc'
      refine ⟨_, rfl, h, _, 2, .int r, rfl, rfl, SqL.of hh, rfl, r, 0, rfl, rfl, _, rfl, ite2 (fun c1 => ?_) (fun c1 => ?_)⟩
      · have hrp : 0 < r := of_decide_eq_true c1
        refine ⟨_, rfl, h, _, 2, .int r, rfl, rfl, SqL.of hh, rfl, ?_⟩
        refine ⟨_, rfl, .inl ⟨_, rfl, _, rfl, r, m, rfl, rfl, wide_div hm hmb (by decide) (by decide), _, rfl, h, _, 2, 2, rfl, rfl, hh, rfl, ?_⟩⟩
        refine ⟨_, rfl, .inl ⟨_, rfl, _, rfl, r, m, rfl, rfl, hm, ?_⟩⟩
        exact q _ _ (kp.trans (keep_put hh)) ⟨c, cells, p, r / m, t, upd_same, hcu _, nch, hp, Int.ediv_nonneg hr0 (by omega), hz⟩ (Int.emod_nonneg _ (by omega)) (Int.emod_lt_of_pos _ hm)
      · refine ⟨_, rfl, h, _, 3, .int t, rfl, rfl, SqL.of hh, rfl, t, 1, rfl, rfl, .inl ⟨_, rfl, _, _, rfl, rfl, (by show (0 : Int) < _; decide), _, rfl, h, _, 3, 3, rfl, rfl, hh, rfl, ?_⟩⟩
        have e1 : (upd H' h (.lst ([V.ref c, .int p, .int r, .int t].set 3 (.int ((t + 1) % 2147483549))))) h = some (.lst [.ref c, .int p, .int r, .int ((t + 1) % 2147483549)]) := upd_same
        refine ⟨_, rfl, h, _, 3, _, rfl, rfl, SqL.of e1, rfl, _, rfl, h, _, 1, _, rfl, rfl, SqL.of e1, rfl, _, _, rfl, fun x hx => .inl ⟨x, rfl, _, rfl, x, m, rfl, rfl, hm, ?_⟩⟩
        exact q _ _ (kp.trans (keep_put hh)) ⟨c, cells, p, r, _, e1, hcu _, nch, hp, hr0, hz⟩ (Int.emod_nonneg _ (by omega)) (Int.emod_lt_of_pos _ hm)
end
end K01
set_option Elab.async false
set_option linter.all false
set_option maxRecDepth 100000
set_option maxHeartbeats 4000000
set_option exponentiation.threshold 5000
namespace K01
open PySem PySem.Spec PyProof.Rows L2 TkS
def isIntD : PyData → Bool
  | .int _ => true
  | _ => false
def sp_law_whole : Sp := fun vs H Q _ => ∃ x d, vs = [x] ∧ Dq H x d ∧ Q (.bl (isIntD d)) H
def sp_law_full : Sp := fun vs H Q _ => ∃ (p s : Int), vs = [.int p, .int s] ∧ 0 ≤ p ∧ p ≤ 5 ∧ 0 ≤ s ∧ s ≤ 5 ∧ ∀ l H', Same H H' → H l = none → Dq H' (.ref l) (.list ((fullPs p.toNat s.toNat).map prD)) → Q (.ref l) H'
def sp_law_couple : Sp := fun vs H Q _ => ∃ (P W : Int) (x : V) (d : PyData), vs = [.int P, .int W, x] ∧ Dq H x d ∧ ∀ H', Same H H' → Q (.bl (isPair P W d)) H'
theorem noList_pr (p : Int × Int) : noList (prD p) = true := rfl
theorem range_full (n : Nat) : (List.range n).filter (fun _ => true) = List.range n := List.filter_eq_self.mpr fun _ _ => rfl
section
variable {P : Program} {w : World} {K : PySem.W.Frag} {mg : Str → Option Value} {base : Heap}
theorem ok_law_whole (T : Txt K mg) : FnOk P w K mg base CX0 1 T.f_law_whole T.d_law_whole ["_law_thing"] sp_law_whole := by
  refine T.F_law_whole.ok sc_law_whole (fun vs H Q E h => ?_) (fun cdv A outer s H vs Q E hr h => ?_)
  · obtain ⟨x, d, rfl, _⟩ := h
    rfl
  · obtain ⟨x, d, rfl, hk, q⟩ := h
    obtain ⟨t, ty, k1, k2, _⟩ := dq_ty (K := K) hk
    refine ⟨_, (pss_one (ps_ret (pe_and (pe_callB call_isi (by rfl) T.m_isinstance (by decide +kernel) (pa_cons (pv 0) (pa_cons (pe_bltn (v := .ty "int") (u := .type "int") (by rfl) T.m_int (by decide +kernel) rfl) pa_nil))) (pe_one (pe_not (pe_callB call_isi (by rfl) T.m_isinstance (by decide +kernel) (pa_cons (pv 0) (pa_cons (pe_bltn (v := .ty "bool") (u := .type "bool") (by rfl) T.m_bool (by decide +kernel) rfl) pa_nil)))))))), ?_⟩
    refine ⟨x, rfl, x, .ty "int", t, _, isNumV x, rfl, .ty _, ty, k2, _, rfl, ?_⟩
    have two : Q (.bl (!isBlV x)) H → tNotV (tCB (rIsi K) (tCons (tVar 0) (tCons (tC (.ty "bool")) tNil))) (L2.start ["_law_thing"] [x]) H Q := fun z => ⟨x, rfl, x, .ty "bool", t, _, isBlV x, rfl, .ty _, ty, k1, _, rfl, z⟩
    cases hk with
    | non => exact iteF q
    | bl b => exact iteT (two q)
    | int i => exact iteT (two q)
    | str z => exact iteF q
    | lst z y => exact iteF q
    | tup z y => exact iteF q
theorem ok_law_full (T : Txt K mg) : FnOk P w K mg base CX0 1 T.f_law_full T.d_law_full ["_law_points", "_law_shuts"] sp_law_full := by
  refine T.F_law_full.ok sc_law_full (fun vs H Q E h => ?_) (fun cdv A outer s H vs Q E hr h => ?_)
  · obtain ⟨p, s, rfl, _⟩ := h
    rfl
  · obtain ⟨p, s', rfl, p0, p1, s0, s1, q⟩ := h
    refine ⟨_, (pss_cons (ps_set (i := 2) sc_law_full.nd rfl (.inl rfl) (pe_lst pa_nil))
      (pss_cons (ps_for PassesOwn.never rfl (pi_range1 (by rfl) T.m_range (pa_cons (pv 0) pa_nil)) (pg_name (i := 3) sc_law_full.nd rfl (.inr rfl))
        (pss_one (ps_set (i := 2) sc_law_full.nd rfl (.inl rfl) (pe_op op_catDL (pv 2) (pe_lc rfl sc_law_full.nd (pi_range1 (by rfl) T.m_range (pa_cons (pv 1) pa_nil)) (blkOk_by (own := [("_law_shut_here", 4)]) (N := ["_law_points", "_law_shuts", "_law_told", "_law_point", "_law_shut_here"]) (sc := defScope s_law_full) (by decide +kernel)) (fun _ _ _ _ _ => (pg_name (i := 4) sc_law_full.nd rfl (.inl rfl))) (fun _ _ _ _ _ => pts_nil) (fun _ _ _ _ _ => (pe_tup (pa_cons (pv 3) (pa_cons (pv 4) pa_nil)))))))))
      (pss_one (ps_ret (pv 2))))), ?_⟩
    refine ⟨Nat.zero_le _, fun t0 n0 => ⟨_, rfl, p, rfl, by omega, by omega, for_range (n := p.toNat) (fun i σ H' => ∃ (t : Addr) (y3 : Option V), σ = [some (.int p), some (.int s'), some (.ref t), y3, none] ∧ Same H H' ∧ H t = none ∧ Dq H' (.ref t) (.list ((fullPs i s'.toNat).map prD)))
      ⟨t0, none, rfl, same_new n0, n0, .lst upd_same .nil⟩ (fun i σ H' hi hP => ?_) (fun σ H' hP => ?_)⟩⟩
    · obtain ⟨t, y3, rfl, sm, nt, kt⟩ := hP
      refine ⟨_, rfl, _, rfl, s', rfl, by omega, by omega, fun D nD => ?_⟩
      refine lc_rngD (fun _ => true) (fun j => prD ((i : Int), (j : Int))) nD (by omega) (fun _ => rfl) (fun j H2 Q2 hj s2 q2 => q2 _ (fun _ _ z => z)) (fun j H2 Q2 hj _ s2 hD q2 => ?_) (fun H2 s2 kD => ?_)
      · refine ⟨_, rfl, _, rfl, (by show 2 ≤ sizeLine; decide), fun u nu => q2 _ _ (same_new nu) ?_⟩
        obtain ⟨acc, hD⟩ := hD
        rw [Int.zero_add, Int.zero_add]
        exact .tup (off_at (ne_of_none hD nu).symm upd_same) (.cons (.int _) (.cons (.int _) .nil))
      · rw [range_full] at kD
        have kD' : Dq H2 (.ref D) (.list ((rowPs i s'.toNat).map prD)) := by
          unfold rowPs
          rw [List.map_map]
          exact kD
        have hsz : i * s'.toNat ≤ 5 * 5 := Nat.mul_le_mul (by omega) (by omega)
        refine ⟨_, _, kt.same s2, kD', ?_, fun l H3 s3 nl kl => ⟨l, _, rfl, (sm.trans s2).trans s3, (sm.trans s2).free nl, ?_⟩⟩
        · rw [List.length_map, List.length_map, fullPs_len]
          have : (rowPs i s'.toNat).length = s'.toNat := by
            unfold rowPs
            simp
          omega
        · rw [fullPs_succ, List.map_append]
          exact kl
    · obtain ⟨t, y3, rfl, sm, nt, kt⟩ := hP
      exact ⟨_, rfl, q t H' sm nt kt⟩
end
end K01
set_option Elab.async false
set_option linter.all false
set_option maxRecDepth 100000
set_option maxHeartbeats 4000000
set_option exponentiation.threshold 5000
namespace K01
open PySem PySem.Spec PyProof.Rows L2 TkS
section
variable {P : Program} {w : World} {K : PySem.W.Frag} {mg : Str → Option Value} {base : Heap}
theorem asg_last {i : Nat} {x : V} {t : TE} {g : TG} {D : Ends} {σ : L2.St} {H : Hp} (h : t (σ.set i (some x)) H fun y H2 => g y (σ.set i (some x)) H2 D.nx) : gName i x σ H (tAsg t g D) := h
def mrgD (a b : Int) : PyData → PyData
  | .int n => .int (if n = a ∨ n = b then (if b < a then b else a) else n)
  | d => d
theorem mrgD_int {a b n : Int} : mrgD a b (.int n) = .int (if n = a ∨ n = b then (if b < a then b else a) else n) := rfl
theorem dq_intl {H : Hp} : ∀ ls : List Int, DqAll H (ls.map V.int) (ls.map PyData.int)
  | [] => .nil
  | _ :: ls => .cons (.int _) (dq_intl ls)
theorem intl_dq {H : Hp} : ∀ {ls : List Int} {xs : List V}, DqAll H xs (ls.map PyData.int) → xs = ls.map V.int
  | [], _, .nil => rfl
  | _ :: ls, _, .cons k t => by
    cases k
    rw [intl_dq t]
    rfl
theorem mrg_data (ls : List Int) (a b : Int) : ((ls.map PyData.int).filter fun _ => true).map (mrgD a b) = (mrg ls a b).map PyData.int := by
  rw [List.filter_eq_self.mpr fun _ _ => rfl]
  unfold mrg
  rw [List.map_map, List.map_map]
  rfl
theorem ok_law_marks (T : Txt K mg) : FnOk P w K mg base CX0 1 T.f_law_marks T.d_law_marks ["_law_points", "_law_shuts", "_law_pairs"] (sp_piece_labels K) := by
  refine T.F_law_marks.ok sc_law_marks (fun vs H Q E h => ?_) (fun cdv A outer s H vs Q E hr h => ?_)
  · obtain ⟨P', W, l, xs, ps, rfl, _⟩ := h
    rfl
  · obtain ⟨P', W, l, xs, ps, rfl, p0, w0, pw, hS, hD, hin, q⟩ := h
    refine ⟨_, (pss_cons (ps_set (i := 3) sc_law_marks.nd rfl (.inl rfl) (pe_listRg rfl (by rfl) T.m_list (prg_1 (by rfl) T.m_range (pe_op op_add (pv 0) (pv 1)))))
      (pss_cons (ps_for PassesOwn.never rfl (pi_list (pv 2)) (pg_tup rfl (pgs_cons (pg_name (i := 4) sc_law_marks.nd rfl (.inl rfl)) (pgs_cons (pg_name (i := 5) sc_law_marks.nd rfl (.inl rfl)) pgs_nil)))
        (pss_cons (ps_set (i := 6) sc_law_marks.nd rfl (.inr rfl) (pe_ix ix_list (pv 3) (pv 4) (fun _ _ => rfl)))
        (pss_cons (ps_set (i := 7) sc_law_marks.nd rfl (.inr rfl) (pe_ix ix_list (pv 3) (pe_op op_add (pv 0) (pv 5)) (fun _ _ => rfl)))
        (pss_one (ps_setLc (i := 3) rfl sc_law_marks.nd rfl rfl (sw_true rfl rfl rfl (by decide +kernel)) (pi_seq (pv 3)) (blkOk_by (own := [("_law_mark", 8)]) (N := ["_law_points", "_law_shuts", "_law_pairs", "_law_marks_here", "_law_point", "_law_shut_here", "_law_one", "_law_other", "_law_mark"]) (sc := defScope s_law_marks) (by decide +kernel)) (fun _ _ _ _ _ => (pg_name (i := 8) sc_law_marks.nd rfl (.inl rfl))) (fun _ _ _ _ _ => pts_nil) (fun _ _ _ _ _ => (pe_ifExp (pt_cmpR (show OpR _ (compareOp .In) (rIn K false) from op_in_seq) (pv 8) (pe_tup (pa_cons (pv 6) (pa_cons (pv 7) pa_nil))) rfl) (pe_callB (call_min2 rfl) (by rfl) T.m_min (by decide +kernel) (pa_cons (pv 6) (pa_cons (pv 7) pa_nil))) (pv 8))))))))
      (pss_one (ps_ret (pv 3))))), ?_⟩
    refine ⟨_, rfl, _, rfl, P', W, rfl, rfl, P' + W, rfl, RgOk.of_le (by decide) (by omega) (by decide) (by omega), fun l0 n0 => ?_⟩
    have hlen : xs.length = ps.length := by
      rw [hD.len, List.length_map]
    refine ⟨_, rfl, l, rfl, ⟨_, (same_new n0).seq hS⟩, for_list (xs := xs) (fun i σ H' => ∃ (a : Addr) (y4 y5 y6 y7 : Option V), σ = [some (.int P'), some (.int W), some (.ref l), some (.ref a), y4, y5, y6, y7, none] ∧ Same H H' ∧ H' a = some (.lst (((ps.take i).foldl (stepM P') (row0 (P' + W).toNat)).map V.int)))
      ⟨l0, none, none, none, none, rfl, same_new n0, ?_⟩ (fun i σ H' _ hP => by obtain ⟨_, _, _, _, _, _, sm, _⟩ := hP; exact sm.seq hS) (fun i x σ H' hx hP => ?_) (fun σ H' hP => ?_)⟩
    · rw [upd_same, rg_row (a := 0) (by omega)]
      rfl
    · obtain ⟨a, y4, y5, y6, y7, rfl, sm, ha⟩ := hP
      obtain ⟨t, p, rfl, hp, ht⟩ := pr_items hD hx
      obtain ⟨b1, b2, b3, b4⟩ := hin p (List.mem_of_getElem? hp)
      generalize el : (ps.take i).foldl (stepM P') (row0 (P' + W).toNat) = ls at ha
      have ll : ls.length = (P' + W).toNat := by rw [← el, fold_len, row0_len]
      refine ⟨t, _, rfl, SqT.of (sm _ _ ht), rfl, _, _, rfl, _, _, rfl, rfl, ?_⟩
      refine ⟨_, rfl, _, rfl, a, _, p.1, _, rfl, rfl, SqL.of ha, ix_at b1 (by omega), ?_⟩
      refine ⟨_, rfl, _, rfl, _, rfl, P', p.2, rfl, rfl, a, _, P' + p.2, _, rfl, rfl, SqL.of ha, ix_at (by omega) (by omega), ?_⟩
      dsimp only
      refine asg_last ?_
      refine lc_seqD (a := a) (j := 8) (ds := ls.map PyData.int) (fun _ => true) (mrgD (ls.getD p.1.toNat 0) (ls.getD (P' + p.2).toNat 0)) (fun Q2 z => ⟨_, rfl, z⟩) (.inl (SqL.of ha)) (dq_intl ls) (by rw [List.length_map]; omega) (fun _ => rfl)
        (fun i x d H2 Q2 _ _ _ q2 => q2 _ (fun _ _ z => z)) (fun D i x d H2 Q2 nD hd _ s2 kd hDl q2 => ?_) (fun D H2 nD s2 kD => ?_)
      · rw [List.getElem?_map] at hd
        obtain ⟨n, _, rfl⟩ := Option.map_eq_some_iff.mp hd
        cases kd
        refine ⟨_, rfl, _, rfl, _, rfl, (by show 2 ≤ sizeLine; decide), fun u nu => ⟨u, _, rfl, .inr (SqT.of upd_same), rfl, rfl, _, rfl, ?_⟩⟩
        refine (show (if (if false = true then !inV (V.int n) [V.int (ls.getD p.1.toNat 0), V.int (ls.getD (P' + p.2).toNat 0)] else inV (V.int n) [V.int (ls.getD p.1.toNat 0), V.int (ls.getD (P' + p.2).toNat 0)]) = true then _ else _) from ?_)
        rw [if_neg Bool.false_ne_true, in2]
        by_cases c : n = ls.getD p.1.toNat 0 ∨ n = ls.getD (P' + p.2).toNat 0
        · rw [decide_eq_true c]
          refine iteT ⟨_, rfl, _, rfl, _, _, rfl, q2 _ _ (same_new nu) ?_⟩
          rw [mrgD_int, if_pos c]
          exact .int _
        · rw [decide_eq_false c]
          refine iteF ⟨_, rfl, q2 _ _ (same_new nu) ?_⟩
          rw [mrgD_int, if_neg c]
          exact .int _
      · rw [mrg_data] at kD
        cases kD with
        | lst e1 e2 =>
          rw [intl_dq e2] at e1
          refine ⟨D, _, _, _, _, rfl, sm.trans s2, ?_⟩
          rw [e1, List.take_add_one, hp, List.foldl_append, el]
          rfl
    · obtain ⟨a, y4, y5, y6, y7, rfl, sm, ha⟩ := hP
      refine ⟨_, rfl, q H' a sm ?_⟩
      rw [hlen, List.take_length] at ha
      exact ha
end
end K01
set_option Elab.async false
set_option linter.all false
set_option maxRecDepth 100000
set_option maxHeartbeats 4000000
set_option exponentiation.threshold 5000
namespace K01
open PySem PySem.Spec PyProof.Rows L2 TkS
/-! sums -/
def S {α : Type} (l : List α) (f : α → Int) : Int := l.foldr (fun x a => f x + a) 0
theorem S_nil {α : Type} (f : α → Int) : S [] f = 0 := rfl
theorem S_cons {α : Type} (x : α) (l : List α) (f : α → Int) : S (x :: l) f = f x + S l f := rfl
theorem S_append {α : Type} (f : α → Int) : ∀ l m : List α, S (l ++ m) f = S l f + S m f
  | [], m => by rw [List.nil_append, S_nil, Int.zero_add]
  | x :: l, m => by
    rw [List.cons_append, S_cons, S_cons, S_append f l m, Int.add_assoc]
theorem S_add {α : Type} (f g : α → Int) : ∀ l : List α, S l (fun x => f x + g x) = S l f + S l g
  | [] => rfl
  | x :: l => by
    rw [S_cons, S_cons, S_cons, S_add f g l]
    omega
theorem S_mul {α : Type} (c : Int) (f : α → Int) : ∀ l : List α, S l (fun x => c * f x) = c * S l f
  | [] => by rw [S_nil, S_nil, Int.mul_zero]
  | x :: l => by
    rw [S_cons, S_cons, S_mul c f l, Int.mul_add]
theorem S_congr {α : Type} {f g : α → Int} : ∀ {l : List α}, (∀ x ∈ l, f x = g x) → S l f = S l g
  | [], _ => rfl
  | x :: l, h => by
    rw [S_cons, S_cons, h x List.mem_cons_self, S_congr fun y hy => h y (List.mem_cons_of_mem _ hy)]
theorem S_zero {α : Type} {f : α → Int} : ∀ {l : List α}, (∀ x ∈ l, f x = 0) → S l f = 0
  | [], _ => rfl
  | x :: l, h => by
    rw [S_cons, h x List.mem_cons_self, S_zero fun y hy => h y (List.mem_cons_of_mem _ hy)]
    rfl
theorem S_comm {α β : Type} (f : α → β → Int) : ∀ (l : List α) (m : List β), S l (fun x => S m (fun y => f x y)) = S m (fun y => S l (fun x => f x y))
  | [], m => (S_zero fun _ _ => rfl).symm
  | x :: l, m => by
    rw [S_cons, S_comm f l m]
    exact (S_add (fun y => f x y) (fun y => S l fun x => f x y) m).symm
theorem S_map {α β : Type} (g : α → β) (f : β → Int) : ∀ l : List α, S (l.map g) f = S l fun x => f (g x)
  | [] => rfl
  | x :: l => by rw [List.map_cons, S_cons, S_cons, S_map g f l]
/-- all but one are 0 -/
theorem S_one {α : Type} {f : α → Int} {k : α} : ∀ {l : List α}, l.Nodup → k ∈ l → (∀ x ∈ l, x ≠ k → f x = 0) → S l f = f k
  | x :: l, n, h, z => by
    rw [S_cons]
    obtain ⟨n1, n2⟩ := List.nodup_cons.mp n
    by_cases e : x = k
    · subst e
      rw [S_zero fun y hy => z y (List.mem_cons_of_mem _ hy) fun e => n1 (e ▸ hy), Int.add_zero]
    · have h2 : k ∈ l := by
        rcases List.mem_cons.mp h with h | h
        · exact absurd h.symm e
        · exact h
      rw [z x List.mem_cons_self e, S_one n2 h2 fun y hy => z y (List.mem_cons_of_mem _ hy), Int.zero_add]
/-! labels -/
def eu (p : Int × Int) : Nat := p.1.toNat
def ev (P : Int) (p : Int × Int) : Nat := (P + p.2).toNat
theorem getD_map0 {α : Type} {f : α → Int} {l : List α} {i : Nat} {d : α} (h : i < l.length) : (l.map f).getD i 0 = f (l.getD i d) := by
  rw [List.getD_eq_getElem?_getD, List.getElem?_map, List.getD_eq_getElem?_getD, List.getElem?_eq_getElem h]
  rfl
theorem mrg_at {ls : List Int} {a b : Int} {k : Nat} (h : k < ls.length) : (mrg ls a b).getD k 0 = if ls.getD k 0 = a ∨ ls.getD k 0 = b then (if b < a then b else a) else ls.getD k 0 := by
  unfold mrg
  rw [getD_map0 (d := 0) h]
theorem min_or (a b : Int) : (if b < a then b else a) = a ∨ (if b < a then b else a) = b := by
  by_cases h : b < a
  · rw [if_pos h]
    exact .inr rfl
  · rw [if_neg h]
    exact .inl rfl
/-- two labels that a merging makes alike -/
theorem mrg_alike {ls : List Int} {a b : Int} {i j : Nat} (hi : i < ls.length) (hj : j < ls.length) (e : (mrg ls a b).getD i 0 = (mrg ls a b).getD j 0) :
    ls.getD i 0 = ls.getD j 0 ∨ ((ls.getD i 0 = a ∨ ls.getD i 0 = b) ∧ (ls.getD j 0 = a ∨ ls.getD j 0 = b)) := by
  rw [mrg_at hi, mrg_at hj] at e
  by_cases ci : ls.getD i 0 = a ∨ ls.getD i 0 = b
  · by_cases cj : ls.getD j 0 = a ∨ ls.getD j 0 = b
    · exact .inr ⟨ci, cj⟩
    · rw [if_pos ci, if_neg cj] at e
      rcases min_or a b with m | m
      · exact absurd (.inl (e.symm.trans m)) cj
      · exact absurd (.inr (e.symm.trans m)) cj
  · by_cases cj : ls.getD j 0 = a ∨ ls.getD j 0 = b
    · rw [if_neg ci, if_pos cj] at e
      rcases min_or a b with m | m
      · exact absurd (.inl (e.trans m)) ci
      · exact absurd (.inr (e.trans m)) ci
    · rw [if_neg ci, if_neg cj] at e
      exact .inl e
theorem step_len {P : Int} {ls : List Int} {p : Int × Int} : (stepM P ls p).length = ls.length := mrg_len _ _ _
theorem step_eq {P : Int} {ls : List Int} {p : Int × Int} {i j : Nat} (hi : i < ls.length) (hj : j < ls.length) (e : ls.getD i 0 = ls.getD j 0) : (stepM P ls p).getD i 0 = (stepM P ls p).getD j 0 := by
  unfold stepM
  rw [mrg_at hi, mrg_at hj, e]
theorem step_ends {P : Int} {ls : List Int} {p : Int × Int} (hi : eu p < ls.length) (hj : ev P p < ls.length) : (stepM P ls p).getD (eu p) 0 = (stepM P ls p).getD (ev P p) 0 := by
  show (mrg ls (ls.getD (eu p) 0) (ls.getD (ev P p) 0)).getD (eu p) 0 = (mrg ls (ls.getD (eu p) 0) (ls.getD (ev P p) 0)).getD (ev P p) 0
  rw [mrg_at hi, mrg_at hj]
  exact (if_pos (Or.inl rfl)).trans (if_pos (Or.inr rfl)).symm
theorem fold_eq {P : Int} : ∀ {ps : List (Int × Int)} {ls : List Int} {i j : Nat}, i < ls.length → j < ls.length → ls.getD i 0 = ls.getD j 0 → (ps.foldl (stepM P) ls).getD i 0 = (ps.foldl (stepM P) ls).getD j 0
  | [], _, _, _, _, _, e => e
  | p :: ps, ls, i, j, hi, hj, e => fold_eq (ps := ps) (ls := stepM P ls p) (by rw [step_len]; exact hi) (by rw [step_len]; exact hj) (step_eq hi hj e)
theorem fold_const {P : Int} : ∀ {ps : List (Int × Int)} {ls : List Int}, (∀ p ∈ ps, eu p < ls.length ∧ ev P p < ls.length) → ∀ p ∈ ps, (ps.foldl (stepM P) ls).getD (eu p) 0 = (ps.foldl (stepM P) ls).getD (ev P p) 0
  | q :: ps, ls, h, p, hp => by
    have hq := h q List.mem_cons_self
    rcases List.mem_cons.mp hp with e | e
    · subst e
      exact fold_eq (ls := stepM P ls p) (by rw [step_len]; exact hq.1) (by rw [step_len]; exact hq.2) (step_ends hq.1 hq.2)
    · exact fold_const (ls := stepM P ls q) (fun r hr => by rw [step_len]; exact h r (List.mem_cons_of_mem _ hr)) p e
theorem fold_conn {P : Int} {α : Type} {h : Nat → α} : ∀ {ps : List (Int × Int)} {ls : List Int}, (∀ p ∈ ps, eu p < ls.length ∧ ev P p < ls.length) → (∀ p ∈ ps, h (eu p) = h (ev P p)) →
    (∀ i j, i < ls.length → j < ls.length → ls.getD i 0 = ls.getD j 0 → h i = h j) → ∀ i j, i < ls.length → j < ls.length → (ps.foldl (stepM P) ls).getD i 0 = (ps.foldl (stepM P) ls).getD j 0 → h i = h j
  | [], _, _, _, k => k
  | p :: ps, ls, hl, hc, k => fun i j hi hj e => by
    have hp := hl p List.mem_cons_self
    have cp := hc p List.mem_cons_self
    refine fold_conn (ps := ps) (ls := stepM P ls p) (fun r hr => by rw [step_len]; exact hl r (List.mem_cons_of_mem _ hr)) (fun r hr => hc r (List.mem_cons_of_mem _ hr)) (fun a b ha hb e => ?_) i j (by rw [step_len]; exact hi) (by rw [step_len]; exact hj) e
    rw [step_len] at ha hb
    have to : ∀ c, c < ls.length → (ls.getD c 0 = ls.getD (eu p) 0 ∨ ls.getD c 0 = ls.getD (ev P p) 0) → h c = h (eu p) := fun c hc' z => by
      rcases z with z | z
      · exact k _ _ hc' hp.1 z
      · exact (k _ _ hc' hp.2 z).trans cp.symm
    rcases mrg_alike ha hb e with e | ⟨ea, eb⟩
    · exact k _ _ ha hb e
    · exact (to _ ha ea).trans (to _ hb eb).symm
theorem row0_at {n i : Nat} (h : i < n) : (row0 n).getD i 0 = (i : Int) := by
  unfold row0
  rw [getD_map0 (d := 0) (by rw [List.length_range]; exact h)]
  rw [List.getD_eq_getElem?_getD, List.getElem?_range h]
  rfl
theorem ins_ends {P W : Int} {ps : List (Int × Int)} (h : Ins P W ps) : ∀ p ∈ ps, eu p < (P + W).toNat ∧ ev P p < (P + W).toNat := fun p hp => by
  obtain ⟨a, b, c, d⟩ := h p hp
  unfold eu ev
  omega
theorem marks_const {P W : Int} {ps : List (Int × Int)} (h : Ins P W ps) : ∀ p ∈ ps, (marks P W ps).getD (eu p) 0 = (marks P W ps).getD (ev P p) 0 :=
  fold_const fun p hp => by rw [row0_len]; exact ins_ends h p hp
theorem marks_conn {P W : Int} {ps : List (Int × Int)} {α : Type} {f : Nat → α} (h : Ins P W ps) (hc : ∀ p ∈ ps, f (eu p) = f (ev P p)) {i j : Nat} (hi : i < (P + W).toNat) (hj : j < (P + W).toNat) (e : (marks P W ps).getD i 0 = (marks P W ps).getD j 0) : f i = f j := by
  refine fold_conn (h := f) (ls := row0 (P + W).toNat) (fun p hp => by rw [row0_len]; exact ins_ends h p hp) hc (fun a b ha hb e => ?_) i j (by rw [row0_len]; exact hi) (by rw [row0_len]; exact hj) e
  rw [row0_len] at ha hb
  rw [row0_at ha, row0_at hb] at e
  have : a = b := by omega
  rw [this]
theorem marks_snoc (P W : Int) (ps : List (Int × Int)) (p : Int × Int) : marks P W (ps ++ [p]) = stepM P (marks P W ps) p := by
  unfold marks
  rw [List.foldl_append]
  rfl
/-! trees -/
def Diff (P W : Int) (ps : List (Int × Int)) (p : Int × Int) : Prop := (marks P W ps).getD (eu p) 0 ≠ (marks P W ps).getD (ev P p) 0
theorem bridge {P W : Int} {T : List (Int × Int)} (ins : Ins P W T) (h : ∀ (i : Nat) (e : Int × Int), T[i]? = some e → Diff P W (T.take i) e) :
    ∀ m, m ≤ T.length → ∀ (i : Nat) (e : Int × Int), i < m → T[i]? = some e → Diff P W ((T.take m).eraseIdx i) e
  | 0, _, i, _, hi, _ => absurd hi (Nat.not_lt_zero _)
  | m + 1, hm, i, e, hi, he => by
    have hm' : m < T.length := by omega
    have tk : T.take (m + 1) = T.take m ++ [T[m]] := by
      rw [List.take_add_one, List.getElem?_eq_getElem hm']
      rfl
    have lm : (T.take m).length = m := by rw [List.length_take]; omega
    rw [tk]
    rcases Nat.lt_or_ge i m with c | c
    · have ih := bridge ins h m (by omega) i e c he
      rw [List.eraseIdx_append_of_lt_length (by rw [lm]; exact c)]
      have hx := h m T[m] (List.getElem?_eq_getElem hm')
      generalize hL : (T.take m).eraseIdx i = L at ih
      have insM : Ins P W (T.take m) := fun p hp => ins p (List.mem_of_mem_take hp)
      have subL : ∀ p ∈ L, p ∈ T.take m := fun p hp => by
        rw [← hL] at hp
        exact List.mem_of_mem_eraseIdx hp
      have insL : Ins P W L := fun p hp => insM p (subL p hp)
      have eM : e ∈ T.take m := by
        refine List.mem_of_getElem? (i := i) ?_
        rw [List.getElem?_take, if_pos c]
        exact he
      have bx := ins_ends ins T[m] (List.getElem_mem hm')
      have be := ins_ends insM e eM
      intro z
      rw [marks_snoc] at z
      have ll : (marks P W L).length = (P + W).toNat := marks_len _ _ _
      have cn : ∀ {a b : Nat}, a < (P + W).toNat → b < (P + W).toNat → (marks P W L).getD a 0 = (marks P W L).getD b 0 → (marks P W (T.take m)).getD a 0 = (marks P W (T.take m)).getD b 0 := fun {a b} ha hb q =>
        marks_conn (f := fun k => (marks P W (T.take m)).getD k 0) insL (fun p hp => marks_const insM p (subL p hp)) ha hb q
      have ee := marks_const insM e eM
      rcases mrg_alike (by rw [ll]; exact be.1) (by rw [ll]; exact be.2) z with z | ⟨z1, z2⟩
      · exact ih z
      · refine hx ?_
        rcases z1 with z1 | z1
        · rcases z2 with z2 | z2
          · exact absurd (z1.trans z2.symm) ih
          · exact (cn be.1 bx.1 z1).symm.trans (ee.trans (cn be.2 bx.2 z2))
        · rcases z2 with z2 | z2
          · exact (cn be.2 bx.1 z2).symm.trans (ee.symm.trans (cn be.1 bx.2 z1))
          · exact absurd (z1.trans z2.symm) ih
    · have : i = m := by omega
      subst this
      rw [List.eraseIdx_append_of_length_le (by rw [lm]; omega), lm, Nat.sub_self]
      show Diff P W (T.take i ++ []) e
      rw [List.append_nil]
      exact h i e he
/-- tree places and other places among the first -/
def trees (P W : Int) (ps : List (Int × Int)) : Nat → List Nat × List Nat
  | 0 => ([], [])
  | i + 1 => if (marks P W ((trees P W ps i).1.map fun k => ps.getD k (0, 0))).getD (eu (ps.getD i (0, 0))) 0 = (marks P W ((trees P W ps i).1.map fun k => ps.getD k (0, 0))).getD (ev P (ps.getD i (0, 0))) 0
      then ((trees P W ps i).1, (trees P W ps i).2 ++ [i]) else ((trees P W ps i).1 ++ [i], (trees P W ps i).2)
def pe (ps : List (Int × Int)) (k : Nat) : Int × Int := ps.getD k (0, 0)
theorem pe_mem {ps : List (Int × Int)} {k : Nat} (h : k < ps.length) : pe ps k ∈ ps := by
  unfold pe
  rw [List.getD_eq_getElem?_getD, List.getElem?_eq_getElem h]
  exact List.getElem_mem h
structure TreeInv (P W : Int) (ps : List (Int × Int)) (n : Nat) (T R : List Nat) : Prop where
  lt : ∀ k ∈ T, k < n
  ltR : ∀ k ∈ R, k < n
  nd : T.Nodup
  ndR : R.Nodup
  dj : ∀ k ∈ T, k ∉ R
  sum : ∀ f : Nat → Int, S T f + S R f = S (List.range n) f
  df : ∀ (a k : Nat), T[a]? = some k → Diff P W ((T.map (pe ps)).take a) (pe ps k)
  al : ∀ r ∈ R, ∃ a, ¬ Diff P W ((T.map (pe ps)).take a) (pe ps r)
theorem nodup_snoc {l : List Nat} {n : Nat} (h : l.Nodup) (hl : ∀ k ∈ l, k < n) : (l ++ [n]).Nodup := by
  rw [List.nodup_append]
  refine ⟨h, List.nodup_cons.mpr ⟨by simp, List.nodup_nil⟩, fun a ha b hb e => ?_⟩
  rw [List.mem_singleton] at hb
  subst hb
  have := hl a ha
  omega
theorem mem_snoc {l : List Nat} {n k : Nat} (h : k ∈ l ++ [n]) : k ∈ l ∨ k = n := by
  rcases List.mem_append.mp h with h | h
  · exact .inl h
  · exact .inr (List.mem_singleton.mp h)
theorem trees_inv (P W : Int) (ps : List (Int × Int)) : ∀ n, TreeInv P W ps n (trees P W ps n).1 (trees P W ps n).2
  | 0 => ⟨(fun _ h => nomatch h), (fun _ h => nomatch h), List.nodup_nil, List.nodup_nil, (fun _ h => nomatch h), (fun f => rfl), (fun a k h => nomatch h), (fun r h => nomatch h)⟩
  | n + 1 => by
    have I := trees_inv P W ps n
    unfold trees
    generalize (trees P W ps n).1 = T at I
    generalize (trees P W ps n).2 = R at I
    have rs : ∀ f : Nat → Int, S (List.range (n + 1)) f = S (List.range n) f + f n := fun f => by
      rw [List.range_succ, S_append, S_cons, S_nil, Int.add_zero]
    by_cases c : (marks P W (T.map fun k => ps.getD k (0, 0))).getD (eu (ps.getD n (0, 0))) 0 = (marks P W (T.map fun k => ps.getD k (0, 0))).getD (ev P (ps.getD n (0, 0))) 0
    · rw [if_pos c]
      refine ⟨fun k h => Nat.lt_succ_of_lt (I.lt k h), fun k h => ?_, I.nd, nodup_snoc I.ndR I.ltR, fun k h h2 => ?_, fun f => ?_, I.df, fun r hr => ?_⟩
      · rcases mem_snoc h with h | h
        · exact Nat.lt_succ_of_lt (I.ltR k h)
        · omega
      · rcases mem_snoc h2 with h2 | h2
        · exact I.dj k h h2
        · have := I.lt k h
          omega
      · show S T f + S (R ++ [n]) f = _
        rw [S_append, S_cons, S_nil, Int.add_zero, rs, ← I.sum f]
        omega
      · rcases mem_snoc hr with hr | hr
        · exact I.al r hr
        · subst hr
          refine ⟨T.length, fun z => z ?_⟩
          rw [List.take_of_length_le (by rw [List.length_map]; exact Nat.le_refl _)]
          exact c
    · rw [if_neg c]
      have len : (T.map (pe ps)).length = T.length := List.length_map _
      have take_le : ∀ a, a ≤ T.length → ((T ++ [n]).map (pe ps)).take a = (T.map (pe ps)).take a := fun a ha => by
        rw [List.map_append, List.take_append_of_le_length (by rw [len]; exact ha)]
      refine ⟨fun k h => ?_, fun k h => Nat.lt_succ_of_lt (I.ltR k h), nodup_snoc I.nd I.lt, I.ndR, fun k h h2 => ?_, fun f => ?_, fun a k hk => ?_, fun r hr => ?_⟩
      · rcases mem_snoc h with h | h
        · exact Nat.lt_succ_of_lt (I.lt k h)
        · omega
      · rcases mem_snoc h with h | h
        · exact I.dj k h h2
        · have := I.ltR k h2
          omega
      · show S (T ++ [n]) f + S R f = _
        rw [S_append, S_cons, S_nil, Int.add_zero, rs, ← I.sum f]
        omega
      · have ha : a < (T ++ [n]).length := (List.getElem?_eq_some_iff.mp hk).1
        rw [List.length_append, List.length_singleton] at ha
        show Diff P W (((T ++ [n]).map (pe ps)).take a) (pe ps k)
        rw [take_le a (by omega)]
        rcases Nat.lt_or_ge a T.length with l | l
        · rw [List.getElem?_append_left l] at hk
          exact I.df a k hk
        · have : a = T.length := by omega
          subst this
          rw [List.getElem?_append_right (Nat.le_refl _), Nat.sub_self] at hk
          cases hk
          rw [List.take_of_length_le (by rw [len]; exact Nat.le_refl _)]
          exact c
      · obtain ⟨a, ha⟩ := I.al r hr
        refine ⟨min a T.length, ?_⟩
        show ¬ Diff P W (((T ++ [n]).map (pe ps)).take (min a T.length)) (pe ps r)
        rw [take_le _ (Nat.min_le_right _ _)]
        rcases Nat.le_total a T.length with l | l
        · rw [Nat.min_eq_left l]
          exact ha
        · rw [Nat.min_eq_right l]
          rw [List.take_of_length_le (by rw [len]; exact l)] at ha
          rw [List.take_of_length_le (by rw [len]; exact Nat.le_refl _)]
          exact ha
theorem erase_filter : ∀ {l : List Nat} {a k : Nat}, l.Nodup → l[a]? = some k → l.eraseIdx a = l.filter fun j => decide (j ≠ k)
  | x :: l, 0, k, n, h => by
    cases h
    obtain ⟨n1, _⟩ := List.nodup_cons.mp n
    have e1 : l.filter (fun j => decide (j ≠ x)) = l := List.filter_eq_self.mpr fun y hy => decide_eq_true (p := y ≠ x) fun e => n1 (e ▸ hy)
    show l = _
    rw [List.filter_cons, if_neg (by simp), e1]
  | x :: l, a + 1, k, n, h => by
    obtain ⟨n1, n2⟩ := List.nodup_cons.mp n
    have h' : l[a]? = some k := h
    have hx : x ≠ k := fun e => n1 (e ▸ List.mem_of_getElem? h')
    show x :: l.eraseIdx a = _
    rw [List.filter_cons, if_pos (decide_eq_true hx), erase_filter n2 h']
theorem map_erase {α β : Type} (f : α → β) : ∀ (l : List α) (a : Nat), (l.map f).eraseIdx a = (l.eraseIdx a).map f
  | [], _ => rfl
  | _ :: _, 0 => rfl
  | x :: l, a + 1 => congrArg (f x :: ·) (map_erase f l a)
/-- the side of a tree place's point when it is taken away -/
def sideM (P W : Int) (ps : List (Int × Int)) (T : List Nat) (k : Nat) : List Int := marks P W ((T.filter fun j => decide (j ≠ k)).map (pe ps))
def inSide (P W : Int) (ps : List (Int × Int)) (T : List Nat) (k v : Nat) : Bool := decide ((sideM P W ps T k).getD v 0 = (sideM P W ps T k).getD (eu (pe ps k)) 0)
def cut (P W : Int) (ps : List (Int × Int)) (T : List Nat) (k j : Nat) : Int :=
  (if inSide P W ps T k (eu (pe ps j)) = true then 1 else 0) - (if inSide P W ps T k (ev P (pe ps j)) = true then 1 else 0)
theorem closed {P W : Int} {ps : List (Int × Int)} {n : Nat} {T R : List Nat} (I : TreeInv P W ps n T R) (ins : Ins P W ps) (hn : n ≤ ps.length) {due : Nat → Int} (hT : ∀ k ∈ T, due k = - S R fun j => due j * cut P W ps T k j) (f : Nat → Int) :
    S (List.range n) (fun i => due i * (f (eu (pe ps i)) - f (ev P (pe ps i)))) = 0 := by
  have mT : ∀ k ∈ T, pe ps k ∈ ps := fun k h => pe_mem (Nat.lt_of_lt_of_le (I.lt k h) hn)
  have mR : ∀ k ∈ R, pe ps k ∈ ps := fun k h => pe_mem (Nat.lt_of_lt_of_le (I.ltR k h) hn)
  have insT : Ins P W (T.map (pe ps)) := fun p hp => by
    obtain ⟨k, hk, rfl⟩ := List.mem_map.mp hp
    exact ins _ (mT k hk)
  -- the cut of one tree place at another
  have ct : ∀ k ∈ T, ∀ e ∈ T, cut P W ps T k e = if e = k then 1 else 0 := fun k hk e he => by
    have insK : Ins P W ((T.filter fun j => decide (j ≠ k)).map (pe ps)) := fun p hp => by
      obtain ⟨j, hj, rfl⟩ := List.mem_map.mp hp
      exact ins _ (mT j (List.mem_filter.mp hj).1)
    by_cases c : e = k
    · subst e
      rw [if_pos rfl]
      unfold cut
      have d : Diff P W ((T.filter fun j => decide (j ≠ k)).map (pe ps)) (pe ps k) := by
        obtain ⟨a, ha⟩ := List.getElem?_of_mem hk
        have al : a < T.length := (List.getElem?_eq_some_iff.mp ha).1
        have b := bridge insT (fun i e he => by
          rw [List.getElem?_map] at he
          obtain ⟨k', hk', rfl⟩ := Option.map_eq_some_iff.mp he
          exact I.df i k' hk') T.length (by rw [List.length_map]; exact Nat.le_refl _) a (pe ps k) al (by rw [List.getElem?_map, ha]; rfl)
        rw [List.take_of_length_le (by rw [List.length_map]; exact Nat.le_refl _), map_erase, erase_filter I.nd ha] at b
        exact b
      have e1 : inSide P W ps T k (eu (pe ps k)) = true := decide_eq_true rfl
      have e2 : inSide P W ps T k (ev P (pe ps k)) = false := decide_eq_false fun z => d z.symm
      rw [e1, e2, if_pos rfl, if_neg Bool.false_ne_true]
      rfl
    · rw [if_neg c]
      have z := marks_const insK (pe ps e) (List.mem_map.mpr ⟨e, List.mem_filter.mpr ⟨he, decide_eq_true c⟩, rfl⟩)
      unfold cut inSide sideM
      rw [z]
      omega
  -- g of every place by g of the tree places
  have gR : ∀ j ∈ R, f (eu (pe ps j)) - f (ev P (pe ps j)) = S T fun k => (f (eu (pe ps k)) - f (ev P (pe ps k))) * cut P W ps T k j := fun j hj => by
    obtain ⟨a, ha⟩ := I.al j hj
    have ha : (marks P W ((T.map (pe ps)).take a)).getD (eu (pe ps j)) 0 = (marks P W ((T.map (pe ps)).take a)).getD (ev P (pe ps j)) 0 := Decidable.not_not.mp ha
    have bj := ins_ends ins _ (mR j hj)
    have q := marks_conn (f := fun v => f v - S T fun k => (f (eu (pe ps k)) - f (ev P (pe ps k))) * (if inSide P W ps T k v = true then 1 else 0)) (fun p hp => insT p (List.mem_of_mem_take hp)) (fun p hp => ?_) bj.1 bj.2 ha
    · have q' : f (eu (pe ps j)) - f (ev P (pe ps j)) = (S T fun k => (f (eu (pe ps k)) - f (ev P (pe ps k))) * (if inSide P W ps T k (eu (pe ps j)) = true then 1 else 0)) - (S T fun k => (f (eu (pe ps k)) - f (ev P (pe ps k))) * (if inSide P W ps T k (ev P (pe ps j)) = true then 1 else 0)) := by
        have q2 : f (eu (pe ps j)) - (S T fun k => (f (eu (pe ps k)) - f (ev P (pe ps k))) * (if inSide P W ps T k (eu (pe ps j)) = true then 1 else 0)) = f (ev P (pe ps j)) - (S T fun k => (f (eu (pe ps k)) - f (ev P (pe ps k))) * (if inSide P W ps T k (ev P (pe ps j)) = true then 1 else 0)) := q
        omega
      rw [q']
      have ad := S_add (fun k => (f (eu (pe ps k)) - f (ev P (pe ps k))) * cut P W ps T k j) (fun k => (f (eu (pe ps k)) - f (ev P (pe ps k))) * (if inSide P W ps T k (ev P (pe ps j)) = true then 1 else 0)) T
      have eq : (S T fun k => (f (eu (pe ps k)) - f (ev P (pe ps k))) * cut P W ps T k j + (f (eu (pe ps k)) - f (ev P (pe ps k))) * (if inSide P W ps T k (ev P (pe ps j)) = true then 1 else 0)) = S T fun k => (f (eu (pe ps k)) - f (ev P (pe ps k))) * (if inSide P W ps T k (eu (pe ps j)) = true then 1 else 0) := S_congr fun k _ => by
        rw [← Int.mul_add]
        unfold cut
        rw [Int.sub_add_cancel]
      rw [eq] at ad
      omega
    · have hp2 := List.mem_of_mem_take hp
      obtain ⟨e, he, rfl⟩ := List.mem_map.mp hp2
      show f (eu (pe ps e)) - _ = f (ev P (pe ps e)) - _
      have ad := S_add (fun k => (f (eu (pe ps k)) - f (ev P (pe ps k))) * cut P W ps T k e) (fun k => (f (eu (pe ps k)) - f (ev P (pe ps k))) * (if inSide P W ps T k (ev P (pe ps e)) = true then 1 else 0)) T
      have eq : (S T fun k => (f (eu (pe ps k)) - f (ev P (pe ps k))) * cut P W ps T k e + (f (eu (pe ps k)) - f (ev P (pe ps k))) * (if inSide P W ps T k (ev P (pe ps e)) = true then 1 else 0)) = S T fun k => (f (eu (pe ps k)) - f (ev P (pe ps k))) * (if inSide P W ps T k (eu (pe ps e)) = true then 1 else 0) := S_congr fun k _ => by
        rw [← Int.mul_add]
        unfold cut
        rw [Int.sub_add_cancel]
      have on : (S T fun k => (f (eu (pe ps k)) - f (ev P (pe ps k))) * cut P W ps T k e) = f (eu (pe ps e)) - f (ev P (pe ps e)) := by
        rw [S_one (k := e) I.nd he fun k hk ne => by
          rw [ct k hk e he, if_neg fun z => ne z.symm, Int.mul_zero]]
        rw [ct e he e he, if_pos rfl, Int.mul_one]
      rw [eq, on] at ad
      omega
  rw [← I.sum]
  have sR : (S R fun i => due i * (f (eu (pe ps i)) - f (ev P (pe ps i)))) = S T fun k => S R fun j => due j * ((f (eu (pe ps k)) - f (ev P (pe ps k))) * cut P W ps T k j) := by
    rw [← S_comm]
    refine S_congr fun j hj => ?_
    rw [gR j hj]
    exact (S_mul _ _ _).symm
  have sT : (S T fun i => due i * (f (eu (pe ps i)) - f (ev P (pe ps i)))) = S T fun k => - (S R fun j => due j * ((f (eu (pe ps k)) - f (ev P (pe ps k))) * cut P W ps T k j)) := S_congr fun k hk => by
    rw [hT k hk]
    have : (S R fun j => due j * ((f (eu (pe ps k)) - f (ev P (pe ps k))) * cut P W ps T k j)) = (f (eu (pe ps k)) - f (ev P (pe ps k))) * S R fun j => due j * cut P W ps T k j := by
      rw [← S_mul]
      exact S_congr fun j _ => by rw [Int.mul_left_comm]
    rw [this, Int.neg_mul, Int.mul_comm]
  rw [sR, sT, ← S_add]
  exact S_zero fun k _ => Int.add_left_neg _
/-! the tour by its numbers at the other places -/
def puts (l : List Int) : List (Nat × Int) → List Int := fun q => q.foldl (fun l p => l.set p.1 p.2) l
theorem puts_len : ∀ (q : List (Nat × Int)) (l : List Int), (puts l q).length = l.length
  | [], _ => rfl
  | p :: q, l => by
    show (puts (l.set p.1 p.2) q).length = _
    rw [puts_len q, List.length_set]
theorem puts_off : ∀ {q : List (Nat × Int)} {l : List Int} {j : Nat}, (∀ p ∈ q, p.1 ≠ j) → (puts l q).getD j 0 = l.getD j 0
  | [], _, _, _ => rfl
  | p :: q, l, j, h => by
    show (puts (l.set p.1 p.2) q).getD j 0 = _
    rw [puts_off fun r hr => h r (List.mem_cons_of_mem _ hr), List.getD_eq_getElem?_getD, List.getElem?_set_ne (h p List.mem_cons_self), ← List.getD_eq_getElem?_getD]
theorem puts_at {v : Nat → Int} : ∀ {T : List Nat} {l : List Int} {k : Nat}, T.Nodup → k ∈ T → (∀ j ∈ T, j < l.length) → (puts l (T.map fun k => (k, v k))).getD k 0 = v k
  | x :: T, l, k, n, h, hl => by
    obtain ⟨n1, n2⟩ := List.nodup_cons.mp n
    show (puts (l.set x (v x)) (T.map fun k => (k, v k))).getD k 0 = _
    by_cases e : k = x
    · subst e
      rw [puts_off fun p hp => by
        obtain ⟨j, hj, rfl⟩ := List.mem_map.mp hp
        exact fun (e : j = k) => n1 (e ▸ hj)]
      rw [List.getD_eq_getElem?_getD, List.getElem?_set_self (hl k List.mem_cons_self)]
      rfl
    · have h2 : k ∈ T := by
        rcases List.mem_cons.mp h with h | h
        · exact absurd h e
        · exact h
      exact puts_at n2 h2 fun j hj => by
        rw [List.length_set]
        exact hl j (List.mem_cons_of_mem _ hj)
def toldL (n : Nat) (R : List Nat) (row : List Int) : List Int := puts (List.replicate n 0) (R.zip row)
def totalI (P W : Int) (ps : List (Int × Int)) (T R : List Nat) (told : List Int) (k : Nat) : Int := S R fun j => told.getD j 0 * cut P W ps T k j
def dueL (P W : Int) (ps : List (Int × Int)) (T R : List Nat) (told : List Int) : List Int := puts told (T.map fun k => (k, 0 - totalI P W ps T R told k))
def tourOf (P W : Int) (ps : List (Int × Int)) (row : List Int) : List Int :=
  dueL P W ps (trees P W ps ps.length).1 (trees P W ps ps.length).2 (toldL ps.length (trees P W ps ps.length).2 row)
theorem told_len {n : Nat} {R : List Nat} {row : List Int} : (toldL n R row).length = n := by
  unfold toldL
  rw [puts_len, List.length_replicate]
theorem tourOf_len {P W : Int} {ps : List (Int × Int)} {row : List Int} : (tourOf P W ps row).length = ps.length := by
  unfold tourOf dueL
  rw [puts_len, told_len]
/-- S over the places -/
theorem S_range_succ (n : Nat) (f : Nat → Int) : S (List.range (n + 1)) f = f 0 + S (List.range n) fun i => f (i + 1) := by
  rw [List.range_succ_eq_map, S_cons, S_map]
theorem S_zip {F : Int × Int → Int → Int} : ∀ {ps : List (Int × Int)} {ns : List Int}, ns.length = ps.length → S (ps.zip ns) (fun q => F q.1 q.2) = S (List.range ps.length) fun i => F (pe ps i) (ns.getD i 0)
  | [], [], _ => rfl
  | p :: ps, x :: ns, h => by
    rw [List.zip_cons_cons, S_cons, S_zip (ps := ps) (ns := ns) (Nat.succ.inj h), List.length_cons, S_range_succ]
    rfl
def ptSum (ps : List (Int × Int)) (ns : List Int) (x : Int) : Int := S (ps.zip ns) fun q => if q.1.1 = x then q.2 else 0
def wlSum (ps : List (Int × Int)) (ns : List Int) (y : Int) : Int := S (ps.zip ns) fun q => if q.1.2 = y then q.2 else 0
structure Tour (P W : Int) (ps : List (Int × Int)) (ns : List Int) : Prop where
  len : ns.length = ps.length
  pt : ∀ x : Int, 0 ≤ x → x < P → ptSum ps ns x = 0
  wl : ∀ y : Int, 0 ≤ y → y < W → wlSum ps ns y = 0
theorem pe_at {ps : List (Int × Int)} {i : Nat} (h : i < ps.length) : ps[i]? = some (pe ps i) := by
  unfold pe
  rw [List.getD_eq_getElem?_getD, List.getElem?_eq_getElem h]
  rfl
theorem tour_by {P W : Int} {ps : List (Int × Int)} {ns : List Int} (ins : Ins P W ps) (hl : ns.length = ps.length)
    (h : ∀ f : Nat → Int, S (List.range ps.length) (fun i => ns.getD i 0 * (f (eu (pe ps i)) - f (ev P (pe ps i)))) = 0) : Tour P W ps ns := by
  refine ⟨hl, fun x x0 x1 => ?_, fun y y0 y1 => ?_⟩
  · refine (S_zip (F := fun p n => if p.1 = x then n else 0) hl).trans ?_
    refine Eq.trans ?_ (h fun v => if v = x.toNat then 1 else 0)
    refine S_congr fun i hi => ?_
    obtain ⟨a, b, c, d⟩ := ins _ (pe_mem (List.mem_range.mp hi))
    rw [if_neg (show ¬ ev P (pe ps i) = x.toNat from by unfold ev; omega)]
    by_cases e : (pe ps i).1 = x
    · rw [if_pos e, if_pos (show eu (pe ps i) = x.toNat from by unfold eu; rw [e])]
      omega
    · rw [if_neg e, if_neg (show ¬ eu (pe ps i) = x.toNat from by unfold eu; omega)]
      omega
  · refine (S_zip (F := fun p n => if p.2 = y then n else 0) hl).trans ?_
    refine Eq.trans ?_ (h fun v => if v = (P + y).toNat then -1 else 0)
    refine S_congr fun i hi => ?_
    obtain ⟨a, b, c, d⟩ := ins _ (pe_mem (List.mem_range.mp hi))
    rw [if_neg (show ¬ eu (pe ps i) = (P + y).toNat from by unfold eu; omega)]
    by_cases e : (pe ps i).2 = y
    · rw [if_pos e, if_pos (show ev P (pe ps i) = (P + y).toNat from by unfold ev; rw [e])]
      omega
    · rw [if_neg e, if_neg (show ¬ ev P (pe ps i) = (P + y).toNat from by unfold ev; omega)]
      omega
theorem tourOf_tour {P W : Int} {ps : List (Int × Int)} {row : List Int} (ins : Ins P W ps) : Tour P W ps (tourOf P W ps row) := by
  refine tour_by ins tourOf_len fun f => ?_
  have I := trees_inv P W ps ps.length
  unfold tourOf
  generalize (trees P W ps ps.length).1 = T at I
  generalize (trees P W ps ps.length).2 = R at I
  have lt : (toldL ps.length R row).length = ps.length := told_len
  generalize toldL ps.length R row = told at lt
  have onR : ∀ j ∈ R, (dueL P W ps T R told).getD j 0 = told.getD j 0 := fun j hj => puts_off fun p hp => by
    obtain ⟨k, hk, rfl⟩ := List.mem_map.mp hp
    exact fun (e : k = j) => I.dj k hk (e ▸ hj)
  have onT : ∀ k ∈ T, (dueL P W ps T R told).getD k 0 = 0 - totalI P W ps T R told k := fun k hk => puts_at I.nd hk fun j hj => by
    rw [lt]
    exact I.lt j hj
  refine closed (due := fun i => (dueL P W ps T R told).getD i 0) I ins (Nat.le_refl _) (fun k hk => ?_) f
  rw [onT k hk, Int.zero_sub]
  refine congrArg _ (S_congr fun j hj => ?_)
  rw [onR j hj]
/-! sizes -/
def Bnd (B : Int) (l : List Int) : Prop := ∀ x ∈ l, -B ≤ x ∧ x ≤ B
theorem bnd_at {B : Int} (hB : 0 ≤ B) {l : List Int} (h : Bnd B l) (i : Nat) : -B ≤ l.getD i 0 ∧ l.getD i 0 ≤ B := by
  rw [List.getD_eq_getElem?_getD]
  cases e : l[i]? with
  | none => exact ⟨by show -B ≤ 0; omega, by show (0 : Int) ≤ B; omega⟩
  | some x => exact h x (List.mem_of_getElem? e)
theorem puts_bnd {B : Int} : ∀ {q : List (Nat × Int)} {l : List Int}, Bnd B l → (∀ p ∈ q, -B ≤ p.2 ∧ p.2 ≤ B) → Bnd B (puts l q)
  | [], _, h, _ => h
  | p :: q, l, h, hq => puts_bnd (q := q) (l := l.set p.1 p.2) (fun x hx => by
      rcases List.mem_or_eq_of_mem_set hx with e | e
      · exact h x e
      · rw [e]
        exact hq p List.mem_cons_self) fun r hr => hq r (List.mem_cons_of_mem _ hr)
theorem S_bnd {α : Type} {f : α → Int} {B : Int} : ∀ {l : List α}, (∀ x ∈ l, -B ≤ f x ∧ f x ≤ B) → -(l.length * B) ≤ S l f ∧ S l f ≤ l.length * B
  | [], _ => by
    rw [S_nil, List.length_nil]
    simp
  | x :: l, h => by
    obtain ⟨a, b⟩ := h x List.mem_cons_self
    obtain ⟨c, d⟩ := S_bnd (l := l) fun y hy => h y (List.mem_cons_of_mem _ hy)
    rw [S_cons, List.length_cons]
    have e : ((l.length + 1 : Nat) : Int) * B = l.length * B + B := by
      rw [Int.natCast_add, Int.add_mul]
      show _ + 1 * B = _
      rw [Int.one_mul]
    rw [e]
    omega
theorem cut_range {P W : Int} {ps : List (Int × Int)} {T : List Nat} {k j : Nat} : cut P W ps T k j = 0 ∨ cut P W ps T k j = 1 ∨ cut P W ps T k j = -1 := by
  unfold cut
  cases inSide P W ps T k (eu (pe ps j)) <;> cases inSide P W ps T k (ev P (pe ps j)) <;> simp
theorem tourOf_bnd {P W : Int} {ps : List (Int × Int)} {row : List Int} {B : Int} (hB : 0 ≤ B) (h : Bnd B row) (hn : ps.length ≤ 25) : Bnd (25 * B) (tourOf P W ps row) := by
  have I := trees_inv P W ps ps.length
  unfold tourOf
  generalize (trees P W ps ps.length).1 = T at I
  generalize (trees P W ps ps.length).2 = R at I
  have z : Bnd B (toldL ps.length R row) := puts_bnd (fun x hx => by
    rw [List.eq_of_mem_replicate hx]
    omega) fun p hp => h _ (List.of_mem_zip hp).2
  have lR : R.length ≤ 25 := by
    have hs := I.sum fun _ => 1
    have cnt : ∀ l : List Nat, S l (fun _ => 1) = (l.length : Int) := fun l => by
      induction l with
      | nil => rfl
      | cons x l ih =>
        rw [S_cons, ih, List.length_cons]
        omega
    rw [cnt, cnt, cnt, List.length_range] at hs
    omega
  generalize toldL ps.length R row = told at z
  refine puts_bnd (fun x hx => ?_) fun p hp => ?_
  · have := z x hx
    omega
  · obtain ⟨k, _, rfl⟩ := List.mem_map.mp hp
    have b := S_bnd (l := R) (f := fun j => told.getD j 0 * cut P W ps T k j) (B := B) fun j _ => by
      obtain ⟨a, b⟩ := bnd_at hB z j
      rcases cut_range (P := P) (W := W) (ps := ps) (T := T) (k := k) (j := j) with e | e | e
      · rw [e, Int.mul_zero]; omega
      · rw [e, Int.mul_one]; omega
      · rw [e, Int.mul_neg, Int.mul_one]; omega
    have m : (R.length : Int) * B ≤ 25 * B := Int.mul_le_mul_of_nonneg_right (by omega) hB
    dsimp only [totalI]
    omega
/-! spoiled tours -/
theorem tour_set {P W : Int} {ps : List (Int × Int)} {ns ms : List Int} {i : Nat} (ins : Ins P W ps) (t : Tour P W ps ns) (hi : i < ps.length) (off : ∀ j, j ≠ i → ms.getD j 0 = ns.getD j 0) (at_ : ms.getD i 0 ≠ ns.getD i 0) : ¬ Tour P W ps ms := fun z => by
  obtain ⟨a, b, c, d⟩ := ins _ (pe_mem hi)
  have h1 := t.pt _ a b
  have h2 := z.pt _ a b
  have e1 := (S_zip (F := fun p n => if p.1 = (pe ps i).1 then n else 0) t.len).symm.trans h1
  have e2 := (S_zip (F := fun p n => if p.1 = (pe ps i).1 then n else 0) z.len).symm.trans h2
  have e3 := S_add (fun j => if (pe ps j).1 = (pe ps i).1 then ns.getD j 0 else 0) (fun j => if (pe ps j).1 = (pe ps i).1 then ms.getD j 0 - ns.getD j 0 else 0) (List.range ps.length)
  have e4 : S (List.range ps.length) (fun j => (if (pe ps j).1 = (pe ps i).1 then ns.getD j 0 else 0) + (if (pe ps j).1 = (pe ps i).1 then ms.getD j 0 - ns.getD j 0 else 0)) = S (List.range ps.length) fun j => if (pe ps j).1 = (pe ps i).1 then ms.getD j 0 else 0 := S_congr fun j _ => by
    by_cases e : (pe ps j).1 = (pe ps i).1
    · rw [if_pos e, if_pos e, if_pos e]; omega
    · rw [if_neg e, if_neg e, if_neg e]; rfl
  have e5 := S_one (f := fun j => if (pe ps j).1 = (pe ps i).1 then ms.getD j 0 - ns.getD j 0 else 0) (k := i) List.nodup_range (List.mem_range.mpr hi) fun j _ ne => by
    rw [off j ne, Int.sub_self]
    exact ite_self _
  rw [e4, e5] at e3
  rw [if_pos rfl] at e3
  have e1' : S (List.range ps.length) (fun j => if (pe ps j).1 = (pe ps i).1 then ns.getD j 0 else 0) = 0 := e1
  have e2' : S (List.range ps.length) (fun j => if (pe ps j).1 = (pe ps i).1 then ms.getD j 0 else 0) = 0 := e2
  omega
theorem tour_mate {P W : Int} {ps : List (Int × Int)} {ns ms : List Int} {i m : Nat} {s : Int} (ins : Ins P W ps) (nd : ps.Nodup) (t : Tour P W ps ns) (hi : i < ps.length) (hm : m < ps.length) (ne : m ≠ i) (row : (pe ps m).1 = (pe ps i).1) (hs : s ≠ 0)
    (val : ∀ j, j < ps.length → ms.getD j 0 = ns.getD j 0 + (if j = i then s else 0) - (if j = m then s else 0)) : ¬ Tour P W ps ms := fun z => by
  obtain ⟨a, b, c, d⟩ := ins _ (pe_mem hi)
  have col : (pe ps m).2 ≠ (pe ps i).2 := fun e => by
    have : pe ps m = pe ps i := Prod.ext row e
    have h1 := pe_at hm
    have h2 := pe_at hi
    rw [this, ← h2] at h1
    exact ne ((List.getElem?_inj hm nd).mp h1)
  have h1 := t.wl _ c d
  have h2 := z.wl _ c d
  have e1 := (S_zip (F := fun p n => if p.2 = (pe ps i).2 then n else 0) t.len).symm.trans h1
  have e2 := (S_zip (F := fun p n => if p.2 = (pe ps i).2 then n else 0) z.len).symm.trans h2
  have e3 := S_add (fun j => if (pe ps j).2 = (pe ps i).2 then ns.getD j 0 else 0) (fun j => if (pe ps j).2 = (pe ps i).2 then (if j = i then s else 0) - (if j = m then s else 0) else 0) (List.range ps.length)
  have e4 : S (List.range ps.length) (fun j => (if (pe ps j).2 = (pe ps i).2 then ns.getD j 0 else 0) + (if (pe ps j).2 = (pe ps i).2 then (if j = i then s else 0) - (if j = m then s else 0) else 0)) = S (List.range ps.length) fun j => if (pe ps j).2 = (pe ps i).2 then ms.getD j 0 else 0 := S_congr fun j hj => by
    rw [val j (List.mem_range.mp hj)]
    by_cases e : (pe ps j).2 = (pe ps i).2
    · rw [if_pos e, if_pos e, if_pos e]; omega
    · rw [if_neg e, if_neg e, if_neg e]; rfl
  have e5 := S_one (f := fun j => if (pe ps j).2 = (pe ps i).2 then (if j = i then s else 0) - (if j = m then s else 0) else 0) (k := i) List.nodup_range (List.mem_range.mpr hi) fun j _ nj => by
    by_cases e : (pe ps j).2 = (pe ps i).2
    · rw [if_pos e, if_neg nj, if_neg fun (q : j = m) => col (q ▸ e)]
      rfl
    · rw [if_neg e]
  rw [e4, e5] at e3
  rw [if_pos rfl, if_pos rfl, if_neg fun q => ne q.symm] at e3
  have e1' : S (List.range ps.length) (fun j => if (pe ps j).2 = (pe ps i).2 then ns.getD j 0 else 0) = 0 := e1
  have e2' : S (List.range ps.length) (fun j => if (pe ps j).2 = (pe ps i).2 then ms.getD j 0 else 0) = 0 := e2
  omega
end K01
set_option Elab.async false
set_option linter.all false
set_option maxRecDepth 100000
set_option maxHeartbeats 4000000
set_option exponentiation.threshold 5000
namespace K01
open PySem PySem.Spec PyProof.Rows L2 TkS
/-! the word due of a tour -/
def intD : PyData → Int
  | .int i => i
  | _ => 0
def ptL (P : Int) (ps : List (Int × Int)) (ns : List Int) : List Int := (List.range P.toNat).map fun (x : Nat) => ptSum ps ns (x : Int)
def wlL (W : Int) (ps : List (Int × Int)) (ns : List Int) : List Int := (List.range W.toNat).map fun (y : Nat) => wlSum ps ns (y : Int)
def anyNz (l : List Int) : Bool := l.any fun z => decide (z ≠ 0)
def tourW (P W : Int) (ps : List (Int × Int)) (d : PyData) : Option Str :=
  match itemsD d with
  | none => some "length"
  | some ds => if ds.length = ps.length then
      if ds.all isIntD = true then
        if anyNz (ptL P ps (ds.map intD)) = true then some "point"
        else if anyNz (wlL W ps (ds.map intD)) = true then some "wall" else none
      else some "number"
    else some "length"
theorem ints_of : ∀ {ds : List PyData}, ds.all isIntD = true → ds = (ds.map intD).map PyData.int
  | [], _ => rfl
  | d :: ds, h => by
    rw [List.all_cons, Bool.and_eq_true] at h
    rw [List.map_cons, List.map_cons, ← ints_of h.2]
    cases d with
    | int i => rfl
    | _ => exact absurd h.1 (fun z => by cases z)
theorem any_false {l : List Int} (h : anyNz l = false) : ∀ z ∈ l, z = 0 := fun z hz => by
  have := List.any_eq_false.mp h z hz
  exact Decidable.not_not.mp fun c => this (decide_eq_true c)
theorem any_of {l : List Int} (h : ∀ z ∈ l, z = 0) : anyNz l = false := List.any_eq_false.mpr fun z hz => by
  rw [decide_eq_false (by rw [h z hz]; simp)]
  exact Bool.false_ne_true
theorem pt_all {P : Int} {ps : List (Int × Int)} {ns : List Int} : anyNz (ptL P ps ns) = false ↔ ∀ x : Int, 0 ≤ x → x < P → ptSum ps ns x = 0 := by
  constructor
  · intro h x x0 x1
    have := any_false h (ptSum ps ns x) (List.mem_map.mpr ⟨x.toNat, List.mem_range.mpr (by omega), by rw [Int.toNat_of_nonneg x0]⟩)
    exact this
  · intro h
    refine any_of fun z hz => ?_
    obtain ⟨k, hk, rfl⟩ := List.mem_map.mp hz
    have := List.mem_range.mp hk
    exact h _ (by omega) (by omega)
theorem wl_all {W : Int} {ps : List (Int × Int)} {ns : List Int} : anyNz (wlL W ps ns) = false ↔ ∀ y : Int, 0 ≤ y → y < W → wlSum ps ns y = 0 := by
  constructor
  · intro h x x0 x1
    have := any_false h (wlSum ps ns x) (List.mem_map.mpr ⟨x.toNat, List.mem_range.mpr (by omega), by rw [Int.toNat_of_nonneg x0]⟩)
    exact this
  · intro h
    refine any_of fun z hz => ?_
    obtain ⟨k, hk, rfl⟩ := List.mem_map.mp hz
    have := List.mem_range.mp hk
    exact h _ (by omega) (by omega)
theorem map_intD (ns : List Int) : (ns.map PyData.int).map intD = ns := by
  rw [List.map_map, show (intD ∘ PyData.int) = id from rfl, List.map_id]
theorem all_int (ns : List Int) : (ns.map PyData.int).all isIntD = true := by
  rw [List.all_map, List.all_eq_true]
  exact fun _ _ => rfl
/-- just the tours have no word -/
theorem tourW_none {P W : Int} {ps : List (Int × Int)} {d : PyData} : tourW P W ps d = none ↔ ∃ ns : List Int, itemsD d = some (ns.map PyData.int) ∧ Tour P W ps ns := by
  constructor
  · intro h
    unfold tourW at h
    cases e : itemsD d with
    | none =>
      rw [e] at h
      cases h
    | some ds =>
      rw [e] at h
      dsimp only at h
      by_cases c1 : ds.length = ps.length
      · rw [if_pos c1] at h
        cases c2 : ds.all isIntD with
        | false =>
          rw [c2, if_neg Bool.false_ne_true] at h
          cases h
        | true =>
          rw [c2, if_pos rfl] at h
          cases c3 : anyNz (ptL P ps (ds.map intD)) with
          | true =>
            rw [c3, if_pos rfl] at h
            cases h
          | false =>
            rw [c3, if_neg Bool.false_ne_true] at h
            cases c4 : anyNz (wlL W ps (ds.map intD)) with
            | true =>
              rw [c4, if_pos rfl] at h
              cases h
            | false =>
              exact ⟨ds.map intD, congrArg some (ints_of c2), by rw [List.length_map]; exact c1, pt_all.mp c3, wl_all.mp c4⟩
      · rw [if_neg c1] at h
        cases h
  · rintro ⟨ns, e, t⟩
    unfold tourW
    rw [e]
    dsimp only
    rw [if_pos (by rw [List.length_map]; exact t.len), if_pos (all_int ns), map_intD, pt_all.mpr t.pt, wl_all.mpr t.wl]
    rfl
/-! the sums under way -/
theorem S_snoc {α : Type} (l : List α) (x : α) (f : α → Int) : S (l ++ [x]) f = S l f + f x := by
  rw [S_append, S_cons, S_nil, Int.add_zero]
theorem zip_take {ps : List (Int × Int)} {ns : List Int} {i : Nat} {p : Int × Int} {n : Int} (hp : ps[i]? = some p) (hn : ns[i]? = some n) : (ps.take (i + 1)).zip (ns.take (i + 1)) = (ps.take i).zip (ns.take i) ++ [(p, n)] := by
  have lp := (List.getElem?_eq_some_iff.mp hp).1
  have ln := (List.getElem?_eq_some_iff.mp hn).1
  rw [List.take_add_one, List.take_add_one, hp, hn, List.zip_append (by rw [List.length_take, List.length_take]; omega)]
  rfl
theorem ptL_step {P : Int} {ps : List (Int × Int)} {ns : List Int} {i : Nat} {p : Int × Int} {n : Int} (hp : ps[i]? = some p) (hn : ns[i]? = some n) (p0 : 0 ≤ p.1) (p1 : p.1 < P) :
    ptL P (ps.take (i + 1)) (ns.take (i + 1)) = (ptL P (ps.take i) (ns.take i)).set p.1.toNat (ptSum (ps.take i) (ns.take i) p.1 + n) := by
  refine List.ext_getElem? fun j => ?_
  unfold ptL
  rw [List.getElem?_map, List.getElem?_set, List.getElem?_map, List.length_map, List.length_range]
  by_cases c : j < P.toNat
  · rw [List.getElem?_range c]
    by_cases e : p.1.toNat = j
    · rw [if_pos e, if_pos (by omega)]
      show some (ptSum _ _ (j : Int)) = _
      have ej : (j : Int) = p.1 := by omega
      rw [ej]
      unfold ptSum
      rw [zip_take hp hn, S_snoc]
      dsimp only
      rw [if_pos rfl]
    · rw [if_neg e]
      show some (ptSum _ _ (j : Int)) = some (ptSum _ _ (j : Int))
      unfold ptSum
      rw [zip_take hp hn, S_snoc]
      dsimp only
      rw [if_neg (by omega), Int.add_zero]
  · have z : (List.range P.toNat)[j]? = none := List.getElem?_eq_none (by rw [List.length_range]; omega)
    rw [z]
    by_cases e : p.1.toNat = j
    · omega
    · rw [if_neg e]
      rfl
theorem wlL_step {W : Int} {ps : List (Int × Int)} {ns : List Int} {i : Nat} {p : Int × Int} {n : Int} (hp : ps[i]? = some p) (hn : ns[i]? = some n) (p0 : 0 ≤ p.2) (p1 : p.2 < W) :
    wlL W (ps.take (i + 1)) (ns.take (i + 1)) = (wlL W (ps.take i) (ns.take i)).set p.2.toNat (wlSum (ps.take i) (ns.take i) p.2 + n) := by
  refine List.ext_getElem? fun j => ?_
  unfold wlL
  rw [List.getElem?_map, List.getElem?_set, List.getElem?_map, List.length_map, List.length_range]
  by_cases c : j < W.toNat
  · rw [List.getElem?_range c]
    by_cases e : p.2.toNat = j
    · rw [if_pos e, if_pos (by omega)]
      show some (wlSum _ _ (j : Int)) = _
      have ej : (j : Int) = p.2 := by omega
      rw [ej]
      unfold wlSum
      rw [zip_take hp hn, S_snoc]
      dsimp only
      rw [if_pos rfl]
    · rw [if_neg e]
      show some (wlSum _ _ (j : Int)) = some (wlSum _ _ (j : Int))
      unfold wlSum
      rw [zip_take hp hn, S_snoc]
      dsimp only
      rw [if_neg (by omega), Int.add_zero]
  · have z : (List.range W.toNat)[j]? = none := List.getElem?_eq_none (by rw [List.length_range]; omega)
    rw [z]
    by_cases e : p.2.toNat = j
    · omega
    · rw [if_neg e]
      rfl
theorem ptL_at {P : Int} {ps : List (Int × Int)} {ns : List Int} {x : Int} (x0 : 0 ≤ x) (x1 : x < P) : atI ((ptL P ps ns).map V.int) x = some (.int (ptSum ps ns x)) := by
  refine at_of (j := x.toNat) (by omega) ?_
  unfold ptL
  rw [List.getElem?_map, List.getElem?_map, List.getElem?_range (by omega)]
  show some (V.int (ptSum ps ns (x.toNat : Int))) = _
  rw [Int.toNat_of_nonneg x0]
theorem wlL_at {W : Int} {ps : List (Int × Int)} {ns : List Int} {y : Int} (y0 : 0 ≤ y) (y1 : y < W) : atI ((wlL W ps ns).map V.int) y = some (.int (wlSum ps ns y)) := by
  refine at_of (j := y.toNat) (by omega) ?_
  unfold wlL
  rw [List.getElem?_map, List.getElem?_map, List.getElem?_range (by omega)]
  show some (V.int (wlSum ps ns (y.toNat : Int))) = _
  rw [Int.toNat_of_nonneg y0]
theorem ptL_nil {P : Int} : ptL P [] [] = List.replicate P.toNat 0 := by
  unfold ptL ptSum
  refine List.ext_getElem? fun j => ?_
  rw [List.getElem?_map, List.getElem?_replicate]
  by_cases c : j < P.toNat
  · rw [List.getElem?_range c, if_pos c]
    rfl
  · rw [List.getElem?_eq_none (by rw [List.length_range]; omega), if_neg c]
    rfl
theorem wlL_nil {W : Int} : wlL W [] [] = List.replicate W.toNat 0 := by
  unfold wlL wlSum
  refine List.ext_getElem? fun j => ?_
  rw [List.getElem?_map, List.getElem?_replicate]
  by_cases c : j < W.toNat
  · rw [List.getElem?_range c, if_pos c]
    rfl
  · rw [List.getElem?_eq_none (by rw [List.length_range]; omega), if_neg c]
    rfl
end K01
set_option Elab.async false
set_option linter.all false
set_option maxRecDepth 100000
set_option maxHeartbeats 4000000
set_option exponentiation.threshold 5000
namespace K01
open PySem PySem.Spec PyProof.Rows L2 TkS
def Told (C : Addr) (e : Str) (H : Hp) (E : XK) : Prop := ∀ b H', Same H H' → H' b = some (.xd [("what", .str e)]) → E (.ref C) (some b) H'
def sp_check_tour (C CT : Addr) : Sp := fun vs H Q E => ∃ (a : Addr) (x : V) (d : PyData) (P W : Int) (ps : List (Int × Int)), vs = [.ref a, x] ∧ Pic C H a P W ps ∧ Dq H x d ∧
  (∀ e, tourW P W ps d = some e → Told CT e H E) ∧ (∀ ds, tourW P W ps d = none → itemsD d = some ds → ∀ l H', Same H H' → Dq H' (.ref l) (.tuple ds) → Q (.ref l) H')
section
variable {P : Program} {w : World} {K : PySem.W.Frag} {mg : Str → Option Value} {base : Heap}
theorem pic_len {C a : Addr} {H : Hp} {P W : Int} {ps : List (Int × Int)} (h : Pic C H a P W ps) : ps.length ≤ 25 := by
  obtain ⟨h1, h2, h3, h4⟩ := h.ok
  have n := asc_nodup h.asc
  have l := nd_le n (B := fullPs P.toNat W.toNat) (fun p hp => mem_fullPs.mpr (by have := h.ins p hp; omega))
  rw [fullPs_len] at l
  have : P.toNat * W.toNat ≤ 5 * 5 := Nat.mul_le_mul (by omega) (by omega)
  omega
theorem ixN_of {n : Nat} {k : Int} (h0 : 0 ≤ k) (h1 : k < n) : ixN n k = some k.toNat := by
  unfold ixN
  rw [if_pos h0, if_pos h1]
theorem ptL_len {P : Int} {ps : List (Int × Int)} {ns : List Int} : (ptL P ps ns).length = P.toNat := by
  unfold ptL
  rw [List.length_map, List.length_range]
theorem wlL_len {W : Int} {ps : List (Int × Int)} {ns : List Int} : (wlL W ps ns).length = W.toNat := by
  unfold wlL
  rw [List.length_map, List.length_range]
theorem wi_any {x : V} {H : Hp} {d : PyData} (k : Dq H x d) : wholeIn x .non .non = isIntD d := by cases k <;> rfl
theorem prs_get {H : Hp} {xs : List V} {ps : List (Int × Int)} {i : Nat} {x : V} (h : DqAll H xs (ps.map prD)) (hx : xs[i]? = some x) : ∃ (t : Addr) (p : Int × Int), x = .ref t ∧ ps[i]? = some p ∧ H t = some (.tup [.int p.1, .int p.2]) := pr_items h hx
theorem ok_check_tourN (T : Txt K mg) : FnOk P w K mg base (L2N.CX P w) 3 T.f_check_tour T.d_check_tour ["picture", "tour"] (sp_check_tour T.C_Picture T.C_BadTour) := by
  refine Fun.okN T.F_check_tour sc_check_tour (fun vs H Q E h => ?_) (fun cdv A outer s H vs Q E hr h => ?_)
  · obtain ⟨a, x, d, P', W, ps, rfl, _⟩ := h
    rfl
  · obtain ⟨a, x, d, P', W, ps, rfl, hp, hk, hE, hQ⟩ := h
    refine ⟨_, (pss_cons (ps_if (pt_not (pt_val (pe_call (ok_is_sequence T) (hr.mono (by decide)) (by rfl) T.g_is_sequence T.F_is_sequence.kp T.b_is_sequence .nil pass0 (pa_cons (pv 1) (pa_cons (pe_callB (call_lenOwn (ok_Picture_len T) (hr.mono (by decide)) T.len_at T.len_fn T.b_Picture_len pass0) (by rfl) T.m_len (by decide +kernel) (pa_cons (pv 0) pa_nil)) pa_nil)))))
        (pss_one (L2N.ps_raise (W := fun cls d _ H => E cls d H) rfl (L2N.takes_of rfl rfl rfl rfl) (pmkN_oex T.o_BadTour T.i_BadTour T.t_BadTour (ok_BadTour_init T) (hr.mono (by decide)) T.b_BadTour_init .nil pass0 (by rfl) T.g_BadTour (pa_cons pe_str pa_nil))))
        pss_nil)
      (pss_cons (ps_for (by exact passes_of rfl) rfl (pi_seq (pv 1)) (pg_name (i := 2) sc_check_tour.nd rfl (.inl rfl))
        (pss_one (ps_if (pt_not (pt_val (pe_call (ok_is_whole T) (hr.mono (by decide)) (by rfl) T.g_is_whole T.F_is_whole.kp T.b2_is_whole (dvs := [.non, .non]) (.cons rfl (.cons rfl .nil)) pass0 (pa_cons (pv 2) pa_nil))))
          (pss_one (L2N.ps_raise (W := fun cls d _ H => E cls d H) rfl (L2N.takes_of rfl rfl rfl rfl) (pmkN_oex T.o_BadTour T.i_BadTour T.t_BadTour (ok_BadTour_init T) (hr.mono (by decide)) T.b_BadTour_init .nil pass0 (by rfl) T.g_BadTour (pa_cons pe_str pa_nil))))
          pss_nil)))
      (pss_cons (ps_set (i := 3) sc_check_tour.nd rfl (.inl rfl) (pe_op op_rep (pe_lst (pa_cons pe_int pa_nil)) (pe_fld (pv 0) rfl)))
      (pss_cons (ps_set (i := 4) sc_check_tour.nd rfl (.inl rfl) (pe_op op_rep (pe_lst (pa_cons pe_int pa_nil)) (pe_fld (pv 0) rfl)))
      (pss_cons (ps_for (by exact passes_of rfl) rfl (RZM.pi_zipS (by rfl) T.m_zip (pa_cons (pe_fld (pv 0) rfl) (pa_cons (pv 1) pa_nil))) (pg_tup rfl (pgs_cons (pg_tup rfl (pgs_cons (pg_name (i := 5) sc_check_tour.nd rfl (.inl rfl)) (pgs_cons (pg_name (i := 6) sc_check_tour.nd rfl (.inl rfl)) pgs_nil))) (pgs_cons (pg_name (i := 2) sc_check_tour.nd rfl (.inl rfl)) pgs_nil)))
        (pss_cons (ps_asg (pe_op op_add (pe_ix ix_list (pv 3) (pv 5) (fun _ _ => rfl)) (pv 2)) (pg_sub (pv 3) (pv 5) set_list))
        (pss_one (ps_asg (pe_op op_add (pe_ix ix_list (pv 4) (pv 6) (fun _ _ => rfl)) (pv 2)) (pg_sub (pv 4) (pv 6) set_list)))))
      (pss_cons (ps_if (pt_val (pe_callB (cr_anyI rfl) (by rfl) T.m_any (by decide +kernel) (pa_cons (pv 3) pa_nil)))
        (pss_one (L2N.ps_raise (W := fun cls d _ H => E cls d H) rfl (L2N.takes_of rfl rfl rfl rfl) (pmkN_oex T.o_BadTour T.i_BadTour T.t_BadTour (ok_BadTour_init T) (hr.mono (by decide)) T.b_BadTour_init .nil pass0 (by rfl) T.g_BadTour (pa_cons pe_str pa_nil))))
        pss_nil)
      (pss_cons (ps_if (pt_val (pe_callB (cr_anyI rfl) (by rfl) T.m_any (by decide +kernel) (pa_cons (pv 4) pa_nil)))
        (pss_one (L2N.ps_raise (W := fun cls d _ H => E cls d H) rfl (L2N.takes_of rfl rfl rfl rfl) (pmkN_oex T.o_BadTour T.i_BadTour T.t_BadTour (ok_BadTour_init T) (hr.mono (by decide)) T.b_BadTour_init .nil pass0 (by rfl) T.g_BadTour (pa_cons pe_str pa_nil))))
        pss_nil)
      (pss_one (ps_ret (pe_callTy call_tupD (by rfl) T.m_tuple (by decide +kernel) (pa_cons (pv 1) pa_nil))))))))))), ?_⟩
    obtain ⟨⟨dx, tp, pv_, pxs, ha, hfr, hps, _⟩, okP, hins, hasc⟩ := id hp
    have lps : pxs.length = ps.length := by rw [hps.len, List.length_map]
    have l25 := pic_len hp
    refine ⟨_, rfl, _, rfl, a, dx, _, ps.length, rfl, ha, by omega, a, P', W, ps, rfl, hp, fun H1 s1 => ⟨rfl, x, .int ps.length, d, rfl, hk.same s1, .inr ⟨_, rfl⟩, fun H2 s2 => ⟨_, rfl, ?_⟩⟩⟩
    have s12 := s1.trans s2
    have hk2 := hk.same s12
    cases e : itemsD d with
    | none =>
      have z : seqIs d (.int (ps.length : Int)) = false := by unfold seqIs; rw [e]
      rw [z]
      exact iteT (mk_exc fun b H' s nb hb => hE "length" (by unfold tourW; rw [e]) b H' (s12.trans s) hb)
    | some ds =>
      obtain ⟨p, xs, rfl, hxs, hsq⟩ := sq_of (K := K) hk2 e
      have lx := hxs.len
      have z0 : seqIs d (.int (ps.length : Int)) = decide (((ds.length : Nat) : Int) = (ps.length : Int)) := by unfold seqIs; rw [e]
      rw [z0]
      by_cases c : ds.length = ps.length
      · rw [decide_eq_true (by omega)]
        refine iteF ?_
        refine for_seq (xs := xs) (a := p) (fun i σ H' => ∃ y2, σ = [some (.ref a), some (.ref p), y2, none, none, none, none] ∧ Same H2 H' ∧ ∀ d' ∈ ds.take i, isIntD d' = true) (fun Q h => ⟨_, rfl, h⟩) hsq
          ⟨none, rfl, fun _ _ h => h, fun d m => by simp at m⟩ (fun i σ H' _ hP => by obtain ⟨_, _, sm, _⟩ := hP; exact sm) (fun i x σ H' hx hP => ?_) (fun σ H' hP => ?_)
        · obtain ⟨y2, rfl, s3, hall⟩ := hP
          obtain ⟨d', hd', kd⟩ := hxs.get hx
          have kd3 := kd.same s3
          refine ⟨_, rfl, x, .non, .non, d', rfl, kd3, .inl rfl, .inl rfl, _, rfl, ?_⟩
          rw [wi_any kd3]
          cases hb : isIntD d' with
          | false =>
            refine iteT (mk_exc fun b H4 s4 nb hb4 => hE "number" ?_ b H4 ((s12.trans s3).trans s4) hb4)
            unfold tourW
            rw [e]
            dsimp only
            rw [if_pos c, if_neg]
            intro q
            rw [List.all_eq_true.mp q d' (List.mem_of_getElem? hd')] at hb
            cases hb
          | true =>
            refine iteF ⟨_, rfl, s3, fun d2 m2 => ?_⟩
            rw [List.take_add_one, hd'] at m2
            rcases List.mem_append.mp m2 with m2 | m2
            · exact hall d2 m2
            · rw [List.mem_singleton.mp (show d2 ∈ [d'] from m2)]
              exact hb
        · obtain ⟨y2, rfl, s3, hall⟩ := hP
          rw [lx, List.take_length] at hall
          have hints : ds.all isIntD = true := List.all_eq_true.mpr hall
          generalize en : ds.map intD = ns at *
          have eds : ds = ns.map PyData.int := by rw [← en]; exact ints_of hints
          subst eds
          have exs : xs = ns.map V.int := intl_dq hxs
          subst exs
          have ln : ns.length = ps.length := by rw [List.length_map] at c; exact c
          have s13 := s12.trans s3
          have ha3 := s13 _ _ ha
          refine ⟨(by show 1 ≤ sizeLine; decide), fun l0 n0 => ?_⟩
          have s4 : Same H' (upd H' l0 (.lst [.int 0])) := same_new n0
          refine ⟨_, rfl, a, T.C_Picture, dx, _, _, rfl, s4 _ _ ha3, T.cl_Picture, T.na_points, rfl, l0, P', [.int 0], rfl, rfl, upd_same, by omega, by omega, (by show 1 * P'.toNat ≤ sizeLine; exact Nat.le_of_lt (small1000 (by omega))), fun l1 n1 => ?_⟩
          have s5 : Same H' (upd (upd H' l0 (.lst [.int 0])) l1 (.lst (List.replicate P'.toNat [V.int 0]).flatten)) := s4.trans (same_new n1)
          have h1 : (upd (upd H' l0 (.lst [.int 0])) l1 (.lst (List.replicate P'.toNat [V.int 0]).flatten)) l1 = some (.lst ((ptL P' [] []).map V.int)) := by
            rw [upd_same, List.flatten_replicate_singleton, ptL_nil, List.map_replicate]
          refine ⟨(by show 1 ≤ sizeLine; decide), fun l2 n2 => ?_⟩
          generalize upd (upd H' l0 (.lst [.int 0])) l1 (.lst (List.replicate P'.toNat [V.int 0]).flatten) = H5 at s5 h1 n2
          have s6 : Same H5 (upd H5 l2 (.lst [.int 0])) := same_new n2
          refine ⟨_, rfl, a, T.C_Picture, dx, _, _, rfl, s6 _ _ (s5 _ _ ha3), T.cl_Picture, T.na_walls, rfl, l2, W, [.int 0], rfl, rfl, upd_same, by omega, by omega, (by show 1 * W.toNat ≤ sizeLine; exact Nat.le_of_lt (small1000 (by omega))), fun l3 n3 => ?_⟩
          have s7 : Same H5 (upd (upd H5 l2 (.lst [.int 0])) l3 (.lst (List.replicate W.toNat [V.int 0]).flatten)) := s6.trans (same_new n3)
          have h3 : (upd (upd H5 l2 (.lst [.int 0])) l3 (.lst (List.replicate W.toNat [V.int 0]).flatten)) l3 = some (.lst ((wlL W [] []).map V.int)) := by
            rw [upd_same, List.flatten_replicate_singleton, wlL_nil, List.map_replicate]
          have n31 : l3 ≠ l1 := (ne_of_none (s6 _ _ h1) n3).symm
          have f1 : H' l1 = none := s4.free n1
          have f3 : H5 l3 = none := s6.free n3
          have f3' : H' l3 = none := s5.free f3
          generalize upd (upd H5 l2 (.lst [.int 0])) l3 (.lst (List.replicate W.toNat [V.int 0]).flatten) = H7 at s7 h3
          have s8 := s5.trans s7
          have hfr3 := hfr.same s13
          obtain ⟨t1, ht1⟩ := sqs_of (hsq.same s3)
          refine ⟨_, rfl, a, T.C_Picture, dx, _, _, rfl, s8 _ _ ha3, T.cl_Picture, T.na_pairs, rfl, _, rfl, true, t1, tp, p, pxs, ns.map V.int, rfl, (hfr3.same s8).seq, sqs_same s8 ht1, ?_⟩
          refine RZM.for_zipS (xs := pxs) (ys := ns.map V.int) (by rw [lps, List.length_map, ln]) (fun i σ H8 => ∃ y2 y5 y6, σ = [some (.ref a), some (.ref p), y2, some (.ref l1), some (.ref l3), y5, y6] ∧ Same H' H8 ∧ H8 l1 = some (.lst ((ptL P' (ps.take i) (ns.take i)).map V.int)) ∧ H8 l3 = some (.lst ((wlL W (ps.take i) (ns.take i)).map V.int)))
            ⟨_, _, _, rfl, s8, s7 _ _ h1, h3⟩ (fun i σ H8 hP => ?_) (fun i x y Z σ H8 hx hy hP nZ => ?_) (fun σ H8 hP => ?_)
          · obtain ⟨_, _, _, _, s9, _⟩ := hP
            exact ⟨(hfr3.same s9).seq, sqs_same s9 ht1⟩
          · obtain ⟨z2, z5, z6, rfl, s9, g1, g3⟩ := hP
            obtain ⟨t, q, rfl, hq, ht⟩ := prs_get hps hx
            obtain ⟨n, hn, rfl⟩ := map_at hy
            obtain ⟨b1, b2, b3, b4⟩ := hins q (List.mem_of_getElem? hq)
            have sZ : Same H8 (upd H8 Z (.tup [.ref t, .int n])) := same_new nZ
            have htZ := sZ _ _ (s9 _ _ (s13 _ _ ht))
            have g1' := sZ _ _ g1
            have g3' := sZ _ _ g3
            refine ⟨Z, _, rfl, SqT.of upd_same, rfl, _, _, rfl, ⟨t, _, rfl, SqT.of htZ, rfl, _, _, rfl, _, _, rfl, rfl, ?_⟩⟩
            refine ⟨_, _, rfl, rfl, ?_⟩
            refine ⟨_, rfl, _, rfl, l1, _, q.1, _, rfl, rfl, SqL.of g1', ptL_at b1 b2, _, rfl, _, n, rfl, rfl, _, rfl, _, rfl, l1, _, q.1, q.1.toNat, rfl, rfl, g1', ixN_of b1 (by rw [List.length_map, ptL_len]; omega), ?_⟩
            have g3'' : (upd (upd H8 Z (.tup [.ref t, .int n])) l1 (.lst (((ptL P' (ps.take i) (ns.take i)).map V.int).set q.1.toNat (V.int (ptSum (ps.take i) (ns.take i) q.1 + n))))) l3 = some (.lst ((wlL W (ps.take i) (ns.take i)).map V.int)) := by
              rw [upd_ne n31]
              exact g3'
            refine ⟨_, rfl, _, rfl, l3, _, q.2, _, rfl, rfl, SqL.of g3'', wlL_at b3 b4, _, rfl, _, n, rfl, rfl, _, rfl, _, rfl, l3, _, q.2, q.2.toNat, rfl, rfl, g3'', ixN_of b3 (by rw [List.length_map, wlL_len]; omega), ?_⟩
            refine ⟨_, _, _, rfl, fun b o eo => ?_, ?_, ?_⟩
            · rw [upd_ne (ne_of_none eo f3'), upd_ne (ne_of_none eo f1)]
              exact sZ _ _ (s9 _ _ eo)
            · rw [upd_ne n31.symm, upd_same, ptL_step hq hn b1 b2, List.map_set]
            · rw [upd_same, wlL_step hq hn b3 b4, List.map_set]
          · obtain ⟨z2, z5, z6, rfl, s9, g1, g3⟩ := hP
            rw [lps, List.take_length, ← ln, List.take_length] at g1 g3
            have s19 := s13.trans s9
            have tw : tourW P' W ps d = if anyNz (ptL P' ps ns) = true then some ("point" : Str) else if anyNz (wlL W ps ns) = true then some ("wall" : Str) else (none : Option Str) := by
              unfold tourW
              rw [e]
              dsimp only
              rw [if_pos c, if_pos hints, map_intD]
            refine ⟨_, rfl, l1, _, rfl, SqL.of g1, _, rfl, ?_⟩
            show (if anyNz (ptL P' ps ns) = true then _ else _)
            cases c1 : anyNz (ptL P' ps ns) with
            | true => exact iteT (mk_exc fun b H4 s4 nb hb4 => hE "point" (by rw [tw, c1]; rfl) b H4 (s19.trans s4) hb4)
            | false =>
              refine iteF ⟨_, rfl, l3, _, rfl, SqL.of g3, _, rfl, ?_⟩
              show (if anyNz (wlL W ps ns) = true then _ else _)
              cases c2 : anyNz (wlL W ps ns) with
              | true => exact iteT (mk_exc fun b H4 s4 nb hb4 => hE "wall" (by rw [tw, c1, c2]; rfl) b H4 (s19.trans s4) hb4)
              | false =>
                exact iteF ⟨_, rfl, .ref p, d, _, rfl, hk.same s19, e, fun l H9 s9' k9 => hQ _ (by rw [tw, c1, c2]; rfl) e l H9 (s19.trans s9') k9⟩
      · rw [decide_eq_false (by omega)]
        exact iteT (mk_exc fun b H' s nb hb => hE "length" (by unfold tourW; rw [e]; dsimp only; rw [if_neg c]) b H' (s12.trans s) hb)
theorem ok_check_tour (T : Txt K mg) : FnOk P w K mg base (L2.CX P w) 3 T.f_check_tour T.d_check_tour ["picture", "tour"] (sp_check_tour T.C_Picture T.C_BadTour) := FnOk.ofN (ok_check_tourN T)
theorem ok_BadSaying_initH (T : Txt K mg) : L2H.FnH P w K mg base CX0 1 T.f_BadSaying_init T.d_BadSaying_init ["self", "what"] (sp_exc T.C_BadSaying "what") := by
  refine Fun.okH T.F_BadSaying_init sc_BadSaying_init (fun vs H Q E h => ?_) (fun cdv A outer s H vs Q E p hot hr h => ?_)
  · obtain ⟨a, v, rfl, _⟩ := h
    rfl
  · obtain ⟨a, v, rfl, ha, q⟩ := h
    refine ⟨_, pss_one (ps_ost (pv 0) (pv 1)), ?_⟩
    exact ⟨v, rfl, _, rfl, a, T.C_BadSaying, rfl, T.o_BadSaying, T.n_BadSaying, .inl ⟨ha, fun dx n ne => q dx n ne⟩⟩
end
end K01
set_option Elab.async false
set_option linter.all false
set_option maxRecDepth 100000
set_option maxHeartbeats 4000000
set_option exponentiation.threshold 5000
namespace K01
open PySem PySem.Spec PyProof.Rows L2 TkS
theorem Told.same {C : Addr} {e : Str} {H H1 : Hp} {E : XK} (h : Told C e H E) (s : Same H H1) : Told C e H1 E := fun b H' s' hb => h b H' (s.trans s') hb
def addL (ns ms : List Int) : List Int := (List.range ns.length).map fun i => ns.getD i 0 + ms.getD i 0
def mulL (ns : List Int) (m : Int) : List Int := (List.range ns.length).map fun i => ns.getD i 0 * m
def absI (n : Int) : Int := if n < 0 then -n else n
def absL (ns : List Int) : List Int := (List.range ns.length).map fun i => absI (ns.getD i 0)
def Sml (z : Int) : Prop := z.natAbs < 2 ^ 400
theorem sml_mul {a b : Int} (ha : Sml a) (hb : Sml b) : CMulW a b := wide_mul ha hb (by decide) (by decide) (by decide)
/-- the data is this tour -/
def IsT (P W : Int) (ps : List (Int × Int)) (d : PyData) (ns : List Int) : Prop := itemsD d = some (ns.map PyData.int) ∧ Tour P W ps ns
theorem isT_of {P W : Int} {ps : List (Int × Int)} {d : PyData} (h : tourW P W ps d = none) : ∃ ns, IsT P W ps d ns := tourW_none.mp h
theorem IsT.none {P W : Int} {ps : List (Int × Int)} {d : PyData} {ns : List Int} (h : IsT P W ps d ns) : tourW P W ps d = none := tourW_none.mpr ⟨ns, h⟩
def sp_no_tour (C : Addr) : Sp := fun vs H Q _ => ∃ (a : Addr) (P W : Int) (ps : List (Int × Int)), vs = [.ref a] ∧ Pic C H a P W ps ∧ 2 ≤ ps.length ∧ ∀ l H', Same H H' → Dq H' (.ref l) (.tuple ((List.replicate ps.length (0 : Int)).map PyData.int)) → Q (.ref l) H'
def sp_tour_sum (C CT : Addr) : Sp := fun vs H Q E => ∃ (a : Addr) (x y : V) (d d' : PyData) (P W : Int) (ps : List (Int × Int)), vs = [.ref a, x, y] ∧ Pic C H a P W ps ∧ Dq H x d ∧ Dq H y d' ∧
  (∀ e, tourW P W ps d = some e → Told CT e H E) ∧ (∀ e, tourW P W ps d = none → tourW P W ps d' = some e → Told CT e H E) ∧
  (∀ ns ms, IsT P W ps d ns → IsT P W ps d' ms → ∀ l H', Same H H' → Dq H' (.ref l) (.tuple ((addL ns ms).map PyData.int)) → Q (.ref l) H')
def sp_tour_times (C CT CW : Addr) : Sp := fun vs H Q E => ∃ (a : Addr) (x y : V) (d d' : PyData) (P W : Int) (ps : List (Int × Int)), vs = [.ref a, x, y] ∧ Pic C H a P W ps ∧ Dq H x d ∧ Dq H y d' ∧
  (∀ e, tourW P W ps d = some e → Told CT e H E) ∧ (tourW P W ps d = none → isIntD d' = false → ∀ H', Same H H' → E (.ref CW) none H') ∧
  (∀ ns m, IsT P W ps d ns → d' = .int m → (∀ z ∈ ns, Sml z) ∧ Sml m ∧ ∀ l H', Same H H' → Dq H' (.ref l) (.tuple ((mulL ns m).map PyData.int)) → Q (.ref l) H')
def sp_tour_size (C CT : Addr) : Sp := fun vs H Q E => ∃ (a : Addr) (x : V) (d : PyData) (P W : Int) (ps : List (Int × Int)), vs = [.ref a, x] ∧ Pic C H a P W ps ∧ Dq H x d ∧
  (∀ e, tourW P W ps d = some e → Told CT e H E) ∧ (∀ ns, IsT P W ps d ns → ∀ H', Same H H' → Q (.int (absL ns).sum) H')
theorem dq_tupI {H : Hp} {v : V} {ns : List Int} (k : Dq H v (.tuple (ns.map PyData.int))) : ∃ a, v = .ref a ∧ H a = some (.tup (ns.map V.int)) := by
  cases k with
  | tup e t =>
    rw [intl_dq t] at e
    exact ⟨_, rfl, e⟩
theorem tupI {H : Hp} {a : Addr} {ns : List Int} (h : H a = some (.tup (ns.map V.int))) : Dq H (.ref a) (.tuple (ns.map PyData.int)) := .tup h (dq_intl ns)
theorem map_getD {ns : List Int} {i : Nat} {x : V} (h : (ns.map V.int)[i]? = some x) : x = .int (ns.getD i 0) ∧ i < ns.length := by
  obtain ⟨n, hn, rfl⟩ := map_at h
  refine ⟨?_, (List.getElem?_eq_some_iff.mp hn).1⟩
  rw [List.getD_eq_getElem?_getD, hn]
  rfl
theorem mem_getD {ns : List Int} {i : Nat} (h : i < ns.length) : ns.getD i 0 ∈ ns := by
  rw [List.getD_eq_getElem?_getD, List.getElem?_eq_getElem h]
  exact List.getElem_mem h
theorem map_rng (f : Nat → Int) (n : Nat) : ((List.range n).filter fun _ => true).map (fun i => V.int (f i)) = ((List.range n).map f).map V.int := by
  rw [range_all, List.map_map]
  rfl
section
variable {P : Program} {w : World} {K : PySem.W.Frag} {mg : Str → Option Value} {base : Heap}
theorem ok_no_tour (T : Txt K mg) : FnOk P w K mg base CX0 3 T.f_no_tour T.d_no_tour ["picture"] (sp_no_tour T.C_Picture) := by
  refine T.F_no_tour.ok sc_no_tour (fun vs H Q E h => ?_) (fun cdv A outer s H vs Q E hr h => ?_)
  · obtain ⟨a, P', W, ps, rfl, _⟩ := h
    rfl
  · obtain ⟨a, P', W, ps, rfl, hp, h2, hQ⟩ := h
    refine ⟨_, (pss_one (ps_ret (pe_op op_repT (pe_tup (pa_cons pe_int pa_nil)) (pe_callB (call_lenOwn (ok_Picture_len T) (hr.mono (by decide)) T.len_at T.len_fn T.b_Picture_len pass0) (by rfl) T.m_len (by decide +kernel) (pa_cons (pv 0) pa_nil))))), ?_⟩
    obtain ⟨dx, tp, pv_, pxs, ha, hfr, hps, _⟩ := hp.at_
    have l25 := pic_len hp
    refine ⟨(by show 1 ≤ sizeLine; decide), fun l0 n0 => ?_⟩
    have s0 : Same H (upd H l0 (.tup [.int 0])) := same_new n0
    refine ⟨_, rfl, a, dx, _, ps.length, rfl, s0 _ _ ha, by omega, a, P', W, ps, rfl, hp.same s0, fun H1 s1 => ⟨rfl, l0, _, [.int 0], rfl, rfl, SqT.of (s1 _ _ upd_same), by simp, by omega, by omega, by simp, fun l n => ?_⟩⟩
    refine hQ l _ ((s0.trans s1).trans (same_new n)) (tupI ?_)
    rw [upd_same, List.flatten_replicate_singleton, List.map_replicate]
    rfl
theorem ok_tour_sum (T : Txt K mg) : FnOk P w K mg base (L2.CX P w) 4 T.f_tour_sum T.d_tour_sum ["picture", "one", "other"] (sp_tour_sum T.C_Picture T.C_BadTour) := by
  refine T.F_tour_sum.okX sc_tour_sum (fun vs H Q E h => ?_) (fun cdv A outer s H vs Q E hr h => ?_)
  · obtain ⟨a, x, y, d, d', P', W, ps, rfl, _⟩ := h
    rfl
  · obtain ⟨a, x, y, d, d', P', W, ps, rfl, hp, kx, ky, hE1, hE2, hQ⟩ := h
    refine ⟨_, (pss_cons (ps_set (i := 3) sc_tour_sum.nd rfl (.inl rfl) (pe_call (ok_check_tour T) (hr.mono (by decide)) (by rfl) T.g_check_tour T.F_check_tour.kp T.b_check_tour .nil (passes_call (W := fun cls d _ H => E cls d H) (takes_of rfl rfl rfl rfl) (fun _ _ _ _ h => h)) (pa_cons (pv 0) (pa_cons (pv 1) pa_nil))))
      (pss_cons (ps_set (i := 4) sc_tour_sum.nd rfl (.inl rfl) (pe_call (ok_check_tour T) (hr.mono (by decide)) (by rfl) T.g_check_tour T.F_check_tour.kp T.b_check_tour .nil (passes_call (W := fun cls d _ H => E cls d H) (takes_of rfl rfl rfl rfl) (fun _ _ _ _ h => h)) (pa_cons (pv 0) (pa_cons (pv 2) pa_nil))))
      (pss_one (ps_ret (pe_callTy call_tuple_of (by rfl) T.m_tuple (by decide +kernel) (pa_cons (pe_lc rfl sc_tour_sum.nd (RZM.pi_zipS (by rfl) T.m_zip (pa_cons (pv 3) (pa_cons (pv 4) pa_nil))) (blkOk_by (own := [("number", 5), ("added", 6)]) (N := ["picture", "one", "other", "first", "second", "number", "added"]) (sc := defScope s_tour_sum) (by decide +kernel)) (fun _ _ _ _ _ => (show PG _ _ (gTup K 2 (gCons (gName 5) (gCons (gName 6) gNil))) from pg_tup rfl (pgs_cons (pg_name (i := 5) sc_tour_sum.nd rfl (.inl rfl)) (pgs_cons (pg_name (i := 6) sc_tour_sum.nd rfl (.inl rfl)) pgs_nil)))) (fun _ _ _ _ _ => pts_nil) (fun _ _ _ _ _ => (pe_op op_add (pv 5) (pv 6)))) pa_nil)))))), ?_⟩
    refine ⟨_, rfl, _, rfl, a, x, d, P', W, ps, rfl, hp, kx, hE1, fun ds w1 i1 l1 H1 s1 k1 => ?_⟩
    refine ⟨_, rfl, _, rfl, a, y, d', P', W, ps, rfl, hp.same s1, ky.same s1, fun e he => (hE2 e w1 he).same s1, fun es w2 i2 l2 H2 s2 k2 => ?_⟩
    obtain ⟨ns, e1, t1⟩ := isT_of w1
    obtain ⟨ms, e2, t2⟩ := isT_of w2
    rw [e1] at i1
    rw [e2] at i2
    cases i1
    cases i2
    obtain ⟨_, z1, h1⟩ := dq_tupI (k1.same s2)
    cases z1
    obtain ⟨_, z2, h2⟩ := dq_tupI k2
    cases z2
    have ll : ns.length = ms.length := t1.len.trans t2.len.symm
    have l25 := pic_len hp
    refine ⟨_, rfl, _, rfl, true, true, l1, l2, ns.map V.int, ms.map V.int, rfl, SqT.of h1, SqT.of h2, fun D nD => ?_⟩
    refine lc_zipV (fun _ => true) (fun i => V.int (ns.getD i 0 + ms.getD i 0)) (by rw [List.length_map, List.length_map, ll]) (by rw [List.length_map, t1.len]; omega) nD (SqT.of h1) (SqT.of h2) (fun i x y T' H' R N hx hy s hT yes no => ?_) (fun H' s3 hD => ?_)
    · obtain ⟨rfl, hi⟩ := map_getD hx
      obtain ⟨rfl, _⟩ := map_getD hy
      refine ⟨T', _, rfl, SqT.of hT, rfl, _, _, rfl, _, _, rfl, rfl, rfl, ?_⟩
      exact ⟨_, rfl, _, rfl, _, _, rfl, rfl, yes rfl _ fun _ _ z => z⟩
    · rw [map_rng, List.length_map] at hD
      refine ⟨D, _, rfl, .inl ⟨SqL.of hD, fun l n => ?_⟩⟩
      exact hQ ns ms ⟨e1, t1⟩ ⟨e2, t2⟩ l _ (((s1.trans s2).trans s3).trans (same_new n)) (tupI upd_same)
theorem ok_tour_times (T : Txt K mg) : FnOk P w K mg base (L2.CX P w) 4 T.f_tour_times T.d_tour_times ["picture", "tour", "whole"] (sp_tour_times T.C_Picture T.C_BadTour T.C_BadWhole) := by
  refine T.F_tour_times.okX sc_tour_times (fun vs H Q E h => ?_) (fun cdv A outer s H vs Q E hr h => ?_)
  · obtain ⟨a, x, y, d, d', P', W, ps, rfl, _⟩ := h
    rfl
  · obtain ⟨a, x, y, d, d', P', W, ps, rfl, hp, kx, ky, hE1, hE2, hQ⟩ := h
    refine ⟨_, (pss_cons (ps_set (i := 3) sc_tour_times.nd rfl (.inl rfl) (pe_call (ok_check_tour T) (hr.mono (by decide)) (by rfl) T.g_check_tour T.F_check_tour.kp T.b_check_tour .nil (passes_call (W := fun cls d _ H => E cls d H) (takes_of rfl rfl rfl rfl) (fun _ _ _ _ h => h)) (pa_cons (pv 0) (pa_cons (pv 1) pa_nil))))
      (pss_cons (ps_if (pt_not (pt_val (pe_call (ok_is_whole T) (hr.mono (by decide)) (by rfl) T.g_is_whole T.F_is_whole.kp T.b2_is_whole (dvs := [.non, .non]) (.cons rfl (.cons rfl .nil)) pass0 (pa_cons (pv 2) pa_nil))))
        (pss_one (ps_raise (W := fun cls d _ H => E cls d H) rfl (takes_of rfl rfl rfl rfl) (pmk_own0 PySem.F.excBase_ValueError T.q_BadWhole T.g_BadWhole T.k_BadWhole (raises_own T.b_BadWhole T.ty_BadWhole) (by rfl))))
        pss_nil)
      (pss_one (ps_ret (pe_callTy call_tuple_of (by rfl) T.m_tuple (by decide +kernel) (pa_cons (pe_lc rfl sc_tour_times.nd (pi_seq (pv 3)) (blkOk_by (own := [("number", 4)]) (N := ["picture", "tour", "whole", "numbers", "number"]) (sc := defScope s_tour_times) (by decide +kernel)) (fun _ _ _ _ _ => (pg_name (i := 4) sc_tour_times.nd rfl (.inl rfl))) (fun _ _ _ _ _ => pts_nil) (fun _ _ _ _ _ => (pe_op op_mulW (pv 4) (pv 2)))) pa_nil)))))), ?_⟩
    refine ⟨_, rfl, _, rfl, a, x, d, P', W, ps, rfl, hp, kx, hE1, fun ds w1 i1 l1 H1 s1 k1 => ?_⟩
    have ky1 := ky.same s1
    refine ⟨_, rfl, y, .non, .non, d', rfl, ky1, .inl rfl, .inl rfl, _, rfl, ?_⟩
    rw [wi_any ky1]
    cases hb : isIntD d' with
    | false => exact iteT (hE2 w1 hb _ s1)
    | true =>
      refine iteF ?_
      obtain ⟨m, rfl⟩ : ∃ m, d' = .int m := by
        cases d' with
        | int m => exact ⟨m, rfl⟩
        | _ => cases hb
      cases ky1
      obtain ⟨ns, e1, t1⟩ := isT_of w1
      rw [e1] at i1
      cases i1
      obtain ⟨sn, sm, hq⟩ := hQ ns m ⟨e1, t1⟩ rfl
      obtain ⟨_, z1, h1⟩ := dq_tupI k1
      cases z1
      have l25 := pic_len hp
      refine nx_go rfl ?_
      dsimp only
      refine ret_cb_lc (lc_seqV (a := l1) (xs := ns.map V.int) (fun _ => true) (fun i => V.int (ns.getD i 0 * m)) (fun Q h => ⟨_, rfl, h⟩) (.inr (SqT.of h1)) (by rw [List.length_map, t1.len]; omega) (fun i x H' R N hx s yes no => ?_) (fun D H' nD s3 hD => ?_))
      · obtain ⟨rfl, hi⟩ := map_getD hx
        refine ⟨rfl, ?_⟩
        exact ⟨_, rfl, _, rfl, _, _, rfl, rfl, sml_mul (sn _ (mem_getD hi)) sm, yes rfl _ fun _ _ z => z⟩
      · rw [map_rng, List.length_map] at hD
        refine ⟨D, _, rfl, .inl ⟨SqL.of hD, fun l n => ?_⟩⟩
        exact hq l _ ((s1.trans s3).trans (same_new n)) (tupI upd_same)
theorem ok_tour_size (T : Txt K mg) : FnOk P w K mg base (L2.CX P w) 4 T.f_tour_size T.d_tour_size ["picture", "tour"] (sp_tour_size T.C_Picture T.C_BadTour) := by
  refine T.F_tour_size.okX sc_tour_size (fun vs H Q E h => ?_) (fun cdv A outer s H vs Q E hr h => ?_)
  · obtain ⟨a, x, d, P', W, ps, rfl, _⟩ := h
    rfl
  · obtain ⟨a, x, d, P', W, ps, rfl, hp, kx, hE1, hQ⟩ := h
    refine ⟨_, (pss_one (ps_ret (pe_callB (cr_sum rfl) (by rfl) T.m_sum (by decide +kernel) (pa_cons (pe_lc rfl sc_tour_size.nd (pi_seq (pe_call (ok_check_tour T) (hr.mono (by decide)) (by rfl) T.g_check_tour T.F_check_tour.kp T.b_check_tour .nil (passes_call (W := fun cls d _ H => E cls d H) (takes_of rfl rfl rfl rfl) (fun _ _ _ _ h => h)) (pa_cons (pv 0) (pa_cons (pv 1) pa_nil)))) (blkOk_by (own := [("number", 2)]) (N := ["picture", "tour", "number"]) (sc := defScope s_tour_size) (by decide +kernel)) (fun _ _ _ _ _ => (pg_name (i := 2) sc_tour_size.nd rfl (.inl rfl))) (fun _ _ _ _ _ => pts_nil) (fun _ _ _ _ _ => (pe_callB call_abs (by rfl) T.m_abs (by decide +kernel) (pa_cons (pv 2) pa_nil)))) pa_nil)))), ?_⟩
    refine .inr ⟨_, rfl, _, rfl, a, x, d, P', W, ps, rfl, hp, kx, hE1, fun ds w1 i1 l1 H1 s1 k1 => ?_⟩
    obtain ⟨ns, e1, t1⟩ := isT_of w1
    rw [e1] at i1
    cases i1
    obtain ⟨_, z1, h1⟩ := dq_tupI k1
    cases z1
    have l25 := pic_len hp
    refine ⟨l1, rfl, ⟨_, SqT.of h1⟩, fun D nD => ?_⟩
    refine lc_tupV (xs := ns.map V.int) (fun _ => true) (fun i => V.int (absI (ns.getD i 0))) (SqT.of h1) (by rw [List.length_map, t1.len]; omega) nD (fun i x H' R N hx s yes no => ?_) (fun H' s3 hD => ?_)
    · obtain ⟨rfl, hi⟩ := map_getD hx
      refine ⟨rfl, ?_⟩
      exact ⟨_, rfl, _, rfl, yes rfl _ fun _ _ z => z⟩
    · rw [map_rng, List.length_map] at hD
      exact ⟨D, _, rfl, SqL.of hD, hQ ns ⟨e1, t1⟩ _ (s1.trans s3)⟩
end
end K01
set_option Elab.async false
set_option linter.all false
set_option maxRecDepth 100000
set_option maxHeartbeats 4000000
set_option exponentiation.threshold 5000
namespace K01
open PySem PySem.Spec PyProof.Rows L2 TkS
/-! tours led to another picture -/
def valAt (ps : List (Int × Int)) (ns : List Int) (q : Int × Int) : Int := S (ps.zip ns) fun z => if z.1 = q then z.2 else 0
def ledL (qs ps : List (Int × Int)) (ns : List Int) : List Int := qs.map fun q => valAt ps ns q
theorem valAt_zero {ps : List (Int × Int)} {ns : List Int} {q : Int × Int} (h : q ∉ ps) : valAt ps ns q = 0 := S_zero fun z hz => by
  obtain ⟨a, b⟩ := z
  rw [if_neg fun (e : a = q) => h (e ▸ (List.of_mem_zip hz).1)]
theorem valAt_step {ps : List (Int × Int)} {ns : List Int} {i : Nat} {p : Int × Int} {n : Int} (hp : ps[i]? = some p) (hn : ns[i]? = some n) (q : Int × Int) : valAt (ps.take (i + 1)) (ns.take (i + 1)) q = valAt (ps.take i) (ns.take i) q + if p = q then n else 0 := by
  unfold valAt
  rw [zip_take hp hn, S_snoc]
theorem take_off {ps : List (Int × Int)} {i : Nat} {p : Int × Int} (nd : ps.Nodup) (hp : ps[i]? = some p) : p ∉ ps.take i := fun h => by
  obtain ⟨j, hj⟩ := List.getElem?_of_mem h
  rw [List.getElem?_take] at hj
  by_cases c : j < i
  · rw [if_pos c, ← hp] at hj
    have li := (List.getElem?_eq_some_iff.mp hp).1
    have := (List.getElem?_inj (by omega) nd).mp hj
    omega
  · rw [if_neg c] at hj
    cases hj
theorem ledL_step {qs ps : List (Int × Int)} {ns : List Int} {i j : Nat} {p : Int × Int} {n : Int} (nd : ps.Nodup) (ndq : qs.Nodup) (hp : ps[i]? = some p) (hn : ns[i]? = some n) (hq : qs[j]? = some p) :
    ledL qs (ps.take (i + 1)) (ns.take (i + 1)) = (ledL qs (ps.take i) (ns.take i)).set j n := by
  refine List.ext_getElem? fun k => ?_
  unfold ledL
  rw [List.getElem?_map, List.getElem?_set, List.getElem?_map, List.length_map]
  have lj := (List.getElem?_eq_some_iff.mp hq).1
  by_cases e : j = k
  · subst e
    rw [if_pos rfl, if_pos lj, hq]
    show some (valAt _ _ p) = _
    rw [valAt_step hp hn, if_pos rfl, valAt_zero (take_off nd hp), Int.zero_add]
  · rw [if_neg e]
    cases hk : qs[k]? with
    | none => rfl
    | some q =>
      show some (valAt _ _ q) = some (valAt _ _ q)
      rw [valAt_step hp hn, if_neg, Int.add_zero]
      intro z
      rw [← z, ← hq] at hk
      exact e ((List.getElem?_inj lj ndq).mp hk.symm)
theorem ledL_off {qs ps : List (Int × Int)} {ns : List Int} {i : Nat} {p : Int × Int} {n : Int} (hp : ps[i]? = some p) (hn : ns[i]? = some n) (h : p ∉ qs ∨ n = 0) : ledL qs (ps.take (i + 1)) (ns.take (i + 1)) = ledL qs (ps.take i) (ns.take i) := by
  unfold ledL
  refine List.map_congr_left fun q hq => ?_
  rw [valAt_step hp hn]
  rcases h with h | h
  · rw [if_neg fun (z : p = q) => h (z ▸ hq), Int.add_zero]
  · rw [h, ite_self, Int.add_zero]
theorem ledL_nil {qs : List (Int × Int)} : ledL qs [] [] = List.replicate qs.length 0 := by
  unfold ledL
  rw [show (fun q : Int × Int => valAt [] [] q) = fun _ => (0 : Int) from rfl, List.map_const']
def Open1 (qs ps : List (Int × Int)) (ns : List Int) (i : Nat) : Prop := ∀ (j : Nat) (p : Int × Int) (n : Int), j < i → ps[j]? = some p → ns[j]? = some n → n ≠ 0 → p ∈ qs
theorem Open1.succ {qs ps : List (Int × Int)} {ns : List Int} {i : Nat} {p : Int × Int} {n : Int} (h : Open1 qs ps ns i) (hp : ps[i]? = some p) (hn : ns[i]? = some n) (k : n ≠ 0 → p ∈ qs) : Open1 qs ps ns (i + 1) := fun j p' n' hj hp' hn' nz => by
  rcases Nat.lt_or_ge j i with c | c
  · exact h j p' n' c hp' hn' nz
  · have : j = i := by omega
    subst this
    rw [hp] at hp'
    rw [hn] at hn'
    cases hp'
    cases hn'
    exact k nz
def sp_led_tour (C CT CN : Addr) : Sp := fun vs H Q E => ∃ (a b : Addr) (x : V) (d : PyData) (P W : Int) (ps : List (Int × Int)) (P' W' : Int) (qs : List (Int × Int)), vs = [.ref a, .ref b, x] ∧ Pic C H a P W ps ∧ Pic C H b P' W' qs ∧ Dq H x d ∧
  (∀ e, tourW P W ps d = some e → Told CT e H E) ∧
  (∀ ns (i : Nat) p n, IsT P W ps d ns → Open1 qs ps ns i → ps[i]? = some p → ns[i]? = some n → n ≠ 0 → p ∉ qs → ∀ b t H', Same H H' → H' b = some (.xd [("pair", .ref t)]) → Dq H' (.ref t) (prD p) → E (.ref CN) (some b) H') ∧
  (∀ ns, IsT P W ps d ns → Open1 qs ps ns ps.length → ∀ l H', Same H H' → Dq H' (.ref l) (.tuple ((ledL qs ps ns).map PyData.int)) → Q (.ref l) H')
section
variable {P : Program} {w : World} {K : PySem.W.Frag} {mg : Str → Option Value} {base : Heap}
theorem ok_led_tour (T : Txt K mg) : FnOk P w K mg base (L2.CX P w) 8 T.f_led_tour T.d_led_tour ["one", "other", "tour"] (sp_led_tour T.C_Picture T.C_BadTour T.C_NotOpen) := by
  refine T.F_led_tour.okX sc_led_tour (fun vs H Q E h => ?_) (fun cdv A outer s H vs Q E hr h => ?_)
  · obtain ⟨a, b, x, d, P', W, ps, P2, W2, qs, rfl, _⟩ := h
    rfl
  · obtain ⟨a, b, x, d, P', W, ps, P2, W2, qs, rfl, hp, hp2, kx, hE1, hE2, hQ⟩ := h
    refine ⟨_, (pss_cons (ps_set (i := 3) sc_led_tour.nd rfl (.inl rfl) (pe_op op_rep (pe_lst (pa_cons pe_int pa_nil)) (pe_callB (call_lenOwn (ok_Picture_len T) (hr.mono (by decide)) T.len_at T.len_fn T.b_Picture_len pass0) (by rfl) T.m_len (by decide +kernel) (pa_cons (pv 1) pa_nil))))
      (pss_cons (ps_for (by exact passes_of rfl) rfl (RZM.pi_zipS (by rfl) T.m_zip (pa_cons (pe_fld (pv 0) rfl) (pa_cons (pe_call (ok_check_tour T) (hr.mono (by decide)) (by rfl) T.g_check_tour T.F_check_tour.kp T.b_check_tour .nil (passes_call (W := fun cls d _ H => E cls d H) (takes_of rfl rfl rfl rfl) (fun _ _ _ _ h => h)) (pa_cons (pv 0) (pa_cons (pv 2) pa_nil))) pa_nil))) (pg_tup rfl (pgs_cons (pg_name (i := 4) sc_led_tour.nd rfl (.inl rfl)) (pgs_cons (pg_name (i := 5) sc_led_tour.nd rfl (.inl rfl)) pgs_nil)))
        (pss_one (ps_if (pt_cmpR op_ne (pv 5) pe_int (nomark _))
          (pss_one (ps_asg (pv 5) (pg_sub (pv 3) (pe_meth (pv 1) T.cl_Picture T.M_place_of (ok_Picture_place_of T) (hr.mono (by decide)) T.b_Picture_place_of .nil (passes_call (W := fun cls d _ H => E cls d H) (takes_of rfl rfl rfl rfl) (fun _ _ _ _ h => h))
 (pa_cons (pv 4) pa_nil)) set_list)))
          pss_nil)))
      (pss_one (ps_ret (pe_callTy call_tuple_of (by rfl) T.m_tuple (by decide +kernel) (pa_cons (pv 3) pa_nil)))))), ?_⟩
    obtain ⟨⟨dx, tp, pv_, pxs, ha, hfr, hps, _⟩, okP, hins, hasc⟩ := id hp
    obtain ⟨⟨dx2, tp2, pv2_, pxs2, ha2, hfr2, hps2, _⟩, okP2, hins2, hasc2⟩ := id hp2
    have l25 := pic_len hp
    have q25 := pic_len hp2
    have lps : pxs.length = ps.length := by rw [hps.len, List.length_map]
    refine ⟨(by show 1 ≤ sizeLine; decide), fun l0 n0 => ?_⟩
    have s0 : Same H (upd H l0 (.lst [.int 0])) := same_new n0
    refine ⟨_, rfl, b, dx2, _, qs.length, rfl, s0 _ _ ha2, by omega, b, P2, W2, qs, rfl, hp2.same s0, fun H1 s1 => ⟨rfl, l0, _, [.int 0], rfl, rfl, s1 _ _ upd_same, by omega, by omega, (by show 1 * (qs.length : Int).toNat ≤ sizeLine; exact Nat.le_of_lt (small1000 (by omega))), fun l1 n1 => ?_⟩⟩
    have s2 : Same H (upd H1 l1 (.lst (List.replicate (qs.length : Int).toNat [V.int 0]).flatten)) := (s0.trans s1).trans (same_new n1)
    have h1 : (upd H1 l1 (.lst (List.replicate (qs.length : Int).toNat [V.int 0]).flatten)) l1 = some (.lst ((ledL qs [] []).map V.int)) := by
      rw [upd_same, List.flatten_replicate_singleton, ledL_nil, List.map_replicate]
      rfl
    have f1 : H l1 = none := (s0.trans s1).free n1
    generalize upd H1 l1 (.lst (List.replicate (qs.length : Int).toNat [V.int 0]).flatten) = H2 at s2 h1
    refine ⟨_, rfl, a, T.C_Picture, dx, _, _, rfl, s2 _ _ ha, T.cl_Picture, T.na_pairs, rfl, _, rfl, _, rfl, a, x, d, P', W, ps, rfl, hp.same s2, kx.same s2, fun e he => (hE1 e he).same s2, fun ds w1 i1 l2 H3 s3 k3 => ?_⟩
    obtain ⟨ns, e1, t1⟩ := isT_of w1
    rw [e1] at i1
    cases i1
    obtain ⟨_, z1, h2⟩ := dq_tupI k3
    cases z1
    have s23 := s2.trans s3
    have hT : IsT P' W ps d ns := ⟨e1, t1⟩
    have ln := t1.len
    refine ⟨true, true, tp, l2, pxs, ns.map V.int, rfl, (hfr.same s23).seq, SqT.of h2, ?_⟩
    have h31 := s3 _ _ h1
    have n21 : l2 ≠ l1 := fun z => by
      subst z
      rw [h31] at h2
      cases h2
    have same : ∀ {H8 : Hp}, (∀ c o, H3 c = some o → c ≠ l1 → H8 c = some o) → Same H H8 := fun {H8} k c o e => k c o (s23 c o e) fun z => by
      subst z
      rw [f1] at e
      cases e
    refine RZM.for_zipS (xs := pxs) (ys := ns.map V.int) (by rw [lps, List.length_map, ln]) (fun i σ H8 => ∃ y4 y5, σ = [some (.ref a), some (.ref b), some x, some (.ref l1), y4, y5] ∧ (∀ c o, H3 c = some o → c ≠ l1 → H8 c = some o) ∧ H8 l1 = some (.lst ((ledL qs (ps.take i) (ns.take i)).map V.int)) ∧ Open1 qs ps ns i)
      ⟨_, _, rfl, fun _ _ h _ => h, s3 _ _ h1, fun _ _ _ h => absurd h (Nat.not_lt_zero _)⟩ (fun i σ H8 hP => ?_) (fun i x' y' Z σ H8 hx hy hP nZ => ?_) (fun σ H8 hP => ?_)
    · obtain ⟨_, _, _, k8, _⟩ := hP
      exact ⟨(hfr.same (same k8)).seq, SqT.of (k8 _ _ h2 n21)⟩
    · obtain ⟨y4, y5, rfl, k8, g1, op⟩ := hP
      obtain ⟨t, p, rfl, hpi, ht⟩ := prs_get hps hx
      obtain ⟨n, hn, rfl⟩ := map_at hy
      have s8 := same k8
      have sZ : Same H8 (upd H8 Z (.tup [.ref t, .int n])) := same_new nZ
      have s9 := s8.trans sZ
      have nZ1 : Z ≠ l1 := (ne_of_none g1 nZ).symm
      have k9 : ∀ c o, H3 c = some o → c ≠ l1 → (upd H8 Z (.tup [.ref t, .int n])) c = some o := fun c o e z => sZ _ _ (k8 c o e z)
      refine ⟨Z, _, rfl, SqT.of upd_same, rfl, _, _, rfl, _, _, rfl, rfl, ?_⟩
      refine ⟨_, rfl, rfl, _, rfl, ?_⟩
      have h9 := sZ _ _ g1
      generalize upd H8 Z (.tup [.ref t, .int n]) = H9 at s9 k9 h9
      have ht9 := s9 _ _ ht
      have kt : Dq H9 (.ref t) (prD p) := .tup ht9 (.cons (.int _) (.cons (.int _) .nil))
      rw [int_dec]
      by_cases c : n = 0
      · rw [decide_eq_true c]
        refine iteF ⟨_, _, rfl, k9, ?_, op.succ hpi hn fun z => absurd c z⟩
        rw [ledL_off hpi hn (.inr c)]
        exact h9
      · rw [decide_eq_false c]
        refine iteT ?_
        have pin := hins p (List.mem_of_getElem? hpi)
        refine ⟨_, rfl, _, rfl, _, rfl, b, dx2, _, rfl, s9 _ _ ha2, rfl, _, rfl, b, _, prD p, P2, W2, qs, rfl, hp2.same s9, kt, fun ho e H' s' he => ?_, fun ho j H' hj s' => ?_⟩
        · refine hE2 ns i p n hT op hpi hn c (fun hm => ?_) e t H' (s9.trans s') he (kt.same s')
          have : isOpen P2 W2 qs (prD p) = true := by
            unfold isOpen
            rw [prOf_prD, decide_eq_true hm, isPair_prD.mpr (hins2 p hm)]
            rfl
          rw [this] at ho
          cases ho
        · rw [prOf_prD] at hj
          have hm := List.mem_of_getElem? hj
          have lj := (List.getElem?_eq_some_iff.mp hj).1
          refine ⟨l1, _, (j : Int), j, rfl, rfl, s' _ _ h9, Evl.ixN_nat (by rw [List.length_map]; unfold ledL; rw [List.length_map]; exact lj), ?_⟩
          refine ⟨_, _, rfl, fun c o e z => ?_, ?_, op.succ hpi hn fun _ => hm⟩
          · rw [upd_ne z]
            exact s' _ _ (k9 c o e z)
          · rw [upd_same, ledL_step (asc_nodup hasc) (asc_nodup hasc2) hpi hn hj, List.map_set]
    · obtain ⟨y4, y5, rfl, k8, g1, op⟩ := hP
      rw [lps] at g1 op
      rw [List.take_length, ← ln, List.take_length] at g1
      refine ⟨_, rfl, l1, _, rfl, .inl ⟨SqL.of g1, fun l n => ?_⟩⟩
      exact hQ ns hT op l _ ((same k8).trans (same_new n)) (tupI upd_same)
end
end K01
set_option Elab.async false
set_option linter.all false
set_option maxRecDepth 100000
set_option maxHeartbeats 4000000
set_option exponentiation.threshold 5000
namespace TkS
open PySem PySem.Spec PyProof.Rows L2
/-- a target that takes this or that -/
def gOr (g1 g2 : TG) : TG := fun v σ H Q => g1 v σ H Q ∨ g2 v σ H Q
theorem pg_or {X : Cx} {tg : Expr} {g1 g2 : TG} (h1 : PG X tg g1) (h2 : PG X tg g2) : PG X tg (gOr g1 g2) :=
  ⟨fun pins s σ H v u Q I r hw => hw.elim (fun h => h1.run pins s σ H v u Q I r h) (fun h => h2.run pins s σ H v u Q I r h)⟩
end TkS
namespace K01
open PySem PySem.Spec PyProof.Rows L2 TkS
/-! sayings -/
def sayW (P W : Int) (ps : List (Int × Int)) (d : PyData) : Option Str := match itemsD d with
  | some [t, s] => match tourW P W ps t with
    | some _ => some "tour"
    | none => if wholeD s 0 1 = true then none else some "sign"
  | _ => some "couple"
def IsS (P W : Int) (ps : List (Int × Int)) (d : PyData) (ns : List Int) (s : Int) : Prop := (∃ t, itemsD d = some [t, .int s] ∧ IsT P W ps t ns) ∧ 0 ≤ s ∧ s ≤ 1
theorem isS_of {P W : Int} {ps : List (Int × Int)} {d : PyData} (h : sayW P W ps d = none) : ∃ ns s, IsS P W ps d ns s := by
  unfold sayW at h
  split at h
  · rename_i t s e
    split at h
    · cases h
    · rename_i e2
      obtain ⟨ns, hns⟩ := isT_of e2
      cases hb : wholeD s 0 1 with
      | false =>
        rw [hb] at h
        cases h
      | true =>
        obtain ⟨i, rfl, i0, i1⟩ := wholeD_of hb
        exact ⟨ns, i, ⟨t, e, hns⟩, i0, i1⟩
  · cases h
theorem IsS.none {P W : Int} {ps : List (Int × Int)} {d : PyData} {ns : List Int} {s : Int} (h : IsS P W ps d ns s) : sayW P W ps d = none := by
  obtain ⟨⟨t, e, ht⟩, s0, s1⟩ := h
  unfold sayW
  rw [e]
  dsimp only
  rw [ht.none]
  dsimp only
  rw [if_pos]
  show (decide (0 ≤ s) && decide (s ≤ 1)) = true
  rw [decide_eq_true s0, decide_eq_true s1]
  rfl
def sayD (ns : List Int) (s : Int) : PyData := .tuple [.tuple (ns.map PyData.int), .int s]
theorem isS_sayD {P W : Int} {ps : List (Int × Int)} {ns : List Int} {s : Int} (t : Tour P W ps ns) (s0 : 0 ≤ s) (s1 : s ≤ 1) : IsS P W ps (sayD ns s) ns s := ⟨⟨_, rfl, rfl, t⟩, s0, s1⟩
def sp_is_sign : Sp := fun vs H Q _ => ∃ x d, vs = [x] ∧ Dq H x d ∧ Q (.bl (wholeD d 0 1)) H
def sp_check_saying (C CS : Addr) : Sp := fun vs H Q E => ∃ (a : Addr) (x : V) (d : PyData) (P W : Int) (ps : List (Int × Int)), vs = [.ref a, x] ∧ Pic C H a P W ps ∧ Dq H x d ∧
  (∀ e, sayW P W ps d = some e → Told CS e H E) ∧ (∀ ns s, IsS P W ps d ns s → ∀ l H', Same H H' → Dq H' (.ref l) (sayD ns s) → Q (.ref l) H')
section
variable {P : Program} {w : World} {K : PySem.W.Frag} {mg : Str → Option Value} {base : Heap}
theorem ok_is_sign (T : Txt K mg) : FnOk P w K mg base CX0 2 T.f_is_sign T.d_is_sign ["thing"] sp_is_sign := by
  refine T.F_is_sign.ok sc_is_sign (fun vs H Q E h => ?_) (fun cdv A outer s H vs Q E hr h => ?_)
  · obtain ⟨x, d, rfl, _⟩ := h
    rfl
  · obtain ⟨x, d, rfl, k, q⟩ := h
    refine ⟨_, (pss_one (ps_ret (pe_call (ok_is_whole T) (hr.mono (by decide)) (by rfl) T.g_is_whole T.F_is_whole.kp T.b_is_whole .nil pass0 (pa_cons (pv 0) (pa_cons pe_int (pa_cons pe_int pa_nil)))))), ?_⟩
    refine ⟨_, rfl, x, .int 0, .int 1, d, rfl, k, .inr ⟨_, rfl⟩, .inr ⟨_, rfl⟩, ?_⟩
    rw [wi_dq k]
    exact q
theorem ok_check_saying (T : Txt K mg) : FnOk P w K mg base (L2.CX P w) 5 T.f_check_saying T.d_check_saying ["picture", "saying"] (sp_check_saying T.C_Picture T.C_BadSaying) := by
  refine T.F_check_saying.okX sc_check_saying (fun vs H Q E h => ?_) (fun cdv A outer s H vs Q E hr h => ?_)
  · obtain ⟨a, x, d, P', W, ps, rfl, _⟩ := h
    rfl
  · obtain ⟨a, x, d, P', W, ps, rfl, hp, kx, hE, hQ⟩ := h
    refine' ⟨_, (pss_cons (ps_if (pt_not (pt_val (pe_call (ok_is_sequence T) (hr.mono (by decide)) (by rfl) T.g_is_sequence T.F_is_sequence.kp T.b_is_sequence .nil pass0 (pa_cons (pv 1) (pa_cons pe_int pa_nil)))))
        (pss_one (ps_raise (W := fun cls d _ H => E cls d H) rfl (takes_of rfl rfl rfl rfl) (pmk_oex T.o_BadSaying T.i_BadSaying T.t_BadSaying (ok_BadSaying_init T) (hr.mono (by decide)) T.b_BadSaying_init .nil pass0 (by rfl) T.g_BadSaying (pa_cons pe_str pa_nil))))
        pss_nil)
      (pss_cons (ps_asg (pv 1) (pg_or (pg_unl rfl (pgs_cons (pg_name (i := 2) sc_check_saying.nd rfl (.inl rfl)) (pgs_cons (pg_name (i := 3) sc_check_saying.nd rfl (.inl rfl)) pgs_nil))) (pg_tup rfl (pgs_cons (pg_name (i := 2) sc_check_saying.nd rfl (.inl rfl)) (pgs_cons (pg_name (i := 3) sc_check_saying.nd rfl (.inl rfl)) pgs_nil)))))
      (pss_cons ?tr
      (pss_cons (ps_if (pt_not (pt_val (pe_call (ok_is_sign T) (hr.mono (by decide)) (by rfl) T.g_is_sign T.F_is_sign.kp T.b_is_sign .nil pass0 (pa_cons (pv 3) pa_nil))))
        (pss_one (ps_raise (W := fun cls d _ H => E cls d H) rfl (takes_of rfl rfl rfl rfl) (pmk_oex T.o_BadSaying T.i_BadSaying T.t_BadSaying (ok_BadSaying_init T) (hr.mono (by decide)) T.b_BadSaying_init .nil pass0 (by rfl) T.g_BadSaying (pa_cons pe_str pa_nil))))
        pss_nil)
      (pss_one (ps_ret (pe_tup (pa_cons (pv 4) (pa_cons (pv 3) pa_nil))))))))), ?_⟩
    case tr =>
      exact L2H.ps_try_onlyX (Wout := fun cls d _ H => E cls d H) rfl rfl ⟨rfl, by decide, Or.inl T.g_BadTour⟩ (L2H.passesAt_of rfl) (takes_of rfl rfl rfl rfl)
        (fun W pn xe tkN tk _ => pss_one (ps_set (i := 4) sc_check_saying.nd rfl (.inl rfl) (pe_callSD (ok_check_tourN T) (hr.mono (by decide)) (by rfl) T.g_check_tour T.F_check_tour.kp T.b_check_tour .nil (fun σ => L2N.passAt tkN σ) (pa_cons (pv 0) (pa_cons (pv 2) pa_nil)))))
        (fun a oe cls d pn hz hf tk hot => pss_one (L2H.ps_raiseH hot tk (L2H.pmk5_oexH T.o_BadSaying T.i_BadSaying T.t_BadSaying (ok_BadSaying_initH T) (L2H.roomH_mark (hr.mono (by decide)) _) hot T.b_BadSaying_init pass0 (by rfl) T.g_BadSaying (pa_cons pe_str pa_nil)).pmk))
    refine ⟨_, rfl, x, .int 2, d, rfl, kx, .inr ⟨_, rfl⟩, fun H1 s1 => ⟨_, rfl, ?_⟩⟩
    have kx1 := kx.same s1
    cases hz : seqIs d (.int 2) with
    | false =>
      refine iteT (mk_exc fun b H' s nb hb => hE "couple" ?_ b H' (s1.trans s) hb)
      unfold seqIs at hz
      unfold sayW
      cases e : itemsD d with
      | none => rfl
      | some ds =>
        rw [e] at hz
        match ds, hz with
        | [], _ => rfl
        | [_], _ => rfl
        | [_, _], z => exact (of_decide_eq_false z rfl).elim
        | _ :: _ :: _ :: _, _ => rfl
    | true =>
      obtain ⟨a0, a1, e⟩ : ∃ a0 a1, itemsD d = some [a0, a1] := by
        unfold seqIs at hz
        cases e : itemsD d with
        | none =>
          rw [e] at hz
          cases hz
        | some ds =>
          rw [e] at hz
          match ds, hz with
          | [], z => exact absurd z (by decide)
          | [_], z => exact absurd (show ((1 : Nat) : Int) = 2 from of_decide_eq_true z) (by decide)
          | [a, b], _ => exact ⟨a, b, rfl⟩
          | a :: b :: c :: r, z =>
            exfalso
            have z' : ((r.length + 1 + 1 + 1 : Nat) : Int) = 2 := of_decide_eq_true z
            omega
      obtain ⟨p, xs, rfl, hxs, hsq⟩ := sq_of (K := K) kx1 e
      have sw : sayW P' W ps d = match tourW P' W ps a0 with
          | some _ => some ("tour" : Str)
          | none => if wholeD a1 0 1 = true then none else some ("sign" : Str) := by
        unfold sayW
        rw [e]
      cases hxs with
      | cons k0 t =>
        cases t with
        | cons k1 t =>
          cases t
          rename_i v0 v1
          refine iteF ?_
          refine ⟨_, rfl, ?_⟩
          refine (fun r => hsq.elim (fun h => .inl ⟨p, _, rfl, h, rfl, _, _, rfl, _, _, rfl, rfl, r⟩) (fun h => .inr ⟨p, _, rfl, h, rfl, _, _, rfl, _, _, rfl, rfl, r⟩)) ?_
          refine ⟨_, rfl, _, rfl, a, v0, a0, P', W, ps, rfl, hp.same s1, k0, fun e2 he2 b H' s' hb => ⟨true, T.mm_BadTour_BadTour, fun _ a9 _ => mk_exc fun b2 H2 s2 nb2 hb2 => hE "tour" (by rw [sw, he2]) b2 H2 ((s1.trans s').trans s2) hb2, fun z => Bool.noConfusion z⟩, fun ds w1 i1 l1 H2 s2 k2 => ?_⟩
          rw [w1] at sw
          have k12 := k1.same s2
          refine ⟨_, rfl, v1, a1, rfl, k12, _, rfl, ?_⟩
          cases hb : wholeD a1 0 1 with
          | false => exact iteT (mk_exc fun b H' s nb hb' => hE "sign" (by rw [sw, hb]; rfl) b H' ((s1.trans s2).trans s) hb')
          | true =>
            obtain ⟨sg, rfl, g0, g1⟩ := wholeD_of hb
            obtain ⟨ns, e1, t1⟩ := isT_of w1
            rw [e1] at i1
            cases i1
            refine iteF ⟨_, rfl, _, rfl, (by show 2 ≤ sizeLine; decide), fun u nu => ?_⟩
            have s3 := same_new (o := .tup [.ref l1, v1]) nu
            exact hQ ns sg ⟨⟨a0, e, e1, t1⟩, g0, g1⟩ u _ ((s1.trans s2).trans s3) (.tup upd_same (.cons (k2.same s3) (.cons (k12.same s3) .nil)))
end
end K01
set_option Elab.async false
set_option linter.all false
set_option maxRecDepth 100000
set_option maxHeartbeats 4000000
set_option exponentiation.threshold 5000
namespace K01
open PySem PySem.Spec PyProof.Rows L2 TkS
def sp_minus_saying (C : Addr) : Sp := fun vs H Q _ => ∃ (a : Addr) (P W : Int) (ps : List (Int × Int)), vs = [.ref a] ∧ Pic C H a P W ps ∧ 2 ≤ ps.length ∧ ∀ l H', Same H H' → Dq H' (.ref l) (sayD (List.replicate ps.length (0 : Int)) 1) → Q (.ref l) H'
def sp_saying_sum (C CS : Addr) : Sp := fun vs H Q E => ∃ (a : Addr) (x y : V) (d d' : PyData) (P W : Int) (ps : List (Int × Int)), vs = [.ref a, x, y] ∧ Pic C H a P W ps ∧ Dq H x d ∧ Dq H y d' ∧
  (∀ e, sayW P W ps d = some e → Told CS e H E) ∧ (∀ e, sayW P W ps d = none → sayW P W ps d' = some e → Told CS e H E) ∧
  (∀ ns s ms s', IsS P W ps d ns s → IsS P W ps d' ms s' → ∀ l H', Same H H' → Dq H' (.ref l) (sayD (addL ns ms) ((s + s') % 2)) → Q (.ref l) H')
def sp_saying_times (C CS CW : Addr) : Sp := fun vs H Q E => ∃ (a : Addr) (x y : V) (d d' : PyData) (P W : Int) (ps : List (Int × Int)), vs = [.ref a, x, y] ∧ Pic C H a P W ps ∧ Dq H x d ∧ Dq H y d' ∧
  (∀ e, sayW P W ps d = some e → Told CS e H E) ∧ (sayW P W ps d = none → isIntD d' = false → ∀ H', Same H H' → E (.ref CW) none H') ∧
  (∀ ns s m, IsS P W ps d ns s → d' = .int m → (∀ z ∈ ns, Sml z) ∧ Sml m ∧ ∀ l H', Same H H' → Dq H' (.ref l) (sayD (mulL ns m) (s * m % 2)) → Q (.ref l) H')
theorem dq_say {H : Hp} {v : V} {ns : List Int} {s : Int} (k : Dq H v (sayD ns s)) : ∃ a t, v = .ref a ∧ H a = some (.tup [.ref t, .int s]) ∧ Dq H (.ref t) (.tuple (ns.map PyData.int)) := by
  cases k with
  | tup e t =>
    cases t with
    | cons k0 t =>
      cases t with
      | cons k1 t =>
        cases t
        cases k1
        obtain ⟨b, rfl, hb⟩ := dq_tupI k0
        exact ⟨_, b, rfl, e, k0⟩
theorem sayT {H : Hp} {a t : Addr} {ns : List Int} {s : Int} (h : H a = some (.tup [.ref t, .int s])) (k : Dq H (.ref t) (.tuple (ns.map PyData.int))) : Dq H (.ref a) (sayD ns s) := .tup h (.cons k (.cons (.int _) .nil))
theorem isT_tup {P W : Int} {ps : List (Int × Int)} {d : PyData} {ns : List Int} (h : IsT P W ps d ns) : IsT P W ps (.tuple (ns.map PyData.int)) ns := ⟨rfl, h.2⟩
theorem IsT.fn {P W : Int} {ps : List (Int × Int)} {ns ms : List Int} (h : IsT P W ps (.tuple (ns.map PyData.int)) ms) : ms = ns := by
  have e := h.1
  have e2 : ns.map PyData.int = ms.map PyData.int := Option.some.inj e
  have := congrArg (List.map intD) e2
  rw [map_intD, map_intD] at this
  exact this.symm
theorem IsT.uniq {P W : Int} {ps : List (Int × Int)} {d : PyData} {ns ms : List Int} (h : IsT P W ps d ns) (h' : IsT P W ps d ms) : ms = ns := by
  have e := h.1.symm.trans h'.1
  have e2 : ns.map PyData.int = ms.map PyData.int := Option.some.inj e
  have := congrArg (List.map intD) e2
  rw [map_intD, map_intD] at this
  exact this.symm
section
variable {P : Program} {w : World} {K : PySem.W.Frag} {mg : Str → Option Value} {base : Heap}
theorem ok_minus_saying (T : Txt K mg) : FnOk P w K mg base CX0 4 T.f_minus_saying T.d_minus_saying ["picture"] (sp_minus_saying T.C_Picture) := by
  refine T.F_minus_saying.ok sc_minus_saying (fun vs H Q E h => ?_) (fun cdv A outer s H vs Q E hr h => ?_)
  · obtain ⟨a, P', W, ps, rfl, _⟩ := h
    rfl
  · obtain ⟨a, P', W, ps, rfl, hp, h2, hQ⟩ := h
    refine ⟨_, (pss_one (ps_ret (pe_tup (pa_cons (pe_call (ok_no_tour T) (hr.mono (by decide)) (by rfl) T.g_no_tour T.F_no_tour.kp T.b_no_tour .nil pass0 (pa_cons (pv 0) pa_nil)) (pa_cons pe_int pa_nil))))), ?_⟩
    refine ⟨_, rfl, a, P', W, ps, rfl, hp, h2, fun l H' s k => ⟨(by show 2 ≤ sizeLine; decide), fun u nu => ?_⟩⟩
    have s3 := same_new (o := .tup [.ref l, .int 1]) nu
    exact hQ u _ (s.trans s3) (sayT upd_same (k.same s3))
theorem ok_saying_sum (T : Txt K mg) : FnOk P w K mg base (L2.CX P w) 6 T.f_saying_sum T.d_saying_sum ["picture", "one", "other"] (sp_saying_sum T.C_Picture T.C_BadSaying) := by
  refine T.F_saying_sum.okX sc_saying_sum (fun vs H Q E h => ?_) (fun cdv A outer s H vs Q E hr h => ?_)
  · obtain ⟨a, x, y, d, d', P', W, ps, rfl, _⟩ := h
    rfl
  · obtain ⟨a, x, y, d, d', P', W, ps, rfl, hp, kx, ky, hE1, hE2, hQ⟩ := h
    refine ⟨_, (pss_cons (ps_asg (pe_call (ok_check_saying T) (hr.mono (by decide)) (by rfl) T.g_check_saying T.F_check_saying.kp T.b_check_saying .nil (passes_call (W := fun cls d _ H => E cls d H) (takes_of rfl rfl rfl rfl) (fun _ _ _ _ h => h)) (pa_cons (pv 0) (pa_cons (pv 1) pa_nil))) (pg_tup rfl (pgs_cons (pg_name (i := 3) sc_saying_sum.nd rfl (.inl rfl)) (pgs_cons (pg_name (i := 4) sc_saying_sum.nd rfl (.inl rfl)) pgs_nil))))
      (pss_cons (ps_asg (pe_call (ok_check_saying T) (hr.mono (by decide)) (by rfl) T.g_check_saying T.F_check_saying.kp T.b_check_saying .nil (passes_call (W := fun cls d _ H => E cls d H) (takes_of rfl rfl rfl rfl) (fun _ _ _ _ h => h)) (pa_cons (pv 0) (pa_cons (pv 2) pa_nil))) (pg_tup rfl (pgs_cons (pg_name (i := 5) sc_saying_sum.nd rfl (.inl rfl)) (pgs_cons (pg_name (i := 6) sc_saying_sum.nd rfl (.inl rfl)) pgs_nil))))
      (pss_one (ps_ret (pe_tup (pa_cons (pe_call (ok_tour_sum T) (hr.mono (by decide)) (by rfl) T.g_tour_sum T.F_tour_sum.kp T.b_tour_sum .nil (passes_call (W := fun cls d _ H => E cls d H) (takes_of rfl rfl rfl rfl) (fun _ _ _ _ h => h)) (pa_cons (pv 0) (pa_cons (pv 3) (pa_cons (pv 5) pa_nil)))) (pa_cons (pe_op op_mod (pe_op op_add (pv 4) (pv 6)) pe_int) pa_nil))))))), ?_⟩
    refine ⟨_, rfl, _, rfl, a, x, d, P', W, ps, rfl, hp, kx, hE1, fun ns s1 i1 l1 H1 m1 k1 => ?_⟩
    obtain ⟨_, t1, z1, h1, g1⟩ := dq_say k1
    cases z1
    refine ⟨l1, _, rfl, SqT.of h1, rfl, _, _, rfl, _, _, rfl, rfl, ?_⟩
    refine ⟨_, rfl, _, rfl, a, y, d', P', W, ps, rfl, hp.same m1, ky.same m1, fun e he => (hE2 e i1.none he).same m1, fun ms s2 i2 l2 H2 m2 k2 => ?_⟩
    obtain ⟨_, t2, z2, h2, g2⟩ := dq_say k2
    cases z2
    refine ⟨l2, _, rfl, SqT.of h2, rfl, _, _, rfl, _, _, rfl, rfl, ?_⟩
    obtain ⟨⟨c1, _, it1⟩, _, _⟩ := id i1
    obtain ⟨⟨c2, _, it2⟩, _, _⟩ := id i2
    refine ⟨_, rfl, _, rfl, _, rfl, a, .ref t1, .ref t2, _, _, P', W, ps, rfl, (hp.same m1).same m2, g1.same m2, g2, (fun e he => by rw [(isT_tup it1).none] at he; cases he), (fun e _ he => by rw [(isT_tup it2).none] at he; cases he), fun n1 n2 j1 j2 l H3 m3 k3 => ?_⟩
    rw [j1.fn, j2.fn] at k3
    refine ⟨_, rfl, _, rfl, _, _, rfl, rfl, _, _, rfl, rfl, (by show (0 : Int) < _; decide), (by show 2 ≤ sizeLine; decide), fun u nu => ?_⟩
    have m4 := same_new (o := .tup [.ref l, .int ((s1 + s2) % 2)]) nu
    exact hQ ns s1 ms s2 i1 i2 u _ (((m1.trans m2).trans m3).trans m4) (sayT upd_same (k3.same m4))
theorem ok_saying_times (T : Txt K mg) : FnOk P w K mg base (L2.CX P w) 6 T.f_saying_times T.d_saying_times ["picture", "saying", "whole"] (sp_saying_times T.C_Picture T.C_BadSaying T.C_BadWhole) := by
  refine T.F_saying_times.okX sc_saying_times (fun vs H Q E h => ?_) (fun cdv A outer s H vs Q E hr h => ?_)
  · obtain ⟨a, x, y, d, d', P', W, ps, rfl, _⟩ := h
    rfl
  · obtain ⟨a, x, y, d, d', P', W, ps, rfl, hp, kx, ky, hE1, hE2, hQ⟩ := h
    refine ⟨_, (pss_cons (ps_asg (pe_call (ok_check_saying T) (hr.mono (by decide)) (by rfl) T.g_check_saying T.F_check_saying.kp T.b_check_saying .nil (passes_call (W := fun cls d _ H => E cls d H) (takes_of rfl rfl rfl rfl) (fun _ _ _ _ h => h)) (pa_cons (pv 0) (pa_cons (pv 1) pa_nil))) (pg_tup rfl (pgs_cons (pg_name (i := 3) sc_saying_times.nd rfl (.inl rfl)) (pgs_cons (pg_name (i := 4) sc_saying_times.nd rfl (.inl rfl)) pgs_nil))))
      (pss_cons (ps_set (i := 5) sc_saying_times.nd rfl (.inl rfl) (pe_call (ok_tour_times T) (hr.mono (by decide)) (by rfl) T.g_tour_times T.F_tour_times.kp T.b_tour_times .nil (passes_call (W := fun cls d _ H => E cls d H) (takes_of rfl rfl rfl rfl) (fun _ _ _ _ h => h)) (pa_cons (pv 0) (pa_cons (pv 3) (pa_cons (pv 2) pa_nil)))))
      (pss_one (ps_ret (pe_tup (pa_cons (pv 5) (pa_cons (pe_op op_mod (pe_op op_mulW (pv 4) (pv 2)) pe_int) pa_nil))))))), ?_⟩
    refine ⟨_, rfl, _, rfl, a, x, d, P', W, ps, rfl, hp, kx, hE1, fun ns s1 i1 l1 H1 m1 k1 => ?_⟩
    obtain ⟨_, t1, z1, h1, g1⟩ := dq_say k1
    cases z1
    refine ⟨l1, _, rfl, SqT.of h1, rfl, _, _, rfl, _, _, rfl, rfl, ?_⟩
    obtain ⟨⟨c1, _, it1⟩, b0, b1⟩ := id i1
    refine ⟨_, rfl, _, rfl, _, rfl, a, .ref t1, y, _, d', P', W, ps, rfl, hp.same m1, g1, ky.same m1, (fun e he => by rw [(isT_tup it1).none] at he; cases he), fun _ hb H' m2 => hE2 i1.none hb H' (m1.trans m2), fun n1 m j1 em => ?_⟩
    subst em
    obtain ⟨q1, q2, q3⟩ := hQ ns s1 m i1 rfl
    rw [j1.fn]
    refine ⟨q1, q2, fun l H3 m3 k3 => ?_⟩
    have ky3 := (ky.same m1).same m3
    cases ky3
    have hs1 : Sml s1 := Nat.lt_of_le_of_lt (show s1.natAbs ≤ 1 by omega) (by decide)
    refine ⟨_, rfl, _, rfl, _, rfl, _, _, rfl, rfl, sml_mul hs1 q2, _, _, rfl, rfl, (by show (0 : Int) < _; decide), (by show 2 ≤ sizeLine; decide), fun u nu => ?_⟩
    have m4 := same_new (o := .tup [.ref l, .int (s1 * m % 2)]) nu
    exact q3 u _ ((m1.trans m3).trans m4) (sayT upd_same (k3.same m4))
end
end K01
set_option Elab.async false
set_option linter.all false
set_option maxRecDepth 100000
set_option maxHeartbeats 4000000
set_option exponentiation.threshold 5000
namespace K01
open PySem PySem.Spec PyProof.Rows L2 TkS
/-! the law's pictures -/
theorem dq_kp {H H' : Hp} {h : Addr} {v : V} {d : PyData} (hd : Hand H h) (k : Keep h H H') (n : noHd d = true) (q : Dq H v d) : Dq H' v d := by
  obtain ⟨c, cells, p, r, t, e, ec, _⟩ := hd.ex
  exact dq_hd e ec k.kp _ n q
theorem dqs_kp {H H' : Hp} {h : Addr} {v : List V} {d : List PyData} (hd : Hand H h) (k : Keep h H H') (n : noHds d = true) (q : DqAll H v d) : DqAll H' v d := by
  obtain ⟨c, cells, p, r, t, e, ec, _⟩ := hd.ex
  exact dqs_hd e ec k.kp _ n q
structure Wd (P W : Int) (ps : List (Int × Int)) : Prop where
  p0 : 2 ≤ P
  p1 : P ≤ 4
  w0 : 2 ≤ W
  w1 : W ≤ 4
  ins : Ins P W ps
  asc : Asc ps
  len : 4 ≤ ps.length
theorem Wd.len25 {P W : Int} {ps : List (Int × Int)} (h : Wd P W ps) : ps.length ≤ 16 := by
  have n := asc_nodup h.asc
  have l := nd_le n (B := fullPs P.toNat W.toNat) (fun p hp => mem_fullPs.mpr (by have := h.ins p hp; omega))
  rw [fullPs_len] at l
  have p1 := h.p1
  have w1 := h.w1
  have : P.toNat * W.toNat ≤ 4 * 4 := Nat.mul_le_mul (by omega) (by omega)
  omega
theorem noHd_prs (ps : List (Int × Int)) : noHd (.list (ps.map prD)) = true := noHd_list (fun d m => by
  obtain ⟨p, _, rfl⟩ := List.mem_map.mp m
  rfl) (.inr fun d m es e => by
  obtain ⟨p, _, rfl⟩ := List.mem_map.mp m
  cases e)
theorem wd_full {P W : Int} (p0 : 2 ≤ P) (p1 : P ≤ 4) (w0 : 2 ≤ W) (w1 : W ≤ 4) : Wd P W (fullPs P.toNat W.toNat) := ⟨p0, p1, w0, w1, fullPs_ins (by omega) (by omega), fullPs_asc _ _, by
  rw [fullPs_len]
  have : 2 * 2 ≤ P.toNat * W.toNat := Nat.mul_le_mul (by omega) (by omega)
  exact this⟩
theorem wd_sub {P W : Int} {ps qs : List (Int × Int)} (h : Wd P W ps) (s : qs.Sublist ps) (l : 4 ≤ qs.length) : Wd P W qs := ⟨h.p0, h.p1, h.w0, h.w1, fun p m => h.ins p (s.subset m), List.Pairwise.sublist s h.asc, l⟩
theorem hand_ne {H : Hp} {h D : Addr} (hd : Hand H h) (nD : H D = none) : D ≠ h := fun z => by
  obtain ⟨c, cells, p, r, t, e1, _⟩ := hd.ex
  rw [z, e1] at nD
  cases nD
theorem Hand.putD {H0 G : Hp} {D h : Addr} {o : HO} (hd0 : Hand H0 h) (nD : H0 D = none) (k : Keep h H0 G) (hd : Hand G h) : Hand (upd G D o) h := by
  have nh := hand_ne hd0 nD
  obtain ⟨c0, cells0, p0, r0, t0, e1, e2, _⟩ := hd0.ex
  obtain ⟨c, cells, p, r, t, f1, f2, f3⟩ := hd.ex
  obtain ⟨p', r', t', g⟩ := k.cc _ _ _ _ e1
  rw [f1] at g
  cases g
  have nc : c0 ≠ D := ne_of_none e2 nD
  exact ⟨c0, cells, _, _, _, by rw [upd_ne (Ne.symm nh)]; exact f1, by rw [upd_ne nc]; exact f2, f3⟩
theorem Keep.putD {H0 G : Hp} {D h : Addr} {o : HO} (hd0 : Hand H0 h) (nD : H0 D = none) (k : Keep h H0 G) : Keep h H0 (upd G D o) :=
  ⟨fun b u n e => by rw [upd_ne (ne_of_none e nD)]; exact k b u n e, fun c p r t e => by
    obtain ⟨p', r', t', g⟩ := k.cc _ _ _ _ e
    exact ⟨p', r', t', by rw [upd_ne (Ne.symm (hand_ne hd0 nD))]; exact g⟩⟩
theorem filt_pr (ps : List (Int × Int)) (g : Int × Int → Bool) : ((ps.map prD).filter fun d => g (prOf d)).map id = (ps.filter g).map prD := by
  rw [List.map_id, List.filter_map]
  rfl
theorem rng_pe (ps : List (Int × Int)) : (List.range ps.length).map (pe ps) = ps := by
  refine List.ext_getElem? fun j => ?_
  rw [List.getElem?_map]
  by_cases c : j < ps.length
  · rw [List.getElem?_range c, pe_at c]
    rfl
  · rw [List.getElem?_eq_none (by rw [List.length_range]; omega), List.getElem?_eq_none (by omega)]
    rfl
theorem rng_sub (ps : List (Int × Int)) (f : Nat → Bool) : (((List.range ps.length).filter f).map (pe ps)).Sublist ps := by
  have h : (((List.range ps.length).filter f).map (pe ps)).Sublist ((List.range ps.length).map (pe ps)) := List.Sublist.map _ List.filter_sublist
  rwa [rng_pe] at h
theorem shut_len (n : Nat) (zs : List Int) : n ≤ ((List.range n).filter fun (k : Nat) => !inV (.int (k : Int)) (zs.map V.int)).length + zs.length := by
  have l := nd_le (A := List.range n) (B := ((List.range n).filter fun (k : Nat) => !inV (.int (k : Int)) (zs.map V.int)) ++ zs.map Int.toNat) List.nodup_range (fun k hk => ?_)
  · rw [List.length_range, List.length_append, List.length_map] at l
    exact l
  · rw [List.mem_append]
    cases c : inV (.int (k : Int)) (zs.map V.int) with
    | false => exact .inl (List.mem_filter.mpr ⟨hk, by rw [c]; rfl⟩)
    | true =>
      refine .inr ?_
      unfold inV at c
      obtain ⟨y, hy, e⟩ := List.any_eq_true.mp c
      obtain ⟨z, hz, rfl⟩ := List.mem_map.mp hy
      have e2 : (z == (k : Int)) = true := e
      have e3 := beq_iff_eq.mp e2
      exact List.mem_map.mpr ⟨z, hz, by rw [e3]; rfl⟩
def sp_law_picture : Sp := fun vs H Q _ => ∃ h : Addr, vs = [.ref h] ∧ Hand H h ∧ ∀ H' t l P W ps, Keep h H H' → Hand H' h → Wd P W ps → H' t = some (.tup [.int P, .int W, .ref l]) → Dq H' (.ref l) (.list (ps.map prD)) → Q (.ref t) H'
section
variable {P : Program} {w : World} {K : PySem.W.Frag} {mg : Str → Option Value} {base : Heap}
theorem ok_law_picture (T : Txt K mg) : FnOk P w K mg base CX0 3 T.f_law_picture T.d_law_picture ["_law_hand_here"] sp_law_picture := by
  refine T.F_law_picture.ok sc_law_picture (fun vs H Q E h => ?_) (fun cdv A outer s H vs Q E hr h => ?_)
  · obtain ⟨h, rfl, _⟩ := h
    rfl
  · obtain ⟨h, rfl, hd, q⟩ := h
    refine ⟨_, (pss_cons (ps_set (i := 1) sc_law_picture.nd rfl (.inl rfl) (pe_call (ok_law_take T) (hr.mono (by decide)) (by rfl) T.g_law_take T.F_law_take.kp T.b_law_take .nil pass0 (pa_cons (pv 0) (pa_cons pe_int pa_nil))))
      (pss_cons (ps_if (pt_cmpR op_eq (pv 1) pe_int (nomark _))
        (pss_one (ps_ret (pe_tup (pa_cons pe_int (pa_cons pe_int (pa_cons (pe_call (ok_law_full T) (hr.mono (by decide)) (by rfl) T.g_law_full T.F_law_full.kp T.b_law_full .nil pass0 (pa_cons pe_int (pa_cons pe_int pa_nil))) pa_nil))))))
        pss_nil)
      (pss_cons (ps_if (pt_cmpR op_eq (pv 1) pe_int (nomark _))
        (pss_one (ps_ret (pe_tup (pa_cons pe_int (pa_cons pe_int (pa_cons (pe_call (ok_law_full T) (hr.mono (by decide)) (by rfl) T.g_law_full T.F_law_full.kp T.b_law_full .nil pass0 (pa_cons pe_int (pa_cons pe_int pa_nil))) pa_nil))))))
        pss_nil)
      (pss_cons (ps_if (pt_cmpR op_eq (pv 1) pe_int (nomark _))
        (pss_one (ps_ret (pe_tup (pa_cons pe_int (pa_cons pe_int (pa_cons (pe_call (ok_law_full T) (hr.mono (by decide)) (by rfl) T.g_law_full T.F_law_full.kp T.b_law_full .nil pass0 (pa_cons pe_int (pa_cons pe_int pa_nil))) pa_nil))))))
        pss_nil)
      (pss_cons (ps_if (pt_cmpR op_le (pv 1) pe_int (nomark _))
        (pss_one (ps_ret (pe_tup (pa_cons pe_int (pa_cons pe_int (pa_cons (pe_call (ok_law_full T) (hr.mono (by decide)) (by rfl) T.g_law_full T.F_law_full.kp T.b_law_full .nil pass0 (pa_cons pe_int (pa_cons pe_int pa_nil))) pa_nil))))))
        pss_nil)
      (pss_cons (ps_if (pt_cmpR op_eq (pv 1) pe_int (nomark _))
        (pss_one (ps_ret (pe_tup (pa_cons pe_int (pa_cons pe_int (pa_cons (pe_lc rfl sc_law_picture.nd (pi_list (pe_call (ok_law_full T) (hr.mono (by decide)) (by rfl) T.g_law_full T.F_law_full.kp T.b_law_full .nil pass0 (pa_cons pe_int (pa_cons pe_int pa_nil)))) (blkOk_by (own := [("_law_pair", 6)]) (N := ["_law_hand_here", "_law_pick", "_law_shut", "_law_shuts", "_law_pairs", "_law_k", "_law_pair"]) (sc := defScope s_law_picture) (by decide +kernel)) (fun _ _ _ _ _ => (pg_name (i := 6) sc_law_picture.nd rfl (.inl rfl))) (fun _ _ _ _ _ => (pts_one (pt_cmpR op_ne (pe_ix (show IxR _ (rIx K) from ix_seq) (pv 6) pe_int (fun _ _ => rfl)) (pe_ix (show IxR _ (rIx K) from ix_seq) (pv 6) pe_int (fun _ _ => rfl)) (nomark _)))) (fun _ _ _ _ _ => (pv 6))) pa_nil))))))
        pss_nil)
      (pss_cons (ps_if (pt_cmpR op_eq (pv 1) pe_int (nomark _))
        (pss_one (ps_ret (pe_tup (pa_cons pe_int (pa_cons pe_int (pa_cons (pe_lc rfl sc_law_picture.nd (pi_list (pe_call (ok_law_full T) (hr.mono (by decide)) (by rfl) T.g_law_full T.F_law_full.kp T.b_law_full .nil pass0 (pa_cons pe_int (pa_cons pe_int pa_nil)))) (blkOk_by (own := [("_law_pair", 6)]) (N := ["_law_hand_here", "_law_pick", "_law_shut", "_law_shuts", "_law_pairs", "_law_k", "_law_pair"]) (sc := defScope s_law_picture) (by decide +kernel)) (fun _ _ _ _ _ => (pg_name (i := 6) sc_law_picture.nd rfl (.inl rfl))) (fun _ _ _ _ _ => (pts_one (pt_cmpR (show OpR _ (compareOp .NotEq) (rNeD K) from op_neD hr.units) (pv 6) (pe_tup (pa_cons pe_int (pa_cons pe_int pa_nil))) (nomark _)))) (fun _ _ _ _ _ => (pv 6))) pa_nil))))))
        pss_nil)
      (pss_cons (ps_set (i := 2) sc_law_picture.nd rfl (.inr rfl) (pe_lc rfl sc_law_picture.nd (pi_range1 (by rfl) T.m_range (pa_cons pe_int pa_nil)) (blkOk_by (own := [("_law_k", 5)]) (N := ["_law_hand_here", "_law_pick", "_law_shut", "_law_shuts", "_law_pairs", "_law_k", "_law_pair"]) (sc := defScope s_law_picture) (by decide +kernel)) (fun _ _ _ _ _ => (pg_name (i := 5) sc_law_picture.nd rfl (.inl rfl))) (fun _ _ _ _ _ => pts_nil) (fun _ _ _ _ _ => (pe_call (ok_law_take T) (hr.mono (by decide)) (by rfl) T.g_law_take T.F_law_take.kp T.b_law_take .nil pass0 (pa_cons (pv 0) (pa_cons pe_int pa_nil))))))
      (pss_cons (ps_set (i := 3) sc_law_picture.nd rfl (.inl rfl) (pe_op op_add pe_int (pe_op op_mod (pe_callTy call_int1 (by rfl) T.m_int (by decide +kernel) (pa_cons (pv 1) pa_nil)) pe_int)))
      (pss_cons (ps_set (i := 4) sc_law_picture.nd rfl (.inr rfl) (pe_call (ok_law_full T) (hr.mono (by decide)) (by rfl) T.g_law_full T.F_law_full.kp T.b_law_full .nil pass0 (pa_cons pe_int (pa_cons (pv 3) pa_nil))))
      (pss_one (ps_ret (pe_tup (pa_cons pe_int (pa_cons (pv 3) (pa_cons (pe_lc rfl sc_law_picture.nd (pi_range1 (by rfl) T.m_range (pa_cons (pe_callB call_len_seq (by rfl) T.m_len (by decide +kernel) (pa_cons (pv 4) pa_nil)) pa_nil)) (blkOk_by (own := [("_law_k", 5)]) (N := ["_law_hand_here", "_law_pick", "_law_shut", "_law_shuts", "_law_pairs", "_law_k", "_law_pair"]) (sc := defScope s_law_picture) (by decide +kernel)) (fun _ _ _ _ _ => (pg_name (i := 5) sc_law_picture.nd rfl (.inl rfl))) (fun _ _ _ _ _ => (pts_one (pt_cmpR (show OpR _ (compareOp .NotIn) (rIn K true) from op_notIn_seq) (pv 5) (pv 2) rfl))) (fun _ _ _ _ _ => (pe_ix (show IxR _ (rIxL K) from ix_list) (pv 4) (pv 5) (fun _ _ => rfl)))) pa_nil)))))))))))))))), ?_⟩
    have fin : ∀ {P W : Int} {ps : List (Int × Int)} {H1 : Hp} {l : Addr}, Keep h H H1 → Hand H1 h → Wd P W ps → Dq H1 (.ref l) (.list (ps.map prD)) → [V.int P, V.int W, V.ref l].length ≤ sizeLine ∧ ∀ u, H1 u = none → Q (.ref u) (upd H1 u (.tup [.int P, .int W, .ref l])) := fun {P W ps H1 l} kp hd1 wd kl =>
      ⟨(by show 3 ≤ sizeLine; decide), fun u nu => q _ u l P W ps (kp.trans (Keep.of (same_new nu))) (hd1.same (same_new nu)) wd upd_same (kl.same (same_new nu))⟩
    refine ⟨_, rfl, h, 9, rfl, hd, by decide, by decide, fun H1 r k1 hd1 r0 r1 => ?_⟩
    refine ⟨_, rfl, rfl, _, rfl, ?_⟩
    rw [int_dec]
    by_cases c0 : r = 0
    · rw [decide_eq_true c0]
      exact iteT ⟨2, 2, rfl, by decide, by decide, by decide, by decide, fun l H2 s2 nl kl => fin (k1.trans (Keep.of s2)) (hd1.same s2) (wd_full (P := 2) (W := 2) (by decide) (by decide) (by decide) (by decide)) kl⟩
    rw [decide_eq_false c0]
    refine iteF ⟨_, rfl, rfl, _, rfl, ?_⟩
    rw [int_dec]
    by_cases c1 : r = 1
    · rw [decide_eq_true c1]
      exact iteT ⟨2, 3, rfl, by decide, by decide, by decide, by decide, fun l H2 s2 nl kl => fin (k1.trans (Keep.of s2)) (hd1.same s2) (wd_full (P := 2) (W := 3) (by decide) (by decide) (by decide) (by decide)) kl⟩
    rw [decide_eq_false c1]
    refine iteF ⟨_, rfl, rfl, _, rfl, ?_⟩
    rw [int_dec]
    by_cases c2 : r = 2
    · rw [decide_eq_true c2]
      exact iteT ⟨3, 2, rfl, by decide, by decide, by decide, by decide, fun l H2 s2 nl kl => fin (k1.trans (Keep.of s2)) (hd1.same s2) (wd_full (P := 3) (W := 2) (by decide) (by decide) (by decide) (by decide)) kl⟩
    rw [decide_eq_false c2]
    refine iteF ⟨_, rfl, _, _, rfl, rfl, _, rfl, ite2 (fun c3 => ?_) (fun c3 => ?_)⟩
    · exact ⟨3, 3, rfl, by decide, by decide, by decide, by decide, fun l H2 s2 nl kl => fin (k1.trans (Keep.of s2)) (hd1.same s2) (wd_full (P := 3) (W := 3) (by decide) (by decide) (by decide) (by decide)) kl⟩
    refine ⟨_, rfl, rfl, _, rfl, ?_⟩
    rw [int_dec]
    by_cases c5 : r = 5
    · rw [decide_eq_true c5]
      refine iteT ⟨4, 4, rfl, by decide, by decide, by decide, by decide, fun l H2 s2 nl kl => ?_⟩
      cases kl with
      | lst e t =>
        refine ⟨l, rfl, ⟨_, SqL.of e⟩, fun D nD => lc_listD (fun d => decide ((prOf d).1 ≠ (prOf d).2)) id (SqL.of e) t nD (by rw [List.length_map, fullPs_len]; decide) (fun _ => rfl) (fun i x d H' Q' hd' s' k' q' => ?_) (fun i x d H' Q' hd' _ s' k' acc q' => ?_) (fun H' s' kD => ?_)⟩
        · rw [List.getElem?_map] at hd'
          obtain ⟨p, _, rfl⟩ := Option.map_eq_some_iff.mp hd'
          obtain ⟨_, tt, rfl, ht⟩ := prV_of k'
          refine ⟨_, rfl, .inr (.inl ⟨tt, _, 0, .int p.1, rfl, rfl, SqT.of ht, rfl, _, rfl, .inr (.inl ⟨tt, _, 1, .int p.2, rfl, rfl, SqT.of ht, rfl, rfl, _, rfl, ?_⟩)⟩)⟩
          rw [int_dec]
          have := q' _ (fun _ _ z => z)
          rw [show (decide ((prOf (prD p)).1 ≠ (prOf (prD p)).2)) = !decide (p.1 = p.2) from decide_not] at this
          exact this
        · rw [List.getElem?_map] at hd'
          obtain ⟨p, _, rfl⟩ := Option.map_eq_some_iff.mp hd'
          obtain ⟨acc, ha⟩ := acc
          exact ⟨_, rfl, q' _ _ (fun _ _ z => z) (dq_noL ha _ rfl k')⟩
        · have kD' : Dq H' (.ref D) (.list (((fullPs (Int.toNat 4) (Int.toNat 4)).filter fun p => decide (p.1 ≠ p.2)).map prD)) := by
            rw [← filt_pr]
            exact kD
          refine fin (k1.trans (Keep.of (s2.trans s'))) (hd1.same (s2.trans s')) (wd_sub (wd_full (P := 4) (W := 4) (by decide) (by decide) (by decide) (by decide)) List.filter_sublist ?_) kD'
          decide
    rw [decide_eq_false c5]
    refine iteF ⟨_, rfl, rfl, _, rfl, ?_⟩
    rw [int_dec]
    by_cases c6 : r = 6
    · rw [decide_eq_true c6]
      refine iteT ⟨3, 3, rfl, by decide, by decide, by decide, by decide, fun l H2 s2 nl kl => ?_⟩
      cases kl with
      | lst e t =>
        refine ⟨l, rfl, ⟨_, SqL.of e⟩, fun D nD => lc_listD (fun d => decide (prOf d ≠ (2, 2))) id (SqL.of e) t nD (by rw [List.length_map, fullPs_len]; decide) (fun _ => rfl) (fun i x d H' Q' hd' s' k' q' => ?_) (fun i x d H' Q' hd' _ s' k' acc q' => ?_) (fun H' s' kD => ?_)⟩
        · rw [List.getElem?_map] at hd'
          obtain ⟨p, _, rfl⟩ := Option.map_eq_some_iff.mp hd'
          refine ⟨_, rfl, (by show 2 ≤ sizeLine; decide), fun u nu => ⟨_, prD (2, 2), (k'.same (same_new nu)).dp, (Dq.tup upd_same (.cons (.int _) (.cons (.int _) .nil))).dp, shaped_pr p, shaped_pr _, _, rfl, ?_⟩⟩
          rw [eqv_pr]
          have := q' _ (same_new (o := .tup [.int 2, .int 2]) nu)
          rw [show (decide (prOf (prD p) ≠ (2, 2))) = !decide (p = (2, 2)) from decide_not] at this
          exact this
        · rw [List.getElem?_map] at hd'
          obtain ⟨p, _, rfl⟩ := Option.map_eq_some_iff.mp hd'
          obtain ⟨acc, ha⟩ := acc
          exact ⟨_, rfl, q' _ _ (fun _ _ z => z) (dq_noL ha _ rfl k')⟩
        · have kD' : Dq H' (.ref D) (.list (((fullPs (Int.toNat 3) (Int.toNat 3)).filter fun p => decide (p ≠ (2, 2))).map prD)) := by
            rw [← filt_pr]
            exact kD
          refine fin (k1.trans (Keep.of (s2.trans s'))) (hd1.same (s2.trans s')) (wd_sub (wd_full (P := 3) (W := 3) (by decide) (by decide) (by decide) (by decide)) List.filter_sublist ?_) kD'
          decide
    rw [decide_eq_false c6]
    refine iteF ?_
    refine ⟨3, rfl, by decide, by decide, fun D nD => ?_⟩
    refine lc_range (n := 3) (fun i H' => ∃ zs : List Int, zs.length = i ∧ Keep h H1 H' ∧ Hand H' h ∧ H' D = some (.lst (zs.map V.int))) ⟨[], rfl, Keep.putD hd1 nD Keep.refl, Hand.putD hd1 nD Keep.refl hd1, upd_same⟩ (fun i H' hi hP => ?_) (fun H' hP => ?_)
    · obtain ⟨zs, lz, k', hd', hD⟩ := hP
      refine ⟨rfl, _, rfl, h, 12, rfl, hd', by decide, by decide, fun H2 z k2 hd2 z0 z1 => ?_⟩
      have nh := hand_ne hd1 nD
      have hD2 := k2 _ _ nh hD
      refine ⟨_, hD2, by rw [List.length_map]; exact small1000 (by omega), zs ++ [z], by rw [List.length_append, lz]; rfl, Keep.putD hd1 nD (k'.trans k2), Hand.putD hd1 nD (k'.trans k2) hd2, ?_⟩
      rw [upd_same, List.map_append]
      rfl
    · obtain ⟨zs, lz, k', hd', hD⟩ := hP
      have c3' : ¬ r ≤ 4 := fun z => c3 (decide_eq_true z)
      refine ⟨_, rfl, .inl ⟨_, rfl, _, _, rfl, rfl, (by show (0 : Int) < _; decide), _, _, rfl, rfl, ?_⟩⟩
      refine ⟨_, rfl, 3, 3 + r % 2, rfl, by decide, by decide, by omega, by omega, fun l H2 s2 nl kl => ?_⟩
      have hD2 := s2 _ _ hD
      have wd : Wd 3 (3 + r % 2) (fullPs (Int.toNat 3) (3 + r % 2).toNat) := wd_full (by decide) (by decide) (by omega) (by omega)
      have ln : (fullPs (Int.toNat 3) (3 + r % 2).toNat).length = 3 * (3 + r % 2).toNat := fullPs_len _ _
      generalize fullPs (Int.toNat 3) (3 + r % 2).toNat = fs at kl wd ln
      have kk := k'.trans (Keep.of s2)
      have hd2 := hd'.same s2
      cases kl with
      | lst e t =>
        rename_i fx
        have lx : fx.length = fs.length := by rw [t.len, List.length_map]
        refine ⟨_, rfl, _, rfl, l, fx, rfl, .inl (SqL.of e), _, rfl, by omega, by omega, fun D2 nD2 => ?_⟩
        refine lc_rngD (fun k => !inV (.int (k : Int)) (zs.map V.int)) (fun k => prD (pe fs k)) nD2 (by omega) (fun _ => rfl) (fun k H3 Q3 hk s3 q3 => ?_) (fun k H3 Q3 hk _ s3 acc q3 => ?_) (fun H3 s3 kD => ?_)
        · refine ⟨_, rfl, _, rfl, D, _, rfl, .inl (SqL.of (s3 _ _ hD2)), rfl, ?_, _, rfl, ?_⟩
          · rw [List.all_eq_true]
            intro y hy
            obtain ⟨z, _, rfl⟩ := List.mem_map.mp hy
            rfl
          · rw [Int.zero_add]
            exact q3 _ fun _ _ z => z
        · have hk' : k < fs.length := by omega
          obtain ⟨y, hy⟩ : ∃ y, fx[k]? = some y := ⟨_, List.getElem?_eq_getElem (by omega)⟩
          obtain ⟨d, h1, h2⟩ := t.get hy
          rw [List.getElem?_map, pe_at hk'] at h1
          cases h1
          obtain ⟨acc, ha⟩ := acc
          refine ⟨_, rfl, _, rfl, l, fx, (k : Int), y, rfl, by rw [Int.zero_add], SqL.of (s3 _ _ e), at_of (j := k) (by omega) hy, ?_⟩
          exact q3 _ _ (fun _ _ z => z) (dq_noL ha _ rfl (h2.same s3))
        · have ej : ((fx.length : Int)).toNat = fs.length := by omega
          rw [ej] at kD
          have kD' : Dq H3 (.ref D2) (.list ((((List.range fs.length).filter fun (k : Nat) => !inV (.int (k : Int)) (zs.map V.int)).map (pe fs)).map prD)) := by
            rw [List.map_map]
            exact kD
          refine fin ((k1.trans kk).trans (Keep.of s3)) (hd2.same s3) (wd_sub wd (rng_sub _ _) ?_) kD'
          have := shut_len fs.length zs
          rw [List.length_map]
          omega
end
end K01
set_option Elab.async false
set_option linter.all false
set_option maxRecDepth 100000
set_option maxHeartbeats 4000000
set_option exponentiation.threshold 5000
namespace K01
open PySem PySem.Spec PyProof.Rows L2 TkS
/-! tree places -/
def natL (T : List Nat) : List V := T.map fun (k : Nat) => V.int (k : Int)
def natD (T : List Nat) : List PyData := T.map fun (k : Nat) => PyData.int (k : Int)
theorem dq_nat {H : Hp} (T : List Nat) : DqAll H (natL T) (natD T) := dq_ints (fun (k : Nat) => (k : Int)) T
theorem natL_len (T : List Nat) : (natL T).length = T.length := List.length_map _
def sp_law_tree : Sp := fun vs H Q _ => ∃ (P W : Int) (l : Addr) (ps : List (Int × Int)), vs = [.int P, .int W, .ref l] ∧ Wd P W ps ∧ Dq H (.ref l) (.list (ps.map prD)) ∧
  ∀ H' t a b, Same H H' → H' t = some (.lst [.ref a, .ref b]) → H' a = some (.lst (natL (trees P W ps ps.length).1)) → H' b = some (.lst (natL (trees P W ps ps.length).2)) → H a = none → H b = none → Q (.ref t) H'
theorem lst_prs {H : Hp} {l : Addr} {ps : List (Int × Int)} (k : Dq H (.ref l) (.list (ps.map prD))) : ∃ xs, H l = some (.lst xs) ∧ DqAll H xs (ps.map prD) ∧ xs.length = ps.length := by
  cases k with
  | lst e t => exact ⟨_, e, t, by rw [t.len, List.length_map]⟩
theorem pr_at {H : Hp} {xs : List V} {ps : List (Int × Int)} {k : Nat} (t : DqAll H xs (ps.map prD)) (hk : k < ps.length) : ∃ a, xs[k]? = some (.ref a) ∧ H a = some (.tup [.int (pe ps k).1, .int (pe ps k).2]) := by
  have lx : xs.length = ps.length := by rw [t.len, List.length_map]
  obtain ⟨y, hy⟩ : ∃ y, xs[k]? = some y := ⟨_, List.getElem?_eq_getElem (by omega)⟩
  obtain ⟨a, p, rfl, hp, ha⟩ := pr_items t hy
  rw [pe_at hk] at hp
  cases hp
  exact ⟨a, hy, ha⟩
/-- pairs[k][0], pairs[k][1] -/
theorem ix_pr {K : PySem.W.Frag} {H : Hp} {a : Addr} {x y : V} {Q : VK} (ha : H a = some (.tup [x, y])) : (Q x H → rIx K (.ref a) (.int 0) H Q) ∧ (Q y H → rIx K (.ref a) (.int 1) H Q) :=
  ⟨fun q => .inr (.inl ⟨a, _, 0, x, rfl, rfl, SqT.of ha, rfl, q⟩), fun q => .inr (.inl ⟨a, _, 1, y, rfl, rfl, SqT.of ha, rfl, q⟩)⟩
theorem map_natD (ps : List (Int × Int)) (T : List Nat) : ((natD T).filter fun _ => true).map (fun d => prD (pe ps (intD d).toNat)) = (T.map (pe ps)).map prD := by
  unfold natD
  rw [List.filter_eq_self.mpr fun _ _ => rfl, List.map_map, List.map_map]
  rfl
theorem natD_at {T : List Nat} {i : Nat} {d : PyData} (h : (natD T)[i]? = some d) : ∃ k, T[i]? = some k ∧ d = .int (k : Int) := by
  unfold natD at h
  rw [List.getElem?_map] at h
  obtain ⟨k, hk, e⟩ := Option.map_eq_some_iff.mp h
  exact ⟨k, hk, e.symm⟩
theorem trees_len (P W : Int) (ps : List (Int × Int)) (n : Nat) : (trees P W ps n).1.length + (trees P W ps n).2.length = n := by
  have hs := (trees_inv P W ps n).sum fun _ => 1
  have cnt : ∀ l : List Nat, S l (fun _ => 1) = (l.length : Int) := fun l => by
    induction l with
    | nil => rfl
    | cons x l ih =>
      rw [S_cons, ih, List.length_cons]
      omega
  rw [cnt, cnt, cnt, List.length_range] at hs
  omega
section
variable {P : Program} {w : World} {K : PySem.W.Frag} {mg : Str → Option Value} {base : Heap}
theorem ok_law_tree (T : Txt K mg) : FnOk P w K mg base CX0 2 T.f_law_tree T.d_law_tree ["_law_points", "_law_shuts", "_law_pairs"] sp_law_tree := by
  refine T.F_law_tree.ok sc_law_tree (fun vs H Q E h => ?_) (fun cdv A outer s H vs Q E hr h => ?_)
  · obtain ⟨P', W, l, ps, rfl, _⟩ := h
    rfl
  · obtain ⟨P', W, l, ps, rfl, wd, kl, q⟩ := h
    refine ⟨_, (pss_cons (ps_set (i := 3) sc_law_tree.nd rfl (.inl rfl) (pe_lst pa_nil))
      (pss_cons (ps_set (i := 4) sc_law_tree.nd rfl (.inl rfl) (pe_lst pa_nil))
      (pss_cons (ps_for PassesOwn.never rfl (pi_range1 (by rfl) T.m_range (pa_cons (pe_callB call_len_seq (by rfl) T.m_len (by decide +kernel) (pa_cons (pv 2) pa_nil)) pa_nil)) (pg_name (i := 5) sc_law_tree.nd rfl (.inl rfl))
        (pss_cons (ps_set (i := 6) sc_law_tree.nd rfl (.inl rfl) (pe_call (ok_law_marks T) (hr.mono (by decide)) (by rfl) T.g_law_marks T.F_law_marks.kp T.b_law_marks .nil pass0 (pa_cons (pv 0) (pa_cons (pv 1) (pa_cons (pe_lc rfl sc_law_tree.nd (pi_seq (pv 3)) (blkOk_by (own := [("_law_j", 7)]) (N := ["_law_points", "_law_shuts", "_law_pairs", "_law_tree_here", "_law_rest", "_law_k", "_law_marks_here", "_law_j"]) (sc := defScope s_law_tree) (by decide +kernel)) (fun _ _ _ _ _ => (pg_name (i := 7) sc_law_tree.nd rfl (.inl rfl))) (fun _ _ _ _ _ => pts_nil) (fun _ _ _ _ _ => (pe_ix (show IxR _ (rIxL K) from ix_list) (pv 2) (pv 7) (fun _ _ => rfl)))) pa_nil)))))
        (pss_one (ps_if (pt_cmpR op_ne (pe_ix ix_list (pv 6) (pe_ix ix_seq (pe_ix ix_list (pv 2) (pv 5) (fun _ _ => rfl)) pe_int (fun _ _ => rfl)) (fun _ _ => rfl)) (pe_ix ix_list (pv 6) (pe_op op_add (pv 0) (pe_ix ix_seq (pe_ix ix_list (pv 2) (pv 5) (fun _ _ => rfl)) pe_int (fun _ _ => rfl))) (fun _ _ => rfl)) (nomark _))
          (pss_one (ps_expr (pe_bm PySem.F.plainAttrs_list PySem.F.slot_list_append PySem.F.type_list_append mt_append (pv 3) (pa_cons (pv 5) pa_nil))))
          (pss_one (ps_expr (pe_bm PySem.F.plainAttrs_list PySem.F.slot_list_append PySem.F.type_list_append mt_append (pv 4) (pa_cons (pv 5) pa_nil))))))))
      (pss_one (ps_ret (pe_lst (pa_cons (pv 3) (pa_cons (pv 4) pa_nil)))))))), ?_⟩
    obtain ⟨fx, el, tl, lx⟩ := lst_prs kl
    have l16 := wd.len25
    have p1 := wd.p1
    have w1 := wd.w1
    have p0 := wd.p0
    have w0 := wd.w0
    refine ⟨Nat.zero_le _, fun ta na => ⟨Nat.zero_le _, fun tb nb => ?_⟩⟩
    have sa : Same H (upd H ta (.lst [])) := same_new na
    have nbH : H tb = none := sa.free nb
    have ab : tb ≠ ta := fun z => by
      rw [z, upd_same] at nb
      cases nb
    have sab : Same H (upd (upd H ta (.lst [])) tb (.lst [])) := sa.trans (same_new nb)
    refine ⟨_, rfl, l, fx, rfl, .inl (SqL.of (sab _ _ el)), _, rfl, by omega, by omega, ?_⟩
    rw [show ((fx.length : Int)).toNat = ps.length by omega]
    refine for_range (fun i σ H' => ∃ y5 y6, σ = [some (.int P'), some (.int W), some (.ref l), some (.ref ta), some (.ref tb), y5, y6, none] ∧ Same H H' ∧ H' ta = some (.lst (natL (trees P' W ps i).1)) ∧ H' tb = some (.lst (natL (trees P' W ps i).2)))
      ⟨none, none, rfl, sab, by rw [upd_ne ab.symm, upd_same]; rfl, upd_same⟩ (fun i σ H' hi hP => ?_) (fun σ H' hP => ?_)
    · obtain ⟨y5, y6, rfl, sm, ea, eb⟩ := hP
      have I := trees_inv P' W ps i
      have tlen := trees_len P' W ps i
      have tstep : trees P' W ps (i + 1) = if (marks P' W ((trees P' W ps i).1.map (pe ps))).getD (eu (pe ps i)) 0 = (marks P' W ((trees P' W ps i).1.map (pe ps))).getD (ev P' (pe ps i)) 0 then ((trees P' W ps i).1, (trees P' W ps i).2 ++ [i]) else ((trees P' W ps i).1 ++ [i], (trees P' W ps i).2) := rfl
      generalize (trees P' W ps i).1 = T1 at I tlen ea tstep
      generalize (trees P' W ps i).2 = R1 at I tlen eb tstep
      refine ⟨_, rfl, _, rfl, lc_seqD (a := ta) (ds := natD T1) (fun _ => true) (fun d => prD (pe ps (intD d).toNat)) (fun Q h => ⟨_, rfl, h⟩) (.inl (SqL.of ea)) (dq_nat T1) (by unfold natD; rw [List.length_map]; omega) (fun _ => rfl) (fun j x d H2 Q2 _ _ _ q2 => q2 _ fun _ _ z => z) (fun D j x d H2 Q2 nD hd _ s2 kd hD q2 => ?_) (fun D H2 nD s2 kD => ?_)⟩
      · obtain ⟨k, hk, rfl⟩ := natD_at hd
        cases kd
        have hk' : k < ps.length := Nat.lt_trans (I.lt k (List.mem_of_getElem? hk)) hi
        obtain ⟨b, hb, tb'⟩ := pr_at tl hk'
        obtain ⟨acc, hacc⟩ := hD
        have sH := sm.trans s2
        refine ⟨_, rfl, _, rfl, l, fx, (k : Int), .ref b, rfl, rfl, SqL.of (sH _ _ el), at_of (j := k) (by omega) hb, ?_⟩
        refine q2 _ _ (fun _ _ z => z) (dq_noL hacc _ rfl ?_)
        exact .tup (sH _ _ tb') (.cons (.int _) (.cons (.int _) .nil))
      · rw [map_natD] at kD
        obtain ⟨zx, ez, tz, _⟩ := lst_prs kD
        have insT : Ins P' W (T1.map (pe ps)) := fun p hp => by
          obtain ⟨k, hk, rfl⟩ := List.mem_map.mp hp
          exact wd.ins _ (pe_mem (Nat.lt_trans (I.lt k hk) hi))
        refine ⟨P', W, D, zx, T1.map (pe ps), rfl, by omega, by omega, by omega, SqL.of ez, tz, insT, fun H3 m s3 hm => ?_⟩
        have s13 := s2.trans s3
        have s03 := sm.trans s13
        obtain ⟨b, hb, tb'⟩ := pr_at tl hi
        have tb3 := s03 _ _ tb'
        have be := ins_ends wd.ins _ (pe_mem hi)
        obtain ⟨b1, b2, b3, b4⟩ := wd.ins _ (pe_mem hi)
        refine ⟨_, rfl, _, rfl, _, rfl, l, fx, (i : Int), .ref b, rfl, by rw [Int.zero_add], SqL.of (s03 _ _ el), at_of (j := i) (by omega) hb, (ix_pr tb3).1 ?_⟩
        refine ⟨m, _, (pe ps i).1, _, rfl, rfl, SqL.of hm, ix_at b1 (by rw [marks_len]; omega), ?_⟩
        refine ⟨_, rfl, _, rfl, _, rfl, _, rfl, l, fx, (i : Int), .ref b, rfl, by rw [Int.zero_add], SqL.of (s03 _ _ el), at_of (j := i) (by omega) hb, (ix_pr tb3).2 ?_⟩
        refine ⟨P', (pe ps i).2, rfl, rfl, m, _, P' + (pe ps i).2, _, rfl, rfl, SqL.of hm, ix_at (by omega) (by rw [marks_len]; omega), ?_⟩
        refine ⟨rfl, _, rfl, ?_⟩
        rw [int_dec]
        have ea3 := s13 _ _ ea
        have eb3 := s13 _ _ eb
        by_cases c : (marks P' W (T1.map (pe ps))).getD (eu (pe ps i)) 0 = (marks P' W (T1.map (pe ps))).getD (ev P' (pe ps i)) 0
        · rw [decide_eq_true (show (marks P' W (T1.map (pe ps))).getD (pe ps i).1.toNat 0 = (marks P' W (T1.map (pe ps))).getD (P' + (pe ps i).2).toNat 0 from c)]
          rw [if_pos c] at tstep
          refine iteF ⟨_, rfl, .inl ⟨rfl, _, SqL.of eb3⟩, _, rfl, tb, natL R1, _, rfl, rfl, eb3, small1000 (by rw [natL_len]; omega), ?_⟩
          refine ⟨_, _, rfl, fun b o e => ?_, ?_, ?_⟩
          · rw [upd_ne (ne_of_none e nbH)]
            exact s03 _ _ e
          · rw [upd_ne ab.symm, tstep]
            exact ea3
          · rw [upd_same, tstep]
            show some (HO.lst (natL R1 ++ [V.int (0 + (i : Int))])) = _
            rw [Int.zero_add]
            unfold natL
            rw [List.map_append]
            rfl
        · rw [decide_eq_false (show ¬ (marks P' W (T1.map (pe ps))).getD (pe ps i).1.toNat 0 = (marks P' W (T1.map (pe ps))).getD (P' + (pe ps i).2).toNat 0 from c)]
          rw [if_neg c] at tstep
          refine iteT ⟨_, rfl, .inl ⟨rfl, _, SqL.of ea3⟩, _, rfl, ta, natL T1, _, rfl, rfl, ea3, small1000 (by rw [natL_len]; omega), ?_⟩
          refine ⟨_, _, rfl, fun b o e => ?_, ?_, ?_⟩
          · rw [upd_ne (ne_of_none e na)]
            exact s03 _ _ e
          · rw [upd_same, tstep]
            show some (HO.lst (natL T1 ++ [V.int (0 + (i : Int))])) = _
            rw [Int.zero_add]
            unfold natL
            rw [List.map_append]
            rfl
          · rw [upd_ne ab, tstep]
            exact eb3
    · obtain ⟨y5, y6, rfl, sm, ea, eb⟩ := hP
      refine ⟨_, rfl, _, rfl, (by show 2 ≤ sizeLine; decide), fun u nu => ?_⟩
      have su := same_new (o := .lst [.ref ta, .ref tb]) nu
      exact q _ u ta tb (sm.trans su) upd_same (su _ _ ea) (su _ _ eb) na nbH
end
end K01
set_option Elab.async false
set_option linter.all false
set_option maxRecDepth 100000
set_option maxHeartbeats 4000000
set_option exponentiation.threshold 5000
namespace K01
open PySem PySem.Spec PyProof.Rows L2 TkS
def rListD : List V → Hp → VK → Prop := fun xs H Q => ∃ x d ds, xs = [x] ∧ Dq H x d ∧ itemsD d = some ds ∧ ∀ l H', Same H H' → H l = none → Dq H' (.ref l) (.list ds) → Q (.ref l) H'
theorem call_listD {X : Cx} : CallR X (.type "list") rListD := by
  intro pins s σ H vs us Q I r h
  refine call_list_of pins s σ H vs us Q I r ?_
  obtain ⟨x, d, ds, rfl, k, e, q⟩ := h
  cases k with
  | lst h1 h2 =>
    cases e
    exact ⟨_, _, rfl, .inl (SqL.of h1), fun l nl => q l _ (same_new nl) nl (.lst upd_same (DqAll.same (same_new nl) _ h2))⟩
  | tup h1 h2 =>
    cases e
    exact ⟨_, _, rfl, .inr (SqT.of h1), fun l nl => q l _ (same_new nl) nl (.lst upd_same (DqAll.same (same_new nl) _ h2))⟩
  | _ => cases e
/-! the tour by its numbers at the other places -/
theorem puts_snoc (l : List Int) (q : List (Nat × Int)) (p : Nat × Int) : puts l (q ++ [p]) = (puts l q).set p.1 p.2 := by
  unfold puts
  rw [List.foldl_append]
  rfl
theorem cut_val (a b : Bool) (t : Int) : (if a = true then (1 : Int) else 0) - (if b = true then 1 else 0) = 0 ∨ True := .inr trivial
theorem cut_step {P W : Int} {ps : List (Int × Int)} {T : List Nat} {k j : Nat} {t : Int} {a b : Bool} (ea : inSide P W ps T k (eu (pe ps j)) = a) (eb : inSide P W ps T k (ev P (pe ps j)) = b) : t * cut P W ps T k j = (if a = true then (if b = true then 0 else t) else (if b = true then -t else 0)) := by
  unfold cut
  rw [ea, eb]
  cases a <;> cases b <;> simp
theorem natD_filter (ps : List (Int × Int)) (T : List Nat) (k : Nat) : ((natD T).filter fun d => decide (intD d ≠ (k : Int))).map (fun d => prD (pe ps (intD d).toNat)) = ((T.filter fun j => decide (j ≠ k)).map (pe ps)).map prD := by
  unfold natD
  rw [List.filter_map, List.map_map, List.map_map]
  have : ((fun d => decide (intD d ≠ (k : Int))) ∘ fun (j : Nat) => PyData.int (j : Int)) = fun j => decide (j ≠ k) := by
    funext j
    show decide ((j : Int) ≠ (k : Int)) = decide (j ≠ k)
    exact decide_eq_decide.mpr (by omega)
  rw [this]
  rfl
def sp_law_tour_of : Sp := fun vs H Q _ => ∃ (P W : Int) (l r : Addr) (ps : List (Int × Int)) (row : List Int), vs = [.int P, .int W, .ref l, .ref r] ∧ Wd P W ps ∧ Dq H (.ref l) (.list (ps.map prD)) ∧ H r = some (.lst (row.map V.int)) ∧ row.length = (trees P W ps ps.length).2.length ∧
  ∀ H' t, Same H H' → H' t = some (.tup ((tourOf P W ps row).map V.int)) → Q (.ref t) H'
section
variable {P : Program} {w : World} {K : PySem.W.Frag} {mg : Str → Option Value} {base : Heap}
theorem ok_law_tour_of (T : Txt K mg) : FnOk P w K mg base CX0 3 T.f_law_tour_of T.d_law_tour_of ["_law_points", "_law_shuts", "_law_pairs", "_law_row"] sp_law_tour_of := by
  refine T.F_law_tour_of.ok sc_law_tour_of (fun vs H Q E h => ?_) (fun cdv A outer s H vs Q E hr h => ?_)
  · obtain ⟨P', W, l, r, ps, row, rfl, _⟩ := h
    rfl
  · obtain ⟨P', W, l, r, ps, row, rfl, wd, kl, er, lrow, q⟩ := h
    refine ⟨_, (pss_cons (ps_asg (pe_call (ok_law_tree T) (hr.mono (by decide)) (by rfl) T.g_law_tree T.F_law_tree.kp T.b_law_tree .nil pass0 (pa_cons (pv 0) (pa_cons (pv 1) (pa_cons (pv 2) pa_nil)))) (pg_unl rfl (pgs_cons (pg_name (i := 4) sc_law_tour_of.nd rfl (.inl rfl)) (pgs_cons (pg_name (i := 5) sc_law_tour_of.nd rfl (.inl rfl)) pgs_nil))))
      (pss_cons (ps_set (i := 6) sc_law_tour_of.nd rfl (.inl rfl) (pe_op op_rep (pe_lst (pa_cons pe_int pa_nil)) (pe_callB call_len_seq (by rfl) T.m_len (by decide +kernel) (pa_cons (pv 2) pa_nil))))
      (pss_cons (ps_for PassesOwn.never rfl (RZM.pi_zipS (by rfl) T.m_zip (pa_cons (pv 5) (pa_cons (pv 3) pa_nil))) (pg_tup rfl (pgs_cons (pg_name (i := 7) sc_law_tour_of.nd rfl (.inr rfl)) (pgs_cons (pg_name (i := 8) sc_law_tour_of.nd rfl (.inl rfl)) pgs_nil)))
        (pss_one (ps_asg (pv 8) (pg_sub (pv 6) (pv 7) set_list))))
      (pss_cons (ps_set (i := 9) sc_law_tour_of.nd rfl (.inl rfl) (pe_callTy call_listD (by rfl) T.m_list (by decide +kernel) (pa_cons (pv 6) pa_nil)))
      (pss_cons (ps_for PassesOwn.never rfl (pi_list (pv 4)) (pg_name (i := 7) sc_law_tour_of.nd rfl (.inr rfl))
        (pss_cons (ps_set (i := 11) sc_law_tour_of.nd rfl (.inl rfl) (pe_call (ok_law_marks T) (hr.mono (by decide)) (by rfl) T.g_law_marks T.F_law_marks.kp T.b_law_marks .nil pass0 (pa_cons (pv 0) (pa_cons (pv 1) (pa_cons (pe_lc rfl sc_law_tour_of.nd (pi_seq (pv 4)) (blkOk_by (own := [("_law_j", 10)]) (N := ["_law_points", "_law_shuts", "_law_pairs", "_law_row", "_law_tree_here", "_law_rest", "_law_told", "_law_k", "_law_number", "_law_due", "_law_j", "_law_marks_here", "_law_side", "_law_total", "_law_here", "_law_there"]) (sc := defScope s_law_tour_of) (by decide +kernel)) (fun _ _ _ _ _ => (pg_name (i := 10) sc_law_tour_of.nd rfl (.inl rfl))) (fun _ _ _ _ _ => (pts_one (pt_cmpR op_ne (pv 10) (pv 7) (nomark _)))) (fun _ _ _ _ _ => (pe_ix (show IxR _ (rIxL K) from ix_list) (pv 2) (pv 10) (fun _ _ => rfl)))) pa_nil)))))
        (pss_cons (ps_set (i := 12) sc_law_tour_of.nd rfl (.inl rfl) (pe_ix ix_list (pv 11) (pe_ix ix_seq (pe_ix ix_list (pv 2) (pv 7) (fun _ _ => rfl)) pe_int (fun _ _ => rfl)) (fun _ _ => rfl)))
        (pss_cons (ps_set (i := 13) sc_law_tour_of.nd rfl (.inl rfl) pe_int)
        (pss_cons (ps_for PassesOwn.never rfl (pi_seq (pv 5)) (pg_name (i := 10) sc_law_tour_of.nd rfl (.inl rfl))
          (pss_cons (ps_set (i := 14) sc_law_tour_of.nd rfl (.inl rfl) (pe_cmpR op_eq (pe_ix ix_list (pv 11) (pe_ix ix_seq (pe_ix ix_list (pv 2) (pv 10) (fun _ _ => rfl)) pe_int (fun _ _ => rfl)) (fun _ _ => rfl)) (pv 12) (nomark _)))
          (pss_cons (ps_set (i := 15) sc_law_tour_of.nd rfl (.inl rfl) (pe_cmpR op_eq (pe_ix ix_list (pv 11) (pe_op op_add (pv 0) (pe_ix ix_seq (pe_ix ix_list (pv 2) (pv 10) (fun _ _ => rfl)) pe_int (fun _ _ => rfl))) (fun _ _ => rfl)) (pv 12) (nomark _)))
          (Evl.pss_cut (ps_if (PW.pt (pw_and (pt_truth (pv 14) (by intro _; rfl)) (pw_and1 (pt_not (pt_truth (pv 15) (by intro _; rfl))))))
            (pss_one (ps_set (i := 13) sc_law_tour_of.nd rfl (.inl rfl) (pe_op op_add (pv 13) (pe_ix ix_list (pv 6) (pv 10) (fun _ _ => rfl)))))
            pss_nil)
          (pss_one (ps_if (PW.pt (pw_and (pt_truth (pv 15) (by intro _; rfl)) (pw_and1 (pt_not (pt_truth (pv 14) (by intro _; rfl))))))
            (pss_one (ps_set (i := 13) sc_law_tour_of.nd rfl (.inl rfl) (pe_op op_sub (pv 13) (pe_ix ix_list (pv 6) (pv 10) (fun _ _ => rfl)))))
            pss_nil))))))
        (pss_one (ps_asg (pe_op op_sub pe_int (pv 13)) (pg_sub (pv 9) (pv 7) set_list))))))))
      (pss_one (ps_ret (pe_callTy call_tuple_of (by rfl) T.m_tuple (by decide +kernel) (pa_cons (pv 9) pa_nil))))))))), ?_⟩
    obtain ⟨fx, el, tl, lx⟩ := lst_prs kl
    have l16 := wd.len25
    have p1 := wd.p1
    have w1 := wd.w1
    have p0 := wd.p0
    have w0 := wd.w0
    refine ⟨_, rfl, _, rfl, _, rfl, P', W, l, ps, rfl, wd, kl, fun H1 t ta tb s1 et ea eb na nb => ?_⟩
    have I := trees_inv P' W ps ps.length
    have tlen := trees_len P' W ps ps.length
    have td : tourOf P' W ps row = dueL P' W ps (trees P' W ps ps.length).1 (trees P' W ps ps.length).2 (toldL ps.length (trees P' W ps ps.length).2 row) := rfl
    generalize (trees P' W ps ps.length).1 = T1 at I tlen ea td
    generalize (trees P' W ps ps.length).2 = R1 at I tlen eb td lrow
    refine ⟨t, _, rfl, SqL.of et, rfl, _, _, rfl, _, _, rfl, rfl, ?_⟩
    refine ⟨(by show 1 ≤ sizeLine; decide), fun l0 n0 => ?_⟩
    have s0 : Same H1 (upd H1 l0 (.lst [.int 0])) := same_new n0
    refine ⟨_, rfl, l, fx, rfl, .inl (SqL.of (s0 _ _ (s1 _ _ el))), l0, _, [.int 0], rfl, rfl, upd_same, by omega, by omega, (by show 1 * (fx.length : Int).toNat ≤ sizeLine; exact Nat.le_of_lt (small1000 (by omega))), fun lt nt => ?_⟩
    have s2 : Same H1 (upd (upd H1 l0 (.lst [.int 0])) lt (.lst (List.replicate (fx.length : Int).toNat [V.int 0]).flatten)) := s0.trans (same_new nt)
    have et2 : (upd (upd H1 l0 (.lst [.int 0])) lt (.lst (List.replicate (fx.length : Int).toNat [V.int 0]).flatten)) lt = some (.lst ((List.replicate ps.length (0 : Int)).map V.int)) := by
      rw [upd_same, List.flatten_replicate_singleton, List.map_replicate, show ((fx.length : Int)).toNat = ps.length by omega]
    have f1 : H1 lt = none := s0.free nt
    generalize upd (upd H1 l0 (.lst [.int 0])) lt (.lst (List.replicate (fx.length : Int).toNat [V.int 0]).flatten) = H2 at s2 et2
    have lra : (natL R1).length = (row.map V.int).length := by rw [natL_len, List.length_map, lrow]
    refine ⟨_, rfl, _, rfl, false, false, tb, r, natL R1, row.map V.int, rfl, SqL.of (s2 _ _ eb), SqL.of (s2 _ _ (s1 _ _ er)), ?_⟩
    refine RZM.for_zipS (xs := natL R1) (ys := row.map V.int) lra (fun i σ H8 => ∃ y7 y8, σ = [some (.int P'), some (.int W), some (.ref l), some (.ref r), some (.ref ta), some (.ref tb), some (.ref lt), y7, y8, none, none, none, none, none, none, none] ∧ Same H1 H8 ∧ H8 lt = some (.lst ((puts (List.replicate ps.length 0) ((R1.zip row).take i)).map V.int)))
      ⟨none, none, rfl, s2, et2⟩ (fun i σ H8 hP => ?_) (fun i x y Z σ H8 hx hy hP nZ => ?_) (fun σ H8 hP => ?_)
    · obtain ⟨_, _, _, s8, _⟩ := hP
      exact ⟨SqL.of (s8 _ _ eb), SqL.of (s8 _ _ (s1 _ _ er))⟩
    · obtain ⟨y7, y8, rfl, s8, e8⟩ := hP
      obtain ⟨k, hk, rfl⟩ : ∃ k, R1[i]? = some k ∧ V.int (k : Int) = x := by
        unfold natL at hx
        rw [List.getElem?_map] at hx
        exact Option.map_eq_some_iff.mp hx
      obtain ⟨n, hn, rfl⟩ := map_at hy
      have hkn : k < ps.length := I.ltR k (List.mem_of_getElem? hk)
      have sZ : Same H8 (upd H8 Z (.tup [.int (k : Int), .int n])) := same_new nZ
      refine ⟨Z, _, rfl, SqT.of upd_same, rfl, _, _, rfl, _, _, rfl, rfl, ?_⟩
      refine ⟨_, rfl, _, rfl, _, rfl, lt, _, (k : Int), k, rfl, rfl, sZ _ _ e8, Evl.ixN_nat (by rw [List.length_map, puts_len, List.length_replicate]; exact hkn), ?_⟩
      refine ⟨_, _, rfl, fun b o e => ?_, ?_⟩
      · rw [upd_ne (ne_of_none e f1)]
        exact sZ _ _ (s8 _ _ e)
      · have hz : (R1.zip row)[i]? = some (k, n) := by
          rw [List.getElem?_zip_eq_some]
          exact ⟨hk, hn⟩
        rw [upd_same, List.take_add_one, hz]
        show _ = some (HO.lst ((puts _ ((R1.zip row).take i ++ [(k, n)])).map V.int))
        rw [puts_snoc, List.map_set]
    · obtain ⟨y7, y8, rfl, s8, e8⟩ := hP
      have lz : (natL R1).length = (R1.zip row).length := by rw [natL_len, List.length_zip, lrow, Nat.min_self]
      rw [lz, List.take_length] at e8
      change H8 lt = some (.lst ((toldL ps.length R1 row).map V.int)) at e8
      have lt0 : (toldL ps.length R1 row).length = ps.length := told_len
      generalize toldL ps.length R1 row = told at e8 lt0 td
      refine ⟨_, rfl, .ref lt, .list (told.map PyData.int), _, rfl, .lst e8 (dq_intl told), rfl, fun ld H9 s9 nd kd => ?_⟩
      have ed : H9 ld = some (.lst (told.map V.int)) := by
        cases kd with
        | lst e2 t2 =>
          rw [intl_dq t2] at e2
          exact e2
      have s19 : Same H1 H9 := s8.trans s9
      have e9 := s9 _ _ e8
      have nlt : ld ≠ lt := fun z => by
        rw [z, e8] at nd
        cases nd
      refine ⟨_, rfl, ta, rfl, ⟨_, SqL.of (s19 _ _ ea)⟩, for_list (xs := natL T1) (fun i σ H' => ∃ y7 y8 y10 y11 y12 y13 y14 y15, σ = [some (.int P'), some (.int W), some (.ref l), some (.ref r), some (.ref ta), some (.ref tb), some (.ref lt), y7, y8, some (.ref ld), y10, y11, y12, y13, y14, y15] ∧ Same H8 H' ∧ H' ld = some (.lst ((puts told ((T1.take i).map fun k => (k, 0 - totalI P' W ps T1 R1 told k))).map V.int)))
        ⟨_, _, _, _, _, _, _, _, rfl, s9, ed⟩ (fun i σ H' _ hP => by obtain ⟨_, _, _, _, _, _, _, _, _, sm, _⟩ := hP; exact SqL.of (sm _ _ (s8 _ _ ea))) (fun i x σ H' hx hP => ?_) (fun σ H' hP => ?_)⟩
      · obtain ⟨y7, y8, y10, y11, y12, y13, y14, y15, rfl, sm, eld⟩ := hP
        obtain ⟨k, hk, rfl⟩ : ∃ k, T1[i]? = some k ∧ V.int (k : Int) = x := by
          unfold natL at hx
          rw [List.getElem?_map] at hx
          exact Option.map_eq_some_iff.mp hx
        have hkT := List.mem_of_getElem? hk
        have hkn : k < ps.length := I.lt k hkT
        have s1m : Same H1 H' := s8.trans sm
        have s0m : Same H H' := s1.trans s1m
        refine ⟨_, rfl, _, rfl, lc_seqD (a := ta) (ds := natD T1) (fun d => decide (intD d ≠ (k : Int))) (fun d => prD (pe ps (intD d).toNat)) (fun Q h => ⟨_, rfl, h⟩) (.inl (SqL.of (s1m _ _ ea))) (dq_nat T1) (by unfold natD; rw [List.length_map]; omega) (fun _ => rfl) (fun j x d H2 Q2 hd' _ kd' q2 => ?_) (fun D j x d H2 Q2 nD hd' _ s2' kd' hD q2 => ?_) (fun D H2 nD s2' kD => ?_)⟩
        · obtain ⟨j', _, rfl⟩ := natD_at hd'
          cases kd'
          refine ⟨_, rfl, _, rfl, rfl, _, rfl, ?_⟩
          rw [int_dec]
          have := q2 _ fun _ _ z => z
          rw [show decide (intD (.int (j' : Int)) ≠ (k : Int)) = !decide ((j' : Int) = (k : Int)) from decide_not] at this
          exact this
        · obtain ⟨j', hj', rfl⟩ := natD_at hd'
          cases kd'
          have hj2 : j' < ps.length := I.lt j' (List.mem_of_getElem? hj')
          obtain ⟨b, hb, tb'⟩ := pr_at tl hj2
          obtain ⟨acc, hacc⟩ := hD
          have sH := s0m.trans s2'
          refine ⟨_, rfl, _, rfl, l, fx, (j' : Int), .ref b, rfl, rfl, SqL.of (sH _ _ el), at_of (j := j') (by omega) hb, ?_⟩
          refine q2 _ _ (fun _ _ z => z) (dq_noL hacc _ rfl ?_)
          exact .tup (sH _ _ tb') (.cons (.int _) (.cons (.int _) .nil))
        · rw [natD_filter] at kD
          obtain ⟨zx, ez, tz, _⟩ := lst_prs kD
          have insT : Ins P' W ((T1.filter fun j => decide (j ≠ k)).map (pe ps)) := fun p hp => by
            obtain ⟨k', hk', rfl⟩ := List.mem_map.mp hp
            exact wd.ins _ (pe_mem (I.lt k' (List.mem_filter.mp hk').1))
          refine ⟨P', W, D, zx, _, rfl, by omega, by omega, by omega, SqL.of ez, tz, insT, fun H3 m s3 hm => ?_⟩
          have hm : H3 m = some (.lst ((sideM P' W ps T1 k).map V.int)) := hm
          have lsd : (sideM P' W ps T1 k).length = (P' + W).toNat := marks_len _ _ _
          have s13 := s2'.trans s3
          have s03 := s0m.trans s13
          obtain ⟨b, hb, tb'⟩ := pr_at tl hkn
          have tb3 := s03 _ _ tb'
          obtain ⟨b1, b2, b3, b4⟩ := wd.ins _ (pe_mem hkn)
          refine ⟨_, rfl, _, rfl, _, rfl, l, fx, (k : Int), .ref b, rfl, rfl, SqL.of (s03 _ _ el), at_of (j := k) (by omega) hb, (ix_pr tb3).1 ?_⟩
          refine ⟨m, _, (pe ps k).1, _, rfl, rfl, SqL.of hm, ix_at b1 (by rw [lsd]; omega), ?_⟩
          have e3t := s13 _ _ (sm _ _ e8)
          have e3d := s13 _ _ eld
          refine for_seq (xs := natL R1) (a := tb) (fun i σ H' => ∃ z10 z14 z15, σ = [some (.int P'), some (.int W), some (.ref l), some (.ref r), some (.ref ta), some (.ref tb), some (.ref lt), some (.int (k : Int)), y8, some (.ref ld), z10, some (.ref m), some (.int ((sideM P' W ps T1 k).getD (pe ps k).1.toNat 0)), some (.int (S (R1.take i) fun j => told.getD j 0 * cut P' W ps T1 k j)), z14, z15] ∧ H3 = H')
            (fun Q h => ⟨_, rfl, h⟩) (.inl (SqL.of (s13 _ _ (s1m _ _ eb)))) ⟨_, _, _, rfl, rfl⟩ (fun i σ H' _ hP => by obtain ⟨_, _, _, _, e⟩ := hP; exact e ▸ fun _ _ z => z) (fun i2 x σ H' hx2 hP => ?_) (fun σ H' hP => ?_)
          · obtain ⟨z10, z14, z15, rfl, rfl⟩ := hP
            obtain ⟨j, hj, rfl⟩ : ∃ j, R1[i2]? = some j ∧ V.int (j : Int) = x := by
              unfold natL at hx2
              rw [List.getElem?_map] at hx2
              exact Option.map_eq_some_iff.mp hx2
            have hjn : j < ps.length := I.ltR j (List.mem_of_getElem? hj)
            obtain ⟨c, hc, tc'⟩ := pr_at tl hjn
            have tc3 := s03 _ _ tc'
            obtain ⟨d1, d2, d3, d4⟩ := wd.ins _ (pe_mem hjn)
            refine ⟨_, rfl, _, rfl, _, rfl, l, fx, (j : Int), .ref c, rfl, rfl, SqL.of (s03 _ _ el), at_of (j := j) (by omega) hc, (ix_pr tc3).1 ?_⟩
            refine ⟨m, _, (pe ps j).1, _, rfl, rfl, SqL.of hm, ix_at d1 (by rw [lsd]; omega), ?_⟩
            refine ⟨_, rfl, rfl, ?_⟩
            refine ⟨_, rfl, _, rfl, _, rfl, _, rfl, l, fx, (j : Int), .ref c, rfl, rfl, SqL.of (s03 _ _ el), at_of (j := j) (by omega) hc, (ix_pr tc3).2 ?_⟩
            refine ⟨_, _, rfl, rfl, m, _, P' + (pe ps j).2, _, rfl, rfl, SqL.of hm, ix_at (by omega) (by rw [lsd]; omega), ?_⟩
            refine ⟨_, rfl, rfl, ?_⟩
            rw [int_dec, int_dec]
            generalize ha : inSide P' W ps T1 k (eu (pe ps j)) = a
            generalize hb' : inSide P' W ps T1 k (ev P' (pe ps j)) = b'
            rw [show decide ((sideM P' W ps T1 k).getD (pe ps j).1.toNat 0 = (sideM P' W ps T1 k).getD (pe ps k).1.toNat 0) = a from ha, show decide ((sideM P' W ps T1 k).getD (P' + (pe ps j).2).toNat 0 = (sideM P' W ps T1 k).getD (pe ps k).1.toNat 0) = b' from hb']
            have hcut := cut_step (t := told.getD j 0) ha hb'
            have hS : (S (R1.take (i2 + 1)) fun j => told.getD j 0 * cut P' W ps T1 k j) = (S (R1.take i2) fun j => told.getD j 0 * cut P' W ps T1 k j) + told.getD j 0 * cut P' W ps T1 k j := by
              rw [List.take_add_one, hj]
              exact S_snoc _ _ _
            rw [hcut] at hS
            have tat : atI (told.map V.int) (j : Int) = some (.int (told.getD j 0)) := ix_at (by omega) (by omega)
            generalize (S (R1.take i2) fun j => told.getD j 0 * cut P' W ps T1 k j) = tot at hS
            refine ⟨fun σ' H' => σ' = [some (.int P'), some (.int W), some (.ref l), some (.ref r), some (.ref ta), some (.ref tb), some (.ref lt), some (.int (k : Int)), y8, some (.ref ld), some (.int (j : Int)), some (.ref m), some (.int ((sideM P' W ps T1 k).getD (pe ps k).1.toNat 0)), some (.int (if a = true then (if b' = true then tot else tot + told.getD j 0) else tot)), some (.bl a), some (.bl b')] ∧ H3 = H', ?_, fun σ' H' hM => ?_⟩
            · refine ⟨_, rfl, a, rfl, ?_⟩
              cases a with
              | false => exact iteF ⟨rfl, rfl⟩
              | true =>
                refine iteT ⟨_, rfl, b', rfl, ?_⟩
                cases b' with
                | true => exact iteF ⟨rfl, rfl⟩
                | false => exact iteT ⟨_, rfl, _, rfl, _, rfl, lt, _, (j : Int), _, rfl, rfl, SqL.of e3t, tat, _, _, rfl, rfl, rfl, rfl⟩
            · obtain ⟨rfl, rfl⟩ := hM
              refine ⟨_, rfl, b', rfl, ?_⟩
              cases b' with
              | false =>
                refine iteF ⟨some (.int (j : Int)), some (.bl a), some (.bl false), ?_, rfl⟩
                rw [hS]
                cases a <;> simp
              | true =>
                refine iteT ⟨_, rfl, a, rfl, ?_⟩
                cases a with
                | true =>
                  refine iteF ⟨some (.int (j : Int)), some (.bl true), some (.bl true), ?_, rfl⟩
                  rw [hS]
                  simp
                | false =>
                  refine iteT ⟨_, rfl, _, rfl, _, rfl, lt, _, (j : Int), _, rfl, rfl, SqL.of e3t, tat, _, _, rfl, rfl, some (.int (j : Int)), some (.bl false), some (.bl true), ?_, rfl⟩
                  rw [hS]
                  simp [Int.sub_eq_add_neg]
          · obtain ⟨z10, z14, z15, rfl, rfl⟩ := hP
            rw [natL_len, List.take_length]
            refine ⟨_, rfl, _, _, rfl, rfl, _, rfl, _, rfl, ld, _, (k : Int), k, rfl, rfl, e3d, Evl.ixN_nat (by rw [List.length_map, puts_len, lt0]; exact hkn), ?_⟩
            refine ⟨_, _, _, _, _, _, _, _, rfl, fun b2 o e2 => ?_, ?_⟩
            · rw [upd_ne (ne_of_none e2 nd)]
              exact s13 _ _ (sm _ _ e2)
            · rw [upd_same, List.take_add_one, hk]
              show _ = some (HO.lst ((puts told ((T1.take i ++ [k]).map fun k => (k, 0 - totalI P' W ps T1 R1 told k))).map V.int))
              rw [List.map_append]
              show _ = some (HO.lst ((puts told ((T1.take i).map (fun k => (k, 0 - totalI P' W ps T1 R1 told k)) ++ [(k, 0 - totalI P' W ps T1 R1 told k)])).map V.int))
              rw [puts_snoc, List.map_set]
              rfl
      · obtain ⟨y7, y8, y10, y11, y12, y13, y14, y15, rfl, sm, eld⟩ := hP
        rw [natL_len, List.take_length] at eld
        refine ⟨_, rfl, ld, _, rfl, .inl ⟨SqL.of eld, fun t2 nt2 => ?_⟩⟩
        refine q _ t2 ((s1.trans (s8.trans sm)).trans (same_new nt2)) ?_
        rw [upd_same, td]
        rfl
end
end K01
set_option Elab.async false
set_option linter.all false
set_option maxRecDepth 100000
set_option maxHeartbeats 4000000
set_option exponentiation.threshold 5000
namespace K01
open PySem PySem.Spec PyProof.Rows L2 TkS
def wordV : Option Str → V
  | none => .non
  | some s => .str s
def rangeSum (n : Nat) (f : Nat → Bool) (g : Nat → Int) : (((List.range n).filter f).map g).sum = S (List.range n) fun i => if f i = true then g i else 0 := by
  induction (List.range n) with
  | nil => rfl
  | cons a l ih =>
    rw [S_cons, List.filter_cons]
    cases c : f a with
    | true => rw [if_pos rfl, if_pos rfl, List.map_cons, List.sum_cons, ih]
    | false => rw [if_neg Bool.false_ne_true, if_neg Bool.false_ne_true, ih, Int.zero_add]
theorem ptSum_range {ps : List (Int × Int)} {ns : List Int} (h : ns.length = ps.length) (x : Int) : ptSum ps ns x = S (List.range ps.length) fun i => if decide ((pe ps i).1 = x) = true then ns.getD i 0 else 0 := by
  refine (S_zip (F := fun p n => if p.1 = x then n else 0) h).trans (S_congr fun i _ => ?_)
  by_cases c : (pe ps i).1 = x
  · rw [if_pos c, if_pos (decide_eq_true c)]
  · rw [if_neg c, if_neg (by rw [decide_eq_false c]; exact Bool.false_ne_true)]
theorem wlSum_range {ps : List (Int × Int)} {ns : List Int} (h : ns.length = ps.length) (x : Int) : wlSum ps ns x = S (List.range ps.length) fun i => if decide ((pe ps i).2 = x) = true then ns.getD i 0 else 0 := by
  refine (S_zip (F := fun p n => if p.2 = x then n else 0) h).trans (S_congr fun i _ => ?_)
  by_cases c : (pe ps i).2 = x
  · rw [if_pos c, if_pos (decide_eq_true c)]
  · rw [if_neg c, if_neg (by rw [decide_eq_false c]; exact Bool.false_ne_true)]
theorem any_true {l : List Int} {z : Int} (h : z ∈ l) (n : z ≠ 0) : anyNz l = true := List.any_eq_true.mpr ⟨z, h, decide_eq_true n⟩
theorem pt_bad {P : Int} {ps : List (Int × Int)} {ns : List Int} {x : Nat} (hx : x < P.toNat) (n : ptSum ps ns (x : Int) ≠ 0) : anyNz (ptL P ps ns) = true := any_true (List.mem_map.mpr ⟨x, List.mem_range.mpr hx, rfl⟩) n
theorem wl_bad {W : Int} {ps : List (Int × Int)} {ns : List Int} {x : Nat} (hx : x < W.toNat) (n : wlSum ps ns (x : Int) ≠ 0) : anyNz (wlL W ps ns) = true := any_true (List.mem_map.mpr ⟨x, List.mem_range.mpr hx, rfl⟩) n
theorem pt_good {P : Int} {ps : List (Int × Int)} {ns : List Int} (h : ∀ x : Nat, x < P.toNat → ptSum ps ns (x : Int) = 0) : anyNz (ptL P ps ns) = false := any_of fun z hz => by
  obtain ⟨k, hk, rfl⟩ := List.mem_map.mp hz
  exact h k (List.mem_range.mp hk)
theorem wl_good {W : Int} {ps : List (Int × Int)} {ns : List Int} (h : ∀ x : Nat, x < W.toNat → wlSum ps ns (x : Int) = 0) : anyNz (wlL W ps ns) = false := any_of fun z hz => by
  obtain ⟨k, hk, rfl⟩ := List.mem_map.mp hz
  exact h k (List.mem_range.mp hk)
theorem eqv_emptyL (ds : List PyData) : PyData.eqv (.list ds) (.list []) = ds.isEmpty := by
  cases ds <;> simp [PyData.eqv, PyData.eqvAll]
theorem filter_empty {ds : List PyData} : ((ds.filter fun d => !isIntD d).map id).isEmpty = ds.all isIntD := by
  rw [List.map_id]
  induction ds with
  | nil => rfl
  | cons d ds ih =>
    rw [List.filter_cons, List.all_cons]
    cases isIntD d with
    | true => rw [if_neg (by simp), ih]; rfl
    | false => rfl
def NoL (d : PyData) : Prop := ∀ ds, itemsD d = some ds → noLists ds = true
theorem noLists_at {ds : List PyData} {i : Nat} {d : PyData} (h : noLists ds = true) (hd : ds[i]? = some d) : noList d = true := by
  induction ds generalizing i with
  | nil => cases hd
  | cons a ds ih =>
    have h' : (noList a && noLists ds) = true := h
    rw [Bool.and_eq_true] at h'
    cases i with
    | zero =>
      cases hd
      exact h'.1
    | succ i => exact ih h'.2 hd
def sp_law_sum : Sp := fun vs H Q _ => ∃ (x y : V) (ns ms : List Int) (s s' : Int), vs = [x, y] ∧ Dq H x (sayD ns s) ∧ Dq H y (sayD ms s') ∧ ns.length = ms.length ∧ ns.length ≤ 900 ∧ ∀ l H', Same H H' → Dq H' (.ref l) (sayD (addL ns ms) ((s + s') % 2)) → Q (.ref l) H'
def sp_law_times : Sp := fun vs H Q _ => ∃ (x : V) (ns : List Int) (s m : Int), vs = [x, .int m] ∧ Dq H x (sayD ns s) ∧ ns.length ≤ 900 ∧ (∀ z ∈ ns, Sml z) ∧ Sml m ∧ Sml s ∧ ∀ l H', Same H H' → Dq H' (.ref l) (sayD (mulL ns m) (s * m % 2)) → Q (.ref l) H'
def sp_law_numbers : Sp := fun vs H Q _ => ∃ (h : Addr) (m : Int), vs = [.ref h, .int m] ∧ Hand H h ∧ 0 ≤ m ∧ m ≤ 25 ∧ ∀ H' t (ns : List Int), Keep h H H' → Hand H' h → ns.length = m.toNat → Bnd (10 ^ 30) ns → Dq H' (.ref t) (.list (ns.map PyData.int)) → Q (.ref t) H'
def sp_law_tour_due : Sp := fun vs H Q _ => ∃ (P W : Int) (l : Addr) (x : V) (d : PyData) (ps : List (Int × Int)), vs = [.int P, .int W, .ref l, x] ∧ Wd P W ps ∧ Dq H (.ref l) (.list (ps.map prD)) ∧ Dq H x d ∧ mild 3 d = true ∧ NoL d ∧ ∀ H', Same H H' → Q (wordV (tourW P W ps d)) H'
section
variable {P : Program} {w : World} {K : PySem.W.Frag} {mg : Str → Option Value} {base : Heap}
theorem ok_law_sum (T : Txt K mg) : FnOk P w K mg base CX0 1 T.f_law_sum T.d_law_sum ["_law_one", "_law_other"] sp_law_sum := by
  refine T.F_law_sum.ok sc_law_sum (fun vs H Q E h => ?_) (fun cdv A outer s H vs Q E hr h => ?_)
  · obtain ⟨x, y, ns, ms, s, s', rfl, _⟩ := h
    rfl
  · obtain ⟨x, y, ns, ms, s1, s2, rfl, kx, ky, ll, l9, q⟩ := h
    refine ⟨_, (pss_one (ps_ret (pe_tup (pa_cons (pe_callTy call_tuple_of (by rfl) T.m_tuple (by decide +kernel) (pa_cons (pe_lc rfl sc_law_sum.nd (RZM.pi_zipS (by rfl) T.m_zip (pa_cons (pe_ix ix_seq (pv 0) pe_int (fun _ _ => rfl)) (pa_cons (pe_ix ix_seq (pv 1) pe_int (fun _ _ => rfl)) pa_nil))) (blkOk_by (own := [("_law_a", 2), ("_law_b", 3)]) (N := ["_law_one", "_law_other", "_law_a", "_law_b"]) (sc := defScope s_law_sum) (by decide +kernel)) (fun _ _ _ _ _ => (show PG _ _ (gTup K 2 (gCons (gName 2) (gCons (gName 3) gNil))) from pg_tup rfl (pgs_cons (pg_name (i := 2) sc_law_sum.nd rfl (.inl rfl)) (pgs_cons (pg_name (i := 3) sc_law_sum.nd rfl (.inl rfl)) pgs_nil)))) (fun _ _ _ _ _ => pts_nil) (fun _ _ _ _ _ => (pe_op op_add (pv 2) (pv 3)))) pa_nil)) (pa_cons (pe_op op_mod (pe_callTy call_int1 (by rfl) T.m_int (by decide +kernel) (pa_cons (pe_op op_add (pe_ix ix_seq (pv 0) pe_int (fun _ _ => rfl)) (pe_ix ix_seq (pv 1) pe_int (fun _ _ => rfl))) pa_nil)) pe_int) pa_nil))))), ?_⟩
    obtain ⟨a, t, rfl, ea, ka⟩ := dq_say kx
    obtain ⟨b, t', rfl, eb, kb⟩ := dq_say ky
    obtain ⟨_, z1, et⟩ := dq_tupI ka
    cases z1
    obtain ⟨_, z2, et'⟩ := dq_tupI kb
    cases z2
    refine ⟨_, rfl, (ix_pr ea).1 ⟨_, rfl, (ix_pr eb).1 ⟨true, true, t, t', ns.map V.int, ms.map V.int, rfl, SqT.of et, SqT.of et', fun D nD => ?_⟩⟩⟩
    refine lc_zipV (fun _ => true) (fun i => V.int (ns.getD i 0 + ms.getD i 0)) (by rw [List.length_map, List.length_map, ll]) (by rw [List.length_map]; exact l9) nD (SqT.of et) (SqT.of et') (fun i x y T' H' R N hx hy s hT yes no => ?_) (fun H' s3 hD => ?_)
    · obtain ⟨rfl, hi⟩ := map_getD hx
      obtain ⟨rfl, _⟩ := map_getD hy
      refine ⟨T', _, rfl, SqT.of hT, rfl, _, _, rfl, _, _, rfl, rfl, rfl, ?_⟩
      exact ⟨_, rfl, _, rfl, _, _, rfl, rfl, yes rfl _ fun _ _ z => z⟩
    · rw [map_rng, List.length_map] at hD
      refine ⟨D, _, rfl, .inl ⟨SqL.of hD, fun l n => ?_⟩⟩
      have s4 := same_new (o := .tup ((addL ns ms).map V.int)) n
      have s34 := s3.trans s4
      have kt : Dq (upd H' l (.tup ((addL ns ms).map V.int))) (.ref l) (.tuple ((addL ns ms).map PyData.int)) := tupI upd_same
      refine ⟨_, rfl, (ix_pr (s34 _ _ ea)).2 ⟨_, rfl, (ix_pr (s34 _ _ eb)).2 ⟨_, _, rfl, rfl, .inl ⟨_, rfl, _, _, rfl, rfl, (by show (0 : Int) < _; decide), (by show 2 ≤ sizeLine; decide), fun u nu => ?_⟩⟩⟩⟩
      have s5 := same_new (o := .tup [.ref l, .int ((s1 + s2) % 2)]) nu
      exact q u _ (s34.trans s5) (sayT upd_same (kt.same s5))
theorem ok_law_times (T : Txt K mg) : FnOk P w K mg base CX0 1 T.f_law_times T.d_law_times ["_law_saying_here", "_law_whole_here"] sp_law_times := by
  refine T.F_law_times.ok sc_law_times (fun vs H Q E h => ?_) (fun cdv A outer s H vs Q E hr h => ?_)
  · obtain ⟨x, ns, s, m, rfl, _⟩ := h
    rfl
  · obtain ⟨x, ns, s1, m, rfl, kx, l9, hn, hm, hs, q⟩ := h
    refine ⟨_, (pss_one (ps_ret (pe_tup (pa_cons (pe_callTy call_tuple_of (by rfl) T.m_tuple (by decide +kernel) (pa_cons (pe_lc rfl sc_law_times.nd (pi_tup (pe_ix ix_seq (pv 0) pe_int (fun _ _ => rfl))) (blkOk_by (own := [("_law_a", 2)]) (N := ["_law_saying_here", "_law_whole_here", "_law_a"]) (sc := defScope s_law_times) (by decide +kernel)) (fun _ _ _ _ _ => (pg_name (i := 2) sc_law_times.nd rfl (.inl rfl))) (fun _ _ _ _ _ => pts_nil) (fun _ _ _ _ _ => (pe_op op_mulW (pv 2) (pv 1)))) pa_nil)) (pa_cons (pe_op op_mod (pe_callTy call_int1 (by rfl) T.m_int (by decide +kernel) (pa_cons (pe_op op_mulW (pe_ix ix_seq (pv 0) pe_int (fun _ _ => rfl)) (pv 1)) pa_nil)) pe_int) pa_nil))))), ?_⟩
    obtain ⟨a, t, rfl, ea, ka⟩ := dq_say kx
    obtain ⟨_, z1, et⟩ := dq_tupI ka
    cases z1
    refine ⟨_, rfl, (ix_pr ea).1 ⟨t, rfl, ⟨_, SqT.of et⟩, fun D nD => ?_⟩⟩
    refine lc_tupV (xs := ns.map V.int) (fun _ => true) (fun i => V.int (ns.getD i 0 * m)) (SqT.of et) (by rw [List.length_map]; exact l9) nD (fun i x H' R N hx s yes no => ?_) (fun H' s3 hD => ?_)
    · obtain ⟨rfl, hi⟩ := map_getD hx
      refine ⟨rfl, ?_⟩
      exact ⟨_, rfl, _, rfl, _, _, rfl, rfl, sml_mul (hn _ (mem_getD hi)) hm, yes rfl _ fun _ _ z => z⟩
    · rw [map_rng, List.length_map] at hD
      refine ⟨D, _, rfl, .inl ⟨SqL.of hD, fun l n => ?_⟩⟩
      have s4 := same_new (o := .tup ((mulL ns m).map V.int)) n
      have s34 := s3.trans s4
      have kt : Dq (upd H' l (.tup ((mulL ns m).map V.int))) (.ref l) (.tuple ((mulL ns m).map PyData.int)) := tupI upd_same
      refine ⟨_, rfl, (ix_pr (s34 _ _ ea)).2 ⟨_, rfl, _, _, rfl, rfl, sml_mul hs hm, .inl ⟨_, rfl, _, _, rfl, rfl, (by show (0 : Int) < _; decide), (by show 2 ≤ sizeLine; decide), fun u nu => ?_⟩⟩⟩
      have s5 := same_new (o := .tup [.ref l, .int (s1 * m % 2)]) nu
      exact q u _ (s34.trans s5) (sayT upd_same (kt.same s5))
theorem ok_law_numbers (T : Txt K mg) : FnOk P w K mg base CX0 3 T.f_law_numbers T.d_law_numbers ["_law_hand_here", "_law_many"] sp_law_numbers := by
  refine T.F_law_numbers.ok sc_law_numbers (fun vs H Q E h => ?_) (fun cdv A outer s H vs Q E hr h => ?_)
  · obtain ⟨h, m, rfl, _⟩ := h
    rfl
  · obtain ⟨h, m, rfl, hd, m0, m1, q⟩ := h
    refine ⟨_, (pss_cons (ps_set (i := 2) sc_law_numbers.nd rfl (.inl rfl) (pe_lst pa_nil))
      (pss_cons (ps_for PassesOwn.never rfl (pi_range1 (by rfl) T.m_range (pa_cons (pv 1) pa_nil)) (pg_name (i := 3) sc_law_numbers.nd rfl (.inl rfl))
        (pss_cons (ps_set (i := 4) sc_law_numbers.nd rfl (.inl rfl) (pe_op op_sub (pe_call (ok_law_take T) (hr.mono (by decide)) (by rfl) T.g_law_take T.F_law_take.kp T.b_law_take .nil pass0 (pa_cons (pv 0) (pa_cons pe_int pa_nil))) pe_int))
        (pss_one (ps_expr (pe_bm PySem.F.plainAttrs_list PySem.F.slot_list_append PySem.F.type_list_append mt_append (pv 2) (pa_cons (pe_ifExp (pt_cmpR op_eq (pe_call (ok_law_take T) (hr.mono (by decide)) (by rfl) T.g_law_take T.F_law_take.kp T.b_law_take .nil pass0 (pa_cons (pv 0) (pa_cons pe_int pa_nil))) pe_int (nomark _)) (pe_op op_add (pe_op op_mulW (pv 4) (pe_op op_pow pe_int pe_int)) (pv 4)) (pv 4)) pa_nil))))))
      (pss_one (ps_ret (pv 2))))), ?_⟩
    refine ⟨Nat.zero_le _, fun D nD => ?_⟩
    have nh := hand_ne hd nD
    refine ⟨_, rfl, m, rfl, by omega, by omega, ?_⟩
    refine for_range (fun i σ H' => ∃ (y3 y4 : Option V) (ns : List Int), σ = [some (.ref h), some (.int m), some (.ref D), y3, y4] ∧ Keep h H H' ∧ Hand H' h ∧ H' D = some (.lst (ns.map V.int)) ∧ ns.length = i ∧ Bnd (10 ^ 30) ns)
      ⟨none, none, [], rfl, Keep.putD hd nD Keep.refl, Hand.putD hd nD Keep.refl hd, upd_same, rfl, fun z hz => nomatch hz⟩ (fun i σ H' hi hP => ?_) (fun σ H' hP => ?_)
    · obtain ⟨y3, y4, ns, rfl, k1, hd1, eD, ln, hb⟩ := hP
      refine ⟨_, rfl, h, 7, rfl, hd1, by decide, by decide, fun H2 r k2 hd2 r0 r1 => ?_⟩
      refine ⟨_, _, rfl, rfl, ?_⟩
      have eD2 := k2 _ _ nh eD
      refine ⟨_, rfl, .inl ⟨rfl, _, SqL.of eD2⟩, _, rfl, h, 6, rfl, hd2, by decide, by decide, fun H3 r' k3 hd3 _ _ => ⟨rfl, _, rfl, ?_⟩⟩
      have eD3 := k3 _ _ nh eD2
      have k13 := (k1.trans k2).trans k3
      rw [int_dec]
      have fin : ∀ z : Int, -(10 ^ 30) ≤ z → z ≤ 10 ^ 30 → ∃ (y3 y4 : Option V) (ns' : List Int), [some (V.ref h), some (V.int m), some (V.ref D), some (V.int (0 + (i : Int))), some (V.int (r - 3))] = [some (V.ref h), some (V.int m), some (V.ref D), y3, y4] ∧ Keep h H (upd H3 D (.lst (ns.map V.int ++ [V.int z]))) ∧ Hand (upd H3 D (.lst (ns.map V.int ++ [V.int z]))) h ∧ (upd H3 D (.lst (ns.map V.int ++ [V.int z]))) D = some (.lst (ns'.map V.int)) ∧ ns'.length = i + 1 ∧ Bnd (10 ^ 30) ns' := fun z z0 z1 => by
        refine ⟨_, _, ns ++ [z], rfl, Keep.putD hd nD k13, Hand.putD hd nD k13 hd3, ?_, by rw [List.length_append, ln]; rfl, fun x hx => ?_⟩
        · rw [upd_same, List.map_append]
          rfl
        · rcases List.mem_append.mp hx with e | e
          · exact hb x e
          · rw [List.mem_singleton.mp e]
            exact ⟨z0, z1⟩
      by_cases c : r' = 0
      · rw [decide_eq_true c]
        refine iteT ⟨_, rfl, 10, 29, rfl, rfl, ⟨by decide, by decide, by decide⟩, _, _, rfl, rfl, wide_mul (a := 10) (b := 200) (by omega) (by decide) (by decide) (by decide) (by decide), _, rfl, _, _, rfl, rfl, D, _, _, rfl, rfl, eD3, small1000 (by rw [List.length_map]; omega), ?_⟩
        have e29 : ((10 : Int) ^ ((29 : Int).toNat)) = 100000000000000000000000000000 := by decide
        have e30 : ((10 : Int) ^ 30) = 1000000000000000000000000000000 := by decide
        refine fin _ ?_ ?_
        · rw [e30]
          show _ ≤ (r - 3) * ((10 : Int) ^ ((29 : Int).toNat)) + (r - 3)
          rw [e29]
          omega
        · rw [e30]
          show (r - 3) * ((10 : Int) ^ ((29 : Int).toNat)) + (r - 3) ≤ _
          rw [e29]
          omega
      · rw [decide_eq_false c]
        have e30 : ((10 : Int) ^ 30) = 1000000000000000000000000000000 := by decide
        exact iteF ⟨_, rfl, D, _, _, rfl, rfl, eD3, small1000 (by rw [List.length_map]; omega), fin _ (by rw [e30]; omega) (by rw [e30]; omega)⟩
    · obtain ⟨y3, y4, ns, rfl, k1, hd1, eD, ln, hb⟩ := hP
      exact ⟨_, rfl, q H' D ns k1 hd1 ln hb (.lst eD (dq_intl ns))⟩
end
end K01
set_option Elab.async false
set_option linter.all false
set_option maxRecDepth 100000
set_option maxHeartbeats 4000000
set_option exponentiation.threshold 5000
namespace K01
open PySem PySem.Spec PyProof.Rows L2 TkS
theorem zip_vals {H : Hp} {fx : List V} {ps : List (Int × Int)} {i : Nat} {x : V} (t : DqAll H fx (ps.map prD)) (hx : fx[i]? = some x) : ∃ a, x = .ref a ∧ i < ps.length ∧ H a = some (.tup [.int (pe ps i).1, .int (pe ps i).2]) := by
  obtain ⟨a, p, rfl, hp, ha⟩ := pr_items t hx
  have hi := (List.getElem?_eq_some_iff.mp hp).1
  rw [pe_at hi] at hp
  cases hp
  exact ⟨a, rfl, hi, ha⟩
theorem map_rngF (f : Nat → Bool) (g : Nat → Int) (n : Nat) : ((List.range n).filter f).map (fun i => V.int (g i)) = (((List.range n).filter f).map g).map V.int := by
  rw [List.map_map]
  rfl
section
variable {P : Program} {w : World} {K : PySem.W.Frag} {mg : Str → Option Value} {base : Heap}
theorem ok_law_tour_due (T : Txt K mg) : FnOk P w K mg base CX0 3 T.f_law_tour_due T.d_law_tour_due ["_law_points", "_law_shuts", "_law_pairs", "_law_tour"] sp_law_tour_due := by
  refine T.F_law_tour_due.ok sc_law_tour_due (fun vs H Q E h => ?_) (fun cdv A outer s H vs Q E hr h => ?_)
  · obtain ⟨P', W, l, x, d, ps, rfl, _⟩ := h
    rfl
  · obtain ⟨P', W, l, x, d, ps, rfl, wd, kl, kx, hm, hnl, q⟩ := h
    refine ⟨_, (pss_cons (ps_if (PW.pt (pw_or (pt_not (pt_val (pe_callB call_isiT (by rfl) T.m_isinstance (by decide +kernel) (pa_cons (pv 3) (pa_cons (pe_tup (pa_cons (pe_bltn (v := .ty "list") (u := .type "list") (by rfl) T.m_list (by decide +kernel) rfl) (pa_cons (pe_bltn (v := .ty "tuple") (u := .type "tuple") (by rfl) T.m_tuple (by decide +kernel) rfl) pa_nil))) pa_nil))))) (pw_or1 (pt_cmpR op_ne (pe_callB call_len_seq (by rfl) T.m_len (by decide +kernel) (pa_cons (pv 3) pa_nil)) (pe_callB call_len_seq (by rfl) T.m_len (by decide +kernel) (pa_cons (pv 2) pa_nil)) (nomark _)))))
        (pss_one (ps_ret pe_str))
        pss_nil)
      (pss_cons (ps_if (pt_cmpR (op_neD hr.units) (pe_lc rfl sc_law_tour_due.nd (pi_seq (pv 3)) (blkOk_by (own := [("_law_number", 6)]) (N := ["_law_points", "_law_shuts", "_law_pairs", "_law_tour", "_law_point", "_law_shut_here", "_law_number", "_law_pair"]) (sc := defScope s_law_tour_due) (by decide +kernel)) (fun _ _ _ _ _ => (pg_name (i := 6) sc_law_tour_due.nd rfl (.inl rfl))) (fun _ _ _ _ _ => (pts_one (pt_not (pt_val (pe_call (ok_law_whole T) (hr.mono (by decide)) (by rfl) T.g_law_whole T.F_law_whole.kp T.b_law_whole .nil pass0 (pa_cons (pv 6) pa_nil)))))) (fun _ _ _ _ _ => (pv 6))) (pe_lst pa_nil) (nomark _))
        (pss_one (ps_ret pe_str))
        pss_nil)
      (pss_cons (ps_for PassesOwn.never rfl (pi_range1 (by rfl) T.m_range (pa_cons (pv 0) pa_nil)) (pg_name (i := 4) sc_law_tour_due.nd rfl (.inr rfl))
        (pss_one (ps_if (pt_cmpR op_ne (pe_callB (cr_sum rfl) (by rfl) T.m_sum (by decide +kernel) (pa_cons (pe_lc rfl sc_law_tour_due.nd (RZM.pi_zipS (by rfl) T.m_zip (pa_cons (pv 2) (pa_cons (pv 3) pa_nil))) (blkOk_by (own := [("_law_pair", 7), ("_law_number", 6)]) (N := ["_law_points", "_law_shuts", "_law_pairs", "_law_tour", "_law_point", "_law_shut_here", "_law_number", "_law_pair"]) (sc := defScope s_law_tour_due) (by decide +kernel)) (fun _ _ _ _ _ => (show PG _ _ (gTup K 2 (gCons (gName 7) (gCons (gName 6) gNil))) from pg_tup rfl (pgs_cons (pg_name (i := 7) sc_law_tour_due.nd rfl (.inl rfl)) (pgs_cons (pg_name (i := 6) sc_law_tour_due.nd rfl (.inl rfl)) pgs_nil)))) (fun _ _ _ _ _ => (pts_one (pt_cmpR op_eq (pe_ix (show IxR _ (rIx K) from ix_seq) (pv 7) pe_int (fun _ _ => rfl)) (pv 4) (nomark _)))) (fun _ _ _ _ _ => (pv 6))) pa_nil)) pe_int (nomark _))
          (pss_one (ps_ret pe_str))
          pss_nil)))
      (pss_cons (ps_for PassesOwn.never rfl (pi_range1 (by rfl) T.m_range (pa_cons (pv 1) pa_nil)) (pg_name (i := 5) sc_law_tour_due.nd rfl (.inr rfl))
        (pss_one (ps_if (pt_cmpR op_ne (pe_callB (cr_sum rfl) (by rfl) T.m_sum (by decide +kernel) (pa_cons (pe_lc rfl sc_law_tour_due.nd (RZM.pi_zipS (by rfl) T.m_zip (pa_cons (pv 2) (pa_cons (pv 3) pa_nil))) (blkOk_by (own := [("_law_pair", 7), ("_law_number", 6)]) (N := ["_law_points", "_law_shuts", "_law_pairs", "_law_tour", "_law_point", "_law_shut_here", "_law_number", "_law_pair"]) (sc := defScope s_law_tour_due) (by decide +kernel)) (fun _ _ _ _ _ => (show PG _ _ (gTup K 2 (gCons (gName 7) (gCons (gName 6) gNil))) from pg_tup rfl (pgs_cons (pg_name (i := 7) sc_law_tour_due.nd rfl (.inl rfl)) (pgs_cons (pg_name (i := 6) sc_law_tour_due.nd rfl (.inl rfl)) pgs_nil)))) (fun _ _ _ _ _ => (pts_one (pt_cmpR op_eq (pe_ix (show IxR _ (rIx K) from ix_seq) (pv 7) pe_int (fun _ _ => rfl)) (pv 5) (nomark _)))) (fun _ _ _ _ _ => (pv 6))) pa_nil)) pe_int (nomark _))
          (pss_one (ps_ret pe_str))
          pss_nil)))
      (pss_one (ps_ret pe_non)))))), ?_⟩
    obtain ⟨fx, el, tl, lfx⟩ := lst_prs kl
    have l16 := wd.len25
    have p1 := wd.p1
    have w1 := wd.w1
    have p0 := wd.p0
    have w0 := wd.w0
    refine ⟨x, rfl, (by show 2 ≤ sizeLine; decide), fun u nu => ?_⟩
    have sm : Same H (upd H u (.tup [.ty "list", .ty "tuple"])) := same_new nu
    obtain ⟨t, ty, _, _, k3, _⟩ := dq_ty (K := K) (Dq.same sm d kx)
    have kx1 := kx.same sm
    have q1 := q _ sm
    refine ⟨x, u, _, t, _, (itemsD d).isSome, rfl, upd_same, .cons (.ty _) (.cons (.ty _) .nil), ty, k3, _, rfl, ?_⟩
    generalize upd H u (.tup [.ty "list", .ty "tuple"]) = H1 at sm kx1 q1
    cases e : itemsD d with
    | none =>
      rw [show tourW P' W ps d = some ("length" : Str) by unfold tourW; rw [e]] at q1
      exact iteT q1
    | some ds =>
      obtain ⟨p, xs, rfl, hxs, hsq⟩ := sq_of (K := K) kx1 e
      have lx := hxs.len
      refine iteF ⟨_, rfl, p, xs, rfl, hsq, _, rfl, l, fx, rfl, .inl (SqL.of (sm _ _ el)), rfl, _, rfl, ?_⟩
      rw [int_dec]
      by_cases c : ds.length = ps.length
      · rw [decide_eq_true (by omega)]
        obtain ⟨m40, mit⟩ := mild_items hm e
        have nls := hnl ds e
        refine iteF ?_
        refine nx_go rfl ?_
        dsimp only
        refine if_lcOp ?_
        refine lc_seqD (a := p) (ds := ds) (fun d => !isIntD d) id (fun Q h => ⟨_, rfl, h⟩) hsq hxs (by omega) (fun _ => rfl) (fun i x d' H2 Q2 hd' _ kd' q2 => ?_) (fun D i x d' H2 Q2 nD hd' _ s2 kd' hD q2 => ?_) (fun D H2 nD s2 kD => ?_)
        · exact ⟨_, rfl, x, d', rfl, kd', _, rfl, q2 _ fun _ _ z => z⟩
        · obtain ⟨acc, ha⟩ := hD
          exact ⟨_, rfl, q2 _ _ (fun _ _ z => z) (dq_noL ha _ (noLists_at nls hd') kd')⟩
        · refine ⟨Nat.zero_le _, fun D2 nD2 => ?_⟩
          have s3 := same_new (o := .lst []) nD2
          refine ⟨_, .list [], (kD.same s3).dp, (Dq.lst upd_same .nil).dp, ?_, by decide, _, rfl, ?_⟩
          · rw [List.map_id]
            exact (mild_is 3 _ (mild_filter m40 mit)).shaped (by decide)
          · have s13 := s2.trans s3
            rw [eqv_emptyL, filter_empty]
            generalize upd H2 D2 (.lst []) = H3 at s13
            have sm3 := sm.trans s13
            have q3 := q _ sm3
            cases c2 : ds.all isIntD with
            | false =>
              rw [show tourW P' W ps d = some ("number" : Str) by unfold tourW; rw [e]; dsimp only; rw [if_pos c, c2]; rfl] at q3
              exact iteT q3
            | true =>
              refine iteF ?_
              generalize en : ds.map intD = ns
              have eds : ds = ns.map PyData.int := by rw [← en]; exact ints_of c2
              subst eds
              have exs : xs = ns.map V.int := intl_dq hxs
              subst exs
              have ln : ns.length = ps.length := by rw [List.length_map] at c; exact c
              have tw : tourW P' W ps d = if anyNz (ptL P' ps ns) = true then some ("point" : Str) else if anyNz (wlL W ps ns) = true then some ("wall" : Str) else (none : Option Str) := by
                unfold tourW
                rw [e]
                dsimp only
                rw [if_pos c, if_pos c2, map_intD]
              have hsq3 := hsq.same s13
              obtain ⟨t1, ht1⟩ := sqs_of hsq3
              have el3 := sm3 _ _ el
              refine ⟨_, rfl, P', rfl, by omega, by omega, ?_⟩
              refine for_range (fun i σ H' => ∃ y4, σ = [some (.int P'), some (.int W), some (.ref l), some (.ref p), y4, none, none, none] ∧ Same H3 H' ∧ ∀ x : Nat, x < i → ptSum ps ns (x : Int) = 0)
                ⟨none, rfl, fun _ _ z => z, fun x hx => absurd hx (Nat.not_lt_zero _)⟩ (fun i σ H' hi hP => ?_) (fun σ H' hP => ?_)
              · obtain ⟨y4, rfl, s4, hz⟩ := hP
                refine ⟨_, rfl, _, rfl, false, t1, l, p, fx, ns.map V.int, rfl, SqL.of (s4 _ _ el3), sqs_same s4 ht1, fun D3 nD3 => ?_⟩
                refine lc_zipV (fun k => decide ((pe ps k).1 = (i : Int))) (fun k => V.int (ns.getD k 0)) (by rw [List.length_map, lfx, ln]) (by omega) nD3 (SqL.of (s4 _ _ el3)) (sqs_same s4 ht1) (fun k x y T' H5 R N hx hy s5 hT yes no => ?_) (fun H5 s5 hD5 => ?_)
                · obtain ⟨a, rfl, hk, ha⟩ := zip_vals tl hx
                  obtain ⟨rfl, _⟩ := map_getD hy
                  have ha5 := s5 _ _ (s4 _ _ (sm3 _ _ ha))
                  refine ⟨T', _, rfl, SqT.of hT, rfl, _, _, rfl, _, _, rfl, rfl, rfl, ?_⟩
                  refine ⟨_, rfl, (ix_pr ha5).1 ⟨_, rfl, rfl, _, rfl, ?_⟩⟩
                  rw [int_dec, Int.zero_add]
                  by_cases cc : (pe ps k).1 = (i : Int)
                  · rw [decide_eq_true cc]
                    exact iteT ⟨_, rfl, yes (decide_eq_true cc) _ fun _ _ z => z⟩
                  · rw [decide_eq_false cc]
                    exact iteF (no (decide_eq_false cc) _ fun _ _ z => z)
                · rw [map_rngF, lfx] at hD5
                  refine ⟨D3, _, rfl, SqL.of hD5, rfl, _, rfl, ?_⟩
                  rw [int_dec, rangeSum, ← ptSum_range ln]
                  have q5 := q _ ((sm3.trans s4).trans s5)
                  by_cases cz : ptSum ps ns (i : Int) = 0
                  · rw [decide_eq_true cz]
                    refine iteF ⟨_, rfl, s4.trans s5, fun x hx => ?_⟩
                    rcases Nat.lt_or_ge x i with z | z
                    · exact hz x z
                    · rw [show x = i by omega]
                      exact cz
                  · rw [decide_eq_false cz]
                    rw [tw, pt_bad hi cz] at q5
                    exact iteT q5
              · obtain ⟨y4, rfl, s4, hz⟩ := hP
                rw [pt_good hz, if_neg Bool.false_ne_true] at tw
                have sm4 := sm3.trans s4
                have el4 := s4 _ _ el3
                have ht4 := sqs_same s4 ht1
                refine ⟨_, rfl, W, rfl, by omega, by omega, ?_⟩
                refine for_range (fun i σ H5 => ∃ y5, σ = [some (.int P'), some (.int W), some (.ref l), some (.ref p), y4, y5, none, none] ∧ Same H' H5 ∧ ∀ x : Nat, x < i → wlSum ps ns (x : Int) = 0)
                  ⟨none, rfl, fun _ _ z => z, fun x hx => absurd hx (Nat.not_lt_zero _)⟩ (fun i σ H5 hi hP => ?_) (fun σ H5 hP => ?_)
                · obtain ⟨y5, rfl, s5, hz⟩ := hP
                  refine ⟨_, rfl, _, rfl, false, t1, l, p, fx, ns.map V.int, rfl, SqL.of (s5 _ _ el4), sqs_same s5 ht4, fun D3 nD3 => ?_⟩
                  refine lc_zipV (fun k => decide ((pe ps k).2 = (i : Int))) (fun k => V.int (ns.getD k 0)) (by rw [List.length_map, lfx, ln]) (by omega) nD3 (SqL.of (s5 _ _ el4)) (sqs_same s5 ht4) (fun k x y T' H6 R N hx hy s6 hT yes no => ?_) (fun H6 s6 hD6 => ?_)
                  · obtain ⟨a, rfl, hk, ha⟩ := zip_vals tl hx
                    obtain ⟨rfl, _⟩ := map_getD hy
                    have ha5 := s6 _ _ (s5 _ _ (sm4 _ _ ha))
                    refine ⟨T', _, rfl, SqT.of hT, rfl, _, _, rfl, _, _, rfl, rfl, rfl, ?_⟩
                    refine ⟨_, rfl, (ix_pr ha5).2 ⟨_, rfl, rfl, _, rfl, ?_⟩⟩
                    rw [int_dec, Int.zero_add]
                    by_cases cc : (pe ps k).2 = (i : Int)
                    · rw [decide_eq_true cc]
                      exact iteT ⟨_, rfl, yes (decide_eq_true cc) _ fun _ _ z => z⟩
                    · rw [decide_eq_false cc]
                      exact iteF (no (decide_eq_false cc) _ fun _ _ z => z)
                  · rw [map_rngF, lfx] at hD6
                    refine ⟨D3, _, rfl, SqL.of hD6, rfl, _, rfl, ?_⟩
                    rw [int_dec, rangeSum, ← wlSum_range ln]
                    have q6 := q _ ((sm4.trans s5).trans s6)
                    by_cases cz : wlSum ps ns (i : Int) = 0
                    · rw [decide_eq_true cz]
                      refine iteF ⟨_, rfl, s5.trans s6, fun x hx => ?_⟩
                      rcases Nat.lt_or_ge x i with z | z
                      · exact hz x z
                      · rw [show x = i by omega]
                        exact cz
                    · rw [decide_eq_false cz]
                      rw [tw, wl_bad hi cz] at q6
                      exact iteT q6
                · obtain ⟨y5, rfl, s5, hz⟩ := hP
                  have q6 := q _ (sm4.trans s5)
                  rw [tw, wl_good hz] at q6
                  exact q6
      · rw [decide_eq_false (by omega)]
        rw [show tourW P' W ps d = some ("length" : Str) by unfold tourW; rw [e]; dsimp only; rw [if_neg c]] at q1
        exact iteT q1
end
end K01
set_option Elab.async false
set_option linter.all false
set_option maxRecDepth 100000
set_option maxHeartbeats 4000000
set_option exponentiation.threshold 5000
namespace TkS
open PySem PySem.Spec PyProof.Rows L2
theorem call_isE2 {X : Cx} {a D : Addr} {oe : Obj} {cls : Value} {d : Option Addr} {pn : List (Addr × Obj)} (C : ExcC X.K D) (hz : Zc cls d oe) (hf : ∃ vs, oe.data = .fields vs) : CallR (X.suite a ((a, oe) :: pn)) (.builtin "isinstance") (fun xs H Q => cls = .ref D ∧ d = none ∧ rIsE X.K D a xs H Q) := by
  intro pins s σ H xs us Q I r h
  obtain ⟨rfl, rfl, h⟩ := h
  exact call_isE C hz hf pins s σ H xs us Q I r h
theorem op_lc {r : R2} {wi : TI} {g : TG} {tt : TT} {te tb : TE} {vs : List Nat} {σ : L2.St} {H : Hp} {Q : VK} (h : tLc wi g tt te vs σ H fun x H1 => tb σ H1 fun y H2 => r x y H2 Q) : tOp r (tLc wi g tt te vs) tb σ H Q := h
end TkS
namespace K01
open PySem PySem.Spec PyProof.Rows L2 TkS
def NoLS (d : PyData) : Prop := ∀ t s, itemsD d = some [t, s] → NoL t
def sp_law_saying_due : Sp := fun vs H Q _ => ∃ (P W : Int) (l : Addr) (x : V) (d : PyData) (ps : List (Int × Int)), vs = [.int P, .int W, .ref l, x] ∧ Wd P W ps ∧ Dq H (.ref l) (.list (ps.map prD)) ∧ Dq H x d ∧ mild 3 d = true ∧ NoLS d ∧ ∀ H', Same H H' → Q (wordV (sayW P W ps d)) H'
def sp_law_tuple : Sp := fun vs H Q _ => ∃ (x y : V) (d : PyData) (ns : List Int), vs = [x, y] ∧ Dq H x (.tuple (ns.map PyData.int)) ∧ Dq H y d ∧ itemsD d = some (ns.map PyData.int) ∧ ns.length ≤ 40 ∧ ∀ H', Same H H' → Q (.bl true) H'
def sp_law_saying : Sp := fun vs H Q _ => ∃ (x y : V) (ns : List Int) (s : Int), vs = [x, y] ∧ Dq H x (sayD ns s) ∧ Dq H y (sayD ns s) ∧ ns.length ≤ 40 ∧ ∀ H', Same H H' → Q (.bl true) H'
theorem eqv_ints (ns : List Int) : PyData.eqv (.tuple (ns.map PyData.int)) (.tuple (ns.map PyData.int)) = true := by
  have : PyData.eqvAll (ns.map PyData.int) (ns.map PyData.int) = true := by
    induction ns with
    | nil => simp [PyData.eqvAll]
    | cons n ns ih => simp [PyData.eqvAll, PyData.eqv, ih]
  simpa [PyData.eqv] using this
theorem shaped_ints {α : Type} (f : α → Int) (l : List α) : SeqAt.shaped (.tuple (l.map fun x => PyData.int (f x))) = true := by
  have h : PyData.canLayAll0 (l.map fun x => PyData.int (f x)) = true ∧ PyData.depthAll (l.map fun x => PyData.int (f x)) = 0 := by
    induction l with
    | nil => exact ⟨rfl, rfl⟩
    | cons a l ih => simp [PyData.canLayAll0, PyData.depthAll, PyData.canLay0, PyData.depth, ih.1, ih.2]
  simp [SeqAt.shaped, PyData.canLay0, PyData.depth, h.1, h.2]
theorem shp_ints (ns : List Int) : SeqAt.shaped (.tuple (ns.map PyData.int)) = true := shaped_ints id ns
section
variable {P : Program} {w : World} {K : PySem.W.Frag} {mg : Str → Option Value} {base : Heap}
theorem ok_law_tuple (T : Txt K mg) : FnOk P w K mg base CX0 3 T.f_law_tuple T.d_law_tuple ["_law_told", "_law_due"] sp_law_tuple := by
  refine T.F_law_tuple.ok sc_law_tuple (fun vs H Q E h => ?_) (fun cdv A outer s H vs Q E hr h => ?_)
  · obtain ⟨x, y, d, ns, rfl, _⟩ := h
    rfl
  · obtain ⟨x, y, d, ns, rfl, kx, ky, e, l40, q⟩ := h
    refine ⟨_, (pss_one (ps_ret (pe_and (pe_callB call_isi (by rfl) T.m_isinstance (by decide +kernel) (pa_cons (pv 0) (pa_cons (pe_bltn (v := .ty "tuple") (u := .type "tuple") (by rfl) T.m_tuple (by decide +kernel) rfl) pa_nil))) (pe_and (pe_cmpR (op_eqD hr.units) (pv 0) (pe_callTy call_tupD (by rfl) T.m_tuple (by decide +kernel) (pa_cons (pv 1) pa_nil)) (nomark _)) (pe_one (pe_cmpR (op_eqD hr.units) (pe_lc rfl sc_law_tuple.nd (pi_seq (pv 0)) (blkOk_by (own := [("_law_x", 2)]) (N := ["_law_told", "_law_due", "_law_x"]) (sc := defScope s_law_tuple) (by decide +kernel)) (fun _ _ _ _ _ => (pg_name (i := 2) sc_law_tuple.nd rfl (.inl rfl))) (fun _ _ _ _ _ => (pts_one (pt_not (pt_val (pe_call (ok_law_whole T) (hr.mono (by decide)) (by rfl) T.g_law_whole T.F_law_whole.kp T.b_law_whole .nil pass0 (pa_cons (pv 2) pa_nil)))))) (fun _ _ _ _ _ => (pv 2))) (pe_lst pa_nil) (nomark _))))))), ?_⟩
    obtain ⟨t, ty, _, _, _, k4⟩ := dq_ty (K := K) kx
    refine ⟨x, rfl, x, .ty "tuple", t, _, true, rfl, .ty _, ty, k4, _, rfl, iteT ?_⟩
    refine ⟨_, rfl, _, rfl, y, d, _, rfl, ky, e, fun l H1 s1 k1 => ⟨_, _, (kx.same s1).dp, k1.dp, shp_ints ns, shp_ints ns, ?_⟩⟩
    rw [eqv_ints]
    refine ⟨_, rfl, iteT (op_lc ?_)⟩
    obtain ⟨a, rfl, ha⟩ := dq_tupI (kx.same s1)
    refine lc_seqD (a := a) (ds := ns.map PyData.int) (fun d => !isIntD d) id (fun Q h => ⟨_, rfl, h⟩) (.inr (SqT.of ha)) (dq_intl ns) (by rw [List.length_map]; omega) (fun _ => rfl) (fun i x d' H2 Q2 hd' _ kd' q2 => ?_) (fun D i x d' H2 Q2 nD hd' _ s2 kd' hD q2 => ?_) (fun D H2 nD s2 kD => ?_)
    · exact ⟨_, rfl, x, d', rfl, kd', _, rfl, q2 _ fun _ _ z => z⟩
    · obtain ⟨acc, hacc⟩ := hD
      rw [List.getElem?_map] at hd'
      obtain ⟨n, _, rfl⟩ := Option.map_eq_some_iff.mp hd'
      exact ⟨_, rfl, q2 _ _ (fun _ _ z => z) (dq_noL hacc _ rfl kd')⟩
    · have em : (((ns.map PyData.int).filter fun d => !isIntD d).map id) = [] := by
        rw [List.map_id, List.filter_eq_nil_iff]
        intro z hz
        obtain ⟨n, _, rfl⟩ := List.mem_map.mp hz
        exact Bool.false_ne_true
      rw [em] at kD
      refine ⟨Nat.zero_le _, fun D2 nD2 => ?_⟩
      have s3 := same_new (o := .lst []) nD2
      refine ⟨.list [], .list [], (kD.same s3).dp, (Dq.lst upd_same .nil).dp, by decide, by decide, ?_⟩
      rw [eqv_emptyL]
      exact q _ ((s1.trans s2).trans s3)
theorem ok_law_saying (T : Txt K mg) : FnOk P w K mg base CX0 4 T.f_law_saying T.d_law_saying ["_law_told", "_law_due"] sp_law_saying := by
  refine T.F_law_saying.ok sc_law_saying (fun vs H Q E h => ?_) (fun cdv A outer s H vs Q E hr h => ?_)
  · obtain ⟨x, y, ns, s, rfl, _⟩ := h
    rfl
  · obtain ⟨x, y, ns, sg, rfl, kx, ky, l40, q⟩ := h
    refine ⟨_, (pss_one (ps_ret (pe_and (pe_callB call_isi (by rfl) T.m_isinstance (by decide +kernel) (pa_cons (pv 0) (pa_cons (pe_bltn (v := .ty "tuple") (u := .type "tuple") (by rfl) T.m_tuple (by decide +kernel) rfl) pa_nil))) (pe_and (pe_cmpR op_eq (pe_callB call_len_seq (by rfl) T.m_len (by decide +kernel) (pa_cons (pv 0) pa_nil)) pe_int (nomark _)) (pe_and (pe_call (ok_law_tuple T) (hr.mono (by decide)) (by rfl) T.g_law_tuple T.F_law_tuple.kp T.b_law_tuple .nil pass0 (pa_cons (pe_ix ix_seq (pv 0) pe_int (fun _ _ => rfl)) (pa_cons (pe_ix ix_seq (pv 1) pe_int (fun _ _ => rfl)) pa_nil))) (pe_and (pe_call (ok_law_whole T) (hr.mono (by decide)) (by rfl) T.g_law_whole T.F_law_whole.kp T.b_law_whole .nil pass0 (pa_cons (pe_ix ix_seq (pv 0) pe_int (fun _ _ => rfl)) pa_nil)) (pe_one (pe_cmpR op_eq (pe_ix ix_seq (pv 0) pe_int (fun _ _ => rfl)) (pe_ix ix_seq (pv 1) pe_int (fun _ _ => rfl)) (nomark _))))))))), ?_⟩
    obtain ⟨t, ty, _, _, _, k4⟩ := dq_ty (K := K) kx
    obtain ⟨a, ta, rfl, ea, ka⟩ := dq_say kx
    obtain ⟨b, tb, rfl, eb, kb⟩ := dq_say ky
    refine ⟨_, rfl, .ref a, .ty "tuple", t, _, true, rfl, .ty _, ty, k4, _, rfl, iteT ?_⟩
    refine ⟨_, rfl, a, _, rfl, .inr (SqT.of ea), rfl, _, rfl, iteT ?_⟩
    refine ⟨_, rfl, (ix_pr ea).1 ⟨_, rfl, (ix_pr eb).1 ⟨.ref ta, .ref tb, _, ns, rfl, ka, kb, rfl, l40, fun H1 s1 => ⟨_, rfl, iteT ?_⟩⟩⟩⟩
    refine ⟨_, rfl, (ix_pr (s1 _ _ ea)).2 ⟨.int sg, .int sg, rfl, .int _, _, rfl, iteT ?_⟩⟩
    refine ⟨_, rfl, (ix_pr (s1 _ _ ea)).2 ⟨_, rfl, (ix_pr (s1 _ _ eb)).2 ⟨rfl, ?_⟩⟩⟩
    rw [int_dec, decide_eq_true rfl]
    exact q _ s1
end
end K01
set_option Elab.async false
set_option linter.all false
set_option maxRecDepth 100000
set_option maxHeartbeats 4000000
set_option exponentiation.threshold 5000
namespace K01
open PySem PySem.Spec PyProof.Rows L2 TkS
theorem two_dq {H : Hp} {xs : List V} {a b : PyData} (h : DqAll H xs [a, b]) : ∃ v0 v1, xs = [v0, v1] ∧ Dq H v0 a ∧ Dq H v1 b := by
  cases h with
  | cons k0 t =>
    cases t with
    | cons k1 t =>
      cases t
      exact ⟨_, _, rfl, k0, k1⟩
theorem wholeD_int {n lo hi : Int} : wholeD (.int n) lo hi = (decide (lo ≤ n) && decide (n ≤ hi)) := rfl
theorem word_some {z : Str} : (!decide (wordV (some z) = V.non)) = true := by simp [wordV]
theorem word_none' : (!decide (wordV none = V.non)) = false := by simp [wordV]
section
variable {P : Program} {w : World} {K : PySem.W.Frag} {mg : Str → Option Value} {base : Heap}
theorem ok_law_saying_due (T : Txt K mg) : FnOk P w K mg base CX0 4 T.f_law_saying_due T.d_law_saying_due ["_law_points", "_law_shuts", "_law_pairs", "_law_saying_here"] sp_law_saying_due := by
  refine T.F_law_saying_due.ok sc_law_saying_due (fun vs H Q E h => ?_) (fun cdv A outer s H vs Q E hr h => ?_)
  · obtain ⟨P', W, l, x, d, ps, rfl, _⟩ := h
    rfl
  · obtain ⟨P', W, l, x, d, ps, rfl, wd, kl, kx, hm, hnl, q⟩ := h
    refine ⟨_, (pss_cons (ps_if (PW.pt (pw_or (pt_not (pt_val (pe_callB call_isiT (by rfl) T.m_isinstance (by decide +kernel) (pa_cons (pv 3) (pa_cons (pe_tup (pa_cons (pe_bltn (v := .ty "list") (u := .type "list") (by rfl) T.m_list (by decide +kernel) rfl) (pa_cons (pe_bltn (v := .ty "tuple") (u := .type "tuple") (by rfl) T.m_tuple (by decide +kernel) rfl) pa_nil))) pa_nil))))) (pw_or1 (pt_cmpR op_ne (pe_callB call_len_seq (by rfl) T.m_len (by decide +kernel) (pa_cons (pv 3) pa_nil)) pe_int (nomark _)))))
        (pss_one (ps_ret pe_str))
        pss_nil)
      (pss_cons (ps_if (pt_cmpR op_notN (pe_call (ok_law_tour_due T) (hr.mono (by decide)) (by rfl) T.g_law_tour_due T.F_law_tour_due.kp T.b_law_tour_due .nil pass0 (pa_cons (pv 0) (pa_cons (pv 1) (pa_cons (pv 2) (pa_cons (pe_ix ix_seq (pv 3) pe_int (fun _ _ => rfl)) pa_nil))))) pe_non (nomark _))
        (pss_one (ps_ret pe_str))
        pss_nil)
      (pss_cons (ps_if (PW.pt (pw_or (pt_not (pt_val (pe_call (ok_law_whole T) (hr.mono (by decide)) (by rfl) T.g_law_whole T.F_law_whole.kp T.b_law_whole .nil pass0 (pa_cons (pe_ix ix_seq (pv 3) pe_int (fun _ _ => rfl)) pa_nil)))) (pw_or1 (pt_cmpR op_notIn_seq (pe_ix ix_seq (pv 3) pe_int (fun _ _ => rfl)) (pe_tup (pa_cons pe_int (pa_cons pe_int pa_nil))) rfl))))
        (pss_one (ps_ret pe_str))
        pss_nil)
      (pss_one (ps_ret pe_non))))), ?_⟩
    refine ⟨x, rfl, (by show 2 ≤ sizeLine; decide), fun u nu => ?_⟩
    have sm : Same H (upd H u (.tup [.ty "list", .ty "tuple"])) := same_new nu
    obtain ⟨t, ty, _, _, k3, _⟩ := dq_ty (K := K) (Dq.same sm d kx)
    have kx1 := kx.same sm
    have q1 := q _ sm
    refine ⟨x, u, _, t, _, (itemsD d).isSome, rfl, upd_same, .cons (.ty _) (.cons (.ty _) .nil), ty, k3, _, rfl, ?_⟩
    generalize upd H u (.tup [.ty "list", .ty "tuple"]) = H1 at sm kx1 q1
    cases e : itemsD d with
    | none =>
      rw [show sayW P' W ps d = some ("couple" : Str) by unfold sayW; rw [e]] at q1
      exact iteT q1
    | some ds =>
      obtain ⟨p, xs, rfl, hxs, hsq⟩ := sq_of (K := K) kx1 e
      have lx := hxs.len
      refine iteF ⟨_, rfl, p, xs, rfl, hsq, rfl, _, rfl, ?_⟩
      rw [int_dec]
      by_cases c : ds.length = 2
      · rw [decide_eq_true (by omega)]
        obtain ⟨t0, s0, rfl⟩ : ∃ t0 s0, ds = [t0, s0] := by
          match ds, c with
          | [a, b], _ => exact ⟨a, b, rfl⟩
        obtain ⟨v0, v1, rfl, k0, k1⟩ := two_dq hxs
        · obtain ⟨_, mit⟩ := mild_items hm e
          have ix : ∀ (i : Int) (v : V) {H2 : Hp} (Q' : VK), Same H1 H2 → atI [v0, v1] i = some v → Q' v H2 → rIx K (.ref p) (.int i) H2 Q' := fun i v {H2} Q' s2 hv qv =>
            (hsq.same s2).elim (fun h => .inl ⟨p, _, i, v, rfl, rfl, h, hv, qv⟩) (fun h => .inr (.inl ⟨p, _, i, v, rfl, rfl, h, hv, qv⟩))
          have sw : sayW P' W ps d = match tourW P' W ps t0 with
              | some _ => some ("tour" : Str)
              | none => if wholeD s0 0 1 = true then none else some ("sign" : Str) := by
            unfold sayW
            rw [e]
            all_goals dsimp only
            all_goals cases tourW P' W ps t0 <;> rfl
          refine iteF ⟨_, rfl, _, rfl, _, rfl, _, rfl, ix 0 v0 _ (fun _ _ z => z) rfl ⟨P', W, l, v0, t0, ps, rfl, wd, kl.same sm, k0, mild_up 2 t0 (mit t0 (by simp)), hnl t0 s0 e, fun H2 s2 => ⟨rfl, _, rfl, ?_⟩⟩⟩
          have sm2 := sm.trans s2
          have q2 := q _ sm2
          cases tw : tourW P' W ps t0 with
          | some z =>
            rw [sw, tw] at q2
            rw [word_some]
            exact iteT q2
          | none =>
            rw [tw] at sw
            rw [word_none']
            have k12 := k1.same s2
            refine iteF ⟨_, rfl, ix 1 v1 _ s2 rfl ⟨v1, s0, rfl, k12, _, rfl, ?_⟩⟩
            have no : isIntD s0 = false → wholeD s0 0 1 = false := fun z => by cases s0 <;> first | rfl | cases z
            cases hb : isIntD s0 with
            | false =>
              rw [sw, no hb] at q2
              exact iteT q2
            | true =>
              cases k12 with
              | int i =>
                refine iteF ⟨_, rfl, ix 1 _ _ s2 rfl ⟨(by show 2 ≤ sizeLine; decide), fun u2 nu2 => ⟨u2, _, rfl, .inr (SqT.of upd_same), rfl, rfl, _, rfl, ?_⟩⟩⟩
                have q3 := q _ (sm2.trans (same_new (o := .tup [.int 0, .int 1]) nu2))
                rw [sw, wholeD_int] at q3
                refine (show (if (if true = true then !inV (V.int i) [V.int 0, V.int 1] else inV (V.int i) [V.int 0, V.int 1]) = true then _ else _) from ?_)
                rw [if_pos rfl, in2]
                by_cases ci : i = 0 ∨ i = 1
                · rw [decide_eq_true ci]
                  rw [decide_eq_true (by omega : (0 : Int) ≤ i), decide_eq_true (by omega : i ≤ 1)] at q3
                  exact iteF q3
                · rw [decide_eq_false ci]
                  have : (decide ((0 : Int) ≤ i) && decide (i ≤ 1)) = false := by
                    rw [← Bool.not_eq_true, Bool.and_eq_true, decide_eq_true_iff, decide_eq_true_iff]
                    omega
                  rw [this] at q3
                  exact iteT q3
              | non => cases hb
              | bl b => cases hb
              | str z => cases hb
              | lst z1 z2 => cases hb
              | tup z1 z2 => cases hb
      · rw [decide_eq_false (by omega)]
        have : sayW P' W ps d = some ("couple" : Str) := by
          unfold sayW
          rw [e]
          match ds, c with
          | [], _ => rfl
          | [_], _ => rfl
          | [_, _], z => exact absurd rfl z
          | _ :: _ :: _ :: _, _ => rfl
        rw [this] at q1
        exact iteT q1
end
end K01
set_option Elab.async false
set_option linter.all false
set_option maxRecDepth 100000
set_option maxHeartbeats 4000000
set_option exponentiation.threshold 5000
namespace K01
open PySem PySem.Spec PyProof.Rows L2 TkS
def tagD (t : Str) (v : PyData) : PyData := .tuple [.str t, v]
def wholeT : PyData := .tuple [.str "whole"]
def tupD (ns : List Int) : PyData := .tuple (ns.map PyData.int)
inductive Ans (P W : Int) (ps : List (Int × Int)) (d d' : PyData) : Int → PyData → Prop
  | t0e {e : Str} : tourW P W ps d = some e → Ans P W ps d d' 0 (tagD "tour" (.str e))
  | t0 {ns : List Int} : IsT P W ps d ns → Ans P W ps d d' 0 (tagD "let" (tupD ns))
  | t1e {e : Str} : tourW P W ps d = some e → Ans P W ps d d' 1 (tagD "tour" (.str e))
  | t1f {e : Str} : tourW P W ps d = none → tourW P W ps d' = some e → Ans P W ps d d' 1 (tagD "tour" (.str e))
  | t1 {ns ms : List Int} : IsT P W ps d ns → IsT P W ps d' ms → Ans P W ps d d' 1 (tagD "let" (tupD (addL ns ms)))
  | t2e {e : Str} : tourW P W ps d = some e → Ans P W ps d d' 2 (tagD "tour" (.str e))
  | t2w : tourW P W ps d = none → isIntD d' = false → Ans P W ps d d' 2 wholeT
  | t2 {ns : List Int} {m : Int} : IsT P W ps d ns → d' = .int m → Ans P W ps d d' 2 (tagD "let" (tupD (mulL ns m)))
  | s3e {e : Str} : sayW P W ps d = some e → Ans P W ps d d' 3 (tagD "saying" (.str e))
  | s3 {ns : List Int} {s : Int} : IsS P W ps d ns s → Ans P W ps d d' 3 (tagD "let" (sayD ns s))
  | s4e {e : Str} : sayW P W ps d = some e → Ans P W ps d d' 4 (tagD "saying" (.str e))
  | s4f {e : Str} : sayW P W ps d = none → sayW P W ps d' = some e → Ans P W ps d d' 4 (tagD "saying" (.str e))
  | s4 {ns ms : List Int} {s s' : Int} : IsS P W ps d ns s → IsS P W ps d' ms s' → Ans P W ps d d' 4 (tagD "let" (sayD (addL ns ms) ((s + s') % 2)))
  | s5e {e : Str} : sayW P W ps d = some e → Ans P W ps d d' 5 (tagD "saying" (.str e))
  | s5w : sayW P W ps d = none → isIntD d' = false → Ans P W ps d d' 5 wholeT
  | s5 {ns : List Int} {s m : Int} : IsS P W ps d ns s → d' = .int m → Ans P W ps d d' 5 (tagD "let" (sayD (mulL ns m) (s * m % 2)))
  | t6e {e : Str} : tourW P W ps d = some e → Ans P W ps d d' 6 (tagD "tour" (.str e))
  | t6 {ns : List Int} : IsT P W ps d ns → Ans P W ps d d' 6 (tagD "let" (.int (absL ns).sum))
def sp_law_asked (C : Addr) : Sp := fun vs H Q _ => ∃ (way : Int) (a : Addr) (x y : V) (d d' : PyData) (P W : Int) (ps : List (Int × Int)), vs = [.int way, .ref a, x, y] ∧ Pic C H a P W ps ∧ Dq H x d ∧ Dq H y d' ∧ 0 ≤ way ∧ way ≤ 6 ∧
  (way = 2 → ∀ ns, IsT P W ps d ns → ∀ z ∈ ns, Sml z) ∧ (way = 5 → ∀ ns s, IsS P W ps d ns s → ∀ z ∈ ns, Sml z) ∧ (way = 2 ∨ way = 5 → ∀ m, d' = .int m → Sml m) ∧ ∀ H' v r, Same H H' → Ans P W ps d d' way r → Dq H' v r → Q v H'
theorem way_no {n k : Int} {A B : Prop} (h : n ≠ k) (b : B) : if decide (V.int n = V.int k) = true then A else B := by
  rw [int_dec, decide_eq_false h]
  exact iteF b
theorem way_is {n : Int} {A B : Prop} (a : A) : if decide (V.int n = V.int n) = true then A else B := by
  rw [decide_eq_true rfl]
  exact iteT a
theorem ref_non {u : Addr} {A B : Prop} (b : B) : if decide (V.ref u = V.non) = true then A else B := by
  rw [decide_eq_false (fun z => by cases z)]
  exact iteF b
theorem non_non {A B : Prop} (a : A) : if decide (V.non = V.non) = true then A else B := by
  rw [decide_eq_true rfl]
  exact iteT a
section
variable {P : Program} {w : World} {K : PySem.W.Frag} {mg : Str → Option Value} {base : Heap}
theorem ok_law_asked (T : Txt K mg) : FnOk P w K mg base CX0 9 T.f_law_asked T.d_law_asked ["_law_way", "_law_picture_here", "_law_one", "_law_other"] (sp_law_asked T.C_Picture) := by
  refine T.F_law_asked.ok sc_law_asked (fun vs H Q E h => ?_) (fun cdv A outer s H vs Q E hr h => ?_)
  · obtain ⟨way, a, x, y, d, d', P', W, ps, rfl, _⟩ := h
    rfl
  · obtain ⟨way, a, x, y, d, d', P', W, ps, rfl, hp, kx, ky, w0, w6, b1, b2, b3, q⟩ := h
    refine' ⟨_, (pss_cons (ps_set (i := 4) sc_law_asked.nd rfl (.inl rfl) pe_non)
      (pss_cons (ps_set (i := 5) sc_law_asked.nd rfl (.inl rfl) pe_non)
      (pss_cons ?tr (pss_one (ps_ret (pe_ifExp (pt_cmpR op_isN (pv 5) pe_non (nomark _)) (pe_tup (pa_cons pe_str (pa_cons (pv 4) pa_nil))) (pv 5))))))), ?_⟩
    case tr =>
      exact ps_try_asM (i := 6) (Wout := fun _ _ _ _ => False) rfl rfl sc_law_asked.nd rfl rfl takes0
        (fun W pn xe tk _ => (pss_cons (ps_if (pt_cmpR op_eq (pv 0) pe_int (nomark _)) (pss_one (ps_set (i := 4) sc_law_asked.nd rfl (.inl rfl) (pe_callSD (ok_check_tour T) (hr.mono (by decide)) (by rfl) T.g_check_tour T.F_check_tour.kp T.b_check_tour .nil (fun σ => passAt tk σ) (pa_cons (pv 1) (pa_cons (pv 2) pa_nil))))) pss_nil)
        (pss_cons (ps_if (pt_cmpR op_eq (pv 0) pe_int (nomark _)) (pss_one (ps_set (i := 4) sc_law_asked.nd rfl (.inl rfl) (pe_callSD (ok_tour_sum T) (hr.mono (by decide)) (by rfl) T.g_tour_sum T.F_tour_sum.kp T.b_tour_sum .nil (fun σ => passAt tk σ) (pa_cons (pv 1) (pa_cons (pv 2) (pa_cons (pv 3) pa_nil)))))) pss_nil)
        (pss_cons (ps_if (pt_cmpR op_eq (pv 0) pe_int (nomark _)) (pss_one (ps_set (i := 4) sc_law_asked.nd rfl (.inl rfl) (pe_callSD (ok_tour_times T) (hr.mono (by decide)) (by rfl) T.g_tour_times T.F_tour_times.kp T.b_tour_times .nil (fun σ => passAt tk σ) (pa_cons (pv 1) (pa_cons (pv 2) (pa_cons (pv 3) pa_nil)))))) pss_nil)
        (pss_cons (ps_if (pt_cmpR op_eq (pv 0) pe_int (nomark _)) (pss_one (ps_set (i := 4) sc_law_asked.nd rfl (.inl rfl) (pe_callSD (ok_check_saying T) (hr.mono (by decide)) (by rfl) T.g_check_saying T.F_check_saying.kp T.b_check_saying .nil (fun σ => passAt tk σ) (pa_cons (pv 1) (pa_cons (pv 2) pa_nil))))) pss_nil)
        (pss_cons (ps_if (pt_cmpR op_eq (pv 0) pe_int (nomark _)) (pss_one (ps_set (i := 4) sc_law_asked.nd rfl (.inl rfl) (pe_callSD (ok_saying_sum T) (hr.mono (by decide)) (by rfl) T.g_saying_sum T.F_saying_sum.kp T.b_saying_sum .nil (fun σ => passAt tk σ) (pa_cons (pv 1) (pa_cons (pv 2) (pa_cons (pv 3) pa_nil)))))) pss_nil)
        (pss_cons (ps_if (pt_cmpR op_eq (pv 0) pe_int (nomark _)) (pss_one (ps_set (i := 4) sc_law_asked.nd rfl (.inl rfl) (pe_callSD (ok_saying_times T) (hr.mono (by decide)) (by rfl) T.g_saying_times T.F_saying_times.kp T.b_saying_times .nil (fun σ => passAt tk σ) (pa_cons (pv 1) (pa_cons (pv 2) (pa_cons (pv 3) pa_nil)))))) pss_nil)
        (pss_one (ps_if (pt_cmpR op_eq (pv 0) pe_int (nomark _)) (pss_one (ps_set (i := 4) sc_law_asked.nd rfl (.inl rfl) (pe_callSD (ok_tour_size T) (hr.mono (by decide)) (by rfl) T.g_tour_size T.F_tour_size.kp T.b_tour_size .nil (fun σ => passAt tk σ) (pa_cons (pv 1) (pa_cons (pv 2) pa_nil))))) pss_nil)))))))))
        (.cons ⟨rfl, by decide, Or.inl T.g_BadTour⟩ (fun a oe cls d pn hz hf => pss_one (ps_set (i := 5) sc_law_asked.nd rfl (.inl rfl) (pe_ifExp (PW.pt (pw_and (pt_val (pe_callB (call_isD T.e_BadTour hz hf) (by rfl) T.m_isinstance (by decide +kernel) (pa_cons (pv 6) (pa_cons (pe_glob (v := .ref T.C_SheetError) rfl T.g_SheetError rfl) pa_nil)))) (pw_and1 (pt_not (pt_val (pe_callB (call_isD T.e_BadTour hz hf) (by rfl) T.m_isinstance (by decide +kernel) (pa_cons (pv 6) (pa_cons (pe_glob (v := .ref T.C_BadSaying) rfl T.g_BadSaying rfl) pa_nil)))))))) (pe_tup (pa_cons pe_str (pa_cons (pe_xf T.x_BadTour T.n_BadTour hz hf (pv 6)) pa_nil))) (pe_tup (pa_cons pe_str pa_nil)))))
          (.cons ⟨rfl, by decide, Or.inl T.g_BadSaying⟩ (fun a oe cls d pn hz hf => pss_one (ps_set (i := 5) sc_law_asked.nd rfl (.inl rfl) (pe_ifExp (PW.pt (pw_and (pt_val (pe_callB (call_isD T.e_BadSaying hz hf) (by rfl) T.m_isinstance (by decide +kernel) (pa_cons (pv 6) (pa_cons (pe_glob (v := .ref T.C_SheetError) rfl T.g_SheetError rfl) pa_nil)))) (pw_and1 (pt_not (pt_val (pe_callB (call_isD T.e_BadSaying hz hf) (by rfl) T.m_isinstance (by decide +kernel) (pa_cons (pv 6) (pa_cons (pe_glob (v := .ref T.C_BadTour) rfl T.g_BadTour rfl) pa_nil)))))))) (pe_tup (pa_cons pe_str (pa_cons (pe_xf T.x_BadSaying T.n_BadSaying hz hf (pv 6)) pa_nil))) (pe_tup (pa_cons pe_str pa_nil)))))
            (.cons ⟨rfl, by decide, Or.inl T.g_BadWhole⟩ (fun a oe cls d pn hz hf => pss_one (ps_set (i := 5) sc_law_asked.nd rfl (.inl rfl) (pe_ifExp (pt_val (pe_callB (call_isE2 T.e_BadWhole hz hf) (by rfl) T.m_isinstance (by decide +kernel) (pa_cons (pv 6) (pa_cons (pe_glob (v := .ref T.C_SheetError) rfl T.g_SheetError rfl) pa_nil)))) (pe_tup (pa_cons pe_str pa_nil)) (pe_tup (pa_cons pe_str pa_nil))))) .nil)))
    obtain rfl | rfl | rfl | rfl | rfl | rfl | rfl : way = 0 ∨ way = 1 ∨ way = 2 ∨ way = 3 ∨ way = 4 ∨ way = 5 ∨ way = 6 := by omega
    · refine ⟨_, rfl, rfl, _, rfl, way_is ⟨_, rfl, _, rfl, a, x, d, P', W, ps, rfl, hp, kx, fun e he b H' s' hb => ?_, fun ds w1 i1 l H' s' k' => ?_⟩⟩
      · exact ⟨true, T.mm_BadTour_BadTour, fun _ a0 _ => ⟨_, rfl, rfl, b, _, _, _, true, rfl, hb, rfl, fun u h => h, T.kit_BadTour_SheetError, _, rfl, iteT ⟨_, rfl, rfl, b, _, _, _, false, rfl, hb, rfl, fun u h => h, T.kit_BadTour_BadSaying, _, rfl, iteT ⟨_, rfl, rfl, rfl, b, _, _, rfl, hb, rfl, (by show 2 ≤ sizeLine; decide), fun u nu => ⟨_, rfl, rfl, _, rfl, ref_non ⟨_, rfl, q _ _ _ (s'.trans (same_new nu)) (.t0e he) (.tup upd_same (.cons (.str _) (.cons (.str _) .nil)))⟩⟩⟩⟩⟩, fun z => Bool.noConfusion z⟩
      · obtain ⟨ns, it⟩ := isT_of w1
        rw [it.1] at i1
        cases i1
        exact ⟨_, rfl, rfl, _, rfl, way_no (by decide) ⟨_, rfl, rfl, _, rfl, way_no (by decide) ⟨_, rfl, rfl, _, rfl, way_no (by decide) ⟨_, rfl, rfl, _, rfl, way_no (by decide) ⟨_, rfl, rfl, _, rfl, way_no (by decide) ⟨_, rfl, rfl, _, rfl, way_no (by decide) ⟨_, rfl, rfl, _, rfl, non_non ⟨_, rfl, (by show 2 ≤ sizeLine; decide), fun u nu => q _ _ _ (s'.trans (same_new nu)) (.t0 it) (.tup upd_same (.cons (.str _) (.cons (k'.same (same_new nu)) .nil)))⟩⟩⟩⟩⟩⟩⟩⟩
    · refine ⟨_, rfl, rfl, _, rfl, way_no (by decide) ⟨_, rfl, rfl, _, rfl, way_is ⟨_, rfl, _, rfl, _, rfl, a, x, y, d, d', P', W, ps, rfl, hp, kx, ky, fun e he b H' s' hb => ?_, fun e h1 he b H' s' hb => ?_, fun ns ms i1 i2 l H' s' k' => ?_⟩⟩⟩
      · exact ⟨true, T.mm_BadTour_BadTour, fun _ a0 _ => ⟨_, rfl, rfl, b, _, _, _, true, rfl, hb, rfl, fun u h => h, T.kit_BadTour_SheetError, _, rfl, iteT ⟨_, rfl, rfl, b, _, _, _, false, rfl, hb, rfl, fun u h => h, T.kit_BadTour_BadSaying, _, rfl, iteT ⟨_, rfl, rfl, rfl, b, _, _, rfl, hb, rfl, (by show 2 ≤ sizeLine; decide), fun u nu => ⟨_, rfl, rfl, _, rfl, ref_non ⟨_, rfl, q _ _ _ (s'.trans (same_new nu)) (.t1e he) (.tup upd_same (.cons (.str _) (.cons (.str _) .nil)))⟩⟩⟩⟩⟩, fun z => Bool.noConfusion z⟩
      · exact ⟨true, T.mm_BadTour_BadTour, fun _ a0 _ => ⟨_, rfl, rfl, b, _, _, _, true, rfl, hb, rfl, fun u h => h, T.kit_BadTour_SheetError, _, rfl, iteT ⟨_, rfl, rfl, b, _, _, _, false, rfl, hb, rfl, fun u h => h, T.kit_BadTour_BadSaying, _, rfl, iteT ⟨_, rfl, rfl, rfl, b, _, _, rfl, hb, rfl, (by show 2 ≤ sizeLine; decide), fun u nu => ⟨_, rfl, rfl, _, rfl, ref_non ⟨_, rfl, q _ _ _ (s'.trans (same_new nu)) (.t1f h1 he) (.tup upd_same (.cons (.str _) (.cons (.str _) .nil)))⟩⟩⟩⟩⟩, fun z => Bool.noConfusion z⟩
      · exact ⟨_, rfl, rfl, _, rfl, way_no (by decide) ⟨_, rfl, rfl, _, rfl, way_no (by decide) ⟨_, rfl, rfl, _, rfl, way_no (by decide) ⟨_, rfl, rfl, _, rfl, way_no (by decide) ⟨_, rfl, rfl, _, rfl, way_no (by decide) ⟨_, rfl, rfl, _, rfl, non_non ⟨_, rfl, (by show 2 ≤ sizeLine; decide), fun u nu => q _ _ _ (s'.trans (same_new nu)) (.t1 i1 i2) (.tup upd_same (.cons (.str _) (.cons (k'.same (same_new nu)) .nil)))⟩⟩⟩⟩⟩⟩⟩
    · refine ⟨_, rfl, rfl, _, rfl, way_no (by decide) ⟨_, rfl, rfl, _, rfl, way_no (by decide) ⟨_, rfl, rfl, _, rfl, way_is ⟨_, rfl, _, rfl, _, rfl, a, x, y, d, d', P', W, ps, rfl, hp, kx, ky, fun e he b H' s' hb => ?_, fun h1 h2 H' s' => ?_, fun ns m i1 em => ⟨b1 rfl ns i1, b3 (.inl rfl) m em, fun l H' s' k' => ?_⟩⟩⟩⟩⟩
      · exact ⟨true, T.mm_BadTour_BadTour, fun _ a0 _ => ⟨_, rfl, rfl, b, _, _, _, true, rfl, hb, rfl, fun u h => h, T.kit_BadTour_SheetError, _, rfl, iteT ⟨_, rfl, rfl, b, _, _, _, false, rfl, hb, rfl, fun u h => h, T.kit_BadTour_BadSaying, _, rfl, iteT ⟨_, rfl, rfl, rfl, b, _, _, rfl, hb, rfl, (by show 2 ≤ sizeLine; decide), fun u nu => ⟨_, rfl, rfl, _, rfl, ref_non ⟨_, rfl, q _ _ _ (s'.trans (same_new nu)) (.t2e he) (.tup upd_same (.cons (.str _) (.cons (.str _) .nil)))⟩⟩⟩⟩⟩, fun z => Bool.noConfusion z⟩
      · exact ⟨false, T.mm_BadWhole_BadTour, fun z => Bool.noConfusion z, fun _ => ⟨false, T.mm_BadWhole_BadSaying, fun z => Bool.noConfusion z, fun _ => ⟨true, T.mm_BadWhole_BadWhole, fun _ a0 _ => ⟨_, rfl, rfl, rfl, _, _, true, rfl, fun u h => h, T.kit_BadWhole_SheetError, _, rfl, iteT ⟨(by show 1 ≤ sizeLine; decide), fun u nu => ⟨_, rfl, rfl, _, rfl, ref_non ⟨_, rfl, q _ _ _ (s'.trans (same_new nu)) (.t2w h1 h2) (.tup upd_same (.cons (.str _) .nil))⟩⟩⟩⟩, fun z => Bool.noConfusion z⟩⟩⟩
      · exact ⟨_, rfl, rfl, _, rfl, way_no (by decide) ⟨_, rfl, rfl, _, rfl, way_no (by decide) ⟨_, rfl, rfl, _, rfl, way_no (by decide) ⟨_, rfl, rfl, _, rfl, way_no (by decide) ⟨_, rfl, rfl, _, rfl, non_non ⟨_, rfl, (by show 2 ≤ sizeLine; decide), fun u nu => q _ _ _ (s'.trans (same_new nu)) (.t2 i1 em) (.tup upd_same (.cons (.str _) (.cons (k'.same (same_new nu)) .nil)))⟩⟩⟩⟩⟩⟩
    · refine ⟨_, rfl, rfl, _, rfl, way_no (by decide) ⟨_, rfl, rfl, _, rfl, way_no (by decide) ⟨_, rfl, rfl, _, rfl, way_no (by decide) ⟨_, rfl, rfl, _, rfl, way_is ⟨_, rfl, _, rfl, a, x, d, P', W, ps, rfl, hp, kx, fun e he b H' s' hb => ?_, fun ns s i1 l H' s' k' => ?_⟩⟩⟩⟩⟩
      · exact ⟨false, T.mm_BadSaying_BadTour, fun z => Bool.noConfusion z, fun _ => ⟨true, T.mm_BadSaying_BadSaying, fun _ a0 _ => ⟨_, rfl, rfl, b, _, _, _, true, rfl, hb, rfl, fun u h => h, T.kit_BadSaying_SheetError, _, rfl, iteT ⟨_, rfl, rfl, b, _, _, _, false, rfl, hb, rfl, fun u h => h, T.kit_BadSaying_BadTour, _, rfl, iteT ⟨_, rfl, rfl, rfl, b, _, _, rfl, hb, rfl, (by show 2 ≤ sizeLine; decide), fun u nu => ⟨_, rfl, rfl, _, rfl, ref_non ⟨_, rfl, q _ _ _ (s'.trans (same_new nu)) (.s3e he) (.tup upd_same (.cons (.str _) (.cons (.str _) .nil)))⟩⟩⟩⟩⟩, fun z => Bool.noConfusion z⟩⟩
      · exact ⟨_, rfl, rfl, _, rfl, way_no (by decide) ⟨_, rfl, rfl, _, rfl, way_no (by decide) ⟨_, rfl, rfl, _, rfl, way_no (by decide) ⟨_, rfl, rfl, _, rfl, non_non ⟨_, rfl, (by show 2 ≤ sizeLine; decide), fun u nu => q _ _ _ (s'.trans (same_new nu)) (.s3 i1) (.tup upd_same (.cons (.str _) (.cons (k'.same (same_new nu)) .nil)))⟩⟩⟩⟩⟩
    · refine ⟨_, rfl, rfl, _, rfl, way_no (by decide) ⟨_, rfl, rfl, _, rfl, way_no (by decide) ⟨_, rfl, rfl, _, rfl, way_no (by decide) ⟨_, rfl, rfl, _, rfl, way_no (by decide) ⟨_, rfl, rfl, _, rfl, way_is ⟨_, rfl, _, rfl, _, rfl, a, x, y, d, d', P', W, ps, rfl, hp, kx, ky, fun e he b H' s' hb => ?_, fun e h1 he b H' s' hb => ?_, fun ns s ms t i1 i2 l H' s' k' => ?_⟩⟩⟩⟩⟩⟩
      · exact ⟨false, T.mm_BadSaying_BadTour, fun z => Bool.noConfusion z, fun _ => ⟨true, T.mm_BadSaying_BadSaying, fun _ a0 _ => ⟨_, rfl, rfl, b, _, _, _, true, rfl, hb, rfl, fun u h => h, T.kit_BadSaying_SheetError, _, rfl, iteT ⟨_, rfl, rfl, b, _, _, _, false, rfl, hb, rfl, fun u h => h, T.kit_BadSaying_BadTour, _, rfl, iteT ⟨_, rfl, rfl, rfl, b, _, _, rfl, hb, rfl, (by show 2 ≤ sizeLine; decide), fun u nu => ⟨_, rfl, rfl, _, rfl, ref_non ⟨_, rfl, q _ _ _ (s'.trans (same_new nu)) (.s4e he) (.tup upd_same (.cons (.str _) (.cons (.str _) .nil)))⟩⟩⟩⟩⟩, fun z => Bool.noConfusion z⟩⟩
      · exact ⟨false, T.mm_BadSaying_BadTour, fun z => Bool.noConfusion z, fun _ => ⟨true, T.mm_BadSaying_BadSaying, fun _ a0 _ => ⟨_, rfl, rfl, b, _, _, _, true, rfl, hb, rfl, fun u h => h, T.kit_BadSaying_SheetError, _, rfl, iteT ⟨_, rfl, rfl, b, _, _, _, false, rfl, hb, rfl, fun u h => h, T.kit_BadSaying_BadTour, _, rfl, iteT ⟨_, rfl, rfl, rfl, b, _, _, rfl, hb, rfl, (by show 2 ≤ sizeLine; decide), fun u nu => ⟨_, rfl, rfl, _, rfl, ref_non ⟨_, rfl, q _ _ _ (s'.trans (same_new nu)) (.s4f h1 he) (.tup upd_same (.cons (.str _) (.cons (.str _) .nil)))⟩⟩⟩⟩⟩, fun z => Bool.noConfusion z⟩⟩
      · exact ⟨_, rfl, rfl, _, rfl, way_no (by decide) ⟨_, rfl, rfl, _, rfl, way_no (by decide) ⟨_, rfl, rfl, _, rfl, non_non ⟨_, rfl, (by show 2 ≤ sizeLine; decide), fun u nu => q _ _ _ (s'.trans (same_new nu)) (.s4 i1 i2) (.tup upd_same (.cons (.str _) (.cons (k'.same (same_new nu)) .nil)))⟩⟩⟩⟩
    · refine ⟨_, rfl, rfl, _, rfl, way_no (by decide) ⟨_, rfl, rfl, _, rfl, way_no (by decide) ⟨_, rfl, rfl, _, rfl, way_no (by decide) ⟨_, rfl, rfl, _, rfl, way_no (by decide) ⟨_, rfl, rfl, _, rfl, way_no (by decide) ⟨_, rfl, rfl, _, rfl, way_is ⟨_, rfl, _, rfl, _, rfl, a, x, y, d, d', P', W, ps, rfl, hp, kx, ky, fun e he b H' s' hb => ?_, fun h1 h2 H' s' => ?_, fun ns s m i1 em => ⟨b2 rfl ns s i1, b3 (.inr rfl) m em, fun l H' s' k' => ?_⟩⟩⟩⟩⟩⟩⟩⟩
      · exact ⟨false, T.mm_BadSaying_BadTour, fun z => Bool.noConfusion z, fun _ => ⟨true, T.mm_BadSaying_BadSaying, fun _ a0 _ => ⟨_, rfl, rfl, b, _, _, _, true, rfl, hb, rfl, fun u h => h, T.kit_BadSaying_SheetError, _, rfl, iteT ⟨_, rfl, rfl, b, _, _, _, false, rfl, hb, rfl, fun u h => h, T.kit_BadSaying_BadTour, _, rfl, iteT ⟨_, rfl, rfl, rfl, b, _, _, rfl, hb, rfl, (by show 2 ≤ sizeLine; decide), fun u nu => ⟨_, rfl, rfl, _, rfl, ref_non ⟨_, rfl, q _ _ _ (s'.trans (same_new nu)) (.s5e he) (.tup upd_same (.cons (.str _) (.cons (.str _) .nil)))⟩⟩⟩⟩⟩, fun z => Bool.noConfusion z⟩⟩
      · exact ⟨false, T.mm_BadWhole_BadTour, fun z => Bool.noConfusion z, fun _ => ⟨false, T.mm_BadWhole_BadSaying, fun z => Bool.noConfusion z, fun _ => ⟨true, T.mm_BadWhole_BadWhole, fun _ a0 _ => ⟨_, rfl, rfl, rfl, _, _, true, rfl, fun u h => h, T.kit_BadWhole_SheetError, _, rfl, iteT ⟨(by show 1 ≤ sizeLine; decide), fun u nu => ⟨_, rfl, rfl, _, rfl, ref_non ⟨_, rfl, q _ _ _ (s'.trans (same_new nu)) (.s5w h1 h2) (.tup upd_same (.cons (.str _) .nil))⟩⟩⟩⟩, fun z => Bool.noConfusion z⟩⟩⟩
      · exact ⟨_, rfl, rfl, _, rfl, way_no (by decide) ⟨_, rfl, rfl, _, rfl, non_non ⟨_, rfl, (by show 2 ≤ sizeLine; decide), fun u nu => q _ _ _ (s'.trans (same_new nu)) (.s5 i1 em) (.tup upd_same (.cons (.str _) (.cons (k'.same (same_new nu)) .nil)))⟩⟩⟩
    · refine ⟨_, rfl, rfl, _, rfl, way_no (by decide) ⟨_, rfl, rfl, _, rfl, way_no (by decide) ⟨_, rfl, rfl, _, rfl, way_no (by decide) ⟨_, rfl, rfl, _, rfl, way_no (by decide) ⟨_, rfl, rfl, _, rfl, way_no (by decide) ⟨_, rfl, rfl, _, rfl, way_no (by decide) ⟨_, rfl, rfl, _, rfl, way_is ⟨_, rfl, _, rfl, a, x, d, P', W, ps, rfl, hp, kx, fun e he b H' s' hb => ?_, fun ns i1 H' s' => ?_⟩⟩⟩⟩⟩⟩⟩⟩
      · exact ⟨true, T.mm_BadTour_BadTour, fun _ a0 _ => ⟨_, rfl, rfl, b, _, _, _, true, rfl, hb, rfl, fun u h => h, T.kit_BadTour_SheetError, _, rfl, iteT ⟨_, rfl, rfl, b, _, _, _, false, rfl, hb, rfl, fun u h => h, T.kit_BadTour_BadSaying, _, rfl, iteT ⟨_, rfl, rfl, rfl, b, _, _, rfl, hb, rfl, (by show 2 ≤ sizeLine; decide), fun u nu => ⟨_, rfl, rfl, _, rfl, ref_non ⟨_, rfl, q _ _ _ (s'.trans (same_new nu)) (.t6e he) (.tup upd_same (.cons (.str _) (.cons (.str _) .nil)))⟩⟩⟩⟩⟩, fun z => Bool.noConfusion z⟩
      · exact ⟨_, rfl, rfl, _, rfl, non_non ⟨_, rfl, (by show 2 ≤ sizeLine; decide), fun u nu => q _ _ _ (s'.trans (same_new nu)) (.t6 i1) (.tup upd_same (.cons (.str _) (.cons (.int _) .nil)))⟩⟩
end
end K01
set_option Elab.async false
set_option linter.all false
set_option maxRecDepth 100000
set_option maxHeartbeats 4000000
set_option exponentiation.threshold 5000
namespace K01
open PySem PySem.Spec PyProof.Rows L2 TkS
/-! things that are no tours but for the one -/
def Med (z : Int) : Prop := -100000000000000000000000000000000000000000000000000 ≤ z ∧ z ≤ 100000000000000000000000000000000000000000000000000
theorem med_small {z : Int} (h : Med z) : z.natAbs < 10 ^ 121 := by
  obtain ⟨a, b⟩ := h
  have : z.natAbs ≤ 100000000000000000000000000000000000000000000000000 := by omega
  exact Nat.lt_of_le_of_lt this (by decide)
structure Thing (P W : Int) (ps : List (Int × Int)) (one : List Int) (d : PyData) : Prop where
  tr : ∀ ns, IsT P W ps d ns → ns = one
  ml : mild 2 d = true
  nl : NoL d
  nh : noHd d = true
theorem mild_int {n : Nat} {z : Int} (h : Med z) : mild n (.int z) = true := by
  have := decide_eq_true (med_small h)
  unfold mild
  cases n <;> exact this
theorem nl_map (ns : List Int) : noLists (ns.map PyData.int) = true := by
  induction ns with
  | nil => rfl
  | cons n ns ih => exact ih
theorem nh_map (ns : List Int) : ∀ d ∈ ns.map PyData.int, noHd d = true := fun d m => by
  obtain ⟨n, _, rfl⟩ := List.mem_map.mp m
  rfl
theorem nh_lst (ns : List Int) : noHd (.list (ns.map PyData.int)) = true := noHd_list (nh_map ns) (.inr fun d m es e => by
  obtain ⟨n, _, rfl⟩ := List.mem_map.mp m
  cases e)
theorem thing_lst {P W : Int} {ps : List (Int × Int)} {one : List Int} (hb : ∀ z ∈ one, Med z) (hl : one.length ≤ 40) : Thing P W ps one (.list (one.map PyData.int)) :=
  ⟨fun ns h => IsT.fn (P := P) (W := W) (ps := ps) ⟨h.1, h.2⟩, mild_lst (by rw [List.length_map]; exact hl) (fun d m => by
    obtain ⟨n, hn, rfl⟩ := List.mem_map.mp m
    exact mild_int (hb n hn)), (fun ds e => by
    cases e
    exact nl_map one), nh_lst one⟩
theorem thing_tup {P W : Int} {ps : List (Int × Int)} {one ms : List Int} (hb : ∀ z ∈ ms, Med z) (hl : ms.length ≤ 40) (h : Tour P W ps ms → ms = one) : Thing P W ps one (tupD ms) :=
  ⟨fun ns h' => by
    have e := IsT.fn h'
    rw [e] at h' ⊢
    exact h h'.2, mild_tup (by rw [List.length_map]; exact hl) (fun d m => by
    obtain ⟨n, hn, rfl⟩ := List.mem_map.mp m
    exact mild_int (hb n hn)), (fun ds e => by
    cases e
    exact nl_map ms), noHd_tup (nh_map ms)⟩
theorem thing_none {P W : Int} {ps : List (Int × Int)} {one : List Int} : Thing P W ps one .none := ⟨(fun ns h => nomatch h.1), rfl, (fun ds e => nomatch e), rfl⟩
theorem thing_int {P W : Int} {ps : List (Int × Int)} {one : List Int} : Thing P W ps one (.int 7) := ⟨(fun ns h => nomatch h.1), mild_int ⟨by decide, by decide⟩, (fun ds e => nomatch e), rfl⟩
def odds5 : List PyData := [.none, .bool true, .str "1", .tuple [.int 1], .bool false]
theorem odds_are {d : PyData} (h : d ∈ odds5) : isIntD d = false ∧ mild 1 d = true ∧ noList d = true ∧ noHd d = true := by
  simp only [odds5, List.mem_cons, List.not_mem_nil, or_false] at h
  rcases h with rfl | rfl | rfl | rfl | rfl
  · decide
  · decide
  · decide +kernel
  · decide
  · decide
theorem noLists_app {a b : List PyData} (ha : noLists a = true) (hb : noLists b = true) : noLists (a ++ b) = true := by
  induction a with
  | nil => exact hb
  | cons x a ih =>
    have h' : (noList x && noLists a) = true := ha
    rw [Bool.and_eq_true] at h'
    show (noList x && noLists (a ++ b)) = true
    rw [h'.1, ih h'.2]
    rfl
theorem thing_odd {P W : Int} {ps : List (Int × Int)} {one as bs : List Int} {o : PyData} (ho : o ∈ odds5) (ha : ∀ z ∈ as, Med z) (hb : ∀ z ∈ bs, Med z) (hl : as.length + 1 + bs.length ≤ 40) : Thing P W ps one (.tuple (as.map PyData.int ++ [o] ++ bs.map PyData.int)) := by
  obtain ⟨o1, o2, o3, o4⟩ := odds_are ho
  refine ⟨fun ns h => ?_, mild_tup (by simp; omega) (fun d m => ?_), (fun ds e => ?_), noHd_tup fun d m => ?_⟩
  · have e : as.map PyData.int ++ [o] ++ bs.map PyData.int = ns.map PyData.int := Option.some.inj h.1
    have hm : o ∈ ns.map PyData.int := by
      rw [← e]
      simp
    obtain ⟨n, _, rfl⟩ := List.mem_map.mp hm
    cases o1
  · rcases List.mem_append.mp m with m | m
    · rcases List.mem_append.mp m with m | m
      · obtain ⟨n, hn, rfl⟩ := List.mem_map.mp m
        exact mild_int (ha n hn)
      · rw [List.mem_singleton.mp m]
        exact o2
    · obtain ⟨n, hn, rfl⟩ := List.mem_map.mp m
      exact mild_int (hb n hn)
  · cases e
    refine noLists_app (noLists_app (nl_map as) ?_) (nl_map bs)
    show (noList o && noLists []) = true
    rw [o3]
    rfl
  · rcases List.mem_append.mp m with m | m
    · rcases List.mem_append.mp m with m | m
      · exact nh_map as d m
      · rw [List.mem_singleton.mp m]
        exact o4
    · exact nh_map bs d m
/-! the list of things under way, while the hand is drawn from -/
structure LS (H0 : Hp) (h L : Addr) (ds : List PyData) (H' : Hp) : Prop where
  hd0 : Hand H0 h
  nL : H0 L = none
  kp : Keep h H0 H'
  hd : Hand H' h
  at_ : ∃ xs, H' L = some (.lst xs) ∧ DqAll (TkS.Off L H') xs ds
  nh : noHds ds = true
theorem LS.ne {H0 H' : Hp} {h L : Addr} {ds : List PyData} (x : LS H0 h L ds H') : L ≠ h := hand_ne x.hd0 x.nL
theorem LS.keep {H0 H' H'' : Hp} {h L : Addr} {ds : List PyData} (x : LS H0 h L ds H') (k : Keep h H' H'') (hd : Hand H'' h) : LS H0 h L ds H'' := by
  obtain ⟨xs, e, q⟩ := x.at_
  obtain ⟨c0, cells0, p0, r0, t0, e0, ec0, _⟩ := x.hd0.ex
  obtain ⟨p, r, t, e1⟩ := x.kp.cc _ _ _ _ e0
  have nc : c0 ≠ h := by
    rename_i g
    exact g.1
  have ncL : c0 ≠ L := ne_of_none ec0 x.nL
  have ec1 := x.kp _ _ nc ec0
  refine ⟨x.hd0, x.nL, x.kp.trans k, hd, ⟨xs, k _ _ x.ne e, ?_⟩, x.nh⟩
  refine dqs_hd (H := TkS.Off L H') (h := h) (off_at (Ne.symm x.ne) e1) (off_at ncL ec1) (fun b o nb eb => ?_) _ x.nh q
  unfold TkS.Off at eb ⊢
  by_cases z : b = L
  · rw [if_pos z] at eb
    cases eb
  · rw [if_neg z] at eb ⊢
    exact k _ _ nb eb
theorem LS.same {H0 H' H'' : Hp} {h L : Addr} {ds : List PyData} (x : LS H0 h L ds H') (s : Same H' H'') : LS H0 h L ds H'' := x.keep (Keep.of s) (x.hd.same s)
theorem LS.put {H0 H' : Hp} {h L : Addr} {ds : List PyData} {xs : List V} {y : V} {d : PyData} (x : LS H0 h L ds H') (e : H' L = some (.lst xs)) (k : Dq H' y d) (nl : noList d = true) (nh : noHd d = true) : LS H0 h L (ds ++ [d]) (upd H' L (.lst (xs ++ [y]))) := by
  obtain ⟨xs', e', q⟩ := x.at_
  rw [e] at e'
  cases e'
  refine ⟨x.hd0, x.nL, Keep.putD x.hd0 x.nL x.kp, Hand.putD x.hd0 x.nL x.kp x.hd, ⟨_, upd_same, ?_⟩, noHds_all.mpr fun z m => ?_⟩
  · rw [off_put]
    exact q.snoc (dq_noL e _ nl k)
  · rcases List.mem_append.mp m with m | m
    · exact noHds_all.mp x.nh z m
    · rw [List.mem_singleton.mp m]
      exact nh
theorem LS.dq {H0 H' : Hp} {h L : Addr} {ds : List PyData} (x : LS H0 h L ds H') : Dq H' (.ref L) (.list ds) := by
  obtain ⟨xs, e, q⟩ := x.at_
  exact .lst e (DqAll.same off_same _ q)
theorem LS.len {H0 H' : Hp} {h L : Addr} {ds : List PyData} (x : LS H0 h L ds H') : ∃ xs, H' L = some (.lst xs) ∧ xs.length = ds.length := by
  obtain ⟨xs, e, q⟩ := x.at_
  exact ⟨xs, e, q.len⟩
end K01
set_option Elab.async false
set_option linter.all false
set_option maxRecDepth 100000
set_option maxHeartbeats 4000000
set_option exponentiation.threshold 5000
namespace K01
open PySem PySem.Spec PyProof.Rows L2 TkS
def Tid (z : Int) : Prop := -10000000000000000000000000000000000000000 ≤ z ∧ z ≤ 10000000000000000000000000000000000000000
theorem Tid.med {z : Int} (h : Tid z) : Med z := by
  unfold Tid at h
  unfold Med
  omega
theorem atP {xs : List V} {ds : List PyData} {H : Hp} {r : Int} (k : DqAll H xs ds) (r0 : 0 ≤ r) (r1 : r < (ds.length : Int)) : ∃ v d, atI xs r = some v ∧ d ∈ ds ∧ ds[r.toNat]? = some d ∧ Dq H v d := by
  have lx := k.len
  have hr : r.toNat < xs.length := by omega
  obtain ⟨d, h1, h2⟩ := k.get (List.getElem?_eq_getElem hr)
  exact ⟨_, d, at_of (j := r.toNat) (by omega) (List.getElem?_eq_getElem hr), List.mem_of_getElem? h1, h1, h2⟩
theorem cut_neg (one : List Int) (h : one ≠ []) : (TkS.cutD (one.map PyData.int) none (some (-1))) = (one.take (one.length - 1)).map PyData.int := by
  unfold TkS.cutD
  have e1 : HT.sIx (one.map PyData.int).length 0 none = 0 := rfl
  have e2 : HT.sIx (one.map PyData.int).length (one.map PyData.int).length (some (-1)) = one.length - 1 := by
    show (if (-1 : Int) < 0 then ((-1 : Int) + ((one.map PyData.int).length : Int)).toNat else min (-1 : Int).toNat (one.map PyData.int).length) = _
    rw [if_pos (by decide), List.length_map]
    omega
  rw [e1, e2, List.drop_zero, Nat.sub_zero, List.map_take]
theorem tour_app {P W : Int} {ps : List (Int × Int)} {one : List Int} (t : Tour P W ps one) : ∀ ms : List Int, ms.length ≠ one.length → Tour P W ps ms → ms = one := fun ms h z => absurd (z.len.trans t.len.symm) h
theorem set_form {one : List Int} {k : Nat} {v : Int} (hk : k < one.length) : (one.map PyData.int).take k ++ [.int v] ++ (one.map PyData.int).drop (k + 1) = (one.set k v).map PyData.int := by
  rw [List.set_eq_take_append_cons_drop, if_pos hk, List.map_append, List.map_cons, List.map_take, List.map_drop, List.append_assoc]
  rfl
def mates (ps : List (Int × Int)) (i : Nat) : List Nat := (List.range ps.length).filter fun k => decide ((pe ps k).1 = (pe ps i).1) && !decide ((k : Int) = (i : Int))
theorem mates_mem {ps : List (Int × Int)} {i m : Nat} (h : m ∈ mates ps i) : m < ps.length ∧ (pe ps m).1 = (pe ps i).1 ∧ m ≠ i := by
  obtain ⟨h1, h2⟩ := List.mem_filter.mp h
  rw [Bool.and_eq_true, Bool.not_eq_true', decide_eq_true_iff, decide_eq_false_iff_not] at h2
  exact ⟨List.mem_range.mp h1, h2.1, fun e => h2.2 (by rw [e])⟩
theorem rng_getD (f : Nat → Int) {n k : Nat} (h : k < n) : ((List.range n).map f).getD k 0 = f k := by
  rw [List.getD_eq_getElem?_getD, List.getElem?_map, List.getElem?_range h]
  rfl
def mateL (one : List Int) (s : Int) (i m : Nat) : List Int := (List.range one.length).map fun k => one.getD k 0 + s * (if decide ((k : Int) = (i : Int)) = true then 1 else 0) - s * (if decide ((k : Int) = (m : Int)) = true then 1 else 0)
theorem mateL_at {one : List Int} {s : Int} {i m k : Nat} (h : k < one.length) : (mateL one s i m).getD k 0 = one.getD k 0 + (if k = i then s else 0) - (if k = m then s else 0) := by
  unfold mateL
  rw [rng_getD _ h]
  show one.getD k 0 + s * _ - s * _ = _
  by_cases c1 : k = i
  · by_cases c2 : k = m
    · rw [if_pos (decide_eq_true (by omega)), if_pos (decide_eq_true (by omega)), if_pos c1, if_pos c2, Int.mul_one]
    · rw [if_pos (decide_eq_true (by omega)), if_neg (by rw [decide_eq_false (by omega)]; exact Bool.false_ne_true), if_pos c1, if_neg c2, Int.mul_one, Int.mul_zero]
  · by_cases c2 : k = m
    · rw [if_neg (by rw [decide_eq_false (by omega)]; exact Bool.false_ne_true), if_pos (decide_eq_true (by omega)), if_neg c1, if_pos c2, Int.mul_one, Int.mul_zero]
    · rw [if_neg (by rw [decide_eq_false (by omega)]; exact Bool.false_ne_true), if_neg (by rw [decide_eq_false (by omega)]; exact Bool.false_ne_true), if_neg c1, if_neg c2, Int.mul_zero]
theorem mateL_med {one : List Int} {s : Int} {i m : Nat} (hb : ∀ z ∈ one, Tid z) (hs : Tid s) : ∀ z ∈ mateL one s i m, Med z := fun z hz => by
  have hz' := hz
  unfold mateL at hz'
  obtain ⟨k, hk, e⟩ := List.mem_map.mp hz'
  have hk' := List.mem_range.mp hk
  have e2 : z = (mateL one s i m).getD k 0 := by
    rw [← e]
    unfold mateL
    exact (rng_getD (fun (k : Nat) => one.getD k 0 + s * (if decide ((k : Int) = (i : Int)) = true then 1 else 0) - s * (if decide ((k : Int) = (m : Int)) = true then 1 else 0)) hk').symm
  rw [mateL_at hk'] at e2
  have b := hb _ (mem_getD hk')
  unfold Tid at b hs
  unfold Med
  rw [e2]
  split <;> split <;> omega
theorem tid_sml {z : Int} (h : Tid z) : Sml z := by
  unfold Tid at h
  have : z.natAbs ≤ 10000000000000000000000000000000000000000 := by omega
  exact Nat.lt_of_le_of_lt this (by decide)
theorem noLists_prs : ∀ ps : List (Int × Int), noLists (ps.map prD) = true
  | [] => rfl
  | _ :: ps => noLists_prs ps
/-- a store to a list leaves data without lists as it is -/
def sp_law_spoiled : Sp := fun vs H Q _ => ∃ (h l t : Addr) (P W : Int) (ps : List (Int × Int)) (one : List Int), vs = [.ref h, .ref l, .ref t] ∧ Hand H h ∧ Wd P W ps ∧ Dq H (.ref l) (.list (ps.map prD)) ∧ Dq H (.ref t) (tupD one) ∧ Tour P W ps one ∧ (∀ z ∈ one, Tid z) ∧
  ∀ H' L ds, LS H h L (.list (one.map PyData.int) :: ds) H' → (∀ d ∈ ds, Thing P W ps one d) → ds.length ≤ 7 → Q (.ref L) H'
section
variable {P : Program} {w : World} {K : PySem.W.Frag} {mg : Str → Option Value} {base : Heap}
theorem ok_law_spoiled (T : Txt K mg) : FnOk P w K mg base CX0 3 T.f_law_spoiled T.d_law_spoiled ["_law_hand_here", "_law_pairs", "_law_tour"] sp_law_spoiled := by
  refine T.F_law_spoiled.ok sc_law_spoiled (fun vs H Q E h => ?_) (fun cdv A outer s H vs Q E hr h => ?_)
  · obtain ⟨h, l, t, P', W, ps, one, rfl, _⟩ := h
    rfl
  · obtain ⟨h, l, t, P', W, ps, one, rfl, hd, wd, kl, kt, tr, hb, q⟩ := h
    refine ⟨_, (pss_cons (ps_set (i := 3) sc_law_spoiled.nd rfl (.inl rfl) (pe_lst (pa_cons (pe_callTy call_listD (by rfl) T.m_list (by decide +kernel) (pa_cons (pv 2) pa_nil)) (pa_cons (pe_ifExp (pt_truth (pv 2) (by intro _; rfl)) (pe_slice sl_tupD (pv 2) po_none (po_some (pe_un un_neg pe_int))) (pe_tup (pa_cons pe_int pa_nil))) (pa_cons (pe_op op_catD (pv 2) (pe_tup (pa_cons pe_int pa_nil))) (pa_cons pe_non (pa_cons pe_int pa_nil)))))))
      (pss_cons (ps_if (pt_not (pt_truth (pv 1) (by intro _; rfl)))
        (pss_one (ps_ret (pv 3)))
        pss_nil)
      (pss_cons (ps_set (i := 4) sc_law_spoiled.nd rfl (.inr rfl) (pe_call (ok_law_take T) (hr.mono (by decide)) (by rfl) T.g_law_take T.F_law_take.kp T.b_law_take .nil pass0 (pa_cons (pv 0) (pa_cons (pe_callB call_len_seq (by rfl) T.m_len (by decide +kernel) (pa_cons (pv 1) pa_nil)) pa_nil))))
      (pss_cons (ps_set (i := 5) sc_law_spoiled.nd rfl (.inl rfl) (pe_ix ix_tup (pe_tup (pa_cons pe_non (pa_cons pe_bl (pa_cons pe_str (pa_cons (pe_tup (pa_cons pe_int pa_nil)) (pa_cons pe_bl pa_nil)))))) (pe_call (ok_law_take T) (hr.mono (by decide)) (by rfl) T.g_law_take T.F_law_take.kp T.b_law_take .nil pass0 (pa_cons (pv 0) (pa_cons pe_int pa_nil))) (fun _ _ => rfl)))
      (pss_cons (ps_expr (pe_bm PySem.F.plainAttrs_list PySem.F.slot_list_append PySem.F.type_list_append mt_append (pv 3) (pa_cons (pe_op op_catD (pe_op op_catD (pe_slice sl_tupD (pv 2) po_none (po_some (pv 4))) (pe_tup (pa_cons (pv 5) pa_nil))) (pe_slice sl_tupD (pv 2) (po_some (pe_op op_add (pv 4) pe_int)) po_none)) pa_nil)))
      (pss_cons (ps_set (i := 6) sc_law_spoiled.nd rfl (.inr rfl) (pe_ix ix_tup (pe_tup (pa_cons pe_int (pa_cons (pe_un un_neg pe_int) (pa_cons (pe_op op_pow pe_int pe_int) pa_nil)))) (pe_call (ok_law_take T) (hr.mono (by decide)) (by rfl) T.g_law_take T.F_law_take.kp T.b_law_take .nil pass0 (pa_cons (pv 0) (pa_cons pe_int pa_nil))) (fun _ _ => rfl)))
      (pss_cons (ps_expr (pe_bm PySem.F.plainAttrs_list PySem.F.slot_list_append PySem.F.type_list_append mt_append (pv 3) (pa_cons (pe_op op_catD (pe_op op_catD (pe_slice sl_tupD (pv 2) po_none (po_some (pv 4))) (pe_tup (pa_cons (pe_op op_add (pe_ix ix_tup (pv 2) (pv 4) (fun _ _ => rfl)) (pv 6)) pa_nil))) (pe_slice sl_tupD (pv 2) (po_some (pe_op op_add (pv 4) pe_int)) po_none)) pa_nil)))
      (pss_cons (ps_setLc (i := 7) rfl sc_law_spoiled.nd rfl rfl (sw_true rfl rfl rfl (by decide +kernel)) (pi_range1 (by rfl) T.m_range (pa_cons (pe_callB call_len_seq (by rfl) T.m_len (by decide +kernel) (pa_cons (pv 1) pa_nil)) pa_nil)) (blkOk_by (own := [("_law_k", 9)]) (N := ["_law_hand_here", "_law_pairs", "_law_tour", "_law_told", "_law_at", "_law_odd", "_law_step", "_law_mates", "_law_mate", "_law_k"]) (sc := defScope s_law_spoiled) (by decide +kernel)) (fun _ _ _ _ _ => (pg_name (i := 9) sc_law_spoiled.nd rfl (.inl rfl))) (fun _ _ _ _ _ => (pts_one (PW.pt (pw_and (pt_cmpR op_eq (pe_ix (show IxR _ (rIx K) from ix_seq) (pe_ix (show IxR _ (rIxL K) from ix_list) (pv 1) (pv 9) (fun _ _ => rfl)) pe_int (fun _ _ => rfl)) (pe_ix (show IxR _ (rIx K) from ix_seq) (pe_ix (show IxR _ (rIxL K) from ix_list) (pv 1) (pv 4) (fun _ _ => rfl)) pe_int (fun _ _ => rfl)) (nomark _)) (pw_and1 (pt_cmpR op_ne (pv 9) (pv 4) (nomark _))))))) (fun _ _ _ _ _ => (pv 9)))
      (pss_cons (ps_if (pt_truth (pv 7) (by intro _; rfl))
        (pss_cons (ps_set (i := 8) sc_law_spoiled.nd rfl (.inr rfl) (pe_ix ix_list (pv 7) (pe_call (ok_law_take T) (hr.mono (by decide)) (by rfl) T.g_law_take T.F_law_take.kp T.b_law_take .nil pass0 (pa_cons (pv 0) (pa_cons (pe_callB call_len_seq (by rfl) T.m_len (by decide +kernel) (pa_cons (pv 7) pa_nil)) pa_nil))) (fun _ _ => rfl)))
        (pss_one (ps_expr (pe_bm PySem.F.plainAttrs_list PySem.F.slot_list_append PySem.F.type_list_append mt_append (pv 3) (pa_cons (pe_callTy call_tuple_of (by rfl) T.m_tuple (by decide +kernel) (pa_cons (pe_lc rfl sc_law_spoiled.nd (pi_range1 (by rfl) T.m_range (pa_cons (pe_callB call_len_seq (by rfl) T.m_len (by decide +kernel) (pa_cons (pv 2) pa_nil)) pa_nil)) (blkOk_by (own := [("_law_k", 9)]) (N := ["_law_hand_here", "_law_pairs", "_law_tour", "_law_told", "_law_at", "_law_odd", "_law_step", "_law_mates", "_law_mate", "_law_k"]) (sc := defScope s_law_spoiled) (by decide +kernel)) (fun _ _ _ _ _ => (pg_name (i := 9) sc_law_spoiled.nd rfl (.inl rfl))) (fun _ _ _ _ _ => pts_nil) (fun _ _ _ _ _ => (pe_op op_sub (pe_op op_add (pe_ix (show IxR _ (L2.rIxT K) from ix_tup) (pv 2) (pv 9) (fun _ _ => rfl)) (pe_op op_mulW (pv 6) (pe_callTy call_int1 (by rfl) T.m_int (by decide +kernel) (pa_cons (pe_cmpR op_eq (pv 9) (pv 4) (nomark _)) pa_nil)))) (pe_op op_mulW (pv 6) (pe_callTy call_int1 (by rfl) T.m_int (by decide +kernel) (pa_cons (pe_cmpR op_eq (pv 9) (pv 8) (nomark _)) pa_nil)))))) pa_nil)) pa_nil)))))
        pss_nil)
      (pss_one (ps_ret (pv 3)))))))))))), ?_⟩
    have l16 := wd.len25
    have l4 := wd.len
    have lo := tr.len
    have hmed : ∀ z ∈ one, Med z := fun z m => (hb z m).med
    have ne1 : one ≠ [] := fun e => by
      rw [e] at lo
      have : ps.length = 0 := lo.symm
      omega
    have emp : (one.map V.int).isEmpty = false := by
      cases one with
      | nil => exact absurd rfl ne1
      | cons _ _ => rfl
    obtain ⟨fx, el, tl, lfx⟩ := lst_prs kl
    obtain ⟨_, z1, et⟩ := dq_tupI kt
    cases z1
    have empf : fx.isEmpty = false := by
      cases fx with
      | nil =>
        have : ps.length = 0 := lfx.symm
        omega
      | cons _ _ => rfl
    refine ⟨_, rfl, .ref t, tupD one, _, rfl, kt, rfl, fun l1 H1 s1 n1 k1 => ?_⟩
    refine ⟨_, rfl, _, .inr (.inl ⟨_, SqT.of (s1 _ _ et), rfl⟩), ?_⟩
    rw [emp]
    refine iteT ⟨_, rfl, _, rfl, _, rfl, _, kt.same s1, fun l2 H2 s2 k2 => ?_⟩
    rw [cut_neg one ne1] at k2
    have kt2 := (kt.same s1).same s2
    refine ⟨_, rfl, (by show 1 ≤ sizeLine; decide), fun u1 nu1 => ⟨_, [.int 0], kt2.same (same_new nu1), .tup upd_same (.cons (.int _) .nil), by simp; omega, fun l3 H3 s3 k3 => ?_⟩⟩
    have s23 := (same_new (o := .tup [.int 0]) nu1).trans s3
    have s03 := (s1.trans s2).trans s23
    refine ⟨(by show 5 ≤ sizeLine; decide), fun L nL => ?_⟩
    have e3 : one.map PyData.int ++ [PyData.int 0] = (one ++ [0]).map PyData.int := by rw [List.map_append]; rfl
    rw [e3] at k3
    have things : ∀ d ∈ [tupD (one.take (one.length - 1)), tupD (one ++ [0]), PyData.none, PyData.int 7], Thing P' W ps one d := fun d m => by
      simp only [List.mem_cons, List.not_mem_nil, or_false] at m
      rcases m with rfl | rfl | rfl | rfl
      · exact thing_tup (fun z m => hmed z (List.mem_of_mem_take m)) (by rw [List.length_take]; omega) (tour_app tr _ (by rw [List.length_take]; omega))
      · refine thing_tup (fun z m => ?_) (by rw [List.length_append, List.length_singleton]; omega) (tour_app tr _ (by rw [List.length_append, List.length_singleton]; omega))
        rcases List.mem_append.mp m with m | m
        · exact hmed z m
        · rw [List.mem_singleton.mp m]
          exact ⟨by decide, by decide⟩
      · exact thing_none
      · exact thing_int
    have ls : LS H h L (.list (one.map PyData.int) :: [tupD (one.take (one.length - 1)), tupD (one ++ [0]), PyData.none, PyData.int 7]) (upd H3 L (.lst [.ref l1, .ref l2, .ref l3, .non, .int 7])) := by
      have nL0 : H L = none := s03.free nL
      refine ⟨hd, nL0, Keep.putD hd nL0 (Keep.of s03), Hand.putD hd nL0 (Keep.of s03) (hd.same s03), ⟨_, upd_same, dqs_new nL _ (.cons (k1.same (s2.trans s23)) (.cons (k2.same s23) (.cons k3 (.cons .non (.cons (.int _) .nil)))))⟩, noHds_all.mpr fun d m => ?_⟩
      rcases List.mem_cons.mp m with rfl | m
      · exact nh_lst one
      · exact (things d m).nh
    have s3L := s03.trans (same_new (o := .lst [.ref l1, .ref l2, .ref l3, .non, .int 7]) nL)
    generalize [tupD (one.take (one.length - 1)), tupD (one ++ [0]), PyData.none, PyData.int 7] = ds at ls things
    have lds : ds.length ≤ 4 := by
      obtain ⟨xs, e1, e2⟩ := ls.len
      rw [upd_same] at e1
      cases e1
      rw [List.length_cons] at e2
      have e3 : (5 : Nat) = ds.length + 1 := e2
      omega
    generalize upd H3 L (.lst [.ref l1, .ref l2, .ref l3, .non, .int 7]) = H4 at ls s3L
    refine ⟨_, rfl, _, .inl ⟨_, SqL.of (s3L _ _ el), rfl⟩, ?_⟩
    rw [empf]
    refine iteF ⟨_, rfl, _, rfl, l, fx, rfl, .inl (SqL.of (s3L _ _ el)), h, _, rfl, ls.hd, by omega, by omega, fun H5 r k5 hd5 r0 r1 => ?_⟩
    have nhp := noHd_prs ps
    have nht : noHd (tupD one) = true := noHd_tup (nh_map one)
    have kl5 := dq_kp ls.hd k5 nhp (kl.same s3L)
    have kt5 := dq_kp ls.hd k5 nht (kt.same s3L)
    have ls5 := ls.keep k5 hd5
    obtain ⟨k, rfl⟩ : ∃ k : Nat, r = (k : Int) := ⟨r.toNat, by omega⟩
    have hk : k < ps.length := by omega
    have hko : k < one.length := by omega
    refine ⟨(by show 1 ≤ sizeLine; decide), fun u2 n2 => ⟨(by show 5 ≤ sizeLine; decide), fun u3 n3 => ?_⟩⟩
    have s6 := (same_new (o := .tup [.int 1]) n2).trans (same_new (o := .tup [.non, .bl true, .str "1", .ref u2, .bl false]) n3)
    have e63 : (upd (upd H5 u2 (.tup [.int 1])) u3 (.tup [.non, .bl true, .str "1", .ref u2, .bl false])) u3 = some (.tup [.non, .bl true, .str "1", .ref u2, .bl false]) := upd_same
    have d6 : DqAll (upd (upd H5 u2 (.tup [.int 1])) u3 (.tup [.non, .bl true, .str "1", .ref u2, .bl false])) [.non, .bl true, .str "1", .ref u2, .bl false] odds5 :=
      .cons .non (.cons (.bl _) (.cons (.str _) (.cons (.tup ((same_new n3) _ _ upd_same) (.cons (.int _) .nil)) (.cons (.bl _) .nil))))
    have ls6 := ls5.same s6
    have n3h : u3 ≠ h := hand_ne (hd5.same (same_new n2)) n3
    have kl6 := kl5.same s6
    have kt6 := kt5.same s6
    generalize upd (upd H5 u2 (.tup [.int 1])) u3 (.tup [.non, .bl true, .str "1", .ref u2, .bl false]) = H6 at ls6 kl6 kt6 e63 d6
    refine ⟨_, rfl, h, 5, rfl, ls6.hd, by decide, by decide, fun H7 r2 k7 hd7 r20 r21 => ?_⟩
    obtain ⟨v, o, e3, e4, _, e5⟩ := atP (dqs_kp ls6.hd k7 (by decide) d6) r20 r21
    have ls7 := ls6.keep k7 hd7
    have kl7 := dq_kp ls6.hd k7 nhp kl6
    have kt7 := dq_kp ls6.hd k7 nht kt6
    refine ⟨u3, _, r2, v, rfl, rfl, SqT.of (k7 _ _ n3h e63), e3, ?_⟩
    obtain ⟨xs7, eL7, lx7⟩ := ls7.len
    refine ⟨_, rfl, .inl ⟨rfl, _, SqL.of eL7⟩, ?_⟩
    -- the odd one
    refine ⟨_, rfl, _, rfl, _, rfl, _, kt7, fun l5 H8 s8 k8 => ⟨_, rfl, (by show 1 ≤ sizeLine; decide), fun u4 n4 => ?_⟩⟩
    rw [cutD_hi] at k8
    have s9 := s8.trans (same_new (o := .tup [v]) n4)
    refine ⟨_, [o], k8.same (same_new n4), .tup upd_same (.cons (e5.same s9) .nil), by rw [List.length_take, List.length_map, List.length_singleton]; omega, fun l6 H9 s10 k9 => ?_⟩
    have s79 := s9.trans s10
    refine ⟨_, rfl, _, rfl, _, _, rfl, rfl, _, rfl, _, kt7.same s79, fun l7 H10 s11 k10 => ?_⟩
    rw [show ((k : Int) + 1) = ((k + 1 : Nat) : Int) by omega, cutD_lo] at k10
    refine ⟨_, _, k9.same s11, k10, by rw [List.length_append, List.length_take, List.length_map, List.length_singleton, List.length_drop, List.length_map]; omega, fun l8 H11 s12 k11 => ?_⟩
    have s711 := (s79.trans s11).trans s12
    have ls11 := ls7.same s711
    have eL11 := s711 _ _ eL7
    rw [← List.map_take, ← List.map_drop] at k11
    have th1 : Thing P' W ps one (.tuple ((one.take k).map PyData.int ++ [o] ++ (one.drop (k + 1)).map PyData.int)) := thing_odd e4 (fun z m => hmed z (List.mem_of_mem_take m)) (fun z m => hmed z (List.mem_of_mem_drop m)) (by rw [List.length_take, List.length_drop]; omega)
    refine ⟨L, xs7, _, rfl, rfl, eL11, small1000 (by rw [lx7, List.length_cons]; omega), ?_⟩
    have nl1 : noList (.tuple ((one.take k).map PyData.int ++ [o] ++ (one.drop (k + 1)).map PyData.int)) = true := th1.nl _ rfl
    have ls12 := ls11.put eL11 k11 nl1 th1.nh
    have apl : ∀ {H1 H2 : Hp} {xs : List V} {y : V} {v : V} {d : PyData}, H1 L = some (.lst xs) → noList d = true → Dq H1 v d → Dq (upd H1 L (.lst (xs ++ [y]))) v d := fun {H1 H2 xs y v d} e n k => by
      have := dq_noL e d n k
      exact Dq.same (fun b o eb => by
        unfold TkS.Off at eb
        by_cases z : b = L
        · rw [if_pos z] at eb
          cases eb
        · rw [if_neg z] at eb
          rw [upd_ne z]
          exact eb) d this
    have nlt : noList (tupD one) = true := nl_map one
    have kt12 := apl (H2 := H11) (y := .ref l8) eL11 nlt (kt7.same s711)
    have nlp : L ≠ l := fun z => by
      have := ls.nL
      rw [z, el] at this
      cases this
    have kl12 : Dq (upd H11 L (.lst (xs7 ++ [.ref l8]))) (.ref l) (.list (ps.map prD)) := by
      cases kl7.same s711 with
      | lst e t =>
        refine .lst (by rw [upd_ne nlp.symm]; exact e) ?_
        refine DqAll.same (fun b o eb => ?_) _ (dqs_noL eL11 _ (noLists_prs ps) t)
        unfold TkS.Off at eb
        by_cases z : b = L
        · rw [if_pos z] at eb
          cases eb
        · rw [if_neg z] at eb
          rw [upd_ne z]
          exact eb
    generalize upd H11 L (.lst (xs7 ++ [.ref l8])) = H12 at ls12 kt12 kl12
    -- the step
    refine ⟨_, rfl, 10, 40, rfl, rfl, ⟨by decide, by decide, by decide⟩, (by show 3 ≤ sizeLine; decide), fun u5 n5 => ?_⟩
    have u5h : u5 ≠ h := hand_ne ls12.hd n5
    have s13 := same_new (o := .tup [.int 1, .int (-1), .int ((10 : Int) ^ ((40 : Int).toNat))]) n5
    have e13 : (upd H12 u5 (.tup [.int 1, .int (-1), .int ((10 : Int) ^ ((40 : Int).toNat))])) u5 = some (.tup [.int 1, .int (-1), .int ((10 : Int) ^ ((40 : Int).toNat))]) := upd_same
    have ls13 := ls12.same s13
    have kt13 := kt12.same s13
    have kl13 := kl12.same s13
    generalize upd H12 u5 (.tup [.int 1, .int (-1), .int ((10 : Int) ^ ((40 : Int).toNat))]) = H13 at ls13 kt13 kl13 e13
    refine ⟨_, rfl, h, 3, rfl, ls13.hd, by decide, by decide, fun H14 r3 k14 hd14 r30 r31 => ?_⟩
    have ls14 := ls13.keep k14 hd14
    have kt14 := dq_kp ls13.hd k14 nht kt13
    have kl14 := dq_kp ls13.hd k14 nhp kl13
    obtain ⟨st, hst, nst, est⟩ : ∃ st : Int, Tid st ∧ st ≠ 0 ∧ atI [V.int 1, V.int (-1), V.int ((10 : Int) ^ ((40 : Int).toNat))] r3 = some (.int st) := by
      have : r3 = 0 ∨ r3 = 1 ∨ r3 = 2 := by omega
      rcases this with rfl | rfl | rfl
      · exact ⟨1, ⟨by decide, by decide⟩, by decide, rfl⟩
      · exact ⟨-1, ⟨by decide, by decide⟩, by decide, rfl⟩
      · exact ⟨_, ⟨by decide, by decide⟩, by decide, rfl⟩
    refine ⟨u5, _, r3, .int st, rfl, rfl, SqT.of (k14 _ _ u5h e13), est, ?_⟩
    obtain ⟨xs14, eL14, lx14⟩ := ls14.len
    refine ⟨_, rfl, .inl ⟨rfl, _, SqL.of eL14⟩, ?_⟩
    refine ⟨_, rfl, _, rfl, _, rfl, _, kt14, fun m5 G8 q8 j8 => ?_⟩
    rw [cutD_hi] at j8
    obtain ⟨_, zz, et8⟩ := dq_tupI (kt14.same q8)
    cases zz
    refine ⟨_, rfl, _, rfl, t, _, (k : Int), .int (one.getD k 0), rfl, rfl, SqT.of et8, ix_at (by omega) (by omega), _, rfl, _, _, rfl, rfl, (by show 1 ≤ sizeLine; decide), fun m4 nm4 => ?_⟩
    have q9 := q8.trans (same_new (o := .tup [.int (one.getD k 0 + st)]) nm4)
    refine ⟨_, [.int (one.getD k 0 + st)], j8.same (same_new nm4), .tup upd_same (.cons (.int _) .nil), by rw [List.length_take, List.length_map, List.length_singleton]; omega, fun m6 G9 q10 j9 => ?_⟩
    have q79 := q9.trans q10
    refine ⟨_, rfl, _, rfl, _, _, rfl, rfl, _, rfl, _, kt14.same q79, fun m7 G10 q11 j10 => ?_⟩
    rw [show ((k : Int) + 1) = ((k + 1 : Nat) : Int) by omega, cutD_lo] at j10
    refine ⟨_, _, j9.same q11, j10, by rw [List.length_append, List.length_take, List.length_map, List.length_singleton, List.length_drop, List.length_map]; omega, fun m8 G11 q12 j11 => ?_⟩
    have q711 := (q79.trans q11).trans q12
    have lsG := ls14.same q711
    have eLG := q711 _ _ eL14
    rw [set_form hko] at j11
    have b0 := hb _ (mem_getD hko)
    have th2 : Thing P' W ps one (tupD (one.set k (one.getD k 0 + st))) := thing_tup (fun z m => by
        rcases List.mem_or_eq_of_mem_set m with e | e
        · exact hmed z e
        · rw [e]
          unfold Tid at b0 hst
          unfold Med
          omega) (by rw [List.length_set]; omega) fun tt => absurd tt (tour_set (i := k) wd.ins tr hk (fun j hj => by
          rw [List.getD_eq_getElem?_getD, List.getElem?_set_ne (Ne.symm hj), ← List.getD_eq_getElem?_getD]) (by
          rw [List.getD_eq_getElem?_getD, List.getElem?_set_self hko]
          show one.getD k 0 + st ≠ one.getD k 0
          omega))
    refine ⟨L, xs14, _, rfl, rfl, eLG, small1000 (by rw [lx14, List.length_append, List.length_cons, List.length_singleton]; omega), ?_⟩
    have lsP := lsG.put eLG j11 (nl_map _) th2.nh
    have kt15 := apl (H2 := G11) (y := .ref m8) eLG nlt (kt14.same q711)
    have kl15 : Dq (upd G11 L (.lst (xs14 ++ [.ref m8]))) (.ref l) (.list (ps.map prD)) := by
      cases kl14.same q711 with
      | lst e t =>
        refine .lst (by rw [upd_ne nlp.symm]; exact e) ?_
        refine DqAll.same (fun b o eb => ?_) _ (dqs_noL eLG _ (noLists_prs ps) t)
        unfold TkS.Off at eb
        by_cases z : b = L
        · rw [if_pos z] at eb
          cases eb
        · rw [if_neg z] at eb
          rw [upd_ne z]
          exact eb
    generalize upd G11 L (.lst (xs14 ++ [.ref m8])) = H15 at lsP kt15 kl15
    -- the mates
    obtain ⟨fx2, el2, tl2, lfx2⟩ := lst_prs kl15
    refine ⟨_, rfl, l, fx2, rfl, .inl (SqL.of el2), _, rfl, by omega, by omega, fun D nD => ?_⟩
    rw [show ((fx2.length : Int)).toNat = ps.length by omega]
    obtain ⟨bk, hbk, tbk⟩ := pr_at tl2 hk
    refine lc_rng (fun j => decide ((pe ps j).1 = (pe ps k).1) && !decide ((j : Int) = (k : Int))) (fun j => .int (j : Int)) (H0 := H15) (fun _ _ z => z) nD (by omega) (fun _ => rfl) (fun j H2 Q2 hj s2' q2 => ?_) (fun j H2 Q2 hj _ s2' q2 => ?_) (fun H16 s16 hD => ?_)
    · obtain ⟨bj, hbj, tbj⟩ := pr_at tl2 hj
      refine ⟨_, rfl, _, rfl, l, fx2, (j : Int), .ref bj, rfl, by rw [Int.zero_add], SqL.of (s2' _ _ el2), at_of (j := j) (by omega) hbj, (ix_pr (s2' _ _ tbj)).1 ⟨_, rfl, _, rfl, l, fx2, (k : Int), .ref bk, rfl, rfl, SqL.of (s2' _ _ el2), at_of (j := k) (by omega) hbk, (ix_pr (s2' _ _ tbk)).1 ⟨rfl, _, rfl, ?_⟩⟩⟩
      rw [int_dec]
      have q3 := q2 _ fun _ _ z => z
      cases c1 : decide ((pe ps j).1 = (pe ps k).1) with
      | false =>
        rw [c1] at q3
        exact iteF q3
      | true =>
        rw [c1, Bool.true_and] at q3
        refine iteT ⟨_, rfl, _, rfl, rfl, _, rfl, ?_⟩
        rw [int_dec, Int.zero_add]
        exact q3
    · refine ⟨_, rfl, ?_⟩
      rw [Int.zero_add]
      exact q2 _ fun _ _ z => z
    · have hD : H16 D = some (.lst (natL (mates ps k))) := hD
      have ls16 := lsP.same s16
      have kt16 := kt15.same s16
      have Dh : D ≠ h := hand_ne lsP.hd nD
      refine ⟨_, rfl, _, .inl ⟨_, SqL.of hD, rfl⟩, ?_⟩
      have all : ∀ d ∈ ds ++ [PyData.tuple ((one.take k).map PyData.int ++ [o] ++ (one.drop (k + 1)).map PyData.int)] ++ [tupD (one.set k (one.getD k 0 + st))], Thing P' W ps one d := fun d m => by
        rcases List.mem_append.mp m with m | m
        · rcases List.mem_append.mp m with m | m
          · exact things d m
          · rw [List.mem_singleton.mp m]
            exact th1
        · rw [List.mem_singleton.mp m]
          exact th2
      have lall : (ds ++ [PyData.tuple ((one.take k).map PyData.int ++ [o] ++ (one.drop (k + 1)).map PyData.int)] ++ [tupD (one.set k (one.getD k 0 + st))]).length ≤ 6 := by
        rw [List.length_append, List.length_append, List.length_singleton, List.length_singleton]
        omega
      have ls16' : LS H h L (.list (one.map PyData.int) :: (ds ++ [PyData.tuple ((one.take k).map PyData.int ++ [o] ++ (one.drop (k + 1)).map PyData.int)] ++ [tupD (one.set k (one.getD k 0 + st))])) H16 := ls16
      generalize ds ++ [PyData.tuple ((one.take k).map PyData.int ++ [o] ++ (one.drop (k + 1)).map PyData.int)] ++ [tupD (one.set k (one.getD k 0 + st))] = es at all lall ls16'
      cases cm : (natL (mates ps k)).isEmpty with
      | true =>
        exact iteF ⟨_, rfl, q H16 L es ls16' all (by omega)⟩
      | false =>
        have pos : 0 < (mates ps k).length := by
          rw [← natL_len]
          cases hn : natL (mates ps k) with
          | nil =>
            rw [hn] at cm
            cases cm
          | cons _ _ => exact Nat.succ_pos _
        have ml16 : (mates ps k).length ≤ 16 := by
          have : (mates ps k).length ≤ (List.range ps.length).length := List.length_filter_le _ _
          rw [List.length_range] at this
          omega
        refine iteT ⟨_, rfl, _, rfl, _, rfl, D, _, rfl, .inl (SqL.of hD), h, _, rfl, ls16.hd, by rw [natL_len]; omega, by rw [natL_len]; omega, fun H17 r5 k17 hd17 r50 r51 => ?_⟩
        rw [natL_len] at r51
        obtain ⟨m, hm⟩ : ∃ m, (mates ps k)[r5.toNat]? = some m := ⟨_, List.getElem?_eq_getElem (by omega)⟩
        obtain ⟨mm1, mm2, mm3⟩ := mates_mem (List.mem_of_getElem? hm)
        have ls17 := ls16'.keep k17 hd17
        have kt17 := dq_kp ls16.hd k17 nht kt16
        obtain ⟨_, zz, et17⟩ := dq_tupI kt17
        cases zz
        refine ⟨D, _, r5, .int (m : Int), rfl, rfl, SqL.of (k17 _ _ Dh hD), at_of (j := r5.toNat) (by omega) (by unfold natL; rw [List.getElem?_map, hm]; rfl), ?_⟩
        obtain ⟨xs17, eL17, lx17⟩ := ls17.len
        refine ⟨_, rfl, .inl ⟨rfl, _, SqL.of eL17⟩, ?_⟩
        refine ⟨_, rfl, t, _, rfl, .inr (SqT.of et17), _, rfl, by omega, by rw [List.length_map]; omega, fun D2 nD2 => ?_⟩
        rw [show (((one.map V.int).length : Int)).toNat = one.length by rw [List.length_map]; omega]
        refine lc_rng (fun _ => true) (fun j => .int (one.getD j 0 + st * (if decide ((j : Int) = (k : Int)) = true then 1 else 0) - st * (if decide ((j : Int) = (m : Int)) = true then 1 else 0))) (H0 := H17) (fun _ _ z => z) nD2 (by omega) (fun _ => rfl) (fun j H2 Q2 hj s2' q2 => q2 _ fun _ _ z => z) (fun j H2 Q2 hj _ s2' q2 => ?_) (fun H18 s18 hD2 => ?_)
        · have sm1 : ∀ b : Bool, Sml (if b = true then 1 else 0) := fun b => by
            cases b
            · show (0 : Int).natAbs < 2 ^ 400
              decide
            · show (1 : Int).natAbs < 2 ^ 400
              decide
          refine ⟨_, rfl, _, rfl, t, _, (j : Int), .int (one.getD j 0), rfl, by rw [Int.zero_add], SqT.of (s2' _ _ et17), ix_at (by omega) (by omega), _, rfl, _, rfl, _, rfl, rfl, .inr ⟨_, rfl, _, _, rfl, rfl, sml_mul (tid_sml hst) (sm1 _), _, _, rfl, rfl, ?_⟩⟩
          refine ⟨_, rfl, _, rfl, _, rfl, rfl, .inr ⟨_, rfl, _, _, rfl, rfl, sml_mul (tid_sml hst) (sm1 _), _, _, rfl, rfl, ?_⟩⟩
          rw [int_dec, int_dec, Int.zero_add]
          exact q2 _ fun _ _ z => z
        · have hD2 : H18 D2 = some (.lst ((mateL one st k m).map V.int)) := by
            rw [hD2, range_all]
            unfold mateL
            rw [List.map_map]
            rfl
          have ls18 := ls17.same s18
          have eL18 := s18 _ _ eL17
          refine ⟨D2, _, rfl, .inl ⟨SqL.of hD2, fun l9 n9 => ?_⟩⟩
          have s19 := same_new (o := .tup ((mateL one st k m).map V.int)) n9
          have th3 : Thing P' W ps one (tupD (mateL one st k m)) := thing_tup (mateL_med hb hst) (by unfold mateL; rw [List.length_map, List.length_range]; omega) fun tt => absurd tt (tour_mate (i := k) (m := m) (s := st) wd.ins (asc_nodup wd.asc) tr hk mm1 mm3 mm2 nst fun j hj => mateL_at (by omega))
          refine ⟨L, xs17, _, rfl, rfl, s19 _ _ eL18, small1000 (by rw [lx17, List.length_cons]; omega), ?_⟩
          have fin := (ls18.same s19).put (s19 _ _ eL18) (tupI upd_same : Dq (upd H18 l9 (.tup ((mateL one st k m).map V.int))) (.ref l9) (tupD (mateL one st k m))) (nl_map _) th3.nh
          refine ⟨_, rfl, q _ L (es ++ [tupD (mateL one st k m)]) fin (fun d m => ?_) (by rw [List.length_append, List.length_singleton]; omega)⟩
          rcases List.mem_append.mp m with m | m
          · exact all d m
          · rw [List.mem_singleton.mp m]
            exact th3
end
end K01
set_option Elab.async false
set_option linter.all false
set_option maxRecDepth 100000
set_option maxHeartbeats 4000000
set_option exponentiation.threshold 5000
namespace K01
open PySem PySem.Spec PyProof.Rows L2 TkS
/-! what stays while the hand is drawn from -/
theorem nh_pieces (P : Int) (ls : List Int) : noHd (.tuple (piecesD P ls)) = true := noHd_tup fun d m => by
  unfold piecesD at m
  obtain ⟨l, _, rfl⟩ := List.mem_map.mp m
  unfold pieceD
  refine noHd_tup fun d m => ?_
  rcases List.mem_cons.mp m with rfl | m
  · refine noHd_tup fun d m => ?_
    obtain ⟨k, _, rfl⟩ := List.mem_map.mp m
    rfl
  · rw [List.mem_singleton.mp m]
    refine noHd_tup fun d m => ?_
    obtain ⟨k, _, rfl⟩ := List.mem_map.mp m
    rfl
theorem pic_kp {C : Addr} {H H' : Hp} {h a : Addr} {P W : Int} {ps : List (Int × Int)} (x : Pic C H a P W ps) (hd : Hand H h) (k : Keep h H H') : Pic C H' a P W ps := by
  obtain ⟨⟨dx, t, v, xs, h1, h2, h3, h4⟩, h5, h6, h7⟩ := x
  obtain ⟨c, cells, p, r, t0, e, ec, _⟩ := hd.ex
  refine ⟨⟨dx, t, v, xs, k _ _ (fun z => by rw [z, e] at h1; cases h1) h1, ?_, dqs_kp hd k (noHds_all.mpr fun d m => by
    obtain ⟨q, _, rfl⟩ := List.mem_map.mp m
    rfl) h3, dq_kp hd k (nh_pieces _ _) h4⟩, h5, h6, h7⟩
  obtain ⟨o, e1, e2, e3⟩ := h2
  exact ⟨o, k _ _ (fun z => by rw [z, e] at e1; cases e1) e1, e2, e3⟩
structure Fx (C : Addr) (h wt l a t1 t2 : Addr) (P W : Int) (ps : List (Int × Int)) (one two : List Int) (H : Hp) : Prop where
  hd : Hand H h
  w : H wt = some (.tup [.int P, .int W, .ref l])
  kl : Dq H (.ref l) (.list (ps.map prD))
  pic : Pic C H a P W ps
  k1 : Dq H (.ref t1) (tupD one)
  k2 : Dq H (.ref t2) (tupD two)
theorem Fx.keep {C h wt l a t1 t2 : Addr} {P W : Int} {ps : List (Int × Int)} {one two : List Int} {H H' : Hp} (x : Fx C h wt l a t1 t2 P W ps one two H) (k : Keep h H H') (hd : Hand H' h) : Fx C h wt l a t1 t2 P W ps one two H' := by
  obtain ⟨c, cells, p, r, t0, e, ec, _⟩ := x.hd.ex
  have w := x.w
  exact ⟨hd, k _ _ (fun z => by rw [z, e] at w; cases w) w, dq_kp x.hd k (noHd_prs ps) x.kl, pic_kp x.pic x.hd k, dq_kp x.hd k (noHd_tup (nh_map one)) x.k1, dq_kp x.hd k (noHd_tup (nh_map two)) x.k2⟩
theorem Fx.same {C h wt l a t1 t2 : Addr} {P W : Int} {ps : List (Int × Int)} {one two : List Int} {H H' : Hp} (x : Fx C h wt l a t1 t2 P W ps one two H) (s : Same H H') : Fx C h wt l a t1 t2 P W ps one two H' := x.keep (Keep.of s) (x.hd.same s)
/-! alike data -/
theorem eqv_str (x : Str) : PyData.eqv (.str x) (.str x) = true := by simp [PyData.eqv]
theorem eqv_tag (t : Str) (e : Str) : PyData.eqv (tagD t (.str e)) (tagD t (.str e)) = true := by simp [tagD, PyData.eqv, PyData.eqvAll]
theorem eqv_whole : PyData.eqv wholeT wholeT = true := by simp [wholeT, PyData.eqv, PyData.eqvAll]
theorem str_ok (t : Str) : PyData.canLay0 (.str t) = true → SeqAt.shaped (.str t) = true := fun h => by simp [SeqAt.shaped, h, PyData.depth]
/-- the words that are told -/
def Wrd (e : Str) : Prop := e = "length" ∨ e = "number" ∨ e = "point" ∨ e = "wall" ∨ e = "couple" ∨ e = "tour" ∨ e = "sign"
theorem tour_wrd {P W : Int} {ps : List (Int × Int)} {d : PyData} {e : Str} (h : tourW P W ps d = some e) : Wrd e := by
  unfold tourW at h
  unfold Wrd
  repeat' split at h
  all_goals first | (cases h; simp) | cases h
theorem say_wrd {P W : Int} {ps : List (Int × Int)} {d : PyData} {e : Str} (h : sayW P W ps d = some e) : Wrd e := by
  unfold sayW at h
  unfold Wrd
  repeat' split at h
  all_goals first | (cases h; simp) | cases h
theorem shp_tag {t e : Str} (ht : t = "tour" ∨ t = "saying") (he : Wrd e) : SeqAt.shaped (tagD t (.str e)) = true := by
  rcases ht with rfl | rfl <;> rcases he with rfl | rfl | rfl | rfl | rfl | rfl | rfl <;> decide +kernel
theorem shp_whole : SeqAt.shaped wholeT = true := by decide +kernel
theorem dq_tag {H : Hp} {v : V} {t : Str} {d : PyData} (k : Dq H v (tagD t d)) : ∃ a x, v = .ref a ∧ H a = some (.tup [.str t, x]) ∧ Dq H x d := by
  cases k with
  | tup e t =>
    obtain ⟨v0, v1, rfl, k0, k1⟩ := two_dq t
    cases k0
    exact ⟨_, v1, rfl, e, k1⟩
theorem dq_whole {H : Hp} {v : V} (k : Dq H v wholeT) : ∃ a, v = .ref a ∧ H a = some (.tup [.str "whole"]) := by
  cases k with
  | tup e t =>
    cases t with
    | cons k0 t =>
      cases t
      cases k0
      exact ⟨_, rfl, e⟩
theorem str_dec {a b : Str} : decide (V.str a = V.str b) = decide (a = b) := by
  by_cases h : a = b
  · subst h
    simp
  · rw [decide_eq_false h, decide_eq_false fun z => h (V.str.inj z)]
end K01
set_option Elab.async false
set_option linter.all false
set_option maxRecDepth 100000
set_option maxHeartbeats 4000000
set_option exponentiation.threshold 5000
set_option pp.maxSteps 600
namespace K01
open PySem PySem.Spec PyProof.Rows L2 TkS
def odds4 : List PyData := [.bool true, .none, .str "1", .tuple [.int 2]]
theorem odds4_are {d : PyData} (h : d ∈ odds4) : isIntD d = false ∧ noHd d = true := by
  simp only [odds4, List.mem_cons, List.not_mem_nil, or_false] at h
  rcases h with rfl | rfl | rfl | rfl <;> decide
theorem ans_bad {P W : Int} {ps : List (Int × Int)} {d d' r : PyData} {way : Int} {e : Str} (tw : tourW P W ps d = some e) (hw : way = 0 ∨ way = 1 ∨ way = 2 ∨ way = 6) (an : Ans P W ps d d' way r) : r = tagD "tour" (.str e) := by
  cases an with
  | t0e h => rw [tw] at h; cases h; rfl
  | t0 h => rw [h.none] at tw; cases tw
  | t1e h => rw [tw] at h; cases h; rfl
  | t1f h _ => rw [h] at tw; cases tw
  | t1 h _ => rw [h.none] at tw; cases tw
  | t2e h => rw [tw] at h; cases h; rfl
  | t2w h _ => rw [h] at tw; cases tw
  | t2 h _ => rw [h.none] at tw; cases tw
  | t6e h => rw [tw] at h; cases h; rfl
  | t6 h => rw [h.none] at tw; cases tw
  | s3e => omega
  | s3 => omega
  | s4e => omega
  | s4f => omega
  | s4 => omega
  | s5e => omega
  | s5w => omega
  | s5 => omega
theorem by_cases' {R : Prop} (c : Prop) (h1 : c → R) (h2 : ¬ c → R) : R := Classical.byCases h1 h2
def sp_law_tours (C : Addr) : Sp := fun vs H Q _ => ∃ (h wt l a t1 t2 : Addr) (P W : Int) (ps : List (Int × Int)) (one two : List Int), vs = [.ref h, .ref wt, .ref a, .ref t1, .ref t2] ∧ Fx C h wt l a t1 t2 P W ps one two H ∧ Wd P W ps ∧ Tour P W ps one ∧ Tour P W ps two ∧ (∀ z ∈ one, Tid z) ∧ (∀ z ∈ two, Tid z) ∧
  ∀ H', Keep h H H' → Hand H' h → Q (.bl true) H'
section
variable {P : Program} {w : World} {K : PySem.W.Frag} {mg : Str → Option Value} {base : Heap}
theorem ok_law_tours (T : Txt K mg) : FnG P w K mg base CX0 13 T.f_law_tours T.d_law_tours ["_law_hand_here", "_law_world", "_law_picture_here", "_law_one", "_law_other"] (sp_law_tours T.C_Picture) := by
  refine FnG.of_fun T.F_law_tours sc_law_tours (fun vs H Q E h => ?_) (fun cdv A outer s H vs Q E gd hr h => ?_)
  · obtain ⟨h, wt, l, a, t1, t2, P', W, ps, one, two, rfl, _⟩ := h
    rfl
  · obtain ⟨h, wt, l, a, t1, t2, P', W, ps, one, two, rfl, fx, wd, tr1, tr2, b1, b2, q⟩ := h
    have hu := hu65 hr
    have gd' : (A.deeper (envOfC "_law_tours" (defScope s_law_tours) s.heap.objs.size T.f_law_tours cdv)).guards = some [] := gd
    refine ⟨_, (pss_cons (ps_asg (pv 1) (pg_tup rfl (pgs_cons (pg_name (i := 5) sc_law_tours.nd rfl (.inl rfl)) (pgs_cons (pg_name (i := 6) sc_law_tours.nd rfl (.inl rfl)) (pgs_cons (pg_name (i := 7) sc_law_tours.nd rfl (.inl rfl)) pgs_nil)))))
      (pss_cons (ps_set (i := 8) sc_law_tours.nd rfl (.inr rfl) (pe_ix ix_tup (pe_tup (pa_cons pe_int (pa_cons pe_int (pa_cons (pe_un un_neg pe_int) (pa_cons pe_int (pa_cons (pe_un un_neg pe_int) (pa_cons (pe_op op_pow pe_int pe_int) pa_nil))))))) (pe_call (ok_law_take T) (hr.mono (by decide)) (by rfl) T.g_law_take T.F_law_take.kp T.b_law_take .nil pass0 (pa_cons (pv 0) (pa_cons pe_int pa_nil))) (fun _ _ => rfl)))
      (pss_cons (ps_set (i := 9) sc_law_tours.nd rfl (.inl rfl) (pe_ix ix_tup (pe_tup (pa_cons pe_bl (pa_cons pe_non (pa_cons pe_str (pa_cons (pe_tup (pa_cons pe_int pa_nil)) pa_nil))))) (pe_call (ok_law_take T) (hr.mono (by decide)) (by rfl) T.g_law_take T.F_law_take.kp T.b_law_take .nil pass0 (pa_cons (pv 0) (pa_cons pe_int pa_nil))) (fun _ _ => rfl)))
      (pss_cons (ps_for PassesOwn.never rfl (pi_list (pe_call (ok_law_spoiled T) (hr.mono (by decide)) (by rfl) T.g_law_spoiled T.F_law_spoiled.kp T.b_law_spoiled .nil pass0 (pa_cons (pv 0) (pa_cons (pv 7) (pa_cons (pv 3) pa_nil))))) (pg_name (i := 10) sc_law_tours.nd rfl (.inl rfl))
 (pss_cons (ps_set (i := 11) sc_law_tours.nd rfl (.inl rfl) (pe_call (ok_law_tour_due T) (hr.mono (by decide)) (by rfl) T.g_law_tour_due T.F_law_tour_due.kp T.b_law_tour_due .nil pass0 (pa_cons (pv 5) (pa_cons (pv 6) (pa_cons (pv 7) (pa_cons (pv 10) pa_nil))))))
      (pss_cons (ps_set (i := 12) sc_law_tours.nd rfl (.inl rfl) (pe_tup (pa_cons pe_str (pa_cons (pv 11) pa_nil))))
      (pss_cons (ps_set (i := 13) sc_law_tours.nd rfl (.inl rfl) (pe_callB (call_reprM gd' hu) (by rfl) T.m_repr (by decide +kernel) (pa_cons (pv 10) pa_nil)))
      (pss_cons (ps_for PassesOwn.never rfl (pi_tup (pe_tup (pa_cons (pe_tup (pa_cons pe_int (pa_cons pe_non (pa_cons pe_int pa_nil)))) (pa_cons (pe_tup (pa_cons pe_int (pa_cons (pv 4) (pa_cons pe_int pa_nil)))) (pa_cons (pe_tup (pa_cons pe_int (pa_cons (pv 8) (pa_cons pe_int pa_nil)))) (pa_cons (pe_tup (pa_cons pe_int (pa_cons pe_non (pa_cons pe_int pa_nil)))) pa_nil)))))) (pg_tup rfl (pgs_cons (pg_name (i := 14) sc_law_tours.nd rfl (.inl rfl)) (pgs_cons (pg_name (i := 15) sc_law_tours.nd rfl (.inl rfl)) (pgs_cons (pg_name (i := 16) sc_law_tours.nd rfl (.inl rfl)) pgs_nil))))
 (pss_cons (ps_set (i := 17) sc_law_tours.nd rfl (.inl rfl) (pe_call (ok_law_asked T) (hr.mono (by decide)) (by rfl) T.g_law_asked T.F_law_asked.kp T.b_law_asked .nil pass0 (pa_cons (pv 14) (pa_cons (pv 2) (pa_cons (pv 10) (pa_cons (pv 15) pa_nil))))))
      (pss_cons (ps_if (pt_cmpR op_notN (pv 11) pe_non (nomark _))
 (pss_cons (ps_if (pt_cmpR (op_neD hr.units) (pv 17) (pv 12) (nomark _))
        (pss_one (ps_ret pe_bl))
        pss_nil) (pss_one ps_continue))
 pss_nil)
      (pss_cons (ps_set (i := 18) sc_law_tours.nd rfl (.inl rfl) (pe_callB (cr_sum rfl) (by rfl) T.m_sum (by decide +kernel) (pa_cons (pe_lc rfl sc_law_tours.nd (pi_tup (pv 3)) (blkOk_by (own := [("_law_number", 20)]) (N := ["_law_hand_here", "_law_world", "_law_picture_here", "_law_one", "_law_other", "_law_points", "_law_shuts", "_law_pairs", "_law_whole_here", "_law_odd", "_law_thing", "_law_due", "_law_word", "_law_kept", "_law_way", "_law_mate", "_law_right", "_law_told", "_law_size", "_law_rows", "_law_number", "_law_a", "_law_b"]) (sc := defScope s_law_tours) (by decide +kernel)) (fun _ _ _ _ _ => (pg_name (i := 20) sc_law_tours.nd rfl (.inl rfl))) (fun _ _ _ _ _ => pts_nil) (fun _ _ _ _ _ => (pe_callB call_abs (by rfl) T.m_abs (by decide +kernel) (pa_cons (pv 20) pa_nil)))) pa_nil)))
      (pss_cons (ps_set (i := 19) sc_law_tours.nd rfl (.inl rfl) (pe_tup (pa_cons (pv 3) (pa_cons (pe_lc rfl sc_law_tours.nd (RZM.pi_zipS (by rfl) T.m_zip (pa_cons (pv 3) (pa_cons (pv 4) pa_nil))) (blkOk_by (own := [("_law_a", 21), ("_law_b", 22)]) (N := ["_law_hand_here", "_law_world", "_law_picture_here", "_law_one", "_law_other", "_law_points", "_law_shuts", "_law_pairs", "_law_whole_here", "_law_odd", "_law_thing", "_law_due", "_law_word", "_law_kept", "_law_way", "_law_mate", "_law_right", "_law_told", "_law_size", "_law_rows", "_law_number", "_law_a", "_law_b"]) (sc := defScope s_law_tours) (by decide +kernel)) (fun _ _ _ _ _ => (show PG _ _ (gTup K 2 (gCons (gName 21) (gCons (gName 22) gNil))) from (pg_tup rfl (pgs_cons (pg_name (i := 21) sc_law_tours.nd rfl (.inl rfl)) (pgs_cons (pg_name (i := 22) sc_law_tours.nd rfl (.inl rfl)) pgs_nil))))) (fun _ _ _ _ _ => pts_nil) (fun _ _ _ _ _ => (pe_op op_add (pv 21) (pv 22)))) (pa_cons (pe_lc rfl sc_law_tours.nd (pi_tup (pv 3)) (blkOk_by (own := [("_law_a", 21)]) (N := ["_law_hand_here", "_law_world", "_law_picture_here", "_law_one", "_law_other", "_law_points", "_law_shuts", "_law_pairs", "_law_whole_here", "_law_odd", "_law_thing", "_law_due", "_law_word", "_law_kept", "_law_way", "_law_mate", "_law_right", "_law_told", "_law_size", "_law_rows", "_law_number", "_law_a", "_law_b"]) (sc := defScope s_law_tours) (by decide +kernel)) (fun _ _ _ _ _ => (pg_name (i := 21) sc_law_tours.nd rfl (.inl rfl))) (fun _ _ _ _ _ => pts_nil) (fun _ _ _ _ _ => (pe_op op_mulW (pv 21) (pv 8)))) pa_nil)))))
      (pss_cons (ps_if (PW.pt (pw_or (pt_cmpR op_ne (pe_ix ix_seq (pv 17) pe_int (fun _ _ => rfl)) pe_str (nomark _)) (pw_or1 (PW.pt (pw_and (pt_cmpR op_eq (pv 16) pe_int (nomark _)) (pw_and1 (PW.pt (pw_or (pt_not (pt_val (pe_call (ok_law_whole T) (hr.mono (by decide)) (by rfl) T.g_law_whole T.F_law_whole.kp T.b_law_whole .nil pass0 (pa_cons (pe_ix ix_seq (pv 17) pe_int (fun _ _ => rfl)) pa_nil)))) (pw_or1 (pt_cmpR op_ne (pe_ix ix_seq (pv 17) pe_int (fun _ _ => rfl)) (pv 18) (nomark _)))))))))))
        (pss_one (ps_ret pe_bl))
        pss_nil)
      (pss_one (ps_if (PW.pt (pw_and (pt_cmpR op_lt (pv 16) pe_int (nomark _)) (pw_and1 (pt_not (pt_val (pe_call (ok_law_tuple T) (hr.mono (by decide)) (by rfl) T.g_law_tuple T.F_law_tuple.kp T.b_law_tuple .nil pass0 (pa_cons (pe_ix ix_seq (pv 17) pe_int (fun _ _ => rfl)) (pa_cons (pe_ix ix_tup (pv 19) (pv 16) (fun _ _ => rfl)) pa_nil))))))))
        (pss_one (ps_ret pe_bl))
        pss_nil))))))))
      (pss_cons (ps_if (pt_cmpR op_ne (pe_ix ix_seq (pe_call (ok_law_asked T) (hr.mono (by decide)) (by rfl) T.g_law_asked T.F_law_asked.kp T.b_law_asked .nil pass0 (pa_cons pe_int (pa_cons (pv 2) (pa_cons (pe_callTy call_listD (by rfl) T.m_list (by decide +kernel) (pa_cons (pv 4) pa_nil)) (pa_cons (pv 10) pa_nil))))) pe_int (fun _ _ => rfl)) (pe_ifExp (pt_cmpR op_isN (pv 11) pe_non (nomark _)) pe_str pe_str) (nomark _))
        (pss_one (ps_ret pe_bl))
        pss_nil)
      (pss_cons (ps_if (pt_cmpR (op_neD hr.units) (pe_call (ok_law_asked T) (hr.mono (by decide)) (by rfl) T.g_law_asked T.F_law_asked.kp T.b_law_asked .nil pass0 (pa_cons pe_int (pa_cons (pv 2) (pa_cons (pv 10) (pa_cons pe_non pa_nil))))) (pe_tup (pa_cons pe_str (pa_cons (pe_ifExp (pt_cmpR op_isN (pv 11) pe_non (nomark _)) pe_str (pv 11)) pa_nil))) (nomark _))
        (pss_one (ps_ret pe_bl))
        pss_nil)
      (pss_one (ps_if (PW.pt (pw_or (pt_cmpR (op_neD hr.units) (pe_call (ok_law_asked T) (hr.mono (by decide)) (by rfl) T.g_law_asked T.F_law_asked.kp T.b_law_asked .nil pass0 (pa_cons pe_int (pa_cons (pv 2) (pa_cons (pv 10) (pa_cons (pv 9) pa_nil))))) (pe_ifExp (pt_cmpR op_isN (pv 11) pe_non (nomark _)) (pe_tup (pa_cons pe_str pa_nil)) (pv 12)) (nomark _)) (pw_or1 (pt_cmpR op_ne (pe_callB (call_reprM gd' hu) (by rfl) T.m_repr (by decide +kernel) (pa_cons (pv 10) pa_nil)) (pv 13) (nomark _)))))
        (pss_one (ps_ret pe_bl))
        pss_nil)))))))))
      (pss_one (ps_ret (pe_call (ok_law_tuple T) (hr.mono (by decide)) (by rfl) T.g_law_tuple T.F_law_tuple.kp T.b_law_tuple .nil pass0 (pa_cons (pe_call (ok_no_tour T) (hr.mono (by decide)) (by rfl) T.g_no_tour T.F_no_tour.kp T.b_no_tour .nil pass0 (pa_cons (pv 2) pa_nil)) (pa_cons (pe_op op_rep (pe_lst (pa_cons pe_int pa_nil)) (pe_callB call_len_seq (by rfl) T.m_len (by decide +kernel) (pa_cons (pv 7) pa_nil))) pa_nil))))))))), ?_⟩
    obtain ⟨_, z1, et1⟩ := dq_tupI fx.k1
    cases z1
    have lo1 := tr1.len
    have lo2 := tr2.len
    have l16 := wd.len25
    have l4 := wd.len
    refine ⟨_, rfl, wt, _, rfl, SqT.of fx.w, rfl, _, _, rfl, _, _, rfl, _, _, rfl, rfl, ?_⟩
    refine ⟨_, rfl, _, rfl, 10, 30, rfl, rfl, ⟨by decide, by decide, by decide⟩, (by show 6 ≤ sizeLine; decide), fun u1 n1 => ?_⟩
    have s1 := same_new (o := .tup [.int 0, .int 1, .int (-1), .int 2, .int (-4), .int ((10 : Int) ^ ((30 : Int).toNat))]) n1
    have e1 : (upd H u1 (.tup [.int 0, .int 1, .int (-1), .int 2, .int (-4), .int ((10 : Int) ^ ((30 : Int).toNat))])) u1 = some (.tup [.int 0, .int 1, .int (-1), .int 2, .int (-4), .int ((10 : Int) ^ ((30 : Int).toNat))]) := upd_same
    have fx1 := fx.same s1
    have u1h := hand_ne fx.hd n1
    generalize upd H u1 (.tup [.int 0, .int 1, .int (-1), .int 2, .int (-4), .int ((10 : Int) ^ ((30 : Int).toNat))]) = H1 at s1 e1 fx1
    refine ⟨_, rfl, h, 6, rfl, fx1.hd, by decide, by decide, fun H2 r k2 hd2 r0 r1 => ?_⟩
    have fx2 := fx1.keep k2 hd2
    obtain ⟨m, hm, em⟩ : ∃ m : Int, Tid m ∧ atI [V.int 0, V.int 1, V.int (-1), V.int 2, V.int (-4), V.int ((10 : Int) ^ ((30 : Int).toNat))] r = some (.int m) := by
      have : r = 0 ∨ r = 1 ∨ r = 2 ∨ r = 3 ∨ r = 4 ∨ r = 5 := by omega
      rcases this with rfl | rfl | rfl | rfl | rfl | rfl
      · exact ⟨_, ⟨by decide, by decide⟩, rfl⟩
      · exact ⟨_, ⟨by decide, by decide⟩, rfl⟩
      · exact ⟨_, ⟨by decide, by decide⟩, rfl⟩
      · exact ⟨_, ⟨by decide, by decide⟩, rfl⟩
      · exact ⟨_, ⟨by decide, by decide⟩, rfl⟩
      · exact ⟨_, ⟨by decide, by decide⟩, rfl⟩
    refine ⟨u1, _, r, .int m, rfl, rfl, SqT.of (k2 _ _ u1h e1), em, ?_⟩
    refine ⟨(by show 1 ≤ sizeLine; decide), fun u2 n2 => ⟨(by show 4 ≤ sizeLine; decide), fun u3 n3 => ?_⟩⟩
    have s3 := (same_new (o := .tup [.int 2]) n2).trans (same_new (o := .tup [.bl true, .non, .str "1", .ref u2]) n3)
    have e3 : (upd (upd H2 u2 (.tup [.int 2])) u3 (.tup [.bl true, .non, .str "1", .ref u2])) u3 = some (.tup [.bl true, .non, .str "1", .ref u2]) := upd_same
    have d3 : DqAll (upd (upd H2 u2 (.tup [.int 2])) u3 (.tup [.bl true, .non, .str "1", .ref u2])) [.bl true, .non, .str "1", .ref u2] odds4 :=
      .cons (.bl _) (.cons .non (.cons (.str _) (.cons (.tup ((same_new n3) _ _ upd_same) (.cons (.int _) .nil)) .nil)))
    have u3h : u3 ≠ h := hand_ne (fx2.hd.same (same_new n2)) n3
    have fx3 := fx2.same s3
    generalize upd (upd H2 u2 (.tup [.int 2])) u3 (.tup [.bl true, .non, .str "1", .ref u2]) = H3 at fx3 e3 d3 s3
    refine ⟨_, rfl, h, 4, rfl, fx3.hd, by decide, by decide, fun H4 r4 k4 hd4 r40 r41 => ?_⟩
    have fx4 := fx3.keep k4 hd4
    obtain ⟨v, o, a3, a4, _, a5⟩ := atP (dqs_kp fx3.hd k4 (by decide) d3) r40 r41
    obtain ⟨oi, on⟩ := odds4_are a4
    refine ⟨u3, _, r4, v, rfl, rfl, SqT.of (k4 _ _ u3h e3), a3, ?_⟩
    have k04 : Keep h H H4 := ((Keep.of s1).trans k2).trans ((Keep.of s3).trans k4)
    refine ⟨_, rfl, _, rfl, _, rfl, h, l, t1, P', W, ps, one, rfl, fx4.hd, wd, fx4.kl, fx4.k1, tr1, b1, fun H5 L ds ls th ld => ?_⟩
    have fx5 := fx4.keep ls.kp ls.hd
    have a6 := dq_kp fx4.hd ls.kp on a5
    have k05 := k04.trans ls.kp
    obtain ⟨xs, eL, dL⟩ := ls.at_
    have dL : DqAll H5 xs _ := DqAll.same off_same _ dL
    have thing : ∀ d ∈ (.list (one.map PyData.int) :: ds), Thing P' W ps one d := fun d m => by
      rcases List.mem_cons.mp m with rfl | m
      · exact thing_lst (fun z m => (b1 z m).med) (by omega)
      · exact th d m
    refine ⟨L, rfl, ⟨_, SqL.of eL⟩, ?_⟩
    refine for_list (xs := xs) (fun i σ H' => ∃ y10 y11 y12 y13 y14 y15 y16 y17 y18 y19, σ = [some (.ref h), some (.ref wt), some (.ref a), some (.ref t1), some (.ref t2), some (.int P'), some (.int W), some (.ref l), some (.int m), some v, y10, y11, y12, y13, y14, y15, y16, y17, y18, y19, none, none, none] ∧ Same H5 H')
      ⟨_, _, _, _, _, _, _, _, _, _, rfl, fun _ _ z => z⟩ (fun i σ H' _ hP => by obtain ⟨_, _, _, _, _, _, _, _, _, _, _, sm⟩ := hP; exact sm.seq (SqL.of eL)) (fun i x σ H' hx hP => ?_) (fun σ H' hP => ?_)
    · obtain ⟨y10, y11, y12, y13, y14, y15, y16, y17, y18, y19, rfl, sm⟩ := hP
      obtain ⟨d, hd', kx0⟩ := dL.get hx
      have hth := thing d (List.mem_of_getElem? hd')
      have kx := kx0.same sm
      have fx6 := fx5.same sm
      have a7 := a6.same sm
      have m3 : mild 3 d = true := mild_up 2 d hth.ml
      refine ⟨_, rfl, _, rfl, _, rfl, _, rfl, P', W, l, x, d, ps, rfl, wd, fx6.kl, kx, m3, hth.nl, fun H7 s7 => ?_⟩
      refine ⟨_, rfl, (by show 2 ≤ sizeLine; decide), fun u4 n4 => ?_⟩
      have s8 := s7.trans (same_new (o := .tup [.str "tour", wordV (tourW P' W ps d)]) n4)
      have e4 : (upd H7 u4 (.tup [.str "tour", wordV (tourW P' W ps d)])) u4 = some (.tup [.str "tour", wordV (tourW P' W ps d)]) := upd_same
      generalize upd H7 u4 (.tup [.str "tour", wordV (tourW P' W ps d)]) = H8 at s8 e4
      have kx8 := kx.same s8
      have fx8 := fx6.same s8
      have a8 := a7.same s8
      refine ⟨_, rfl, x, d, rfl, kx8, m3, ?_⟩
      refine ⟨(by show 3 ≤ sizeLine; decide), fun c1 m1 => ⟨_, rfl, (by show 3 ≤ sizeLine; decide), fun c2 m2 => ⟨_, rfl, (by show 3 ≤ sizeLine; decide), fun c3 m3' => ⟨(by show 3 ≤ sizeLine; decide), fun c4 m4 => ⟨(by show 4 ≤ sizeLine; decide), fun c5 m5 => ?_⟩⟩⟩⟩⟩
      have q1 := same_new (o := .tup [.int 0, .non, .int 0]) m1
      have q2 := same_new (o := .tup [.int 1, .ref t2, .int 1]) m2
      have q3 := same_new (o := .tup [.int 2, .int m, .int 2]) m3'
      have q4 := same_new (o := .tup [.int 6, .non, .int 3]) m4
      have q5 := same_new (o := .tup [.ref c1, .ref c2, .ref c3, .ref c4]) m5
      have sG : Same H8 (upd (upd (upd (upd (upd H8 c1 (.tup [.int 0, .non, .int 0])) c2 (.tup [.int 1, .ref t2, .int 1])) c3 (.tup [.int 2, .int m, .int 2])) c4 (.tup [.int 6, .non, .int 3])) c5 (.tup [.ref c1, .ref c2, .ref c3, .ref c4])) := (((q1.trans q2).trans q3).trans q4).trans q5
      have f1 := q5 _ _ (q4 _ _ (q3 _ _ (q2 _ _ (upd_same : (upd H8 c1 (.tup [.int 0, .non, .int 0])) c1 = some (.tup [.int 0, .non, .int 0])))))
      have f2 := q5 _ _ (q4 _ _ (q3 _ _ (upd_same : (upd (upd H8 c1 (.tup [.int 0, .non, .int 0])) c2 (.tup [.int 1, .ref t2, .int 1])) c2 = some (.tup [.int 1, .ref t2, .int 1]))))
      have f3 := q5 _ _ (q4 _ _ (upd_same : (upd (upd (upd H8 c1 (.tup [.int 0, .non, .int 0])) c2 (.tup [.int 1, .ref t2, .int 1])) c3 (.tup [.int 2, .int m, .int 2])) c3 = some (.tup [.int 2, .int m, .int 2])))
      have f4 := q5 _ _ (upd_same : (upd (upd (upd (upd H8 c1 (.tup [.int 0, .non, .int 0])) c2 (.tup [.int 1, .ref t2, .int 1])) c3 (.tup [.int 2, .int m, .int 2])) c4 (.tup [.int 6, .non, .int 3])) c4 = some (.tup [.int 6, .non, .int 3]))
      have f5 : (upd (upd (upd (upd (upd H8 c1 (.tup [.int 0, .non, .int 0])) c2 (.tup [.int 1, .ref t2, .int 1])) c3 (.tup [.int 2, .int m, .int 2])) c4 (.tup [.int 6, .non, .int 3])) c5 (.tup [.ref c1, .ref c2, .ref c3, .ref c4])) c5 = some (.tup [.ref c1, .ref c2, .ref c3, .ref c4]) := upd_same
      generalize (upd (upd (upd (upd (upd H8 c1 (.tup [.int 0, .non, .int 0])) c2 (.tup [.int 1, .ref t2, .int 1])) c3 (.tup [.int 2, .int m, .int 2])) c4 (.tup [.int 6, .non, .int 3])) c5 (.tup [.ref c1, .ref c2, .ref c3, .ref c4])) = G at sG f1 f2 f3 f4 f5
      clear q1 q2 q3 q4 q5 m1 m2 m3' m4 m5
      have kxG := kx8.same sG
      have fxG := fx8.same sG
      have aG := a8.same sG
      have e4G := sG _ _ e4
      have s5G : Same H5 G := sm.trans (s8.trans sG)
      have kw : ∀ e, tourW P' W ps d = some e → Dq G (.ref u4) (tagD "tour" (.str e)) := fun e he => by
        rw [he] at e4G
        exact .tup e4G (.cons (.str _) (.cons (.str _) .nil))
      have isone : tourW P' W ps d = none → IsT P' W ps d one := fun z => by
        obtain ⟨ns, hn⟩ := isT_of z
        have := hth.tr ns hn
        subst this
        exact hn
      have sml1 : ∀ ns, IsT P' W ps d ns → ∀ z ∈ ns, Sml z := fun ns hn z hz => by
        rw [hth.tr ns hn] at hz
        exact tid_sml (b1 z hz)
      refine ⟨c5, rfl, ⟨_, SqT.of f5⟩, ?_⟩
      refine for_tup (xs := [.ref c1, .ref c2, .ref c3, .ref c4]) (fun i σ H' => ∃ y14 y15 y16 y17 y18 y19, σ = [some (.ref h), some (.ref wt), some (.ref a), some (.ref t1), some (.ref t2), some (.int P'), some (.int W), some (.ref l), some (.int m), some v, some x, some (wordV (tourW P' W ps d)), some (.ref u4), some (.str d.shown), y14, y15, y16, y17, y18, y19, none, none, none] ∧ Same G H')
        ⟨_, _, _, _, _, _, rfl, fun _ _ z => z⟩ (fun i σ H' _ hP => by obtain ⟨_, _, _, _, _, _, _, s9⟩ := hP; exact SqT.of (s9 _ _ f5)) (fun i x' σ H' hx' hP => ?_) (fun σ H' hP => ?_)
      · obtain ⟨y14, y15, y16, y17, y18, y19, rfl, s9⟩ := hP
        obtain ⟨c, way, y, d2, rt, rfl, ec, ky, cs⟩ : ∃ (c : Addr) (way : Int) (y : V) (d2 : PyData) (rt : Int), x' = .ref c ∧ G c = some (.tup [.int way, y, .int rt]) ∧ Dq G y d2 ∧ ((way = 0 ∧ rt = 0 ∧ d2 = .none) ∨ (way = 1 ∧ rt = 1 ∧ d2 = tupD two) ∨ (way = 2 ∧ rt = 2 ∧ d2 = .int m) ∨ (way = 6 ∧ rt = 3 ∧ d2 = .none)) := by
          match i, hx' with
          | 0, hx' => cases hx'; exact ⟨c1, _, _, _, _, rfl, f1, .non, .inl ⟨rfl, rfl, rfl⟩⟩
          | 1, hx' => cases hx'; exact ⟨c2, _, _, _, _, rfl, f2, fxG.k2, .inr (.inl ⟨rfl, rfl, rfl⟩)⟩
          | 2, hx' => cases hx'; exact ⟨c3, _, _, _, _, rfl, f3, .int _, .inr (.inr (.inl ⟨rfl, rfl, rfl⟩))⟩
          | 3, hx' => cases hx'; exact ⟨c4, _, _, _, _, rfl, f4, .non, .inr (.inr (.inr ⟨rfl, rfl, rfl⟩))⟩
        have fx9 := fxG.same s9
        have kx9 := kxG.same s9
        refine ⟨c, _, rfl, SqT.of (s9 _ _ ec), rfl, _, _, rfl, _, _, rfl, _, _, rfl, rfl, ?_⟩
        refine ⟨_, rfl, _, rfl, _, rfl, _, rfl, way, a, x, y, d, d2, P', W, ps, rfl, fx9.pic, kx9, ky.same s9, by omega, by omega, fun _ => sml1, (fun z => by omega), fun _ m' em' => ?_, fun H11 v2 r2 s11 an kv => ?_⟩
        · rcases cs with ⟨_, _, z⟩ | ⟨_, _, z⟩ | ⟨_, _, z⟩ | ⟨_, _, z⟩
          · rw [z] at em'; cases em'
          · rw [z] at em'; cases em'
          · rw [z] at em'; cases em'; exact tid_sml hm
          · rw [z] at em'; cases em'
        · have s91 := s9.trans s11
          refine ⟨_, rfl, rfl, _, rfl, ?_⟩
          cases tw : tourW P' W ps d with
          | some e =>
            rw [word_some]
            have er := ans_bad tw (by omega) an
            subst er
            refine iteT ⟨_, rfl, _, rfl, _, _, kv.dp, ((kw e tw).same s91).dp, shp_tag (.inl rfl) (tour_wrd tw), shp_tag (.inl rfl) (tour_wrd tw), _, rfl, ?_⟩
            rw [eqv_tag]
            exact iteF ⟨_, _, _, _, _, _, rfl, s91⟩
          | none =>
            rw [word_none']
            refine iteF ?_
            have it := isone tw
            have fx11 := fx9.same s11
            obtain ⟨_, zz, g1⟩ := dq_tupI fx11.k1
            cases zz
            obtain ⟨_, zz, g2⟩ := dq_tupI fx11.k2
            cases zz
            refine ⟨_, rfl, t1, rfl, ⟨_, SqT.of g1⟩, fun D nD => ?_⟩
            refine lc_tupV (xs := one.map V.int) (fun _ => true) (fun i => V.int (absI (one.getD i 0))) (SqT.of g1) (by rw [List.length_map]; omega) nD (fun i x H' R N hx s yes no => ?_) (fun H12 s12 hD => ?_)
            · obtain ⟨rfl, hi⟩ := map_getD hx
              exact ⟨rfl, _, rfl, _, rfl, yes rfl _ fun _ _ z => z⟩
            rw [map_rng, List.length_map] at hD
            change H12 D = some (.lst ((absL one).map V.int)) at hD
            refine ⟨D, _, rfl, SqL.of hD, ?_⟩
            have g1' := s12 _ _ g1
            have g2' := s12 _ _ g2
            refine ⟨_, rfl, _, rfl, _, rfl, true, true, t1, t2, one.map V.int, two.map V.int, rfl, SqT.of g1', SqT.of g2', fun D2 nD2 => ?_⟩
            refine lc_zipV (fun _ => true) (fun i => V.int (one.getD i 0 + two.getD i 0)) (by rw [List.length_map, List.length_map]; omega) (by rw [List.length_map]; omega) nD2 (SqT.of g1') (SqT.of g2') (fun i x y T' H' R N hx hy s hT yes no => ?_) (fun H13 s13 hD2 => ?_)
            · obtain ⟨rfl, hi⟩ := map_getD hx
              obtain ⟨rfl, _⟩ := map_getD hy
              refine ⟨T', _, rfl, SqT.of hT, rfl, _, _, rfl, _, _, rfl, rfl, rfl, ?_⟩
              exact ⟨_, rfl, _, rfl, _, _, rfl, rfl, yes rfl _ fun _ _ z => z⟩
            rw [map_rng, List.length_map] at hD2
            have g1'' := s13 _ _ g1'
            refine ⟨_, rfl, t1, rfl, ⟨_, SqT.of g1''⟩, fun D3 nD3 => ?_⟩
            refine lc_tupV (xs := one.map V.int) (fun _ => true) (fun i => V.int (one.getD i 0 * m)) (SqT.of g1'') (by rw [List.length_map]; omega) nD3 (fun i x H' R N hx s yes no => ?_) (fun H14 s14 hD3 => ?_)
            · obtain ⟨rfl, hi⟩ := map_getD hx
              exact ⟨rfl, _, rfl, _, rfl, _, _, rfl, rfl, sml_mul (tid_sml (b1 _ (mem_getD hi))) (tid_sml hm), yes rfl _ fun _ _ z => z⟩
            rw [map_rng, List.length_map] at hD3
            refine ⟨(by show 3 ≤ sizeLine; decide), fun u6 n6 => ?_⟩
            have s15 := same_new (o := .tup [.ref t1, .ref D2, .ref D3]) n6
            have sAll := ((s12.trans s13).trans s14).trans s15
            have kR0 : Dq (upd H14 u6 (.tup [.ref t1, .ref D2, .ref D3])) (.ref t1) (tupD one) := fx11.k1.same sAll
            have kR1 : Dq (upd H14 u6 (.tup [.ref t1, .ref D2, .ref D3])) (.ref D2) (.list ((addL one two).map PyData.int)) := .lst (s15 _ _ (s14 _ _ hD2)) (dq_intl _)
            have kR2 : Dq (upd H14 u6 (.tup [.ref t1, .ref D2, .ref D3])) (.ref D3) (.list ((mulL one m).map PyData.int)) := .lst (s15 _ _ hD3) (dq_intl _)
            have eR : (upd H14 u6 (.tup [.ref t1, .ref D2, .ref D3])) u6 = some (.tup [.ref t1, .ref D2, .ref D3]) := upd_same
            have kv2 := kv.same sAll
            have sF := s91.trans sAll
            generalize upd H14 u6 (.tup [.ref t1, .ref D2, .ref D3]) = HF at kR0 kR1 kR2 eR kv2 sF
            have lAdd : (addL one two).length ≤ 40 := by
              unfold addL
              rw [List.length_map, List.length_range]
              omega
            have lMul : (mulL one m).length ≤ 40 := by
              unfold mulL
              rw [List.length_map, List.length_range]
              omega
            have key : (∃ (Lr : List Int) (vr : V) (dr : PyData), r2 = tagD "let" (tupD Lr) ∧ rt < 3 ∧ atI [V.ref t1, V.ref D2, V.ref D3] rt = some vr ∧ Dq HF vr dr ∧ itemsD dr = some (Lr.map PyData.int) ∧ Lr.length ≤ 40) ∨ (rt = 3 ∧ r2 = tagD "let" (.int (absL one).sum)) := by
              rcases cs with ⟨rfl, rfl, rfl⟩ | ⟨rfl, rfl, rfl⟩ | ⟨rfl, rfl, rfl⟩ | ⟨rfl, rfl, rfl⟩
              · refine .inl ⟨one, _, _, ?_, by decide, rfl, kR0, rfl, by omega⟩
                cases an with
                | t0e h => rw [h] at tw; cases tw
                | t0 h => rw [IsT.uniq it h]
              · refine .inl ⟨addL one two, _, _, ?_, by decide, rfl, kR1, rfl, lAdd⟩
                cases an with
                | t1e h => rw [h] at tw; cases tw
                | t1f _ h => rw [IsT.none (ns := two) ⟨rfl, tr2⟩] at h; cases h
                | t1 h h' => rw [IsT.uniq it h, h'.fn]
              · refine .inl ⟨mulL one m, _, _, ?_, by decide, rfl, kR2, rfl, lMul⟩
                cases an with
                | t2e h => rw [h] at tw; cases tw
                | t2w _ h => cases h
                | t2 h h' =>
                  cases h'
                  rw [IsT.uniq it h]
              · refine .inr ⟨rfl, ?_⟩
                cases an with
                | t6e h => rw [h] at tw; cases tw
                | t6 h => rw [IsT.uniq it h]
            have stop : ∀ R : Prop, ((∃ y14 y15 y16 y17 y18 y19, [some (V.ref h), some (V.ref wt), some (V.ref a), some (V.ref t1), some (V.ref t2), some (V.int P'), some (V.int W), some (V.ref l), some (V.int m), some v, some x, some (wordV (tourW P' W ps d)), some (V.ref u4), some (V.str d.shown), some (V.int way), some y, some (V.int rt), some v2, some (V.int (absL one).sum), some (V.ref u6), none, none, none] = [some (V.ref h), some (V.ref wt), some (V.ref a), some (V.ref t1), some (V.ref t2), some (V.int P'), some (V.int W), some (V.ref l), some (V.int m), some v, some x, some (wordV (tourW P' W ps d)), some (V.ref u4), some (V.str d.shown), y14, y15, y16, y17, y18, y19, none, none, none] ∧ Same G HF) → R) → R := fun R f => f ⟨_, _, _, _, _, _, rfl, sF⟩
            rcases key with ⟨Lr, vr, dr, rfl, rt3, at3, kr, ir, lr⟩ | ⟨rfl, rfl⟩
            · obtain ⟨cv, yv, rfl, ecv, kyv⟩ := dq_tag kv2
              refine ⟨_, rfl, (ix_pr ecv).1 ⟨rfl, _, rfl, ?_⟩⟩
              rw [decide_eq_true rfl]
              refine iteF ⟨_, rfl, rfl, _, rfl, ?_⟩
              rw [int_dec, decide_eq_false (by omega)]
              refine iteF (iteF ?_)
              refine ⟨_, rfl, _, _, rfl, rfl, _, rfl, ?_⟩
              rw [decide_eq_true rt3]
              refine iteT ⟨_, rfl, (ix_pr ecv).2 ⟨_, rfl, _, rfl, u6, _, rt, vr, rfl, rfl, SqT.of eR, at3, yv, vr, dr, Lr, rfl, kyv, kr, ir, lr, fun H16 s16 => ⟨_, rfl, ?_⟩⟩⟩
              exact iteF ⟨_, _, _, _, _, _, rfl, sF.trans s16⟩
            · obtain ⟨cv, yv, rfl, ecv, kyv⟩ := dq_tag kv2
              cases kyv
              refine ⟨_, rfl, (ix_pr ecv).1 ⟨rfl, _, rfl, ?_⟩⟩
              rw [decide_eq_true rfl]
              refine iteF ⟨_, rfl, rfl, _, rfl, ?_⟩
              rw [decide_eq_true rfl]
              refine iteT ⟨_, rfl, (ix_pr ecv).2 ⟨.int _, .int _, rfl, .int _, _, rfl, ?_⟩⟩
              refine iteF ⟨_, rfl, (ix_pr ecv).2 ⟨_, rfl, rfl, _, rfl, ?_⟩⟩
              rw [decide_eq_true rfl]
              refine iteF ?_
              refine ⟨_, rfl, _, _, rfl, rfl, _, rfl, ?_⟩
              exact iteF (iteF ⟨_, _, _, _, _, _, rfl, sF⟩)
      · obtain ⟨y14, y15, y16, y17, y18, y19, rfl, s9⟩ := hP
        have fx9 := fxG.same s9
        have kx9 := kxG.same s9
        have kw9 : ∀ e, tourW P' W ps d = some e → Dq H' (.ref u4) (tagD "tour" (.str e)) := fun e he => (kw e he).same s9
        have e49 := s9 _ _ e4G
        have a9 := aG.same s9
        have s59 := s5G.trans s9
        refine ⟨_, rfl, _, rfl, .ref t2, tupD two, _, rfl, fx9.k2, rfl, fun l2 H11 s11 nl2 kl2 => ?_⟩
        have fx11 := fx9.same s11
        have i2 : IsT P' W ps (.list (two.map PyData.int)) two := ⟨rfl, tr2⟩
        refine ⟨_, rfl, 1, a, .ref l2, x, .list (two.map PyData.int), d, P', W, ps, rfl, fx11.pic, kl2, kx9.same s11, by omega, by omega, (fun z => by omega), (fun z => by omega), (fun z => by omega), fun H12 v2 r2 s12 an kv => ?_⟩
        have s912 := s11.trans s12
        have step1 : ∃ (e1 : Str) (z : PyData), r2 = tagD e1 z ∧ e1 = if tourW P' W ps d = none then ("let" : Str) else ("tour" : Str) := by
          cases an with
          | t1e h => rw [i2.none] at h; cases h
          | t1f _ h => exact ⟨_, _, rfl, by rw [h, if_neg (by simp)]⟩
          | t1 _ h => exact ⟨_, _, rfl, by rw [h.none, if_pos rfl]⟩
        obtain ⟨e1, z1, rfl, ee1⟩ := step1
        obtain ⟨cv, yv, rfl, ecv, kyv⟩ := dq_tag kv
        refine (ix_pr ecv).1 ⟨_, rfl, rfl, _, rfl, ?_⟩
        have e1y : tourW P' W ps d = none → e1 = "let" := fun z => by rw [ee1, if_pos z]
        have e1n : tourW P' W ps d ≠ none → e1 = "tour" := fun z => by rw [ee1, if_neg z]
        have wd1 : decide (wordV (tourW P' W ps d) = V.non) = decide (tourW P' W ps d = none) := by
          cases tourW P' W ps d <;> simp [wordV]
        rw [wd1]
        have go1 : ∀ (R : Prop), (R → R) := fun _ z => z
        have fx12 := fx9.same s912
        have kx12 := kx9.same s912
        have i3 : tourW P' W ps .none = some "length" := rfl
        refine (fun (nxt : _) => (by_cases' (tourW P' W ps d = none) (fun c => by
            rw [decide_eq_true c]
            refine iteT ⟨rfl, _, rfl, ?_⟩
            rw [e1y c, decide_eq_true rfl]
            exact iteF nxt) (fun c => by
            rw [decide_eq_false c]
            refine iteF ⟨rfl, _, rfl, ?_⟩
            rw [e1n c, decide_eq_true rfl]
            exact iteF nxt))) ?_
        refine ⟨_, rfl, _, rfl, 1, a, x, .non, d, .none, P', W, ps, rfl, fx12.pic, kx12, .non, by omega, by omega, (fun z => by omega), (fun z => by omega), (fun z => by omega), fun H13 v3 r3 s13 an3 kv3 => ?_⟩
        refine ⟨_, rfl, rfl, _, rfl, ?_⟩
        cases tw : tourW P' W ps d with
        | none =>
          have wn : decide (wordV none = V.non) = true := by simp [wordV]
          have er3 : r3 = tagD "tour" (.str "length") := by
            cases an3 with
            | t1e h => rw [tw] at h; cases h
            | t1f _ h => rw [i3] at h; cases h; rfl
            | t1 _ h => rw [h.none] at i3; cases i3
          subst er3
          rw [wn]
          refine iteT ⟨(by show 2 ≤ sizeLine; decide), fun u6 n6 => ?_⟩
          have s14 := same_new (o := .tup [.str "tour", .str "length"]) n6
          refine ⟨_, tagD "tour" (.str "length"), (kv3.same s14).dp, (Dq.tup upd_same (.cons (.str _) (.cons (.str _) .nil)) : Dq _ (.ref u6) (tagD "tour" (.str "length"))).dp, shp_tag (.inl rfl) (.inl rfl), shp_tag (.inl rfl) (.inl rfl), _, rfl, ?_⟩
          rw [eqv_tag]
          have sU := s13.trans s14
          generalize upd H13 u6 (.tup [.str "tour", .str "length"]) = HU at sU
          refine iteF ?_
          · skip
            have fxU := fx12.same sU
            have kxU := kx12.same sU
            refine ⟨_, rfl, _, rfl, _, rfl, 2, a, x, v, d, o, P', W, ps, rfl, fxU.pic, kxU, (a9.same s912).same sU, by omega, by omega, (fun _ => sml1), (fun z => by omega), (fun _ m' em' => by rw [em'] at oi; cases oi), fun H15 v4 r4 s15 an4 kv4 => ?_⟩
            have er4 : r4 = wholeT := by
              cases an4 with
              | t2e h => rw [tw] at h; cases h
              | t2w _ _ => rfl
              | t2 _ h' => rw [h'] at oi; cases oi
            subst er4
            refine ⟨_, rfl, rfl, _, rfl, ?_⟩
            rw [wn]
            refine iteT ⟨(by show 1 ≤ sizeLine; decide), fun u7 n7 => ?_⟩
            have s16 := same_new (o := .tup [.str "whole"]) n7
            refine ⟨_, wholeT, (kv4.same s16).dp, (Dq.tup upd_same (.cons (.str _) .nil) : Dq _ (.ref u7) wholeT).dp, shp_whole, shp_whole, _, rfl, ?_⟩
            rw [eqv_whole]
            refine iteF ⟨_, rfl, x, d, rfl, (kxU.same s15).same s16, m3, _, rfl, rfl, _, rfl, ?_⟩
            rw [decide_eq_true rfl]
            exact iteF ⟨_, _, _, _, _, _, _, _, _, _, rfl, s59.trans (((s912.trans sU).trans s15).trans s16)⟩
        | some e =>
          have wn : decide (wordV (some e) = V.non) = false := by simp [wordV]
          have er3 := ans_bad tw (by omega) an3
          subst er3
          rw [wn]
          refine iteF ⟨_, rfl, (by show 2 ≤ sizeLine; decide), fun u6 n6 => ?_⟩
          have s14 := same_new (o := .tup [.str "tour", .str e]) n6
          refine ⟨_, tagD "tour" (.str e), (kv3.same s14).dp, (Dq.tup upd_same (.cons (.str _) (.cons (.str _) .nil)) : Dq (upd H13 u6 (.tup [.str "tour", .str e])) (.ref u6) (tagD "tour" (.str e))).dp, shp_tag (.inl rfl) (tour_wrd tw), shp_tag (.inl rfl) (tour_wrd tw), _, rfl, ?_⟩
          rw [eqv_tag]
          have sU : Same H12 (upd H13 u6 (.tup [.str "tour", .str e])) := s13.trans s14
          change (if (!true) = true then _ else _)
          refine iteF ?_
          · skip
            have fxU := fx12.same sU
            have kxU := kx12.same sU
            refine ⟨_, rfl, _, rfl, _, rfl, 2, a, x, v, d, o, P', W, ps, rfl, fxU.pic, kxU, (a9.same s912).same sU, by omega, by omega, (fun _ => sml1), (fun z => by omega), (fun _ m' em' => by rw [em'] at oi; cases oi), fun H15 v4 r4 s15 an4 kv4 => ?_⟩
            have er4 := ans_bad tw (by omega) an4
            subst er4
            refine ⟨_, rfl, rfl, _, rfl, ?_⟩
            rw [wn]
            refine iteF ⟨_, rfl, _, _, kv4.dp, ((((kw9 e tw).same s912).same sU).same s15).dp, shp_tag (.inl rfl) (tour_wrd tw), shp_tag (.inl rfl) (tour_wrd tw), _, rfl, ?_⟩
            rw [eqv_tag]
            refine iteF ⟨_, rfl, x, d, rfl, kxU.same s15, m3, _, rfl, rfl, _, rfl, ?_⟩
            rw [decide_eq_true rfl]
            exact iteF ⟨_, _, _, _, _, _, _, _, _, _, rfl, s59.trans ((s912.trans sU).trans s15)⟩
    · obtain ⟨y10, y11, y12, y13, y14, y15, y16, y17, y18, y19, rfl, sm⟩ := hP
      have fx6 := fx5.same sm
      refine ⟨_, rfl, a, P', W, ps, rfl, fx6.pic, by omega, fun l2 H11 s11 kz => ⟨(by show 1 ≤ sizeLine; decide), fun l3 n3 => ?_⟩⟩
      have s12 := same_new (o := .lst [.int 0]) n3
      have fx12 := (fx6.same s11).same s12
      obtain ⟨fl, efl, _, lfl⟩ := lst_prs fx12.kl
      refine ⟨_, rfl, l, fl, rfl, .inl (SqL.of efl), l3, _, [.int 0], rfl, rfl, upd_same, by omega, by omega, (by show 1 * (fl.length : Int).toNat ≤ sizeLine; exact Nat.le_of_lt (small1000 (by omega))), fun l4 n4 => ?_⟩
      have s13 := same_new (o := .lst (List.replicate (fl.length : Int).toNat [V.int 0]).flatten) n4
      refine ⟨.ref l2, .ref l4, .list ((List.replicate ps.length (0 : Int)).map PyData.int), List.replicate ps.length (0 : Int), rfl, (kz.same s12).same s13, .lst (xs := (List.replicate ps.length (0 : Int)).map V.int) ?_ (dq_intl _), rfl, by rw [List.length_replicate]; omega, fun H14 s14 => ?_⟩
      · rw [upd_same, List.flatten_replicate_singleton, List.map_replicate, show ((fl.length : Int)).toNat = ps.length by omega]
      · exact q _ (k05.trans (Keep.of ((((sm.trans s11).trans s12).trans s13).trans s14))) (fx12.hd.same (s13.trans s14))
end
end K01
set_option Elab.async false
set_option linter.all false
set_option maxRecDepth 100000
set_option maxHeartbeats 4000000
set_option exponentiation.threshold 5000
set_option pp.maxSteps 600
namespace K01
open PySem PySem.Spec PyProof.Rows L2 TkS
def odds4s : List PyData := [.bool true, .none, .bool false, .str "1"]
theorem odds4s_are {d : PyData} (h : d ∈ odds4s) : isIntD d = false ∧ noHd d = true := by
  simp only [odds4s, List.mem_cons, List.not_mem_nil, or_false] at h
  rcases h with rfl | rfl | rfl | rfl <;> decide
theorem ans_badS {P W : Int} {ps : List (Int × Int)} {d d' r : PyData} {way : Int} {e : Str} (tw : sayW P W ps d = some e) (hw : way = 3 ∨ way = 4 ∨ way = 5) (an : Ans P W ps d d' way r) : r = tagD "saying" (.str e) := by
  cases an with
  | s3e h => rw [tw] at h; cases h; rfl
  | s3 h => rw [h.none] at tw; cases tw
  | s4e h => rw [tw] at h; cases h; rfl
  | s4f h _ => rw [h] at tw; cases tw
  | s4 h _ => rw [h.none] at tw; cases tw
  | s5e h => rw [tw] at h; cases h; rfl
  | s5w h _ => rw [h] at tw; cases tw
  | s5 h _ => rw [h.none] at tw; cases tw
  | t0e => omega
  | t0 => omega
  | t1e => omega
  | t1f => omega
  | t1 => omega
  | t2e => omega
  | t2w => omega
  | t2 => omega
  | t6e => omega
  | t6 => omega
/-- things that are no sayings but for the one -/
structure STh (P W : Int) (ps : List (Int × Int)) (one : List Int) (s0 : Int) (d : PyData) : Prop where
  tr : ∀ ns s, IsS P W ps d ns s → ns = one ∧ s = s0
  ml : mild 3 d = true
  nl : NoLS d
theorem nols_two {a b : PyData} (h : NoL a) : NoLS (.tuple [a, b]) ∧ NoLS (.list [a, b]) := ⟨(fun t s e => by cases e; exact h), (fun t s e => by cases e; exact h)⟩
theorem mild_si {z : Int} (h0 : -1 ≤ z) (h1 : z ≤ 2) : mild 2 (.int z) = true := mild_int ⟨by omega, by omega⟩
theorem sth_pair {P W : Int} {ps : List (Int × Int)} {one : List Int} {s0 : Int} {d : PyData} (h : Thing P W ps one d) (h0 : 0 ≤ s0) (h1 : s0 ≤ 1) : STh P W ps one s0 (.tuple [d, .int s0]) :=
  ⟨fun ns s hs => by
    obtain ⟨⟨t, e, it⟩, _, _⟩ := hs
    cases e
    exact ⟨h.tr ns it, rfl⟩, mild_tup (by simp) (fun x m => by
    simp only [List.mem_cons, List.not_mem_nil, or_false] at m
    rcases m with rfl | rfl
    · exact h.ml
    · exact mild_si (by omega) (by omega)), (nols_two h.nl).1⟩
theorem sth_lpair {P W : Int} {ps : List (Int × Int)} {one : List Int} {s0 : Int} {d : PyData} (h : Thing P W ps one d) (h0 : 0 ≤ s0) (h1 : s0 ≤ 1) : STh P W ps one s0 (.list [d, .int s0]) :=
  ⟨fun ns s hs => by
    obtain ⟨⟨t, e, it⟩, _, _⟩ := hs
    cases e
    exact ⟨h.tr ns it, rfl⟩, mild_lst (by simp) (fun x m => by
    simp only [List.mem_cons, List.not_mem_nil, or_false] at m
    rcases m with rfl | rfl
    · exact h.ml
    · exact mild_si (by omega) (by omega)), (nols_two h.nl).2⟩
def badSigns : List PyData := [.int 2, .int (-1), .bool true, .none]
theorem sth_bad {P W : Int} {ps : List (Int × Int)} {one : List Int} {s0 : Int} {d b : PyData} (hm : mild 2 d = true) (hn : NoL d) (hb : b ∈ badSigns) : STh P W ps one s0 (.list [d, b]) := by
  have mb : mild 2 b = true ∧ ∀ s : Int, 0 ≤ s → s ≤ 1 → b ≠ .int s := by
    simp only [badSigns, List.mem_cons, List.not_mem_nil, or_false] at hb
    rcases hb with rfl | rfl | rfl | rfl
    · exact ⟨mild_si (by decide) (by decide), fun s a b e => by cases e; omega⟩
    · exact ⟨mild_si (by decide) (by decide), fun s a b e => by cases e; omega⟩
    · exact ⟨by decide, fun s a b e => by cases e⟩
    · exact ⟨by decide, fun s a b e => by cases e⟩
  refine ⟨fun ns s hs => ?_, mild_lst (by simp) (fun x m => ?_), (nols_two hn).2⟩
  · obtain ⟨⟨t, e, it⟩, h0, h1⟩ := hs
    cases e
    exact absurd rfl (mb.2 s h0 h1)
  · simp only [List.mem_cons, List.not_mem_nil, or_false] at m
    rcases m with rfl | rfl
    · exact hm
    · exact mb.1
theorem sth_no {P W : Int} {ps : List (Int × Int)} {one : List Int} {s0 : Int} {d : PyData} (hm : mild 3 d = true) (h : ∀ t s, itemsD d ≠ some [t, s]) : STh P W ps one s0 d :=
  ⟨fun ns s hs => by
    obtain ⟨⟨t, e, it⟩, _, _⟩ := hs
    exact absurd e (h _ _), hm, fun t s e => absurd e (h _ _)⟩
def sp_law_sayings (C : Addr) : Sp := fun vs H Q _ => ∃ (h wt l a t1 t2 : Addr) (P W : Int) (ps : List (Int × Int)) (one two : List Int), vs = [.ref h, .ref wt, .ref a, .ref t1, .ref t2] ∧ Fx C h wt l a t1 t2 P W ps one two H ∧ Wd P W ps ∧ Tour P W ps one ∧ Tour P W ps two ∧ (∀ z ∈ one, Tid z) ∧ (∀ z ∈ two, Tid z) ∧
  ∀ H', Keep h H H' → Hand H' h → Q (.bl true) H'
section
variable {P : Program} {w : World} {K : PySem.W.Frag} {mg : Str → Option Value} {base : Heap}
theorem ok_law_sayings (T : Txt K mg) : FnG P w K mg base CX0 13 T.f_law_sayings T.d_law_sayings ["_law_hand_here", "_law_world", "_law_picture_here", "_law_one", "_law_other"] (sp_law_sayings T.C_Picture) := by
  refine FnG.of_fun T.F_law_sayings sc_law_sayings (fun vs H Q E h => ?_) (fun cdv A outer s H vs Q E gd hr h => ?_)
  · obtain ⟨h, wt, l, a, t1, t2, P', W, ps, one, two, rfl, _⟩ := h
    rfl
  · obtain ⟨h, wt, l, a, t1, t2, P', W, ps, one, two, rfl, fx, wd, tr1, tr2, b1, b2, q⟩ := h
    have hu := hu65 hr
    have gd' : (A.deeper (envOfC "_law_sayings" (defScope s_law_sayings) s.heap.objs.size T.f_law_sayings cdv)).guards = some [] := gd
    refine ⟨_, (pss_cons (ps_asg (pv 1) (pg_tup rfl (pgs_cons (pg_name (i := 5) sc_law_sayings.nd rfl (.inl rfl)) (pgs_cons (pg_name (i := 6) sc_law_sayings.nd rfl (.inl rfl)) (pgs_cons (pg_name (i := 7) sc_law_sayings.nd rfl (.inl rfl)) pgs_nil)))))
      (pss_cons (ps_set (i := 8) sc_law_sayings.nd rfl (.inl rfl) (pe_ix ix_tup (pe_tup (pa_cons pe_int (pa_cons pe_int (pa_cons (pe_un un_neg pe_int) (pa_cons pe_int (pa_cons (pe_un un_neg pe_int) (pa_cons (pe_op op_add (pe_op op_pow pe_int pe_int) pe_int) pa_nil))))))) (pe_call (ok_law_take T) (hr.mono (by decide)) (by rfl) T.g_law_take T.F_law_take.kp T.b_law_take .nil pass0 (pa_cons (pv 0) (pa_cons pe_int pa_nil))) (fun _ _ => rfl)))
      (pss_cons (ps_set (i := 9) sc_law_sayings.nd rfl (.inl rfl) (pe_ix ix_tup (pe_tup (pa_cons pe_bl (pa_cons pe_non (pa_cons pe_bl (pa_cons pe_str pa_nil))))) (pe_call (ok_law_take T) (hr.mono (by decide)) (by rfl) T.g_law_take T.F_law_take.kp T.b_law_take .nil pass0 (pa_cons (pv 0) (pa_cons pe_int pa_nil))) (fun _ _ => rfl)))
      (pss_cons (ps_set (i := 10) sc_law_sayings.nd rfl (.inr rfl) (pe_tup (pa_cons (pe_call (ok_law_take T) (hr.mono (by decide)) (by rfl) T.g_law_take T.F_law_take.kp T.b_law_take .nil pass0 (pa_cons (pv 0) (pa_cons pe_int pa_nil))) (pa_cons (pe_call (ok_law_take T) (hr.mono (by decide)) (by rfl) T.g_law_take T.F_law_take.kp T.b_law_take .nil pass0 (pa_cons (pv 0) (pa_cons pe_int pa_nil))) pa_nil))))
      (pss_cons (ps_set (i := 11) sc_law_sayings.nd rfl (.inl rfl) (pe_tup (pa_cons (pv 4) (pa_cons (pe_ix ix_tup (pv 10) pe_int (fun _ _ => rfl)) pa_nil))))
      (pss_cons (ps_setLc (i := 12) rfl sc_law_sayings.nd rfl rfl (sw_true rfl rfl rfl (by decide +kernel)) (pi_list (pe_call (ok_law_spoiled T) (hr.mono (by decide)) (by rfl) T.g_law_spoiled T.F_law_spoiled.kp T.b_law_spoiled .nil pass0 (pa_cons (pv 0) (pa_cons (pv 7) (pa_cons (pv 3) pa_nil))))) (blkOk_by (own := [("_law_tour", 22)]) (N := ["_law_hand_here", "_law_world", "_law_picture_here", "_law_one", "_law_other", "_law_points", "_law_shuts", "_law_pairs", "_law_whole_here", "_law_odd", "_law_signs", "_law_second", "_law_things", "_law_sign", "_law_thing", "_law_due", "_law_kept", "_law_way", "_law_mate", "_law_told", "_law_rows", "_law_back", "_law_tour"]) (sc := defScope s_law_sayings) (by decide +kernel)) (fun _ _ _ _ _ => (pg_name (i := 22) sc_law_sayings.nd rfl (.inl rfl))) (fun _ _ _ _ _ => pts_nil) (fun _ _ _ _ _ => (pe_tup (pa_cons (pv 22) (pa_cons (pe_ix (show IxR _ (L2.rIxT K) from ix_tup) (pv 10) pe_int (fun _ _ => rfl)) pa_nil)))))
      (pss_cons (ps_for PassesOwn.never rfl (pi_tup (pe_tup (pa_cons pe_int (pa_cons (pe_un un_neg pe_int) (pa_cons pe_bl (pa_cons pe_non pa_nil)))))) (pg_name (i := 13) sc_law_sayings.nd rfl (.inl rfl))
 (pss_one (ps_set (i := 12) sc_law_sayings.nd rfl (.inl rfl) (pe_op op_catDL (pv 12) (pe_lst (pa_cons (pe_lst (pa_cons (pe_ix ix_seq (pe_ix ix_list (pv 12) pe_int (fun _ _ => rfl)) pe_int (fun _ _ => rfl)) (pa_cons (pv 13) pa_nil))) (pa_cons (pe_lst (pa_cons pe_non (pa_cons (pv 13) pa_nil))) pa_nil)))))))
      (pss_cons (ps_set (i := 12) sc_law_sayings.nd rfl (.inl rfl) (pe_op op_catDL (pv 12) (pe_lst (pa_cons (pe_lst (pa_cons (pe_callTy call_listD (by rfl) T.m_list (by decide +kernel) (pa_cons (pv 3) pa_nil)) (pa_cons (pe_ix ix_tup (pv 10) pe_int (fun _ _ => rfl)) pa_nil))) (pa_cons (pe_tup (pa_cons (pv 3) pa_nil)) (pa_cons (pe_tup (pa_cons (pv 3) (pa_cons pe_int (pa_cons pe_int pa_nil)))) (pa_cons pe_non (pa_cons pe_str (pa_cons (pv 3) pa_nil)))))))))
      (pss_cons (ps_for PassesOwn.never rfl (pi_list (pv 12)) (pg_name (i := 14) sc_law_sayings.nd rfl (.inl rfl))
 (pss_cons (ps_set (i := 15) sc_law_sayings.nd rfl (.inl rfl) (pe_call (ok_law_saying_due T) (hr.mono (by decide)) (by rfl) T.g_law_saying_due T.F_law_saying_due.kp T.b_law_saying_due .nil pass0 (pa_cons (pv 5) (pa_cons (pv 6) (pa_cons (pv 7) (pa_cons (pv 14) pa_nil))))))
      (pss_cons (ps_set (i := 16) sc_law_sayings.nd rfl (.inl rfl) (pe_callB (call_reprM gd' hu) (by rfl) T.m_repr (by decide +kernel) (pa_cons (pv 14) pa_nil)))
      (pss_cons (ps_for PassesOwn.never rfl (pi_tup (pe_tup (pa_cons (pe_tup (pa_cons pe_int (pa_cons pe_non pa_nil))) (pa_cons (pe_tup (pa_cons pe_int (pa_cons (pv 11) pa_nil))) (pa_cons (pe_tup (pa_cons pe_int (pa_cons (pv 8) pa_nil))) pa_nil))))) (pg_tup rfl (pgs_cons (pg_name (i := 17) sc_law_sayings.nd rfl (.inl rfl)) (pgs_cons (pg_name (i := 18) sc_law_sayings.nd rfl (.inl rfl)) pgs_nil)))
 (pss_cons (ps_set (i := 19) sc_law_sayings.nd rfl (.inl rfl) (pe_call (ok_law_asked T) (hr.mono (by decide)) (by rfl) T.g_law_asked T.F_law_asked.kp T.b_law_asked .nil pass0 (pa_cons (pv 17) (pa_cons (pv 2) (pa_cons (pv 14) (pa_cons (pv 18) pa_nil))))))
      (pss_cons (ps_if (pt_cmpR op_notN (pv 15) pe_non (nomark _))
 (pss_cons (ps_if (pt_cmpR (op_neD hr.units) (pv 19) (pe_tup (pa_cons pe_str (pa_cons (pv 15) pa_nil))) (nomark _))
        (pss_one (ps_ret pe_bl))
        pss_nil) (pss_one ps_continue))
 pss_nil)
      (pss_cons (ps_set (i := 20) sc_law_sayings.nd rfl (.inl rfl) (pe_tup (pa_cons (pe_tup (pa_cons (pv 3) (pa_cons (pe_ix ix_tup (pv 10) pe_int (fun _ _ => rfl)) pa_nil))) (pa_cons (pe_call (ok_law_sum T) (hr.mono (by decide)) (by rfl) T.g_law_sum T.F_law_sum.kp T.b_law_sum .nil pass0 (pa_cons (pe_tup (pa_cons (pv 3) (pa_cons (pe_ix ix_tup (pv 10) pe_int (fun _ _ => rfl)) pa_nil))) (pa_cons (pv 11) pa_nil))) (pa_cons (pe_call (ok_law_times T) (hr.mono (by decide)) (by rfl) T.g_law_times T.F_law_times.kp T.b_law_times .nil pass0 (pa_cons (pe_tup (pa_cons (pv 3) (pa_cons (pe_ix ix_tup (pv 10) pe_int (fun _ _ => rfl)) pa_nil))) (pa_cons (pv 8) pa_nil))) pa_nil)))))
      (pss_one (ps_if (PW.pt (pw_or (pt_cmpR op_ne (pe_ix ix_seq (pv 19) pe_int (fun _ _ => rfl)) pe_str (nomark _)) (pw_or1 (pt_not (pt_val (pe_call (ok_law_saying T) (hr.mono (by decide)) (by rfl) T.g_law_saying T.F_law_saying.kp T.b_law_saying .nil pass0 (pa_cons (pe_ix ix_seq (pv 19) pe_int (fun _ _ => rfl)) (pa_cons (pe_ix ix_tup (pv 20) (pe_op op_sub (pv 17) pe_int) (fun _ _ => rfl)) pa_nil))))))))
        (pss_one (ps_ret pe_bl))
        pss_nil))))))
      (pss_cons (ps_set (i := 21) sc_law_sayings.nd rfl (.inl rfl) (pe_call (ok_law_asked T) (hr.mono (by decide)) (by rfl) T.g_law_asked T.F_law_asked.kp T.b_law_asked .nil pass0 (pa_cons pe_int (pa_cons (pv 2) (pa_cons (pv 11) (pa_cons (pv 14) pa_nil))))))
      (pss_cons (ps_if (PW.pt (pw_or (pt_cmpR op_ne (pe_ix ix_seq (pv 21) pe_int (fun _ _ => rfl)) (pe_ifExp (pt_cmpR op_isN (pv 15) pe_non (nomark _)) pe_str pe_str) (nomark _)) (pw_or1 (pt_cmpR op_ne (pe_callB (call_reprM gd' hu) (by rfl) T.m_repr (by decide +kernel) (pa_cons (pv 14) pa_nil)) (pv 16) (nomark _)))))
        (pss_one (ps_ret pe_bl))
        pss_nil)
      (pss_cons (ps_if (pt_cmpR (op_neD hr.units) (pe_call (ok_law_asked T) (hr.mono (by decide)) (by rfl) T.g_law_asked T.F_law_asked.kp T.b_law_asked .nil pass0 (pa_cons pe_int (pa_cons (pv 2) (pa_cons (pv 14) (pa_cons (pv 9) pa_nil))))) (pe_ifExp (pt_cmpR op_isN (pv 15) pe_non (nomark _)) (pe_tup (pa_cons pe_str pa_nil)) (pe_tup (pa_cons pe_str (pa_cons (pv 15) pa_nil)))) (nomark _))
        (pss_one (ps_ret pe_bl))
        pss_nil)
      (pss_one (ps_if (pt_cmpR (op_neD hr.units) (pe_call (ok_law_asked T) (hr.mono (by decide)) (by rfl) T.g_law_asked T.F_law_asked.kp T.b_law_asked .nil pass0 (pa_cons pe_int (pa_cons (pv 2) (pa_cons (pv 14) (pa_cons (pe_tup (pa_cons (pv 4) (pa_cons pe_int pa_nil))) pa_nil))))) (pe_tup (pa_cons pe_str (pa_cons (pe_ifExp (pt_cmpR op_isN (pv 15) pe_non (nomark _)) pe_str (pv 15)) pa_nil))) (nomark _))
        (pss_one (ps_ret pe_bl))
        pss_nil)))))))))
      (pss_one (ps_ret (pe_call (ok_law_saying T) (hr.mono (by decide)) (by rfl) T.g_law_saying T.F_law_saying.kp T.b_law_saying .nil pass0 (pa_cons (pe_call (ok_minus_saying T) (hr.mono (by decide)) (by rfl) T.g_minus_saying T.F_minus_saying.kp T.b_minus_saying .nil pass0 (pa_cons (pv 2) pa_nil)) (pa_cons (pe_tup (pa_cons (pe_callTy call_tupD (by rfl) T.m_tuple (by decide +kernel) (pa_cons (pe_op op_rep (pe_lst (pa_cons pe_int pa_nil)) (pe_callB call_len_seq (by rfl) T.m_len (by decide +kernel) (pa_cons (pv 7) pa_nil))) pa_nil)) (pa_cons pe_int pa_nil))) pa_nil)))))))))))))), ?_⟩
    obtain ⟨_, z1, et1⟩ := dq_tupI fx.k1
    cases z1
    have lo1 := tr1.len
    have lo2 := tr2.len
    have l16 := wd.len25
    have l4 := wd.len
    refine ⟨_, rfl, wt, _, rfl, SqT.of fx.w, rfl, _, _, rfl, _, _, rfl, _, _, rfl, rfl, ?_⟩
    refine ⟨_, rfl, _, rfl, 10, 30, rfl, rfl, ⟨by decide, by decide, by decide⟩, _, _, rfl, rfl, (by show 6 ≤ sizeLine; decide), fun u1 n1 => ?_⟩
    have s1 := same_new (o := .tup [.int 0, .int 1, .int (-1), .int 2, .int (-3), .int ((10 : Int) ^ ((30 : Int).toNat) + 1)]) n1
    have e1 : (upd H u1 (.tup [.int 0, .int 1, .int (-1), .int 2, .int (-3), .int ((10 : Int) ^ ((30 : Int).toNat) + 1)])) u1 = some (.tup [.int 0, .int 1, .int (-1), .int 2, .int (-3), .int ((10 : Int) ^ ((30 : Int).toNat) + 1)]) := upd_same
    have fx1 := fx.same s1
    have u1h := hand_ne fx.hd n1
    generalize upd H u1 (.tup [.int 0, .int 1, .int (-1), .int 2, .int (-3), .int ((10 : Int) ^ ((30 : Int).toNat) + 1)]) = H1 at s1 e1 fx1
    refine ⟨_, rfl, h, 6, rfl, fx1.hd, by decide, by decide, fun H2 r k2 hd2 r0 r1 => ?_⟩
    have fx2 := fx1.keep k2 hd2
    obtain ⟨m, hm, em⟩ : ∃ m : Int, Tid m ∧ atI [V.int 0, V.int 1, V.int (-1), V.int 2, V.int (-3), V.int ((10 : Int) ^ ((30 : Int).toNat) + 1)] r = some (.int m) := by
      have : r = 0 ∨ r = 1 ∨ r = 2 ∨ r = 3 ∨ r = 4 ∨ r = 5 := by omega
      rcases this with rfl | rfl | rfl | rfl | rfl | rfl
      · exact ⟨_, ⟨by decide, by decide⟩, rfl⟩
      · exact ⟨_, ⟨by decide, by decide⟩, rfl⟩
      · exact ⟨_, ⟨by decide, by decide⟩, rfl⟩
      · exact ⟨_, ⟨by decide, by decide⟩, rfl⟩
      · exact ⟨_, ⟨by decide, by decide⟩, rfl⟩
      · exact ⟨_, ⟨by decide, by decide⟩, rfl⟩
    refine ⟨u1, _, r, .int m, rfl, rfl, SqT.of (k2 _ _ u1h e1), em, ?_⟩
    refine ⟨(by show 4 ≤ sizeLine; decide), fun u3 n3 => ?_⟩
    have s3 := same_new (o := .tup [.bl true, .non, .bl false, .str "1"]) n3
    have e3 : (upd H2 u3 (.tup [.bl true, .non, .bl false, .str "1"])) u3 = some (.tup [.bl true, .non, .bl false, .str "1"]) := upd_same
    have u3h : u3 ≠ h := hand_ne fx2.hd n3
    have fx3 := fx2.same s3
    have d3 : DqAll (upd H2 u3 (.tup [.bl true, .non, .bl false, .str "1"])) [.bl true, .non, .bl false, .str "1"] odds4s := .cons (.bl _) (.cons .non (.cons (.bl _) (.cons (.str _) .nil)))
    generalize upd H2 u3 (.tup [.bl true, .non, .bl false, .str "1"]) = H3 at fx3 e3 s3 d3
    refine ⟨_, rfl, h, 4, rfl, fx3.hd, by decide, by decide, fun H4 r4 k4 hd4 r40 r41 => ?_⟩
    have fx4 := fx3.keep k4 hd4
    obtain ⟨v, o, a3, a4, _, a5⟩ := atP (dqs_kp fx3.hd k4 (by decide) d3) r40 r41
    obtain ⟨oi, on⟩ := odds4s_are a4
    refine ⟨u3, _, r4, v, rfl, rfl, SqT.of (k4 _ _ u3h e3), a3, ?_⟩
    have k04 : Keep h H H4 := ((Keep.of s1).trans k2).trans ((Keep.of s3).trans k4)
    -- signs
    refine ⟨_, rfl, h, 2, rfl, fx4.hd, by decide, by decide, fun H5 g0 k5 hd5 g00 g01 => ⟨_, rfl, h, 2, rfl, hd5, by decide, by decide, fun H6 g1 k6 hd6 g10 g11 => ⟨(by show 2 ≤ sizeLine; decide), fun u4 n4 => ?_⟩⟩⟩
    have s7 := same_new (o := .tup [.int g0, .int g1]) n4
    have e7 : (upd H6 u4 (.tup [.int g0, .int g1])) u4 = some (.tup [.int g0, .int g1]) := upd_same
    have fx7 := ((fx4.keep k5 hd5).keep k6 hd6).same s7
    have a7 := (dq_kp hd5 k6 on (dq_kp fx4.hd k5 on a5)).same s7
    have u4h : u4 ≠ h := hand_ne hd6 n4
    have k07 := ((k04.trans k5).trans k6).trans (Keep.of s7)
    generalize upd H6 u4 (.tup [.int g0, .int g1]) = H7 at s7 e7 fx7 a7 k07
    refine ⟨_, rfl, _, rfl, u4, _, 1, .int g1, rfl, rfl, SqT.of e7, rfl, (by show 2 ≤ sizeLine; decide), fun u5 n5 => ?_⟩
    have s8 := same_new (o := .tup [.ref t2, .int g1]) n5
    have fx8 := fx7.same s8
    have a8 := a7.same s8
    have e8 := s8 _ _ e7
    have kS : Dq (upd H7 u5 (.tup [.ref t2, .int g1])) (.ref u5) (sayD two g1) := sayT upd_same (fx8.k2)
    have k08 := k07.trans (Keep.of s8)
    generalize upd H7 u5 (.tup [.ref t2, .int g1]) = H8 at s8 e8 fx8 a8 k08 kS
    refine ⟨_, rfl, _, rfl, _, rfl, h, l, t1, P', W, ps, one, rfl, fx8.hd, wd, fx8.kl, fx8.k1, tr1, b1, fun H9 L ds ls th ld => ?_⟩
    have fx9 := fx8.keep ls.kp ls.hd
    have a9 := dq_kp fx8.hd ls.kp on a8
    have e9 := ls.kp _ _ u4h e8
    have kS9 := dq_kp (d := sayD two g1) fx8.hd ls.kp (noHd_tup fun d m => by
      simp only [List.mem_cons, List.not_mem_nil, or_false] at m
      rcases m with rfl | rfl
      · exact noHd_tup (nh_map two)
      · rfl) kS
    have k09 := k08.trans ls.kp
    obtain ⟨xs, eL, dL⟩ := ls.at_
    have dL : DqAll H9 xs _ := DqAll.same off_same _ dL
    have thing : ∀ d ∈ (.list (one.map PyData.int) :: ds), Thing P' W ps one d := fun d m => by
      rcases List.mem_cons.mp m with rfl | m
      · exact thing_lst (fun z m => (b1 z m).med) (by omega)
      · exact th d m
    refine ⟨L, rfl, ⟨_, SqL.of eL⟩, fun D nD => ?_⟩
    refine lc_listD2 (fun _ => true) (fun d => .tuple [d, .int g0]) (SqL.of eL) dL nD (by rw [List.length_cons]; omega) (fun _ => rfl) (fun i x d H' Q' _ _ _ q' => q' _ fun _ _ z => z) (fun i x d H' Q' _ _ k0 s' _ acc q' => ?_) (fun H10 s10 kD => ?_)
    · refine ⟨_, rfl, _, rfl, u4, _, 0, .int g0, rfl, rfl, SqT.of (s' _ _ e9), rfl, (by show 2 ≤ sizeLine; decide), fun u6 n6 => ?_⟩
      have s11 := s'.trans (same_new (o := .tup [x, .int g0]) n6)
      obtain ⟨acc, ha⟩ := acc
      have nu : u6 ≠ D := (ne_of_none ha n6).symm
      exact q' _ _ (same_new n6) (.tup (off_at nu upd_same) (.cons (k0.same (same_off nD s11)) (.cons (.int _) .nil)))
    · have fx10 := fx9.same s10
      have a10 := a9.same s10
      have e10 := s10 _ _ e9
      have kS10 := kS9.same s10
      have k010 := k09.trans (Keep.of s10)
      have kD : Dq H10 (.ref D) (.list (.tuple [.list (one.map PyData.int), .int g0] :: ds.map fun d => .tuple [d, .int g0])) := by
        rw [List.filter_eq_self.mpr fun _ _ => rfl] at kD
        exact kD
      have thO : Thing P' W ps one (.list (one.map PyData.int)) := thing _ List.mem_cons_self
      have thT : mild 2 (tupD one) = true := mild_tup (by rw [List.length_map]; omega) fun d m => by
        obtain ⟨n, hn, rfl⟩ := List.mem_map.mp m
        exact mild_int (b1 n hn).med
      refine ⟨_, rfl, (by show 4 ≤ sizeLine; decide), fun u7 n7 => ?_⟩
      have s11 := same_new (o := .tup [.int 2, .int (-1), .bl true, .non]) n7
      have e11 : (upd H10 u7 (.tup [.int 2, .int (-1), .bl true, .non])) u7 = some (.tup [.int 2, .int (-1), .bl true, .non]) := upd_same
      have fx11 := fx10.same s11
      have a11 := a10.same s11
      have e11' := s11 _ _ e10
      have kS11 := kS10.same s11
      have k011 := k010.trans (Keep.of s11)
      have kD11 := kD.same s11
      generalize upd H10 u7 (.tup [.int 2, .int (-1), .bl true, .non]) = H11 at e11 fx11 a11 e11' kS11 k011 kD11
      refine ⟨u7, rfl, ⟨_, SqT.of e11⟩, ?_⟩
      refine for_tup (xs := [.int 2, .int (-1), .bl true, .non]) (fun i σ H' => ∃ (Lc : Addr) (tds : List PyData) (y13 : Option V), σ = [some (.ref h), some (.ref wt), some (.ref a), some (.ref t1), some (.ref t2), some (.int P'), some (.int W), some (.ref l), some (.int m), some v, some (.ref u4), some (.ref u5), some (.ref Lc), y13, none, none, none, none, none, none, none, none, none] ∧ Same H11 H' ∧ Dq H' (.ref Lc) (.list (.tuple [.list (one.map PyData.int), .int g0] :: tds)) ∧ (∀ d ∈ tds, STh P' W ps one g0 d) ∧ tds.length ≤ 7 + 2 * i)
        ⟨D, _, _, rfl, fun _ _ z => z, kD11, (fun d m => by
          obtain ⟨d', m', rfl⟩ := List.mem_map.mp m
          exact sth_pair (th d' m') g00 (by omega)), by rw [List.length_map]; omega⟩ (fun i σ H' _ hP => by obtain ⟨_, _, _, _, s9, _⟩ := hP; exact SqT.of (s9 _ _ e11)) (fun i x' σ H' hx' hP => ?_) (fun σ H' hP => ?_)
      · obtain ⟨Lc, tds, y13, rfl, s12, kL, hth, hlen⟩ := hP
        have hi4 : i < 4 := (List.getElem?_eq_some_iff.mp hx').1
        obtain ⟨b, hb, kb⟩ : ∃ b ∈ badSigns, ∀ G : Hp, Dq G x' b := by
          match i, hx' with
          | 0, hx' => cases hx'; exact ⟨_, .head _, fun G => .int _⟩
          | 1, hx' => cases hx'; exact ⟨_, .tail _ (.head _), fun G => .int _⟩
          | 2, hx' => cases hx'; exact ⟨_, .tail _ (.tail _ (.head _)), fun G => .bl _⟩
          | 3, hx' => cases hx'; exact ⟨_, .tail _ (.tail _ (.tail _ (.head _))), fun G => .non⟩
        obtain ⟨x0, xr, eLc, kx0⟩ : ∃ x0 xr, H' Lc = some (.lst (x0 :: xr)) ∧ Dq H' x0 (.tuple [.list (one.map PyData.int), .int g0]) := by
          cases kL with
          | lst e t =>
            cases t with
            | cons k0 t => exact ⟨_, _, e, k0⟩
        obtain ⟨qa, x00, rfl, eqa, k00⟩ : ∃ (qa : Addr) (x00 : V), x0 = .ref qa ∧ H' qa = some (.tup [x00, .int g0]) ∧ Dq H' x00 (.list (one.map PyData.int)) := by
          cases kx0 with
          | tup e t =>
            obtain ⟨w0, w1, rfl, j0, j1⟩ := two_dq t
            cases j1
            exact ⟨_, w0, rfl, e, j0⟩
        refine ⟨_, rfl, _, rfl, Lc, _, 0, .ref qa, rfl, rfl, SqL.of eLc, at_of (j := 0) rfl rfl, (ix_pr eqa).1 ⟨_, rfl, (by show 2 ≤ sizeLine; decide), fun u8 n8 => ⟨_, rfl, (by show 2 ≤ sizeLine; decide), fun u9 n9 => ⟨(by show 2 ≤ sizeLine; decide), fun u10 n10 => ?_⟩⟩⟩⟩
        have q8 := same_new (o := .lst [x00, x']) n8
        have q9 := same_new (o := .lst [.non, x']) n9
        have q10 := same_new (o := .lst [.ref u8, .ref u9]) n10
        have w8 : Dq (upd H' u8 (.lst [x00, x'])) (.ref u8) (.list [.list (one.map PyData.int), b]) := .lst upd_same (.cons (k00.same q8) (.cons (kb _) .nil))
        have w9 : Dq (upd (upd H' u8 (.lst [x00, x'])) u9 (.lst [.non, x'])) (.ref u9) (.list [.none, b]) := .lst upd_same (.cons .non (.cons (kb _) .nil))
        refine ⟨_, [.list [.list (one.map PyData.int), b], .list [.none, b]], ((kL.same q8).same q9).same q10, .lst upd_same (.cons ((w8.same q9).same q10) (.cons (w9.same q10) .nil)), by simp only [List.length_cons, List.length_nil]; omega, fun l2 H12 s13 nl2 k13 => ?_⟩
        have k13 : Dq H12 (.ref l2) (.list (PyData.tuple [.list (one.map PyData.int), .int g0] :: (tds ++ [.list [.list (one.map PyData.int), b], .list [.none, b]]))) := k13
        refine ⟨l2, tds ++ [.list [.list (one.map PyData.int), b], .list [.none, b]], _, rfl, s12.trans (((q8.trans q9).trans q10).trans s13), k13, fun d m => ?_, by simp only [List.length_append, List.length_cons, List.length_nil]; omega⟩
        rcases List.mem_append.mp m with m | m
        · exact hth d m
        · simp only [List.mem_cons, List.not_mem_nil, or_false] at m
          rcases m with rfl | rfl
          · exact sth_bad thO.ml thO.nl hb
          · exact sth_bad rfl (fun ds e => nomatch e) hb
      · obtain ⟨Lc, tds, y13, rfl, s12, kL, hth, hlen⟩ := hP
        have fx12 := fx11.same s12
        have e12 := s12 _ _ e11'
        have hlen : tds.length ≤ 15 := by
          have : [V.int 2, .int (-1), .bl true, .non].length = 4 := rfl
          omega
        refine ⟨_, rfl, _, rfl, .ref t1, tupD one, _, rfl, fx12.k1, rfl, fun l1 H13 s13 nl1 kl1 => ⟨_, rfl, u4, _, 0, .int g0, rfl, rfl, SqT.of (s13 _ _ e12), rfl, (by show 2 ≤ sizeLine; decide), fun u8 n8 => ⟨_, rfl, (by show 1 ≤ sizeLine; decide), fun u9 n9 => ⟨_, rfl, (by show 3 ≤ sizeLine; decide), fun u10 n10 => ⟨_, rfl, (by show 6 ≤ sizeLine; decide), fun u11 n11 => ?_⟩⟩⟩⟩⟩
        have q8 := same_new (o := .lst [.ref l1, .int g0]) n8
        have q9 := same_new (o := .tup [.ref t1]) n9
        have q10 := same_new (o := .tup [.ref t1, .int 0, .int 0]) n10
        have q11 := same_new (o := .lst [.ref u8, .ref u9, .ref u10, .non, .str "ab", .ref t1]) n11
        have t13 : Dq H13 (.ref t1) (tupD one) := fx12.k1.same s13
        have w8 : Dq (upd H13 u8 (.lst [.ref l1, .int g0])) (.ref u8) (.list [.list (one.map PyData.int), .int g0]) := .lst upd_same (.cons (kl1.same q8) (.cons (.int _) .nil))
        have t14 := t13.same q8
        have w9 : Dq (upd (upd H13 u8 (.lst [.ref l1, .int g0])) u9 (.tup [.ref t1])) (.ref u9) (.tuple [tupD one]) := .tup upd_same (.cons (t14.same q9) .nil)
        have t15 := t14.same q9
        have w10 : Dq (upd (upd (upd H13 u8 (.lst [.ref l1, .int g0])) u9 (.tup [.ref t1])) u10 (.tup [.ref t1, .int 0, .int 0])) (.ref u10) (.tuple [tupD one, .int 0, .int 0]) := .tup upd_same (.cons (t15.same q10) (.cons (.int _) (.cons (.int _) .nil)))
        have t16 := t15.same q10
        have w11 : Dq (upd (upd (upd (upd H13 u8 (.lst [.ref l1, .int g0])) u9 (.tup [.ref t1])) u10 (.tup [.ref t1, .int 0, .int 0])) u11 (.lst [.ref u8, .ref u9, .ref u10, .non, .str "ab", .ref t1])) (.ref u11) (.list [.list [.list (one.map PyData.int), .int g0], .tuple [tupD one], .tuple [tupD one, .int 0, .int 0], .none, .str "ab", tupD one]) :=
          .lst upd_same (.cons (((w8.same q9).same q10).same q11) (.cons ((w9.same q10).same q11) (.cons (w10.same q11) (.cons .non (.cons (.str _) (.cons (t16.same q11) .nil))))))
        have q811 := ((q8.trans q9).trans q10).trans q11
        refine ⟨_, _, (kL.same s13).same q811, w11, by simp only [List.length_cons, List.length_nil]; omega, fun Lf H14 s14 nLf kf => ?_⟩
        have all : ∀ d ∈ PyData.tuple [.list (one.map PyData.int), .int g0] :: tds ++ [.list [.list (one.map PyData.int), .int g0], .tuple [tupD one], .tuple [tupD one, .int 0, .int 0], .none, .str "ab", tupD one], STh P' W ps one g0 d := fun d m => by
          rcases List.mem_append.mp m with m | m
          · rcases List.mem_cons.mp m with rfl | m
            · exact sth_pair thO g00 (by omega)
            · exact hth d m
          · simp only [List.mem_cons, List.not_mem_nil, or_false] at m
            rcases m with rfl | rfl | rfl | rfl | rfl | rfl
            · exact sth_lpair thO g00 (by omega)
            · exact sth_no (mild_tup (by simp) fun x m => by rw [List.mem_singleton.mp m]; exact thT) fun t s e => by cases e
            · exact sth_no (mild_tup (by simp) fun x m => by
                simp only [List.mem_cons, List.not_mem_nil, or_false] at m
                rcases m with rfl | rfl | rfl
                · exact thT
                · exact mild_si (by decide) (by decide)
                · exact mild_si (by decide) (by decide)) fun t s e => by cases e
            · exact sth_no rfl fun t s e => by cases e
            · exact sth_no (by decide +kernel) fun t s e => by cases e
            · refine sth_no (mild_up 2 _ thT) fun t s e => ?_
              have := congrArg (Option.map List.length) e
              have e2 : (one.map PyData.int).length = 2 := Option.some.inj this
              rw [List.length_map] at e2
              omega
        have sH := ((s12.trans s13).trans q811).trans s14
        generalize PyData.tuple [.list (one.map PyData.int), .int g0] :: tds ++ [.list [.list (one.map PyData.int), .int g0], .tuple [tupD one], .tuple [tupD one, .int 0, .int 0], .none, .str "ab", tupD one] = alls at kf all
        have fx14 := fx11.same sH
        have a14 := a11.same sH
        have e14 := sH _ _ e11'
        have kS14 := kS11.same sH
        have k014 := k011.trans (Keep.of sH)
        clear kL hth hlen w8 w9 w10 w11 q8 q9 q10 q11 q811 t13 t14 t15 t16
        obtain ⟨xf, eLf, kf⟩ : ∃ xf, H14 Lf = some (.lst xf) ∧ DqAll H14 xf alls := by
          cases kf with
          | lst e t => exact ⟨_, e, t⟩
        refine ⟨_, rfl, Lf, rfl, ⟨_, SqL.of eLf⟩, ?_⟩
        refine for_list (xs := xf) (fun i σ H' => ∃ y14 y15 y16 y17 y18 y19 y20 y21, σ = [some (.ref h), some (.ref wt), some (.ref a), some (.ref t1), some (.ref t2), some (.int P'), some (.int W), some (.ref l), some (.int m), some v, some (.ref u4), some (.ref u5), some (.ref Lf), y13, y14, y15, y16, y17, y18, y19, y20, y21, none] ∧ Same H14 H')
          ⟨_, _, _, _, _, _, _, _, rfl, fun _ _ z => z⟩ (fun i σ H' _ hP => by obtain ⟨_, _, _, _, _, _, _, _, _, sm⟩ := hP; exact sm.seq (SqL.of eLf)) (fun i x σ H' hx hP => ?_) (fun σ H' hP => ?_)
        · obtain ⟨y14, y15, y16, y17, y18, y19, y20, y21, rfl, sm⟩ := hP
          obtain ⟨d, hd', kx0⟩ := kf.get hx
          have sth := all d (List.mem_of_getElem? hd')
          have kx := kx0.same sm
          have fx15 := fx14.same sm
          refine ⟨_, rfl, _, rfl, _, rfl, _, rfl, P', W, l, x, d, ps, rfl, wd, fx15.kl, kx, sth.ml, sth.nl, fun H16 s16 => ?_⟩
          have kx16 := kx.same s16
          refine ⟨_, rfl, x, d, rfl, kx16, sth.ml, ?_⟩
          refine ⟨(by show 2 ≤ sizeLine; decide), fun c1 m1 => ⟨_, rfl, (by show 2 ≤ sizeLine; decide), fun c2 m2 => ⟨_, rfl, (by show 2 ≤ sizeLine; decide), fun c3 m3' => ⟨(by show 3 ≤ sizeLine; decide), fun c5 m5 => ?_⟩⟩⟩⟩
          have q1 := same_new (o := .tup [.int 3, .non]) m1
          have q2 := same_new (o := .tup [.int 4, .ref u5]) m2
          have q3 := same_new (o := .tup [.int 5, .int m]) m3'
          have q5 := same_new (o := .tup [.ref c1, .ref c2, .ref c3]) m5
          have sG : Same H16 (upd (upd (upd (upd H16 c1 (.tup [.int 3, .non])) c2 (.tup [.int 4, .ref u5])) c3 (.tup [.int 5, .int m])) c5 (.tup [.ref c1, .ref c2, .ref c3])) := ((q1.trans q2).trans q3).trans q5
          have f1 := q5 _ _ (q3 _ _ (q2 _ _ (upd_same : (upd H16 c1 (.tup [.int 3, .non])) c1 = some (.tup [.int 3, .non]))))
          have f2 := q5 _ _ (q3 _ _ (upd_same : (upd (upd H16 c1 (.tup [.int 3, .non])) c2 (.tup [.int 4, .ref u5])) c2 = some (.tup [.int 4, .ref u5])))
          have f3 := q5 _ _ (upd_same : (upd (upd (upd H16 c1 (.tup [.int 3, .non])) c2 (.tup [.int 4, .ref u5])) c3 (.tup [.int 5, .int m])) c3 = some (.tup [.int 5, .int m]))
          have f5 : (upd (upd (upd (upd H16 c1 (.tup [.int 3, .non])) c2 (.tup [.int 4, .ref u5])) c3 (.tup [.int 5, .int m])) c5 (.tup [.ref c1, .ref c2, .ref c3])) c5 = some (.tup [.ref c1, .ref c2, .ref c3]) := upd_same
          generalize (upd (upd (upd (upd H16 c1 (.tup [.int 3, .non])) c2 (.tup [.int 4, .ref u5])) c3 (.tup [.int 5, .int m])) c5 (.tup [.ref c1, .ref c2, .ref c3])) = G at sG f1 f2 f3 f5
          clear q1 q2 q3 q5 m1 m2 m3' m5
          have s5G : Same H14 G := (sm.trans s16).trans sG
          have kxG := kx16.same sG
          have fxG := fx14.same s5G
          have aG := a14.same s5G
          have eG := s5G _ _ e14
          have kSG := kS14.same s5G
          have isone : sayW P' W ps d = none → IsS P' W ps d one g0 := fun z => by
            obtain ⟨ns, s, hn⟩ := isS_of z
            obtain ⟨r1, r2⟩ := sth.tr ns s hn
            subst r1
            subst r2
            exact hn
          have smlS : ∀ w : Int, ∀ ns s, IsS P' W ps d ns s → ∀ z ∈ ns, Sml z := fun _ ns s hn z hz => by
            rw [(sth.tr ns s hn).1] at hz
            exact tid_sml (b1 z hz)
          have smlS : ∀ {w : Int}, w = w → ∀ ns s, IsS P' W ps d ns s → ∀ z ∈ ns, Sml z := fun {w} _ => smlS w
          have i2 : IsS P' W ps (sayD two g1) two g1 := isS_sayD tr2 g10 (by omega)
          refine ⟨c5, rfl, ⟨_, SqT.of f5⟩, ?_⟩
          refine for_tup (xs := [.ref c1, .ref c2, .ref c3]) (fun i σ H' => ∃ y17 y18 y19 y20 y21, σ = [some (.ref h), some (.ref wt), some (.ref a), some (.ref t1), some (.ref t2), some (.int P'), some (.int W), some (.ref l), some (.int m), some v, some (.ref u4), some (.ref u5), some (.ref Lf), y13, some x, some (wordV (sayW P' W ps d)), some (.str d.shown), y17, y18, y19, y20, y21, none] ∧ Same G H')
            ⟨_, _, _, _, _, rfl, fun _ _ z => z⟩ (fun i σ H' _ hP => by obtain ⟨_, _, _, _, _, _, s9⟩ := hP; exact SqT.of (s9 _ _ f5)) (fun i x' σ H' hx' hP => ?_) (fun σ H' hP => ?_)
          · obtain ⟨y17, y18, y19, y20, y21, rfl, s9⟩ := hP
            obtain ⟨c, way, y, d2, rfl, ec, ky, cs⟩ : ∃ (c : Addr) (way : Int) (y : V) (d2 : PyData), x' = .ref c ∧ G c = some (.tup [.int way, y]) ∧ Dq G y d2 ∧ ((way = 3 ∧ d2 = .none) ∨ (way = 4 ∧ d2 = sayD two g1) ∨ (way = 5 ∧ d2 = .int m)) := by
              match i, hx' with
              | 0, hx' => cases hx'; exact ⟨c1, _, _, _, rfl, f1, .non, .inl ⟨rfl, rfl⟩⟩
              | 1, hx' => cases hx'; exact ⟨c2, _, _, _, rfl, f2, kSG, .inr (.inl ⟨rfl, rfl⟩)⟩
              | 2, hx' => cases hx'; exact ⟨c3, _, _, _, rfl, f3, .int _, .inr (.inr ⟨rfl, rfl⟩)⟩
            have fx9' := fxG.same s9
            have kx9 := kxG.same s9
            refine ⟨c, _, rfl, SqT.of (s9 _ _ ec), rfl, _, _, rfl, _, _, rfl, rfl, ?_⟩
            refine ⟨_, rfl, _, rfl, _, rfl, _, rfl, way, a, x, y, d, d2, P', W, ps, rfl, fx9'.pic, kx9, ky.same s9, by omega, by omega, (fun z => by omega), (fun _ => smlS (w := 0) rfl), fun _ m' em' => ?_, fun H11 v2 r2 s11 an kv => ?_⟩
            · rcases cs with ⟨_, z⟩ | ⟨_, z⟩ | ⟨_, z⟩
              · rw [z] at em'; cases em'
              · rw [z] at em'; cases em'
              · rw [z] at em'; cases em'; exact tid_sml hm
            · have s91 := s9.trans s11
              refine ⟨_, rfl, rfl, _, rfl, ?_⟩
              cases tw : sayW P' W ps d with
              | some e =>
                rw [word_some]
                have er := ans_badS tw (by omega) an
                subst er
                refine iteT ⟨_, rfl, _, rfl, (by show 2 ≤ sizeLine; decide), fun u8 n8 => ?_⟩
                have s12 := same_new (o := .tup [.str "saying", .str e]) n8
                refine ⟨_, tagD "saying" (.str e), (kv.same s12).dp, (Dq.tup upd_same (.cons (.str _) (.cons (.str _) .nil)) : Dq (upd H11 u8 (.tup [.str "saying", .str e])) (.ref u8) (tagD "saying" (.str e))).dp, shp_tag (.inr rfl) (say_wrd tw), shp_tag (.inr rfl) (say_wrd tw), _, rfl, ?_⟩
                rw [eqv_tag]
                exact iteF ⟨_, _, _, _, _, rfl, s91.trans s12⟩
              | none =>
                rw [word_none']
                refine iteF ?_
                have it := isone tw
                have fx11 := fx9'.same s11
                have e11 := s91 _ _ eG
                have kS11 := kSG.same s91
                refine ⟨_, rfl, _, rfl, u4, _, 0, .int g0, rfl, rfl, SqT.of e11, rfl, (by show 2 ≤ sizeLine; decide), fun w1 j1 => ?_⟩
                have p1 := same_new (o := .tup [.ref t1, .int g0]) j1
                have R0 : Dq (upd H11 w1 (.tup [.ref t1, .int g0])) (.ref w1) (sayD one g0) := sayT upd_same (fx11.k1.same p1)
                have fxa := fx11.same p1
                have ea := p1 _ _ e11
                have kSa := kS11.same p1
                generalize upd H11 w1 (.tup [.ref t1, .int g0]) = Ha at p1 R0 fxa ea kSa
                refine ⟨_, rfl, _, rfl, u4, _, 0, .int g0, rfl, rfl, SqT.of ea, rfl, (by show 2 ≤ sizeLine; decide), fun w2 j2 => ?_⟩
                have p2 := same_new (o := .tup [.ref t1, .int g0]) j2
                have R0' : Dq (upd Ha w2 (.tup [.ref t1, .int g0])) (.ref w2) (sayD one g0) := sayT upd_same (fxa.k1.same p2)
                refine ⟨_, rfl, .ref w2, .ref u5, one, two, g0, g1, rfl, R0', kSa.same p2, by omega, by omega, fun l3 Hb p3 R1 => ?_⟩
                have pab := p2.trans p3
                have fxb := fxa.same pab
                have eb := pab _ _ ea
                refine ⟨_, rfl, _, rfl, u4, _, 0, .int g0, rfl, rfl, SqT.of eb, rfl, (by show 2 ≤ sizeLine; decide), fun w3 j3 => ?_⟩
                have p4 := same_new (o := .tup [.ref t1, .int g0]) j3
                have R0'' : Dq (upd Hb w3 (.tup [.ref t1, .int g0])) (.ref w3) (sayD one g0) := sayT upd_same (fxb.k1.same p4)
                refine ⟨_, rfl, .ref w3, one, g0, m, rfl, R0'', by omega, (fun z hz => tid_sml (b1 z hz)), tid_sml hm, tid_sml ⟨by omega, by omega⟩, fun l4 Hc p5 R2 => ?_⟩
                refine ⟨(by show 3 ≤ sizeLine; decide), fun u8 n8 => ?_⟩
                have p6 := same_new (o := .tup [.ref w1, .ref l3, .ref l4]) n8
                have pbc := (p4.trans p5).trans p6
                have kR0 := (R0.same pab).same pbc
                have kR1 := R1.same pbc
                have kR2 := R2.same p6
                have eR : (upd Hc u8 (.tup [.ref w1, .ref l3, .ref l4])) u8 = some (.tup [.ref w1, .ref l3, .ref l4]) := upd_same
                have sF := s91.trans ((p1.trans pab).trans pbc)
                have kv2 := kv.same ((p1.trans pab).trans pbc)
                generalize upd Hc u8 (.tup [.ref w1, .ref l3, .ref l4]) = HF at kR0 kR1 kR2 eR sF kv2
                have lAdd : (addL one two).length ≤ 40 := by
                  unfold addL
                  rw [List.length_map, List.length_range]
                  omega
                have lMul : (mulL one m).length ≤ 40 := by
                  unfold mulL
                  rw [List.length_map, List.length_range]
                  omega
                have uniqS : ∀ {d : PyData} {ns ms : List Int} {s s' : Int}, IsS P' W ps d ns s → IsS P' W ps d ms s' → ms = ns ∧ s' = s := fun {d ns ms s s'} h h' => by
                  obtain ⟨⟨t, e1, i1⟩, _, _⟩ := h
                  obtain ⟨⟨t', e2, i2⟩, _, _⟩ := h'
                  rw [e1] at e2
                  cases e2
                  exact ⟨IsT.uniq i1 i2, rfl⟩
                have key : ∃ (Lr : List Int) (sr : Int) (vr : V), r2 = tagD "let" (sayD Lr sr) ∧ atI [V.ref w1, V.ref l3, V.ref l4] (way - 3) = some vr ∧ Dq HF vr (sayD Lr sr) ∧ Lr.length ≤ 40 := by
                  rcases cs with ⟨rfl, rfl⟩ | ⟨rfl, rfl⟩ | ⟨rfl, rfl⟩
                  · refine ⟨one, g0, _, ?_, rfl, kR0, by omega⟩
                    cases an with
                    | s3e h => rw [h] at tw; cases tw
                    | s3 h =>
                      obtain ⟨rfl, rfl⟩ := uniqS it h
                      rfl
                  · refine ⟨addL one two, (g0 + g1) % 2, _, ?_, rfl, kR1, lAdd⟩
                    cases an with
                    | s4e h => rw [h] at tw; cases tw
                    | s4f _ h => rw [i2.none] at h; cases h
                    | s4 h h' =>
                      obtain ⟨rfl, rfl⟩ := uniqS it h
                      obtain ⟨rfl, rfl⟩ := uniqS i2 h'
                      rfl
                  · refine ⟨mulL one m, g0 * m % 2, _, ?_, rfl, kR2, lMul⟩
                    cases an with
                    | s5e h => rw [h] at tw; cases tw
                    | s5w _ h => cases h
                    | s5 h h' =>
                      cases h'
                      obtain ⟨rfl, rfl⟩ := uniqS it h
                      rfl
                obtain ⟨Lr, sr, vr, rfl, at3, kr, lr⟩ := key
                obtain ⟨cv, yv, rfl, ecv, kyv⟩ := dq_tag kv2
                refine ⟨_, rfl, (ix_pr ecv).1 ⟨rfl, _, rfl, ?_⟩⟩
                rw [decide_eq_true rfl]
                refine iteF ⟨_, rfl, (ix_pr ecv).2 ⟨_, rfl, _, rfl, _, _, rfl, rfl, u8, _, way - 3, vr, rfl, rfl, SqT.of eR, at3, yv, vr, Lr, sr, rfl, kyv, kr, lr, fun H16 s16 => ⟨_, rfl, ?_⟩⟩⟩
                exact iteF ⟨_, _, _, _, _, rfl, sF.trans s16⟩
          · obtain ⟨y17, y18, y19, y20, y21, rfl, s9⟩ := hP
            have fx9' := fxG.same s9
            have kx9 := kxG.same s9
            have s59 := s5G.trans s9
            refine ⟨_, rfl, _, rfl, _, rfl, 4, a, .ref u5, x, sayD two g1, d, P', W, ps, rfl, fx9'.pic, kSG.same s9, kx9, by omega, by omega, (fun z => by omega), (fun z => by omega), (fun z => by omega), fun H12 v2 r2 s12 an kv => ?_⟩
            have s912 := s12
            have fx12 := fx9'.same s12
            have kx12 := kx9.same s12
            have a12 := (aG.same s9).same s12
            have smlS : (5 : Int) = 5 → ∀ ns s, IsS P' W ps d ns s → ∀ z ∈ ns, Sml z := smlS
            cases tw : sayW P' W ps d with
            | none =>
              have wn : decide (wordV none = V.non) = true := by simp [wordV]
              obtain ⟨z, er2⟩ : ∃ z, r2 = tagD "let" z := by
                cases an with
                | s4e h => rw [i2.none] at h; cases h
                | s4f _ h => rw [tw] at h; cases h
                | s4 _ _ => exact ⟨_, rfl⟩
              subst er2
              · skip
                obtain ⟨cv, yv, rfl, ecv, kyv⟩ := dq_tag kv
                refine ⟨_, rfl, (ix_pr ecv).1 ⟨_, rfl, rfl, _, rfl, ?_⟩⟩
                rw [wn]
                refine iteT ⟨rfl, _, rfl, ?_⟩
                rw [decide_eq_true rfl]
                refine iteF ⟨_, rfl, x, d, rfl, kx12, sth.ml, _, rfl, rfl, _, rfl, ?_⟩
                rw [decide_eq_true rfl]
                refine iteF ?_
                refine ⟨_, rfl, _, rfl, _, rfl, 5, a, x, v, d, o, P', W, ps, rfl, fx12.pic, kx12, a12, by omega, by omega, (fun z => by omega), smlS, (fun _ m' em' => by rw [em'] at oi; cases oi), fun H13 v3 r3 s13 an3 kv3 => ?_⟩
                have er3 : r3 = wholeT := by
                  cases an3 with
                  | s5e h => rw [tw] at h; cases h
                  | s5w _ _ => rfl
                  | s5 _ h' => rw [h'] at oi; cases oi
                subst er3
                refine ⟨_, rfl, rfl, _, rfl, ?_⟩
                rw [wn]
                refine iteT ⟨(by show 1 ≤ sizeLine; decide), fun u15 n15 => ?_⟩
                have s14 := same_new (o := .tup [.str "whole"]) n15
                refine ⟨_, wholeT, (kv3.same s14).dp, (Dq.tup upd_same (.cons (.str _) .nil) : Dq (upd H13 u15 (.tup [.str "whole"])) (.ref u15) wholeT).dp, shp_whole, shp_whole, _, rfl, ?_⟩
                rw [eqv_whole]
                have sU : Same H12 (upd H13 u15 (.tup [.str "whole"])) := s13.trans s14
                generalize upd H13 u15 (.tup [.str "whole"]) = HU at sU
                refine iteF ?_
                have fxU := fx12.same sU
                have kxU := kx12.same sU
                refine ⟨_, rfl, _, rfl, _, rfl, (by show 2 ≤ sizeLine; decide), fun u16 n16 => ?_⟩
                have s16 := same_new (o := .tup [.ref t2, .int 2]) n16
                have k16 := Dq.tup (upd_same (a := u16) (o := .tup [.ref t2, .int 2])) (.cons (fxU.k2.same s16) (.cons (.int 2) .nil))
                refine ⟨4, a, x, .ref u16, d, .tuple [tupD two, .int 2], P', W, ps, rfl, (fxU.same s16).pic, kxU.same s16, k16, by omega, by omega, (fun z => by omega), (fun z => by omega), (fun z => by omega), fun H17 v4 r4 s17 an4 kv4 => ?_⟩
                have sV := (s912.trans sU).trans (s16.trans s17)
                refine ⟨_, rfl, rfl, _, rfl, ?_⟩
                rw [wn]
                have isg : sayW P' W ps (.tuple [tupD two, .int 2]) = some "sign" := by
                  have it2 : tourW P' W ps (tupD two) = none := IsT.none (ns := two) ⟨rfl, tr2⟩
                  unfold sayW
                  simp only [itemsD]
                  rw [it2]
                  rfl
                have er4 : r4 = tagD "saying" (.str "sign") := by
                  cases an4 with
                  | s4e h => rw [tw] at h; cases h
                  | s4f _ h => rw [isg] at h; cases h; rfl
                  | s4 _ h => rw [h.none] at isg; cases isg
                subst er4
                refine iteT ⟨(by show 2 ≤ sizeLine; decide), fun u18 n18 => ?_⟩
                have s18 := same_new (o := .tup [.str "saying", .str "sign"]) n18
                refine ⟨_, tagD "saying" (.str "sign"), (kv4.same s18).dp, (Dq.tup upd_same (.cons (.str _) (.cons (.str _) .nil)) : Dq (upd H17 u18 (.tup [.str "saying", .str "sign"])) (.ref u18) (tagD "saying" (.str "sign"))).dp, shp_tag (.inr rfl) (.inr (.inr (.inr (.inr (.inr (.inr rfl)))))), shp_tag (.inr rfl) (.inr (.inr (.inr (.inr (.inr (.inr rfl)))))), _, rfl, ?_⟩
                rw [eqv_tag]
                exact iteF ⟨_, _, _, _, _, _, _, _, rfl, s59.trans (sV.trans s18)⟩
            | some e =>
              have wn : decide (wordV (some e) = V.non) = false := by simp [wordV]
              obtain ⟨z, er2⟩ : ∃ z, r2 = tagD "saying" z := by
                cases an with
                | s4e h => rw [i2.none] at h; cases h
                | s4f _ h => exact ⟨_, rfl⟩
                | s4 _ h => rw [h.none] at tw; cases tw
              subst er2
              · skip
                obtain ⟨cv, yv, rfl, ecv, kyv⟩ := dq_tag kv
                refine ⟨_, rfl, (ix_pr ecv).1 ⟨_, rfl, rfl, _, rfl, ?_⟩⟩
                rw [wn]
                refine iteF ⟨rfl, _, rfl, ?_⟩
                rw [decide_eq_true rfl]
                refine iteF ⟨_, rfl, x, d, rfl, kx12, sth.ml, _, rfl, rfl, _, rfl, ?_⟩
                rw [decide_eq_true rfl]
                refine iteF ?_
                refine ⟨_, rfl, _, rfl, _, rfl, 5, a, x, v, d, o, P', W, ps, rfl, fx12.pic, kx12, a12, by omega, by omega, (fun z => by omega), smlS, (fun _ m' em' => by rw [em'] at oi; cases oi), fun H13 v3 r3 s13 an3 kv3 => ?_⟩
                have er3 := ans_badS tw (by omega) an3
                subst er3
                refine ⟨_, rfl, rfl, _, rfl, ?_⟩
                rw [wn]
                refine iteF ⟨_, rfl, (by show 2 ≤ sizeLine; decide), fun u15 n15 => ?_⟩
                have s14 := same_new (o := .tup [.str "saying", .str e]) n15
                refine ⟨_, tagD "saying" (.str e), (kv3.same s14).dp, (Dq.tup upd_same (.cons (.str _) (.cons (.str _) .nil)) : Dq (upd H13 u15 (.tup [.str "saying", .str e])) (.ref u15) (tagD "saying" (.str e))).dp, shp_tag (.inr rfl) (say_wrd tw), shp_tag (.inr rfl) (say_wrd tw), _, rfl, ?_⟩
                rw [eqv_tag]
                have sU : Same H12 (upd H13 u15 (.tup [.str "saying", .str e])) := s13.trans s14
                change (if (!true) = true then _ else _)
                refine iteF ?_
                have fxU := fx12.same sU
                have kxU := kx12.same sU
                refine ⟨_, rfl, _, rfl, _, rfl, (by show 2 ≤ sizeLine; decide), fun u16 n16 => ?_⟩
                have s16 := same_new (o := .tup [.ref t2, .int 2]) n16
                have k16 := Dq.tup (upd_same (a := u16) (o := .tup [.ref t2, .int 2])) (.cons (fxU.k2.same s16) (.cons (.int 2) .nil))
                refine ⟨4, a, x, .ref u16, d, .tuple [tupD two, .int 2], P', W, ps, rfl, (fxU.same s16).pic, kxU.same s16, k16, by omega, by omega, (fun z => by omega), (fun z => by omega), (fun z => by omega), fun H17 v4 r4 s17 an4 kv4 => ?_⟩
                have sV := (s912.trans sU).trans (s16.trans s17)
                refine ⟨_, rfl, rfl, _, rfl, ?_⟩
                rw [wn]
                have er4 := ans_badS tw (by omega) an4
                subst er4
                refine iteF ⟨_, rfl, (by show 2 ≤ sizeLine; decide), fun u18 n18 => ?_⟩
                have s18 := same_new (o := .tup [.str "saying", .str e]) n18
                refine ⟨_, tagD "saying" (.str e), (kv4.same s18).dp, (Dq.tup upd_same (.cons (.str _) (.cons (.str _) .nil)) : Dq (upd H17 u18 (.tup [.str "saying", .str e])) (.ref u18) (tagD "saying" (.str e))).dp, shp_tag (.inr rfl) (say_wrd tw), shp_tag (.inr rfl) (say_wrd tw), _, rfl, ?_⟩
                rw [eqv_tag]
                exact iteF ⟨_, _, _, _, _, _, _, _, rfl, s59.trans (sV.trans s18)⟩
        · obtain ⟨y14, y15, y16, y17, y18, y19, y20, y21, rfl, sm⟩ := hP
          have fx15 := fx14.same sm
          refine ⟨_, rfl, a, P', W, ps, rfl, fx15.pic, by omega, fun l2 H16 s16 kz => ⟨(by show 1 ≤ sizeLine; decide), fun l3 n3 => ?_⟩⟩
          have s17 := same_new (o := .lst [.int 0]) n3
          have fx17 := (fx15.same s16).same s17
          obtain ⟨fl, efl, _, lfl⟩ := lst_prs fx17.kl
          refine ⟨_, rfl, l, fl, rfl, .inl (SqL.of efl), l3, _, [.int 0], rfl, rfl, upd_same, by omega, by omega, (by show 1 * (fl.length : Int).toNat ≤ sizeLine; exact Nat.le_of_lt (small1000 (by omega))), fun l4 n4 => ?_⟩
          have s18 := same_new (o := .lst (List.replicate (fl.length : Int).toNat [V.int 0]).flatten) n4
          refine ⟨.ref l4, .list ((List.replicate ps.length (0 : Int)).map PyData.int), _, rfl, .lst (xs := (List.replicate ps.length (0 : Int)).map V.int) ?_ (dq_intl _), rfl, fun l5 H19 s19 k19 => ⟨(by show 2 ≤ sizeLine; decide), fun u20 n20 => ?_⟩⟩
          · rw [upd_same, List.flatten_replicate_singleton, List.map_replicate, show ((fl.length : Int)).toNat = ps.length by omega]
          · have s20 := same_new (o := .tup [.ref l5, .int 1]) n20
            have sZ := (((s17.trans s18).trans s19).trans s20)
            refine ⟨.ref l2, .ref u20, List.replicate ps.length (0 : Int), 1, rfl, kz.same sZ, sayT upd_same (k19.same s20), by rw [List.length_replicate]; omega, fun H21 s21 => ?_⟩
            exact q _ (k014.trans (Keep.of ((sm.trans s16).trans (sZ.trans s21)))) (fx15.hd.same ((s16.trans sZ).trans s21))
end
end K01
set_option Elab.async false
set_option linter.all false
set_option maxRecDepth 100000
set_option maxHeartbeats 4000000
set_option exponentiation.threshold 5000
set_option pp.maxSteps 600
namespace K01
open PySem PySem.Spec PyProof.Rows L2 TkS
theorem eqv_pr' (p : Int × Int) : PyData.eqv (prD p) (prD p) = true := by
  simp [prD, PyData.eqv, PyData.eqvAll]
theorem lst_of {H : Hp} {l : Addr} {ds : List PyData} (k : Dq H (.ref l) (.list ds)) : ∃ xs, H l = some (.lst xs) ∧ DqAll H xs ds := by
  cases k with
  | lst e1 e2 => exact ⟨_, e1, e2⟩
theorem noL_prs (qs : List (Int × Int)) : noLists (qs.map prD) = true := by
  induction qs with
  | nil => rfl
  | cons p qs ih => exact ih
/-- the first pair that is told as lacking, among the first i -/
def Lacks (qs ps : List (Int × Int)) (ns : List Int) (H : Hp) (i : Nat) (y : V) : Prop :=
  (y = .non ∧ Open1 qs ps ns i) ∨ ∃ (j : Nat) (p : Int × Int) (n : Int) (tt : Addr), j < i ∧ ps[j]? = some p ∧ ns[j]? = some n ∧ n ≠ 0 ∧ p ∉ qs ∧ Open1 qs ps ns j ∧ y = .ref tt ∧ Dq H (.ref tt) (prD p)
theorem Lacks.all {qs ps : List (Int × Int)} {ns : List Int} {H : Hp} {y : V} (h : Lacks qs ps ns H ps.length y) (op : Open1 qs ps ns ps.length) : y = .non := by
  rcases h with ⟨e, _⟩ | ⟨j, p, n, tt, hj, hp, hn, nz, np, _⟩
  · exact e
  · exact absurd (op j p n hj hp hn nz) np
theorem Lacks.one {qs ps : List (Int × Int)} {ns : List Int} {H : Hp} {y : V} {i : Nat} {p : Int × Int} {n : Int} (h : Lacks qs ps ns H ps.length y) (op : Open1 qs ps ns i) (hp : ps[i]? = some p) (hn : ns[i]? = some n) (nz : n ≠ 0) (np : p ∉ qs) : ∃ tt, y = .ref tt ∧ Dq H (.ref tt) (prD p) := by
  have li := (List.getElem?_eq_some_iff.mp hp).1
  rcases h with ⟨_, o⟩ | ⟨j, p', n', tt, hj, hp', hn', nz', np', o, e, k⟩
  · exact absurd (o i p n li hp hn nz) np
  · rcases Nat.lt_trichotomy i j with c | c | c
    · exact absurd (o i p n c hp hn nz) np
    · subst c
      rw [hp] at hp'
      cases hp'
      exact ⟨tt, e, k⟩
    · exact absurd (op j p' n' c hp' hn' nz') np'
def sp_law_led (C : Addr) : Sp := fun vs H Q _ => ∃ (h wt l a t : Addr) (P W : Int) (ps : List (Int × Int)) (one : List Int), vs = [.ref h, .ref wt, .ref a, .ref t] ∧ Fx C h wt l a t t P W ps one one H ∧ Wd P W ps ∧ Tour P W ps one ∧
  ∀ H', Keep h H H' → Hand H' h → Q (.bl true) H'
def ledN : List Str := ["_law_hand_here", "_law_world", "_law_picture_here", "_law_tour", "_law_points", "_law_shuts", "_law_pairs", "_law_high", "_law_gone", "_law_pair", "_law_here", "_law_other", "_law_due", "_law_lacks", "_law_number", "_law_told", "_law_word", "e"]
section
variable {P : Program} {w : World} {K : PySem.W.Frag} {mg : Str → Option Value} {base : Heap}
theorem ok_law_led (T : Txt K mg) : FnOk P w K mg base CX0 9 T.f_law_led T.d_law_led ["_law_hand_here", "_law_world", "_law_picture_here", "_law_tour"] (sp_law_led T.C_Picture) := by
  refine T.F_law_led.ok sc_law_led (fun vs H Q E h => ?_) (fun cdv A outer s H vs Q E hr h => ?_)
  · obtain ⟨h, wt, l, a, t, P', W, ps, one, rfl, _⟩ := h
    rfl
  · obtain ⟨h, wt, l, a, t, P', W, ps, one, rfl, fx, wd, tr, q⟩ := h
    have hu := hu65 hr
    refine ⟨_, (pss_cons (ps_asg (pv 1) (pg_tup rfl (pgs_cons (pg_name (i := 4) sc_law_led.nd rfl (.inl rfl)) (pgs_cons (pg_name (i := 5) sc_law_led.nd rfl (.inl rfl)) (pgs_cons (pg_name (i := 6) sc_law_led.nd rfl (.inr rfl)) pgs_nil)))))
      (Evl.pss_cut (ps_set (i := 7) sc_law_led.nd rfl (.inl rfl) (pe_ifExp (PW.pt (pw_and (pt_cmpR op_lt (pv 4) pe_int (nomark _)) (pw_and1 (pt_cmpR op_eq (pe_call (ok_law_take T) (hr.mono (by decide)) (by rfl) T.g_law_take T.F_law_take.kp T.b_law_take .nil pass0 (pa_cons (pv 0) (pa_cons pe_int pa_nil))) pe_int (nomark _))))) (pe_op op_add (pv 4) pe_int) (pv 4)))
      (Evl.pss_cut (ps_set (i := 8) sc_law_led.nd rfl (.inr rfl) (pe_ifExp (PW.pt (pw_and (pt_truth (pv 6) (by intro _; rfl)) (pw_and1 (pt_cmpR op_gt (pe_call (ok_law_take T) (hr.mono (by decide)) (by rfl) T.g_law_take T.F_law_take.kp T.b_law_take .nil pass0 (pa_cons (pv 0) (pa_cons pe_int pa_nil))) pe_int (nomark _))))) (pe_lst (pa_cons (pe_ix ix_list (pv 6) (pe_call (ok_law_take T) (hr.mono (by decide)) (by rfl) T.g_law_take T.F_law_take.kp T.b_law_take .nil pass0 (pa_cons (pv 0) (pa_cons (pe_callB call_len_seq (by rfl) T.m_len (by decide +kernel) (pa_cons (pv 6) pa_nil)) pa_nil))) (fun _ _ => rfl)) pa_nil)) (pe_lst pa_nil)))
      (pss_cons (ps_setLc (i := 10) rfl sc_law_led.nd rfl rfl (sw_true rfl rfl rfl (by decide +kernel)) (pi_list (pe_call (ok_law_full T) (hr.mono (by decide)) (by rfl) T.g_law_full T.F_law_full.kp T.b_law_full .nil pass0 (pa_cons (pv 7) (pa_cons (pv 5) pa_nil)))) (blkOk_by (own := [("_law_pair", 9)]) (N := ledN) (sc := defScope s_law_led) (by decide +kernel)) (fun _ _ _ _ _ => (pg_name (i := 9) sc_law_led.nd rfl (.inl rfl))) (fun _ _ _ _ _ => (pts_one (PW.pt (pw_and (pt_cmpR (show OpR _ (compareOp .NotIn) (rNotInD K) from op_notInD hu) (pv 9) (pv 8) rfl) (pw_and1 (PW.pt (pw_or (pt_cmpR (show OpR _ (compareOp .In) (rInD K) from op_inD hu) (pv 9) (pv 6) rfl) (pw_or1 (pt_cmpR op_eq (pe_call (ok_law_take T) (hr.mono (by decide)) (by rfl) T.g_law_take T.F_law_take.kp T.b_law_take .nil pass0 (pa_cons (pv 0) (pa_cons pe_int pa_nil))) pe_int (nomark _)))))))))) (fun _ _ _ _ _ => (pv 9)))
      (pss_cons (ps_set (i := 11) sc_law_led.nd rfl (.inl rfl) (pe_make T.M_Picture (ok_Picture_init T) (hr.mono (by decide)) (by rfl) T.g_Picture T.b_Picture_init .nil passL (pa_cons (pv 7) (pa_cons (pv 5) (pa_cons (pv 10) pa_nil)))))
      (pss_cons (ps_set (i := 12) sc_law_led.nd rfl (.inl rfl) (pe_op op_rep (pe_lst (pa_cons pe_int pa_nil)) (pe_callB call_len_seq (by rfl) T.m_len (by decide +kernel) (pa_cons (pv 10) pa_nil))))
      (pss_cons (ps_set (i := 13) sc_law_led.nd rfl (.inl rfl) pe_non)
      (Evl.pss_cut (ps_for PassesOwn.never rfl (RZM.pi_zipS (by rfl) T.m_zip (pa_cons (pv 6) (pa_cons (pv 3) pa_nil))) (pg_tup rfl (pgs_cons (pg_name (i := 9) sc_law_led.nd rfl (.inl rfl)) (pgs_cons (pg_name (i := 14) sc_law_led.nd rfl (.inl rfl)) pgs_nil)))
        (Evl.pss_cut (ps_if (PW.pt (pw_and (pt_cmpR op_ne (pv 14) pe_int (nomark _)) (pw_and (pt_cmpR (op_notInD hu) (pv 9) (pv 10) rfl) (pw_and1 (pt_cmpR op_isN (pv 13) pe_non (nomark _))))))
          (pss_one (ps_set (i := 13) sc_law_led.nd rfl (.inl rfl) (pv 9)))
          pss_nil)
        (pss_one (ps_if (pt_cmpR (op_inD hu) (pv 9) (pv 10) rfl)
          (pss_one (ps_asg (pv 14) (pg_sub (pv 12) (pe_bm PySem.F.plainAttrs_list PySem.F.slot_list_index PySem.F.type_list_index (mt_indexD hu) (pv 10) (pa_cons (pv 9) pa_nil)) set_list)))
          pss_nil))))
      (pss_cons (ps_set (i := 15) sc_law_led.nd rfl (.inl rfl) pe_non)
      (pss_cons (ps_set (i := 16) sc_law_led.nd rfl (.inl rfl) pe_non)
      (pss_cons (ps_try_as (i := 17) (Wout := fun _ _ _ _ => False) rfl rfl sc_law_led.nd rfl rfl ⟨rfl, by decide, Or.inl T.g_NotOpen⟩ takes0
        (fun W pn xe tk _ => pss_one (ps_set (i := 15) sc_law_led.nd rfl (.inl rfl) (pe_callSD (ok_led_tour T) (hr.mono (by decide)) (by rfl) T.g_led_tour T.F_led_tour.kp T.b_led_tour .nil (fun σ => passAt tk σ) (pa_cons (pv 2) (pa_cons (pv 11) (pa_cons (pe_callTy call_listD (by rfl) T.m_list (by decide +kernel) (pa_cons (pv 3) pa_nil)) pa_nil))))))
        (fun a oe cls d pn hz hf => pss_one (ps_set (i := 16) sc_law_led.nd rfl (.inl rfl) (pe_ifExp (pt_val (pe_callB (call_isD T.e_NotOpen hz hf) (by rfl) T.m_isinstance (by decide +kernel) (pa_cons (pv 17) (pa_cons (pe_glob (v := .ref T.C_SheetError) rfl T.g_SheetError rfl) pa_nil)))) (pe_xf T.x_NotOpen T.n_NotOpen hz hf (pv 17)) pe_str))))
      (pss_cons (ps_if (pt_cmpR op_notN (pv 13) pe_non (nomark _))
        (pss_one (ps_ret (pe_cmpR (op_eqD hr.units) (pv 16) (pv 13) (nomark _))))
        pss_nil)
      (pss_one (ps_ret (pe_and (pe_cmpR op_isN (pv 16) pe_non (nomark _)) (pe_one (pe_call (ok_law_tuple T) (hr.mono (by decide)) (by rfl) T.g_law_tuple T.F_law_tuple.kp T.b_law_tuple .nil pass0 (pa_cons (pv 15) (pa_cons (pv 12) pa_nil))))))))))))))))))), ?_⟩
    have p0 := wd.p0
    have p1 := wd.p1
    have w0 := wd.w0
    have w1 := wd.w1
    have lo := tr.len
    have l16 := wd.len25
    have l4 := wd.len
    refine ⟨_, rfl, wt, _, rfl, SqT.of fx.w, rfl, _, _, rfl, _, _, rfl, _, _, rfl, rfl, ?_⟩
    refine ⟨fun σ' G => ∃ hi : Int, σ' = [some (.ref h), some (.ref wt), some (.ref a), some (.ref t), some (.int P'), some (.int W), some (.ref l), some (.int hi), none, none, none, none, none, none, none, none, none, none] ∧ Keep h H G ∧ Hand G h ∧ P' ≤ hi ∧ hi ≤ 5, ?_, fun σ1 H1 hM => ?_⟩
    · refine ⟨_, rfl, _, _, rfl, rfl, _, rfl, ?_⟩
      rw [decide_eq_true (by omega : P' < 5)]
      refine iteT ⟨_, rfl, h, 2, rfl, fx.hd, by decide, by decide, fun H2 r k2 hd2 r0 r1 => ⟨rfl, _, rfl, ?_⟩⟩
      rw [int_dec]
      by_cases c : r = 0
      · rw [decide_eq_true c]
        exact iteT ⟨_, rfl, _, _, rfl, rfl, _, rfl, k2, hd2, by omega, by omega⟩
      · rw [decide_eq_false c]
        exact iteF ⟨_, rfl, _, rfl, k2, hd2, by omega, by omega⟩
    obtain ⟨hi, rfl, k1, hd1, hi0, hi1⟩ := hM
    have fx1 := fx.keep k1 hd1
    refine ⟨fun σ' G => ∃ (g : Addr) (gs : List (Int × Int)), σ' = [some (.ref h), some (.ref wt), some (.ref a), some (.ref t), some (.int P'), some (.int W), some (.ref l), some (.int hi), some (.ref g), none, none, none, none, none, none, none, none, none] ∧ Keep h H1 G ∧ Hand G h ∧ Dq G (.ref g) (.list (gs.map prD)), ?_, fun σ2 H2 hM => ?_⟩
    · obtain ⟨xsl, el, dl⟩ := lst_of fx1.kl
      have ll := dl.len
      rw [List.length_map] at ll
      refine ⟨_, rfl, true, .inl ⟨xsl, SqL.of el, ?_⟩, ?_⟩
      · cases xsl with
        | nil => simp at ll; omega
        | cons x xs => rfl
      refine iteT ⟨_, rfl, h, 3, rfl, hd1, by decide, by decide, fun H2 r k2 hd2 r0 r1 => ⟨_, _, rfl, rfl, _, rfl, ?_⟩⟩
      refine ite2 (fun c => ?_) (fun c => ?_)
      · have fx2 := fx1.keep k2 hd2
        obtain ⟨xs2, el2, dl2⟩ := lst_of fx2.kl
        have ll2 := dl2.len
        rw [List.length_map] at ll2
        refine ⟨_, rfl, _, rfl, _, rfl, l, xs2, rfl, .inl (SqL.of el2), h, _, rfl, hd2, by omega, by omega, fun H3 j k3 hd3 j0 j1 => ?_⟩
        have fx3 := fx2.keep k3 hd3
        obtain ⟨xs3, el3, dl3⟩ := lst_of fx3.kl
        have ll3 := dl3.len
        rw [List.length_map] at ll3
        obtain ⟨v, d, a1, a2, _, a4⟩ := atP dl3 j0 (by rw [List.length_map]; omega)
        obtain ⟨p, _, rfl⟩ := List.mem_map.mp a2
        refine ⟨l, xs3, j, v, rfl, rfl, SqL.of el3, a1, ?_⟩
        refine ⟨(by show 1 ≤ sizeLine; decide), fun u nu => ⟨u, [p], rfl, (k2.trans k3).trans (Keep.of (same_new nu)), hd3.same (same_new nu), .lst upd_same (.cons (a4.same (same_new nu)) .nil)⟩⟩
      · refine ⟨Nat.zero_le _, fun u nu => ⟨u, [], rfl, k2.trans (Keep.of (same_new nu)), hd2.same (same_new nu), .lst upd_same .nil⟩⟩
    obtain ⟨g, gs, rfl, k2, hd2, kg⟩ := hM
    have fx2 := fx1.keep k2 hd2
    refine ⟨_, rfl, _, rfl, hi, W, rfl, by omega, hi1, by omega, by omega, fun l3 H3 s3 n3 k3 => ?_⟩
    have fx3 := fx2.same s3
    have kg3 := kg.same s3
    obtain ⟨xs3, e3, d3⟩ := lst_of k3
    refine ⟨l3, rfl, ⟨_, SqL.of e3⟩, fun D nD => ?_⟩
    have lF : (fullPs hi.toNat W.toNat).length ≤ 25 := by
      rw [fullPs_len]
      exact Nat.le_trans (Nat.mul_le_mul (by omega : hi.toNat ≤ 5) (by omega : W.toNat ≤ 5)) (by decide)
    have asc0 := fullPs_asc hi.toNat W.toNat
    have ins0 : Ins hi W (fullPs hi.toNat W.toNat) := fullPs_ins (by omega) (by omega)
    generalize fullPs hi.toNat W.toNat = F at k3 d3 lF asc0 ins0
    have lx3 := d3.len
    rw [List.length_map] at lx3
    have hd3 := fx3.hd
    have nDh := hand_ne hd3 nD
    refine lc_list (xs := xs3) (fun i G => Keep h H3 G ∧ Hand G h ∧ ∃ ys qs, G D = some (.lst ys) ∧ DqAll G ys (qs.map prD) ∧ List.Sublist qs (F.take i)) ⟨Keep.of (same_new nD), hd3.same (same_new nD), [], [], upd_same, .nil, List.Sublist.refl _⟩ (fun i G _ hP => ?_) (fun i x G hx hP => ?_) (fun G hP => ?_)
    · obtain ⟨kG, _⟩ := hP
      exact SqL.of (kG _ _ (hand_ne hd2 n3) e3)
    · obtain ⟨kG, hdG, ys, qs, eD, dD, sub⟩ := hP
      obtain ⟨d, hd', kd'⟩ := d3.get hx
      rw [List.getElem?_map] at hd'
      obtain ⟨p, hp, rfl⟩ := Option.map_eq_some_iff.mp hd'
      have kx := dq_kp hd3 kG (show noHd (prD p) = true from rfl) kd'
      have kgG := dq_kp hd3 kG (noHd_prs gs) kg3
      have fxG := fx3.keep kG hdG
      have lsub := sub.length_le
      rw [List.length_take] at lsub
      have lyq := dD.len
      rw [List.length_map] at lyq
      have esub : F.take (i + 1) = F.take i ++ [p] := by
        rw [List.take_add_one, hp]
        rfl
      have off : ∀ G', Keep h G G' → Hand G' h → Keep h H3 G' ∧ Hand G' h ∧ ∃ ys qs, G' D = some (.lst ys) ∧ DqAll G' ys (qs.map prD) ∧ List.Sublist qs (F.take (i + 1)) := fun G' k' hd' => ⟨kG.trans k', hd', ys, qs, k' _ _ nDh eD, dqs_kp hdG k' (noHds_all.mpr fun d m => by
        obtain ⟨q, _, rfl⟩ := List.mem_map.mp m
        rfl) dD, by rw [esub]; exact sub.trans (List.sublist_append_left _ _)⟩
      have on : ∀ G', Keep h G G' → Hand G' h → ∃ acc, G' D = some (.lst acc) ∧ acc.length < sizeLine ∧ (Keep h H3 (upd G' D (.lst (acc ++ [x]))) ∧ Hand (upd G' D (.lst (acc ++ [x]))) h ∧ ∃ ys qs, (upd G' D (.lst (acc ++ [x]))) D = some (.lst ys) ∧ DqAll (upd G' D (.lst (acc ++ [x]))) ys (qs.map prD) ∧ List.Sublist qs (F.take (i + 1))) := fun G' k' hd' => by
        have eD' := k' _ _ nDh eD
        have dD' : DqAll G' ys (qs.map prD) := dqs_kp hdG k' (noHds_all.mpr fun d m => by
          obtain ⟨q, _, rfl⟩ := List.mem_map.mp m
          rfl) dD
        have kx' := dq_kp hdG k' (show noHd (prD p) = true from rfl) kx
        have o1 := dqs_noL eD' (qs.map prD) (noL_prs qs) dD'
        have o2 := dq_noL eD' (prD p) (noList_pr p) kx'
        refine ⟨ys, eD', small1000 (by omega), (kG.trans k').putD hd3 nD, hd3.putD nD (kG.trans k') hd', ys ++ [x], qs ++ [p], upd_same, ?_, ?_⟩
        · have z : DqAll (TkS.Off D (upd G' D (.lst (ys ++ [x])))) (ys ++ [x]) ((qs ++ [p]).map prD) := by
            rw [off_put, List.map_append]
            exact o1.snoc o2
          exact DqAll.same off_same _ z
        · rw [esub]
          exact sub.append (List.Sublist.refl _)
      refine ⟨rfl, _, rfl, _, rfl, prD p, gs.map prD, kx.dp, kgG.dp, shaped_pr p, shaped_prs_l gs, _, rfl, ?_⟩
      refine ite2 (fun c => ?_) (fun c => off _ Keep.refl hdG)
      refine ⟨_, rfl, _, rfl, prD p, ps.map prD, kx.dp, fxG.kl.dp, shaped_pr p, shaped_prs_l ps, _, rfl, ?_⟩
      refine ite2 (fun c => ⟨_, rfl, on _ Keep.refl hdG⟩) (fun c => ?_)
      refine ⟨_, rfl, h, 2, rfl, hdG, by decide, by decide, fun G2 r k2 hd2 r0 r1 => ⟨rfl, _, rfl, ?_⟩⟩
      exact ite2 (fun c => ⟨_, rfl, on _ k2 hd2⟩) (fun c => off _ k2 hd2)
    obtain ⟨kG, hdG, ys, qs, eD, dD, sub⟩ := hP
    rw [lx3, List.take_length] at sub
    have ascq : Asc qs := List.Pairwise.sublist sub asc0
    have insq : Ins hi W qs := fun p m => ins0 p (sub.subset m)
    have ndq := asc_nodup ascq
    have lyq := dD.len
    rw [List.length_map] at lyq
    have lq : qs.length ≤ 25 := Nat.le_trans sub.length_le lF
    have kA : Keep h H G := ((k1.trans k2).trans (Keep.of s3)).trans kG
    have fxA := fx3.keep kG hdG
    have we : wordD (.int hi) (.int W) (.list (qs.map prD)) = none := word_none (by omega) insq ndq rfl
    have kD : Dq G (.ref D) (.list (qs.map prD)) := .lst eD dD
    have hm : (qs.map prD).map prOf = qs := by
      rw [List.map_map, show (prOf ∘ prD) = id from rfl, List.map_id]
    clear kg3 fx3 fx2 fx1 kg d3 k3 e3 nDh hd3
    refine ⟨_, rfl, _, rfl, _, rfl, mk_pic (.int hi) (.int W) kD (fun ds e => by cases e; rw [List.length_map]; omega) (fun e he => by rw [we] at he; cases he) (fun P2 W2 ds e1 e2 e3 _ H4 b s4 nb hp => ?_)⟩
    cases e1
    cases e2
    cases e3
    rw [hm, srt_asc ascq] at hp
    refine ⟨(by show 1 ≤ sizeLine; decide), fun l0 n0 => ⟨_, rfl, D, ys, rfl, .inl (SqL.of (same_new n0 _ _ (s4 _ _ eD))), l0, _, [.int 0], rfl, rfl, upd_same, by omega, by omega, (by show 1 * (ys.length : Int).toNat ≤ sizeLine; exact Nat.le_of_lt (small1000 (by omega))), fun l1 n1 => ?_⟩⟩
    have s5 := s4.trans (same_new (o := .lst [.int 0]) n0)
    have hp5 := hp.same (same_new (o := .lst [.int 0]) n0)
    generalize upd H4 l0 (.lst [.int 0]) = H5 at s5 n1 hp5
    have fx5 := fxA.same s5
    have kD5 := kD.same s5
    have h1 : (upd H5 l1 (.lst (List.replicate (ys.length : Int).toNat [V.int 0]).flatten)) l1 = some (.lst ((ledL qs (ps.take 0) (one.take 0)).map V.int)) := by
      rw [upd_same, List.flatten_replicate_singleton, List.take_zero, List.take_zero, ledL_nil, List.map_replicate, lyq]
      rfl
    have s6 : Same H5 (upd H5 l1 (.lst (List.replicate (ys.length : Int).toNat [V.int 0]).flatten)) := same_new n1
    generalize upd H5 l1 (.lst (List.replicate (ys.length : Int).toNat [V.int 0]).flatten) = H6 at h1 s6
    obtain ⟨xsl, el, dl⟩ := lst_of fx5.kl
    have ll := dl.len
    rw [List.length_map] at ll
    obtain ⟨_, z1, et⟩ := dq_tupI fx5.k1
    cases z1
    refine ⟨fun σ' G' => ∃ y9 y13 y14, σ' = [some (.ref h), some (.ref wt), some (.ref a), some (.ref t), some (.int P'), some (.int W), some (.ref l), some (.int hi), some (.ref g), y9, some (.ref D), some (.ref b), some (.ref l1), some y13, y14, none, none, none] ∧ Same H5 G' ∧ G' l1 = some (.lst ((ledL qs ps one).map V.int)) ∧ Lacks qs ps one H5 ps.length y13, ?_, fun σ7 H7 hM => ?_⟩
    · refine ⟨_, rfl, _, rfl, false, true, l, t, xsl, one.map V.int, rfl, SqL.of (s6 _ _ el), SqT.of (s6 _ _ et), ?_⟩
      refine RZM.for_zipS (xs := xsl) (ys := one.map V.int) (by rw [ll, List.length_map, lo]) (fun i σ' G' => ∃ y9 y13 y14, σ' = [some (.ref h), some (.ref wt), some (.ref a), some (.ref t), some (.int P'), some (.int W), some (.ref l), some (.int hi), some (.ref g), y9, some (.ref D), some (.ref b), some (.ref l1), some y13, y14, none, none, none] ∧ Same H5 G' ∧ G' l1 = some (.lst ((ledL qs (ps.take i) (one.take i)).map V.int)) ∧ Lacks qs ps one H5 i y13)
        ⟨_, _, _, rfl, s6, h1, .inl ⟨rfl, fun _ _ _ h => absurd h (Nat.not_lt_zero _)⟩⟩ (fun i σ G' hP => ?_) (fun i x y Z σ G' hx hy hP nZ => ?_) (fun σ G' hP => ?_)
      · obtain ⟨_, _, _, _, s7, _⟩ := hP
        exact ⟨SqL.of (s7 _ _ el), SqT.of (s7 _ _ et)⟩
      · obtain ⟨y9, y13, y14, rfl, s7, e1, lk⟩ := hP
        obtain ⟨d, hd', kd'⟩ := dl.get hx
        rw [List.getElem?_map] at hd'
        obtain ⟨p, hp', rfl⟩ := Option.map_eq_some_iff.mp hd'
        obtain ⟨n, hn, rfl⟩ := map_at hy
        have sZ : Same G' (upd G' Z (.tup [x, .int n])) := same_new nZ
        refine ⟨Z, _, rfl, SqT.of upd_same, rfl, _, _, rfl, _, _, rfl, rfl, ?_⟩
        have s8 := s7.trans sZ
        have e8 := sZ _ _ e1
        generalize upd G' Z (.tup [x, .int n]) = G8 at s8 e8
        have kx8 := kd'.same s8
        have kD8 := kD5.same s8
        refine ⟨fun σ' G9 => ∃ y13, σ' = [some (.ref h), some (.ref wt), some (.ref a), some (.ref t), some (.int P'), some (.int W), some (.ref l), some (.int hi), some (.ref g), some x, some (.ref D), some (.ref b), some (.ref l1), some y13, some (.int n), none, none, none] ∧ G9 = G8 ∧ Lacks qs ps one H5 (i + 1) y13, ?_, fun σ9 G9 hM => ?_⟩
        · have pass : (n ≠ 0 → p ∈ qs) → Lacks qs ps one H5 (i + 1) y13 := fun z => by
            rcases lk with ⟨e, o⟩ | ⟨j, p', n', tt, hj, r⟩
            · exact .inl ⟨e, o.succ hp' hn z⟩
            · exact .inr ⟨j, p', n', tt, by omega, r⟩
          refine ⟨_, rfl, rfl, _, rfl, ?_⟩
          rw [int_dec]
          by_cases c : n = 0
          · rw [decide_eq_true c]
            exact iteF (iteF ⟨y13, rfl, rfl, pass fun z => absurd c z⟩)
          rw [decide_eq_false c]
          refine iteT ⟨_, rfl, _, rfl, prD p, qs.map prD, kx8.dp, kD8.dp, shaped_pr p, shaped_prs_l qs, _, rfl, ?_⟩
          rw [any_pr]
          by_cases cq : p ∈ qs
          · rw [decide_eq_true cq]
            exact iteF (iteF ⟨y13, rfl, rfl, pass fun _ => cq⟩)
          rw [decide_eq_false cq]
          refine iteT ⟨_, rfl, rfl, _, rfl, ?_⟩
          have lk0 := lk
          rcases lk with ⟨rfl, o⟩ | ⟨j, p', n', tt, hj, r1, r2, r3, r4, r5, rfl, r7⟩
          · rw [decide_eq_true rfl]
            obtain ⟨_, tt, rfl, _⟩ := prV_of kd'
            exact iteT ⟨_, rfl, _, rfl, rfl, .inr ⟨i, p, n, tt, by omega, hp', hn, c, cq, o, rfl, kd'⟩⟩
          · exact iteF ⟨_, rfl, rfl, .inr ⟨j, p', n', tt, by omega, r1, r2, r3, r4, r5, rfl, r7⟩⟩
        obtain ⟨y13', rfl, rfl, lk'⟩ := hM
        refine ⟨_, rfl, _, rfl, prD p, qs.map prD, kx8.dp, kD8.dp, shaped_pr p, shaped_prs_l qs, _, rfl, ?_⟩
        rw [any_pr]
        by_cases cq : p ∈ qs
        · rw [decide_eq_true cq]
          obtain ⟨k, hk⟩ := List.getElem?_of_mem cq
          have lk := (List.getElem?_eq_some_iff.mp hk).1
          have lled : ((ledL qs (ps.take i) (one.take i)).map V.int).length = qs.length := by
            unfold ledL
            rw [List.length_map, List.length_map]
          refine iteT ⟨_, rfl, _, rfl, _, rfl, .inl ⟨rfl, ys, SqL.of (s8 _ _ (s5 _ _ eD))⟩, _, rfl, D, x, prD p, qs.map prD, k, prD p, rfl, rfl, kD8.dp, kx8.dp, shaped_prs_l qs, shaped_pr p, by rw [List.getElem?_map, hk]; rfl, eqv_pr' p, fun m z' hm hz => ?_, l1, _, (k : Int), k, rfl, rfl, e8, ?_, ?_⟩
          · rw [List.getElem?_map] at hz
            obtain ⟨q', hq', rfl⟩ := Option.map_eq_some_iff.mp hz
            rw [eqv_pr]
            refine decide_eq_false fun z => ?_
            subst z
            have := (List.getElem?_inj (List.getElem?_eq_some_iff.mp hq').1 ndq).mp (hq'.trans hk.symm)
            omega
          · exact ixN_of (by omega) (by omega)
          · refine ⟨_, _, _, rfl, fun c o e => ?_, ?_, lk'⟩
            · rw [upd_ne (ne_of_none e n1)]
              exact s8 _ _ e
            · rw [upd_same, ledL_step (asc_nodup wd.asc) ndq hp' hn hk, List.map_set]
        · rw [decide_eq_false cq]
          refine iteF ⟨_, _, _, rfl, s8, ?_, lk'⟩
          rw [ledL_off hp' hn (.inl cq)]
          exact e8
      · obtain ⟨y9, y13, y14, rfl, s7, e1, lk⟩ := hP
        rw [ll] at e1 lk
        rw [List.take_length, ← lo, List.take_length] at e1
        exact ⟨y9, y13, y14, rfl, s7, e1, lk⟩
    obtain ⟨y9, y13, y14, rfl, s7, e1, lk⟩ := hM
    have fx7 := fx5.same s7
    have hp7 := hp5.same s7
    have k7 : Keep h H H7 := kA.trans ((Keep.of s5).trans (Keep.of s7))
    refine ⟨_, rfl, _, rfl, _, rfl, .ref t, tupD one, _, rfl, fx7.k1, rfl, fun l8 H8 s8 n8 k8 => ?_⟩
    have it : IsT P' W ps (.list (one.map PyData.int)) one := ⟨rfl, tr⟩
    refine ⟨a, b, .ref l8, .list (one.map PyData.int), P', W, ps, hi, W, qs, rfl, fx7.pic.same s8, hp7.same s8, k8, fun e he => ?_, fun ns i p n it' op hp' hn nz np b' tt H9 s9 hb kt => ?_, fun ns it' op l9 H9 s9 k9 => ?_⟩
    · rw [it.none] at he
      cases he
    · cases it.uniq it'
      obtain ⟨tl, rfl, ktl⟩ := lk.one op hp' hn nz np
      refine ⟨true, T.mm_NotOpen_NotOpen, fun _ a0 _ => ⟨_, rfl, rfl, b', _, _, _, true, rfl, hb, rfl, fun u h => h, T.kit_NotOpen_SheetError, _, rfl, iteT ⟨_, rfl, rfl, rfl, b', _, _, rfl, hb, rfl, ?_⟩⟩, fun z => Bool.noConfusion z⟩
      refine ⟨_, rfl, rfl, _, rfl, ?_⟩
      rw [decide_eq_false (fun z => by cases z)]
      refine iteT ⟨_, rfl, _, rfl, prD p, prD p, kt.dp, (((ktl.same s7).same s8).same s9).dp, shaped_pr p, shaped_pr p, ?_⟩
      rw [eqv_pr' p]
      exact q _ (k7.trans (Keep.of (s8.trans s9))) (fx7.hd.same (s8.trans s9))
    · cases it.uniq it'
      cases lk.all op
      refine ⟨_, rfl, rfl, _, rfl, ?_⟩
      rw [decide_eq_true rfl]
      refine iteF ⟨_, rfl, rfl, _, rfl, ?_⟩
      rw [decide_eq_true rfl]
      refine iteT ⟨_, rfl, _, rfl, .ref l9, .ref l1, .list ((ledL qs ps one).map PyData.int), ledL qs ps one, rfl, k9, .lst (s9 _ _ (s8 _ _ e1)) (dq_intl _), rfl, ?_, fun H10 s10 => ?_⟩
      · unfold ledL
        rw [List.length_map]
        omega
      · exact q _ (k7.trans (Keep.of ((s8.trans s9).trans s10))) (fx7.hd.same ((s8.trans s9).trans s10))
end
end K01
set_option Elab.async false
set_option linter.all false
set_option maxRecDepth 100000
set_option maxHeartbeats 4000000
set_option exponentiation.threshold 5000
set_option pp.maxSteps 600
namespace K01
open PySem PySem.Spec PyProof.Rows L2 TkS
/-! no tours at all -/
structure NoT (P W : Int) (ps : List (Int × Int)) (d : PyData) : Prop where
  w : ∃ e, tourW P W ps d = some e
  ml : mild 3 d = true
  nl : NoL d
theorem not_of {P W : Int} {ps : List (Int × Int)} {one : List Int} {d : PyData} (h : Thing P W ps one d) (ne : itemsD d ≠ some (one.map PyData.int)) : NoT P W ps d := by
  refine ⟨?_, mild_up 2 d h.ml, h.nl⟩
  cases e : tourW P W ps d with
  | some w => exact ⟨w, rfl⟩
  | none =>
    obtain ⟨ns, it⟩ := isT_of e
    cases h.tr ns it
    exact absurd it.1 ne
theorem ints_inj {a b : List Int} (h : a.map PyData.int = b.map PyData.int) : a = b := by
  induction a generalizing b with
  | nil => cases b with
    | nil => rfl
    | cons _ _ => cases h
  | cons x a ih => cases b with
    | nil => cases h
    | cons y b =>
      rw [List.map_cons, List.map_cons] at h
      injection h with h1 h2
      injection h1 with h1
      rw [h1, ih h2]
theorem at_last {one : List Int} (h : one ≠ []) : atI (one.map V.int) (-1) = some (.int (one.getD (one.length - 1) 0)) := by
  have l : 0 < one.length := List.length_pos_iff.mpr h
  unfold atI ixN
  rw [if_neg (by decide), List.length_map, if_pos (by omega)]
  show (one.map V.int)[((-1 : Int) + (one.length : Int)).toNat]? = _
  rw [show ((-1 : Int) + (one.length : Int)).toNat = one.length - 1 by omega, List.getElem?_map, List.getD_eq_getElem?_getD, List.getElem?_eq_getElem (by omega)]
  rfl
theorem last_form {one : List Int} (v : Int) (h : one ≠ []) : (one.take (one.length - 1)).map PyData.int ++ [.int v] = (one.set (one.length - 1) v).map PyData.int := by
  have l : 0 < one.length := List.length_pos_iff.mpr h
  rw [List.set_eq_take_append_cons_drop, if_pos (by omega), List.drop_eq_nil_of_le (by omega), List.map_append]
  rfl
theorem not_three {P W : Int} {ps : List (Int × Int)} {one : List Int} (wd : Wd P W ps) (tr : Tour P W ps one) (b : ∀ z ∈ one, Tid z) :
    ∀ d ∈ [PyData.tuple (one.map PyData.int ++ [.int 0]), PyData.tuple ((one.take (one.length - 1)).map PyData.int ++ [.none]), PyData.tuple ((one.take (one.length - 1)).map PyData.int ++ [.int (one.getD (one.length - 1) 0 + 1)])], NoT P W ps d := by
  have l16 := wd.len25
  have l4 := wd.len
  have lo := tr.len
  have hmed : ∀ z ∈ one, Med z := fun z m => (b z m).med
  have ne1 : one ≠ [] := fun e => by
    rw [e] at lo
    have : ps.length = 0 := lo.symm
    omega
  intro d m
  simp only [List.mem_cons, List.not_mem_nil, or_false] at m
  rcases m with rfl | rfl | rfl
  · have e3 : one.map PyData.int ++ [PyData.int 0] = (one ++ [0]).map PyData.int := by rw [List.map_append]; rfl
    rw [e3]
    refine not_of (one := one) (thing_tup (fun z m => ?_) (by rw [List.length_append, List.length_singleton]; omega) (tour_app tr _ (by rw [List.length_append, List.length_singleton]; omega))) (fun z => ?_)
    · rcases List.mem_append.mp m with m | m
      · exact hmed z m
      · rw [List.mem_singleton.mp m]
        exact ⟨by decide, by decide⟩
    · have z := congrArg List.length (ints_inj (Option.some.inj z))
      rw [List.length_append, List.length_singleton] at z
      omega
  · have t := thing_odd (P := P) (W := W) (ps := ps) (one := one) (as := one.take (one.length - 1)) (bs := []) (o := .none) (by simp [odds5]) (fun z m => hmed z (List.mem_of_mem_take m)) (fun z m => nomatch m) (by rw [List.length_take]; simp; omega)
    rw [List.map_nil, List.append_nil] at t
    refine not_of t (fun z => ?_)
    have z := Option.some.inj z
    have m : PyData.none ∈ one.map PyData.int := by
      rw [← z]
      simp
    obtain ⟨_, _, e⟩ := List.mem_map.mp m
    cases e
  · have gl : one.getD (one.length - 1) 0 ∈ one := by
      rw [List.getD_eq_getElem?_getD, List.getElem?_eq_getElem (by omega)]
      exact List.getElem_mem _
    have bl := b _ gl
    rw [last_form _ ne1]
    refine not_of (one := one) (thing_tup (fun z m => ?_) (by rw [List.length_set]; omega) fun tt => absurd tt (tour_set (i := one.length - 1) wd.ins tr (by omega) (fun j hj => ?_) ?_)) (fun z => ?_)
    · rcases List.mem_or_eq_of_mem_set m with m | rfl
      · exact hmed z m
      · unfold Tid at bl
        unfold Med
        omega
    · rw [List.getD_eq_getElem?_getD, List.getElem?_set_ne (Ne.symm hj), ← List.getD_eq_getElem?_getD]
    · rw [List.getD_eq_getElem?_getD, List.getElem?_set_self (by omega)]
      show one.getD (one.length - 1) 0 + 1 ≠ _
      omega
    · have z := congrArg (fun l => l.getD (one.length - 1) 0) (ints_inj (Option.some.inj z))
      rw [List.getD_eq_getElem?_getD, List.getElem?_set_self (by omega)] at z
      change one.getD (one.length - 1) 0 + 1 = _ at z
      omega
def sp_law_led_refused (C : Addr) : Sp := fun vs H Q _ => ∃ (wt l a t : Addr) (P W : Int) (ps : List (Int × Int)) (one : List Int), vs = [.ref wt, .ref a, .ref t] ∧ H wt = some (.tup [.int P, .int W, .ref l]) ∧ Dq H (.ref l) (.list (ps.map prD)) ∧ Pic C H a P W ps ∧ Dq H (.ref t) (tupD one) ∧ Wd P W ps ∧ Tour P W ps one ∧ (∀ z ∈ one, Tid z) ∧
  ∀ H', Same H H' → Q (.bl true) H'
section
variable {P : Program} {w : World} {K : PySem.W.Frag} {mg : Str → Option Value} {base : Heap}
theorem ok_law_led_refused (T : Txt K mg) : FnOk P w K mg base CX0 9 T.f_law_led_refused T.d_law_led_refused ["_law_world", "_law_picture_here", "_law_tour"] (sp_law_led_refused T.C_Picture) := by
  refine T.F_law_led_refused.ok sc_law_led_refused (fun vs H Q E h => ?_) (fun cdv A outer s H vs Q E hr h => ?_)
  · obtain ⟨wt, l, a, t, P', W, ps, one, rfl, _⟩ := h
    rfl
  · obtain ⟨wt, l, a, t, P', W, ps, one, rfl, hw, kl, pic, kt, wd, tr, hb, q⟩ := h
    refine ⟨_, (pss_cons (ps_asg (pv 0) (pg_tup rfl (pgs_cons (pg_name (i := 3) sc_law_led_refused.nd rfl (.inl rfl)) (pgs_cons (pg_name (i := 4) sc_law_led_refused.nd rfl (.inl rfl)) (pgs_cons (pg_name (i := 5) sc_law_led_refused.nd rfl (.inl rfl)) pgs_nil)))))
      (pss_cons (ps_for PassesOwn.never rfl (pi_tup (pe_tup (pa_cons (pv 1) (pa_cons (pe_make T.M_Picture (ok_Picture_init T) (hr.mono (by decide)) (by rfl) T.g_Picture T.b_Picture_init .nil passL (pa_cons (pv 3) (pa_cons (pv 4) (pa_cons (pe_lst pa_nil) pa_nil)))) pa_nil)))) (pg_name (i := 6) sc_law_led_refused.nd rfl (.inl rfl))
        (pss_one (ps_for PassesOwn.never rfl (pi_tup (pe_tup (pa_cons (pe_op op_catD (pv 2) (pe_tup (pa_cons pe_int pa_nil))) (pa_cons (pe_op op_catD (pe_slice sl_tupD (pv 2) po_none (po_some (pe_un un_neg pe_int))) (pe_tup (pa_cons pe_non pa_nil))) (pa_cons (pe_op op_catD (pe_slice sl_tupD (pv 2) po_none (po_some (pe_un un_neg pe_int))) (pe_tup (pa_cons (pe_op op_add (pe_ix ix_tup (pv 2) (pe_un un_neg pe_int) (fun _ _ => rfl)) pe_int) pa_nil))) pa_nil))))) (pg_name (i := 7) sc_law_led_refused.nd rfl (.inl rfl))
          (pss_cons (ps_set (i := 8) sc_law_led_refused.nd rfl (.inl rfl) pe_non)
          (pss_cons (ps_try_as (i := 9) (Wout := fun _ _ _ _ => False) rfl rfl sc_law_led_refused.nd rfl rfl ⟨rfl, by decide, Or.inl T.g_BadTour⟩ takes0
            (fun W pn xe tk _ => pss_one (ps_expr (pe_callSD (ok_led_tour T) (hr.mono (by decide)) (by rfl) T.g_led_tour T.F_led_tour.kp T.b_led_tour .nil (fun σ => passAt tk σ) (pa_cons (pv 1) (pa_cons (pv 6) (pa_cons (pv 7) pa_nil))))))
            (fun a oe cls d pn hz hf => pss_one (ps_set (i := 8) sc_law_led_refused.nd rfl (.inl rfl) (pe_xf T.x_BadTour T.n_BadTour hz hf (pv 9)))))
          (pss_one (ps_if (pt_cmpR op_ne (pv 8) (pe_call (ok_law_tour_due T) (hr.mono (by decide)) (by rfl) T.g_law_tour_due T.F_law_tour_due.kp T.b_law_tour_due .nil pass0 (pa_cons (pv 3) (pa_cons (pv 4) (pa_cons (pv 5) (pa_cons (pv 7) pa_nil))))) (nomark _))
            (pss_one (ps_ret pe_bl))
            pss_nil)))))))
      (pss_one (ps_ret pe_bl)))), ?_⟩
    have p0 := wd.p0
    have p1 := wd.p1
    have w0 := wd.w0
    have w1 := wd.w1
    have lo := tr.len
    have l16 := wd.len25
    have l4 := wd.len
    have ne1 : one ≠ [] := fun e => by
      rw [e] at lo
      have : ps.length = 0 := lo.symm
      omega
    have nts := not_three wd tr hb
    refine ⟨_, rfl, wt, _, rfl, SqT.of hw, rfl, _, _, rfl, _, _, rfl, _, _, rfl, rfl, ?_⟩
    refine ⟨_, rfl, _, rfl, _, rfl, Nat.zero_le _, fun u1 n1 => ?_⟩
    have s1 := same_new (o := .lst []) n1
    have k1 : Dq (upd H u1 (.lst [])) (.ref u1) (.list []) := .lst upd_same .nil
    generalize upd H u1 (.lst []) = H1 at s1 k1
    have we : wordD (.int P') (.int W) (.list []) = none := word_none (ps := []) (by omega) (fun _ m => nomatch m) .nil rfl
    refine mk_pic (.int P') (.int W) k1 (fun ds e => by cases e; simp) (fun e he => by rw [we] at he; cases he) (fun P2 W2 ds e1 e2 e3 _ H2 b s2 nb hp => ?_)
    cases e1
    cases e2
    cases e3
    refine ⟨(by show 2 ≤ sizeLine; decide), fun u2 n2 => ?_⟩
    have s3 := (s1.trans s2).trans (same_new (o := .tup [.ref a, .ref b]) n2)
    have e3 : (upd H2 u2 (.tup [.ref a, .ref b])) u2 = some (.tup [.ref a, .ref b]) := upd_same
    have hp3 := hp.same (same_new (o := .tup [.ref a, .ref b]) n2)
    generalize upd H2 u2 (.tup [.ref a, .ref b]) = H3 at s3 e3 hp3
    refine ⟨u2, rfl, ⟨_, SqT.of e3⟩, ?_⟩
    refine for_tup (xs := [.ref a, .ref b]) (fun i σ H' => ∃ y6 y7 y8, σ = [some (.ref wt), some (.ref a), some (.ref t), some (.int P'), some (.int W), some (.ref l), y6, y7, y8, none] ∧ Same H3 H')
      ⟨_, _, _, rfl, fun _ _ z => z⟩ (fun i σ H' _ hP => by obtain ⟨_, _, _, _, sm⟩ := hP; exact SqT.of (sm _ _ e3)) (fun i x σ H' hx hP => ?_) (fun σ H' hP => ?_)
    · obtain ⟨y6, y7, y8, rfl, s4⟩ := hP
      obtain ⟨b2, P2, W2, qs, rfl, hp4⟩ : ∃ (b2 : Addr) (P2 W2 : Int) (qs : List (Int × Int)), x = .ref b2 ∧ Pic T.C_Picture H3 b2 P2 W2 qs := by
        match i, hx with
        | 0, hx => cases hx; exact ⟨a, _, _, _, rfl, pic.same s3⟩
        | 1, hx => cases hx; exact ⟨b, _, _, _, rfl, hp3⟩
      have kt4 := kt.same (s3.trans s4)
      refine ⟨_, rfl, (by show 1 ≤ sizeLine; decide), fun u5 n5 => ⟨one.map PyData.int, [.int 0], kt4.same (same_new n5), .tup upd_same (.cons (.int _) .nil), by simp; omega, fun l5 H5 s5' k5 => ?_⟩⟩
      have s5 := (same_new (o := .tup [.int 0]) n5).trans s5'
      have kt5 := kt4.same s5
      refine ⟨_, rfl, _, rfl, _, rfl, _, kt5, fun l6 H6 s6' k6 => ?_⟩
      rw [cut_neg one ne1] at k6
      refine ⟨(by show 1 ≤ sizeLine; decide), fun u6 n6 => ⟨_, [.none], k6.same (same_new n6), .tup upd_same (.cons .non .nil), by simp; omega, fun l7 H7 s7' k7 => ?_⟩⟩
      have s7 := (s6'.trans (same_new (o := .tup [.non]) n6)).trans s7'
      have kt7 := kt5.same s7
      refine ⟨_, rfl, _, rfl, _, rfl, _, kt7, fun l8 H8 s8' k8 => ?_⟩
      rw [cut_neg one ne1] at k8
      have kt8 := kt7.same s8'
      obtain ⟨_, z1, et⟩ := dq_tupI kt8
      cases z1
      refine ⟨_, rfl, _, rfl, t, _, _, _, rfl, rfl, SqT.of et, at_last ne1, _, _, rfl, rfl, (by show 1 ≤ sizeLine; decide), fun u8 n8 => ⟨_, [.int (one.getD (one.length - 1) 0 + 1)], k8.same (same_new n8), .tup upd_same (.cons (.int _) .nil), by simp; omega, fun l9 H9 s9' k9 => ?_⟩⟩
      have s9 := (s8'.trans (same_new (o := .tup [.int (one.getD (one.length - 1) 0 + 1)]) n8)).trans s9'
      refine ⟨(by show 3 ≤ sizeLine; decide), fun uA nA => ?_⟩
      have sA := s9.trans (same_new (o := .tup [.ref l5, .ref l7, .ref l9]) nA)
      have eA : (upd H9 uA (.tup [.ref l5, .ref l7, .ref l9])) uA = some (.tup [.ref l5, .ref l7, .ref l9]) := upd_same
      have dA : DqAll (upd H9 uA (.tup [.ref l5, .ref l7, .ref l9])) [.ref l5, .ref l7, .ref l9] [PyData.tuple (one.map PyData.int ++ [.int 0]), PyData.tuple ((one.take (one.length - 1)).map PyData.int ++ [.none]), PyData.tuple ((one.take (one.length - 1)).map PyData.int ++ [.int (one.getD (one.length - 1) 0 + 1)])] :=
        .cons ((k5.same s7).same sA) (.cons (k7.same sA) (.cons (k9.same (same_new nA)) .nil))
      have sU := (((s3.trans s4).trans s5).trans s7).trans sA
      have s3U := ((s4.trans s5).trans s7).trans sA
      generalize upd H9 uA (.tup [.ref l5, .ref l7, .ref l9]) = HA at eA dA sU s3U
      refine ⟨uA, rfl, ⟨_, SqT.of eA⟩, ?_⟩
      refine for_tup (xs := [.ref l5, .ref l7, .ref l9]) (fun i σ H' => ∃ y7 y8, σ = [some (.ref wt), some (.ref a), some (.ref t), some (.int P'), some (.int W), some (.ref l), some (.ref b2), y7, y8, none] ∧ Same HA H')
        ⟨_, _, rfl, fun _ _ z => z⟩ (fun i σ H' _ hP => by obtain ⟨_, _, _, sm⟩ := hP; exact SqT.of (sm _ _ eA)) (fun i x σ H' hx hP => ?_) (fun σ H' hP => ?_)
      · obtain ⟨y7, y8, rfl, sB⟩ := hP
        obtain ⟨d, hd, kd⟩ := dA.get hx
        obtain ⟨⟨e, he⟩, ml, nl⟩ := nts d (List.mem_of_getElem? hd)
        have kdB := kd.same sB
        refine ⟨_, rfl, _, rfl, _, rfl, a, b2, x, d, P', W, ps, P2, W2, qs, rfl, pic.same (sU.trans sB), hp4.same (s3U.trans sB), kdB, fun e1 he1 b' HC sC hb' => ?_, fun ns i p n it => ?_, fun ns it => ?_⟩
        · rw [he] at he1
          cases he1
          refine ⟨true, T.mm_BadTour_BadTour, fun _ a0 _ => ⟨_, rfl, rfl, rfl, b', _, _, rfl, hb', rfl, ?_⟩, fun z => Bool.noConfusion z⟩
          refine ⟨_, rfl, _, rfl, _, rfl, _, rfl, _, rfl, P', W, l, x, d, ps, rfl, wd, kl.same ((sU.trans sB).trans sC), kdB.same sC, ml, nl, fun HD sD => ?_⟩
          rw [he]
          refine ⟨rfl, _, rfl, ?_⟩
          have z : decide (V.str e = wordV (some e)) = true := decide_eq_true rfl
          show (if (!decide (V.str e = wordV (some e))) = true then _ else _)
          rw [z]
          exact iteF ⟨_, _, rfl, sB.trans (sC.trans sD)⟩
        · rw [it.none] at he
          cases he
        · rw [it.none] at he
          cases he
      · obtain ⟨y7, y8, rfl, sB⟩ := hP
        exact ⟨_, _, _, rfl, s3U.trans sB⟩
    · obtain ⟨y6, y7, y8, rfl, s4⟩ := hP
      exact q _ (s3.trans s4)
end
end K01
set_option Elab.async false
set_option linter.all false
set_option maxRecDepth 100000
set_option maxHeartbeats 8000000
set_option exponentiation.threshold 5000
set_option pp.maxSteps 600
namespace K01
open PySem PySem.Spec PyProof.Rows L2 TkS
def sp_law (K : PySem.W.Frag) : Sp := fun vs H Q _ => ∃ (a : Addr) (ns : List Int), vs = [.ref a] ∧ SqL K H a (ns.map V.int) ∧ ns.length ≤ 63 ∧ ∀ H', Q (.bl true) H'
theorem bnd_tid {P W : Int} {ps : List (Int × Int)} {row : List Int} (wd : Wd P W ps) (h : Bnd (10 ^ 30) row) : ∀ z ∈ tourOf P W ps row, Tid z := fun z m => by
  have b := tourOf_bnd (P := P) (W := W) (by decide) h (by have := wd.len25; omega) z m
  unfold Tid
  have e : (25 * 10 ^ 30 : Int) = 25000000000000000000000000000000 := by decide
  rw [e] at b
  omega
theorem shp_let (ns : List Int) : SeqAt.shaped (tagD "let" (tupD ns)) = true := by
  have h : PyData.canLayAll0 (ns.map PyData.int) = true ∧ PyData.depthAll (ns.map PyData.int) = 0 := by
    induction ns with
    | nil => exact ⟨rfl, rfl⟩
    | cons a l ih => simp [PyData.canLayAll0, PyData.depthAll, PyData.canLay0, PyData.depth, ih.1, ih.2]
  have e : PyData.strOk "let" = true := by decide +kernel
  simp [SeqAt.shaped, tagD, tupD, PyData.canLay0, PyData.canLayAll0, PyData.depth, PyData.depthAll, h.1, h.2, e]
theorem eqv_let (ns : List Int) : PyData.eqv (tagD "let" (tupD ns)) (tagD "let" (tupD ns)) = true := by
  have : PyData.eqvAll (ns.map PyData.int) (ns.map PyData.int) = true := by
    induction ns with
    | nil => simp [PyData.eqvAll]
    | cons n ns ih => simp [PyData.eqvAll, PyData.eqv, ih]
  simp [tagD, tupD, PyData.eqv, PyData.eqvAll, this]
def lawN : List Str := ["_law_script", "_law_hand_here", "_law_world", "_law_points", "_law_shuts", "_law_pairs", "_law_picture_here", "_law_many", "_law_one", "_law_other", "_law_tour"]
section
variable {P : Program} {w : World} {K : PySem.W.Frag} {mg : Str → Option Value} {base : Heap}
theorem ok_law (T : Txt K mg) : TopOk P w K mg base CX0 T.f_law T.d_law ["_law_script"] (sp_law K) := by
  obtain ⟨oc, od, kV, doc, pm, an, cdv, ct, osl, ed, lk, hcd⟩ := T.F_law.ex
  rw [ed] at lk ⊢
  refine top_of lk hcd sc_law (fun vs H Q E h => ?_) (fun outer s H vs Q E hr h => ?_)
  · obtain ⟨a, ns, rfl, _⟩ := h
    rfl
  · obtain ⟨sa, ns, rfl, hS, hl, q⟩ := h
    suffices hh : ∃ t, PSs (cxOf CX0 P w K mg base ["_law_script", "_law_hand_here", "_law_world", "_law_points", "_law_shuts", "_law_pairs", "_law_picture_here", "_law_many", "_law_one", "_law_other", "_law_tour"] "law" (defScope s_law) T.f_law cdv callerA outer s H E).nox (defBody s_law) t ∧ t { nx := fun _ H' => Q .non H', rt := Q } (start ["_law_script", "_law_hand_here", "_law_world", "_law_points", "_law_shuts", "_law_pairs", "_law_picture_here", "_law_many", "_law_one", "_law_other", "_law_tour"] [.ref sa]) H by
      obtain ⟨t, h1, h2⟩ := hh
      exact ⟨t, h1.nox, h2⟩
    have hr5 : Room 40 (callerA.deeper (envOfC "law" (defScope s_law) s.heap.objs.size T.f_law cdv)) := hr.mono (by decide)
    refine ⟨_, (pss_cons (ps_set (i := 1) sc_law.nd rfl (.inl rfl) (pe_call (ok_law_hand T) (hr5.mono (by decide)) (by rfl) T.g_law_hand T.F_law_hand.kp T.b_law_hand .nil pass0 (pa_cons (pv 0) pa_nil)))
      (pss_cons (ps_set (i := 2) sc_law.nd rfl (.inl rfl) (pe_call (ok_law_picture T) (hr5.mono (by decide)) (by rfl) T.g_law_picture T.F_law_picture.kp T.b_law_picture .nil pass0 (pa_cons (pv 1) pa_nil)))
      (pss_cons (ps_asg (pv 2) (pg_tup rfl (pgs_cons (pg_name (i := 3) sc_law.nd rfl (.inl rfl)) (pgs_cons (pg_name (i := 4) sc_law.nd rfl (.inl rfl)) (pgs_cons (pg_name (i := 5) sc_law.nd rfl (.inl rfl)) pgs_nil)))))
      (pss_cons (ps_set (i := 6) sc_law.nd rfl (.inl rfl) (pe_make T.M_Picture (ok_Picture_init T) (hr5.mono (by decide)) (by rfl) T.g_Picture T.b_Picture_init .nil passL (pa_cons (pv 3) (pa_cons (pv 4) (pa_cons (pv 5) pa_nil)))))
      (pss_cons (ps_set (i := 7) sc_law.nd rfl (.inl rfl) (pe_callB call_len_seq (by rfl) T.m_len (by decide +kernel) (pa_cons (pe_ix ix_list (pe_call (ok_law_tree T) (hr5.mono (by decide)) (by rfl) T.g_law_tree T.F_law_tree.kp T.b_law_tree .nil pass0 (pa_cons (pv 3) (pa_cons (pv 4) (pa_cons (pv 5) pa_nil)))) pe_int (fun _ _ => rfl)) pa_nil)))
      (pss_cons (ps_set (i := 8) sc_law.nd rfl (.inl rfl) (pe_call (ok_law_tour_of T) (hr5.mono (by decide)) (by rfl) T.g_law_tour_of T.F_law_tour_of.kp T.b_law_tour_of .nil pass0 (pa_cons (pv 3) (pa_cons (pv 4) (pa_cons (pv 5) (pa_cons (pe_call (ok_law_numbers T) (hr5.mono (by decide)) (by rfl) T.g_law_numbers T.F_law_numbers.kp T.b_law_numbers .nil pass0 (pa_cons (pv 1) (pa_cons (pv 7) pa_nil))) pa_nil))))))
      (pss_cons (ps_set (i := 9) sc_law.nd rfl (.inl rfl) (pe_call (ok_law_tour_of T) (hr5.mono (by decide)) (by rfl) T.g_law_tour_of T.F_law_tour_of.kp T.b_law_tour_of .nil pass0 (pa_cons (pv 3) (pa_cons (pv 4) (pa_cons (pv 5) (pa_cons (pe_call (ok_law_numbers T) (hr5.mono (by decide)) (by rfl) T.g_law_numbers T.F_law_numbers.kp T.b_law_numbers .nil pass0 (pa_cons (pv 1) (pa_cons (pv 7) pa_nil))) pa_nil))))))
      (pss_cons (ps_if (pt_not (pt_val (pe_callG rfl (ok_law_tours T) (hr5.mono (by decide)) (by rfl) T.g_law_tours T.F_law_tours.kp T.b_law_tours .nil pass0 (pa_cons (pv 1) (pa_cons (pv 2) (pa_cons (pv 6) (pa_cons (pv 8) (pa_cons (pv 9) pa_nil))))))))
        (pss_one (ps_ret pe_bl))
        pss_nil)
      (pss_cons (ps_if (pt_not (pt_val (pe_callG rfl (ok_law_sayings T) (hr5.mono (by decide)) (by rfl) T.g_law_sayings T.F_law_sayings.kp T.b_law_sayings .nil pass0 (pa_cons (pv 1) (pa_cons (pv 2) (pa_cons (pv 6) (pa_cons (pv 8) (pa_cons (pv 9) pa_nil))))))))
        (pss_one (ps_ret pe_bl))
        pss_nil)
      (pss_cons (ps_for PassesOwn.never rfl (pi_tup (pe_tup (pa_cons (pv 8) (pa_cons (pv 9) pa_nil)))) (pg_name (i := 10) sc_law.nd rfl (.inl rfl))
        (pss_one (ps_if (PW.pt (pw_or (pt_not (pt_val (pe_call (ok_law_led T) (hr5.mono (by decide)) (by rfl) T.g_law_led T.F_law_led.kp T.b_law_led .nil pass0 (pa_cons (pv 1) (pa_cons (pv 2) (pa_cons (pv 6) (pa_cons (pv 10) pa_nil))))))) (pw_or1 (pt_not (pt_val (pe_call (ok_law_led_refused T) (hr5.mono (by decide)) (by rfl) T.g_law_led_refused T.F_law_led_refused.kp T.b_law_led_refused .nil pass0 (pa_cons (pv 2) (pa_cons (pv 6) (pa_cons (pv 10) pa_nil)))))))))
          (pss_one (ps_ret pe_bl))
          pss_nil)))
      (pss_one (ps_ret (pe_cmpR (op_eqD hr5.units) (pe_call (ok_law_asked T) (hr5.mono (by decide)) (by rfl) T.g_law_asked T.F_law_asked.kp T.b_law_asked .nil pass0 (pa_cons pe_int (pa_cons (pv 6) (pa_cons (pv 8) (pa_cons pe_non pa_nil))))) (pe_tup (pa_cons pe_str (pa_cons (pv 8) pa_nil))) (nomark _)))))))))))))), ?_⟩
    refine ⟨_, rfl, sa, ns, rfl, hS, hl, fun H1 h s1 nh hd1 => ?_⟩
    refine ⟨_, rfl, h, rfl, hd1, fun H2 wt l P' W ps k2 hd2 wd hw kl => ?_⟩
    have p0 := wd.p0
    have p1 := wd.p1
    have w0 := wd.w0
    have w1 := wd.w1
    have l16 := wd.len25
    refine ⟨_, rfl, wt, _, rfl, SqT.of hw, rfl, _, _, rfl, _, _, rfl, _, _, rfl, rfl, ?_⟩
    have we : wordD (.int P') (.int W) (.list (ps.map prD)) = none := word_none (by omega) wd.ins (asc_nodup wd.asc) rfl
    have hm : (ps.map prD).map prOf = ps := by
      rw [List.map_map, show (prOf ∘ prD) = id from rfl, List.map_id]
    refine ⟨_, rfl, _, rfl, _, rfl, mk_pic (.int P') (.int W) kl (fun ds e => by cases e; rw [List.length_map]; omega) (fun e he => by rw [we] at he; cases he) (fun P2 W2 ds e1 e2 e3 _ H3 a s3 na hp => ?_)⟩
    cases e1
    cases e2
    cases e3
    rw [hm, srt_asc wd.asc] at hp
    have hd3 := hd2.same s3
    have hw3 := s3 _ _ hw
    have kl3 := kl.same s3
    refine ⟨_, rfl, _, rfl, _, rfl, P', W, l, ps, rfl, wd, kl3, fun H4 tt ta tb s4 e4 ea eb _ _ => ?_⟩
    have hd4 := hd3.same s4
    have lt := trees_len P' W ps ps.length
    refine ⟨tt, _, 1, .ref tb, rfl, rfl, SqL.of e4, rfl, tb, _, rfl, .inl (SqL.of eb), ?_⟩
    rw [show (natL (trees P' W ps ps.length).2).length = (trees P' W ps ps.length).2.length from List.length_map _]
    have hw4 := s4 _ _ hw3
    have kl4 := kl3.same s4
    have hp4 := hp.same s4
    refine ⟨_, rfl, _, rfl, _, rfl, _, rfl, _, rfl, h, _, rfl, hd4, by omega, by omega, fun H5 r1 row1 k5 hd5 lr1 b1 kr1 => ?_⟩
    have wth : wt ≠ h := fun z => by
      obtain ⟨c1, c2, c3, c4, c5, e1, _⟩ := hd4.ex
      rw [z, e1] at hw4
      cases hw4
    have hw5 := k5 _ _ wth hw4
    have kl5 := dq_kp hd4 k5 (noHd_prs ps) kl4
    have hp5 := pic_kp hp4 hd4 k5
    obtain ⟨xs1, er1, dr1⟩ := lst_of kr1
    rw [intl_dq dr1] at er1
    refine ⟨P', W, l, r1, ps, row1, rfl, wd, kl5, er1, by omega, fun H6 t1 s6 et1 => ?_⟩
    have tr1 : Tour P' W ps (tourOf P' W ps row1) := tourOf_tour wd.ins
    have tb1 := bnd_tid wd b1
    generalize tourOf P' W ps row1 = one at et1 tr1 tb1
    have kt1 : Dq H6 (.ref t1) (tupD one) := tupI et1
    have hd6 := hd5.same s6
    have hw6 := s6 _ _ hw5
    have kl6 := kl5.same s6
    have hp6 := hp5.same s6
    refine ⟨_, rfl, _, rfl, _, rfl, _, rfl, _, rfl, h, _, rfl, hd6, by omega, by omega, fun H7 r2 row2 k7 hd7 lr2 b2 kr2 => ?_⟩
    have hw7 := k7 _ _ wth hw6
    have kl7 := dq_kp hd6 k7 (noHd_prs ps) kl6
    have hp7 := pic_kp hp6 hd6 k7
    have kt7 := dq_kp hd6 k7 (noHd_tup (nh_map one) : noHd (tupD one) = true) kt1
    obtain ⟨xs2, er2, dr2⟩ := lst_of kr2
    rw [intl_dq dr2] at er2
    refine ⟨P', W, l, r2, ps, row2, rfl, wd, kl7, er2, by omega, fun H8 t2 s8 et2 => ?_⟩
    have tr2 : Tour P' W ps (tourOf P' W ps row2) := tourOf_tour wd.ins
    have tb2 := bnd_tid wd b2
    generalize tourOf P' W ps row2 = two at et2 tr2 tb2
    have fx : Fx T.C_Picture h wt l a t1 t2 P' W ps one two H8 := ⟨hd7.same s8, s8 _ _ hw7, kl7.same s8, hp7.same s8, kt7.same s8, tupI et2⟩
    clear hw kl hp hd2 hd3 hw3 kl3 hd4 hw4 kl4 hp4 hw5 kl5 hp5 kt1 hd6 hw6 kl6 hp6 hw7 kl7 hp7 kt7 kr1 kr2
    refine ⟨_, rfl, _, rfl, _, rfl, _, rfl, _, rfl, h, wt, l, a, t1, t2, P', W, ps, one, two, rfl, fx, wd, tr1, tr2, tb1, tb2, fun H9 k9 hd9 => ⟨_, rfl, iteF ?_⟩⟩
    have fx9 := fx.keep k9 hd9
    refine ⟨_, rfl, _, rfl, _, rfl, _, rfl, _, rfl, h, wt, l, a, t1, t2, P', W, ps, one, two, rfl, fx9, wd, tr1, tr2, tb1, tb2, fun HA kA hdA => ⟨_, rfl, iteF ?_⟩⟩
    have fxA := fx9.keep kA hdA
    refine ⟨_, rfl, _, rfl, (by show 2 ≤ sizeLine; decide), fun u nu => ?_⟩
    have fxB := fxA.same (same_new (o := .tup [.ref t1, .ref t2]) nu)
    have eu : (upd HA u (.tup [.ref t1, .ref t2])) u = some (.tup [.ref t1, .ref t2]) := upd_same
    have uh := hand_ne fxA.hd nu
    generalize upd HA u (.tup [.ref t1, .ref t2]) = HB at fxB eu
    refine ⟨u, rfl, ⟨_, SqT.of eu⟩, ?_⟩
    refine for_tup (xs := [.ref t1, .ref t2]) (fun i σ G => ∃ m y10, σ = [some (.ref sa), some (.ref h), some (.ref wt), some (.int P'), some (.int W), some (.ref l), some (.ref a), m, some (.ref t1), some (.ref t2), y10] ∧ Keep h HB G ∧ Hand G h)
      ⟨_, _, rfl, Keep.refl, fxB.hd⟩ (fun i σ G _ hP => by obtain ⟨_, _, _, kG, _⟩ := hP; exact SqT.of (kG _ _ uh eu)) (fun i x σ G hx hP => ?_) (fun σ G hP => ?_)
    · obtain ⟨m, y10, rfl, kG, hdG⟩ := hP
      have fxG := fxB.keep kG hdG
      obtain ⟨t, ns, rfl, fxT, trn, tbn⟩ : ∃ (t : Addr) (ns : List Int), x = .ref t ∧ Fx T.C_Picture h wt l a t t P' W ps ns ns G ∧ Tour P' W ps ns ∧ ∀ z ∈ ns, Tid z := by
        match i, hx with
        | 0, hx => cases hx; exact ⟨t1, one, rfl, ⟨fxG.hd, fxG.w, fxG.kl, fxG.pic, fxG.k1, fxG.k1⟩, tr1, tb1⟩
        | 1, hx => cases hx; exact ⟨t2, two, rfl, ⟨fxG.hd, fxG.w, fxG.kl, fxG.pic, fxG.k2, fxG.k2⟩, tr2, tb2⟩
      refine ⟨_, rfl, _, rfl, _, rfl, _, rfl, h, wt, l, a, t, P', W, ps, ns, rfl, fxT, wd, trn, fun G2 k2 hd2 => ⟨_, rfl, iteF ?_⟩⟩
      have fx2 := fxT.keep k2 hd2
      refine ⟨_, rfl, _, rfl, _, rfl, wt, l, a, t, P', W, ps, ns, rfl, fx2.w, fx2.kl, fx2.pic, fx2.k1, wd, trn, tbn, fun G3 s3 => ⟨_, rfl, iteF ?_⟩⟩
      exact ⟨_, _, rfl, (kG.trans k2).trans (Keep.of s3), hd2.same s3⟩
    · obtain ⟨m, y10, rfl, kG, hdG⟩ := hP
      have fxG := fxB.keep kG hdG
      refine ⟨_, rfl, _, rfl, 0, a, .ref t1, .non, tupD one, .none, P', W, ps, rfl, fxG.pic, fxG.k1, .non, by decide, by decide, (fun z => by omega), (fun z => by omega), (fun z => by omega), fun G2 v r s2 an kv => ?_⟩
      have it : IsT P' W ps (tupD one) one := ⟨rfl, tr1⟩
      have er : r = tagD "let" (tupD one) := by
        cases an with
        | t0e h => rw [it.none] at h; cases h
        | t0 h => rw [it.uniq h]
      subst er
      refine ⟨_, rfl, (by show 2 ≤ sizeLine; decide), fun u2 nu2 => ?_⟩
      have s3 := same_new (o := .tup [.str "let", .ref t1]) nu2
      refine ⟨_, tagD "let" (tupD one), (kv.same s3).dp, (Dq.tup upd_same (.cons (.str _) (.cons ((fxG.k1.same s2).same s3) .nil)) : Dq _ (.ref u2) (tagD "let" (tupD one))).dp, shp_let one, shp_let one, ?_⟩
      rw [eqv_let]
      exact q _
end
end K01
set_option Elab.async false
set_option linter.all false
set_option maxRecDepth 100000
set_option maxHeartbeats 8000000
set_option exponentiation.threshold 5000
namespace K01
open PySem PySem.Spec PyProof.Rows L2 TkS
theorem own_cls {K : PySem.W.Frag} {t : Value} {C : Addr} {b : Bool} (h2 : PySem.W.isClsIn K C = true) (h3 : PySem.W.typeIn K (.ref C) = some (.type "type")) (h4 : PySem.W.subIn K t (.ref C) = some b) : PySem.W.kitCls K t (.ref C) = some b := by
  have e2 : ((PySem.W.clsIn K C).isSome && PySem.W.typeIn K (.ref C) == some (.type "type")) = true := by
    have h2' : (PySem.W.clsIn K C).isSome = true := h2
    rw [h2', h3] <;> rfl
  show (if ((PySem.W.clsIn K C).isSome && PySem.W.typeIn K (.ref C) == some (.type "type")) = true then PySem.W.subIn K t (.ref C) else none) = some b
  rw [if_pos e2]
  exact h4
theorem own_exm {K : PySem.W.Frag} {t : Value} {C : Addr} {b : Bool} (h1 : PySem.W.subIn K (.ref C) (.type "BaseException") = some true) (h2 : PySem.W.isClsIn K C = true) (h3 : PySem.W.typeIn K (.ref C) = some (.type "type")) (h4 : PySem.W.subIn K t (.ref C) = some b) : PySem.W.exmOne K t (.ref C) = some b := by
  have e1 : (PySem.W.subIn K (.ref C) (.type "BaseException") == some true) = true := by rw [h1] <;> rfl
  show (if (PySem.W.subIn K (.ref C) (.type "BaseException") == some true) = true then PySem.W.kitCls K t (.ref C) else none) = some b
  rw [if_pos e1]
  exact own_cls h2 h3 h4
theorem own_kit {K : PySem.W.Frag} {D C : Addr} {b : Bool} (h2 : PySem.W.isClsIn K C = true) (h3 : PySem.W.typeIn K (.ref C) = some (.type "type")) (h4 : PySem.W.subIn K (.ref D) (.ref C) = some b) (hb : (D == C) = true → b = true) : PySem.W.kitOne K (.ref D) (.ref C) = some b := by
  unfold PySem.W.kitOne
  by_cases z : ((Value.ref D) == (Value.ref C)) = true
  · rw [if_pos z]
    have z2 : (D == C) = true := by
      have := eq_of_beq z
      cases this
      exact beq_self_eq_true _
    rw [hb z2]
  · rw [if_neg z]
    exact own_cls h2 h3 h4
theorem all_mk {l : PySem.W.OpenLaw} {w : World} {K : PySem.W.Frag} {h : Heap} {mg : Str → Option Value} {fa CE_SheetError CE_BadPicture CE_NotOpen CE_BadTour CE_BadWhole CE_BadSaying CC_Picture pp19 f0 f1 f2 f3 f4 f5 f6 f7 f8 f9 f10 f11 f12 f13 f14 f15 f16 f17 f18 f19 f20 f21 f22 f23 f24 f25 f26 f27 f28 f29 f30 f31 f32 f33 f34 f35 f36 f37 f38 f39 f40 f41 f42 f43 f44 f45 f46 f47 f48 f49 : Addr} {rest19 : List Value} {tkc_MOST_CORNERS : Tok} (X : K.In h) (G : h.Ns mainGlobals mg) (hfa : mg "law" = some (.ref fa))
    {od0 an0 : Option Addr} {sl0 : Array (Option Value)} {oc0 kV0 dc0 pm0 cd0 ct0 : Value}
    {od1 an1 : Option Addr} {sl1 : Array (Option Value)} {oc1 kV1 dc1 pm1 cd1 ct1 : Value}
    {od2 an2 : Option Addr} {sl2 : Array (Option Value)} {oc2 kV2 dc2 pm2 cd2 ct2 : Value}
    {od3 an3 : Option Addr} {sl3 : Array (Option Value)} {oc3 kV3 dc3 pm3 cd3 ct3 : Value}
    {od4 an4 : Option Addr} {sl4 : Array (Option Value)} {oc4 kV4 dc4 pm4 cd4 ct4 : Value}
    {D4 : Addr} {ocD4 : Value} {odD4 : Option Addr} {nD4 : Nat} {slD4 : Array (Option Value)}
    {od5 an5 : Option Addr} {sl5 : Array (Option Value)} {oc5 kV5 dc5 pm5 cd5 ct5 : Value}
    {od6 an6 : Option Addr} {sl6 : Array (Option Value)} {oc6 kV6 dc6 pm6 cd6 ct6 : Value}
    {D6 : Addr} {ocD6 : Value} {odD6 : Option Addr} {nD6 : Nat} {slD6 : Array (Option Value)}
    {od7 an7 : Option Addr} {sl7 : Array (Option Value)} {oc7 kV7 dc7 pm7 cd7 ct7 : Value}
    {od8 an8 : Option Addr} {sl8 : Array (Option Value)} {oc8 kV8 dc8 pm8 cd8 ct8 : Value}
    {od9 an9 : Option Addr} {sl9 : Array (Option Value)} {oc9 kV9 dc9 pm9 cd9 ct9 : Value}
    {od10 an10 : Option Addr} {sl10 : Array (Option Value)} {oc10 kV10 dc10 pm10 cd10 ct10 : Value}
    {od11 an11 : Option Addr} {sl11 : Array (Option Value)} {oc11 kV11 dc11 pm11 cd11 ct11 : Value}
    {od12 an12 : Option Addr} {sl12 : Array (Option Value)} {oc12 kV12 dc12 pm12 cd12 ct12 : Value}
    {od13 an13 : Option Addr} {sl13 : Array (Option Value)} {oc13 kV13 dc13 pm13 cd13 ct13 : Value}
    {od14 an14 : Option Addr} {sl14 : Array (Option Value)} {oc14 kV14 dc14 pm14 cd14 ct14 : Value}
    {od15 an15 : Option Addr} {sl15 : Array (Option Value)} {oc15 kV15 dc15 pm15 cd15 ct15 : Value}
    {od16 an16 : Option Addr} {sl16 : Array (Option Value)} {oc16 kV16 dc16 pm16 cd16 ct16 : Value}
    {od17 an17 : Option Addr} {sl17 : Array (Option Value)} {oc17 kV17 dc17 pm17 cd17 ct17 : Value}
    {od18 an18 : Option Addr} {sl18 : Array (Option Value)} {oc18 kV18 dc18 pm18 cd18 ct18 : Value}
    {od19 an19 : Option Addr} {sl19 : Array (Option Value)} {oc19 kV19 dc19 pm19 cd19 ct19 : Value}
    {od20 an20 : Option Addr} {sl20 : Array (Option Value)} {oc20 kV20 dc20 pm20 cd20 ct20 : Value}
    {od21 an21 : Option Addr} {sl21 : Array (Option Value)} {oc21 kV21 dc21 pm21 cd21 ct21 : Value}
    {od22 an22 : Option Addr} {sl22 : Array (Option Value)} {oc22 kV22 dc22 pm22 cd22 ct22 : Value}
    {od23 an23 : Option Addr} {sl23 : Array (Option Value)} {oc23 kV23 dc23 pm23 cd23 ct23 : Value}
    {od24 an24 : Option Addr} {sl24 : Array (Option Value)} {oc24 kV24 dc24 pm24 cd24 ct24 : Value}
    {od25 an25 : Option Addr} {sl25 : Array (Option Value)} {oc25 kV25 dc25 pm25 cd25 ct25 : Value}
    {od26 an26 : Option Addr} {sl26 : Array (Option Value)} {oc26 kV26 dc26 pm26 cd26 ct26 : Value}
    {od27 an27 : Option Addr} {sl27 : Array (Option Value)} {oc27 kV27 dc27 pm27 cd27 ct27 : Value}
    {od28 an28 : Option Addr} {sl28 : Array (Option Value)} {oc28 kV28 dc28 pm28 cd28 ct28 : Value}
    {od29 an29 : Option Addr} {sl29 : Array (Option Value)} {oc29 kV29 dc29 pm29 cd29 ct29 : Value}
    {od30 an30 : Option Addr} {sl30 : Array (Option Value)} {oc30 kV30 dc30 pm30 cd30 ct30 : Value}
    {od31 an31 : Option Addr} {sl31 : Array (Option Value)} {oc31 kV31 dc31 pm31 cd31 ct31 : Value}
    {od32 an32 : Option Addr} {sl32 : Array (Option Value)} {oc32 kV32 dc32 pm32 cd32 ct32 : Value}
    {od33 an33 : Option Addr} {sl33 : Array (Option Value)} {oc33 kV33 dc33 pm33 cd33 ct33 : Value}
    {od34 an34 : Option Addr} {sl34 : Array (Option Value)} {oc34 kV34 dc34 pm34 cd34 ct34 : Value}
    {od35 an35 : Option Addr} {sl35 : Array (Option Value)} {oc35 kV35 dc35 pm35 cd35 ct35 : Value}
    {od36 an36 : Option Addr} {sl36 : Array (Option Value)} {oc36 kV36 dc36 pm36 cd36 ct36 : Value}
    {od37 an37 : Option Addr} {sl37 : Array (Option Value)} {oc37 kV37 dc37 pm37 cd37 ct37 : Value}
    {od38 an38 : Option Addr} {sl38 : Array (Option Value)} {oc38 kV38 dc38 pm38 cd38 ct38 : Value}
    {od39 an39 : Option Addr} {sl39 : Array (Option Value)} {oc39 kV39 dc39 pm39 cd39 ct39 : Value}
    {od40 an40 : Option Addr} {sl40 : Array (Option Value)} {oc40 kV40 dc40 pm40 cd40 ct40 : Value}
    {od41 an41 : Option Addr} {sl41 : Array (Option Value)} {oc41 kV41 dc41 pm41 cd41 ct41 : Value}
    {od42 an42 : Option Addr} {sl42 : Array (Option Value)} {oc42 kV42 dc42 pm42 cd42 ct42 : Value}
    {od43 an43 : Option Addr} {sl43 : Array (Option Value)} {oc43 kV43 dc43 pm43 cd43 ct43 : Value}
    {od44 an44 : Option Addr} {sl44 : Array (Option Value)} {oc44 kV44 dc44 pm44 cd44 ct44 : Value}
    {od45 an45 : Option Addr} {sl45 : Array (Option Value)} {oc45 kV45 dc45 pm45 cd45 ct45 : Value}
    {od46 an46 : Option Addr} {sl46 : Array (Option Value)} {oc46 kV46 dc46 pm46 cd46 ct46 : Value}
    {od47 an47 : Option Addr} {sl47 : Array (Option Value)} {oc47 kV47 dc47 pm47 cd47 ct47 : Value}
    {od48 an48 : Option Addr} {sl48 : Array (Option Value)} {oc48 kV48 dc48 pm48 cd48 ct48 : Value}
    {od49 an49 : Option Addr} {sl49 : Array (Option Value)} {oc49 kV49 dc49 pm49 cd49 ct49 : Value}
    {nm_BadPicture qn_BadPicture : Str} {NB_BadPicture : Addr} {bs_BadPicture bm_BadPicture sub_BadPicture : List Value} {sn_BadPicture : List Str} {ab_BadPicture : Bool} {col_BadPicture : Option Bool} {dd_BadPicture : Option Addr} {m0_BadPicture m1_BadPicture m2_BadPicture m3_BadPicture m5_BadPicture : Option Value}
    {nm_NotOpen qn_NotOpen : Str} {NB_NotOpen : Addr} {bs_NotOpen bm_NotOpen sub_NotOpen : List Value} {sn_NotOpen : List Str} {ab_NotOpen : Bool} {col_NotOpen : Option Bool} {dd_NotOpen : Option Addr} {m0_NotOpen m1_NotOpen m2_NotOpen m3_NotOpen m5_NotOpen : Option Value}
    {nm_BadTour qn_BadTour : Str} {NB_BadTour : Addr} {bs_BadTour bm_BadTour sub_BadTour : List Value} {sn_BadTour : List Str} {ab_BadTour : Bool} {col_BadTour : Option Bool} {dd_BadTour : Option Addr} {m0_BadTour m1_BadTour m2_BadTour m3_BadTour m5_BadTour : Option Value}
    {nm_BadSaying qn_BadSaying : Str} {NB_BadSaying : Addr} {bs_BadSaying bm_BadSaying sub_BadSaying : List Value} {sn_BadSaying : List Str} {ab_BadSaying : Bool} {col_BadSaying : Option Bool} {dd_BadSaying : Option Addr} {m0_BadSaying m1_BadSaying m2_BadSaying m3_BadSaying m5_BadSaying : Option Value}
    (h_SheetError : PySem.W.nsIn K mainGlobals "SheetError" = some (some (.ref CE_SheetError)))
    (h_BadPicture : PySem.W.nsIn K mainGlobals "BadPicture" = some (some (.ref CE_BadPicture)))
    (h_NotOpen : PySem.W.nsIn K mainGlobals "NotOpen" = some (some (.ref CE_NotOpen)))
    (h_BadTour : PySem.W.nsIn K mainGlobals "BadTour" = some (some (.ref CE_BadTour)))
    (h_BadWhole : PySem.W.nsIn K mainGlobals "BadWhole" = some (some (.ref CE_BadWhole)))
    (h_BadSaying : PySem.W.nsIn K mainGlobals "BadSaying" = some (some (.ref CE_BadSaying)))
    (h_Picture : PySem.W.nsIn K mainGlobals "Picture" = some (some (.ref CC_Picture)))
    (a0 : PySem.W.findIn K (.ref CE_BadPicture) "__init__" = some (some (.ref f0)))
    (i0 : PySem.W.isFn K (.ref f0) = true)
    (l0 : K.lookup f0 = some ⟨oc0, od0, .func (PySem.W.fnOf "__init__" "BadPicture.__init__" (defArgs s_BadPicture_init) (defBody s_BadPicture_init) (defScope s_BadPicture_init) .none kV0 dc0 pm0 an0 cd0 ct0), sl0⟩)
    (c0 : PySem.W.codeIn K cd0 "BadPicture.__init__" = true)
    (k0 : PySem.W.keepIn K (.ref f0) = true)
    (a1 : PySem.W.findIn K (.ref CE_NotOpen) "__init__" = some (some (.ref f1)))
    (i1 : PySem.W.isFn K (.ref f1) = true)
    (l1 : K.lookup f1 = some ⟨oc1, od1, .func (PySem.W.fnOf "__init__" "NotOpen.__init__" (defArgs s_NotOpen_init) (defBody s_NotOpen_init) (defScope s_NotOpen_init) .none kV1 dc1 pm1 an1 cd1 ct1), sl1⟩)
    (c1 : PySem.W.codeIn K cd1 "NotOpen.__init__" = true)
    (k1 : PySem.W.keepIn K (.ref f1) = true)
    (a2 : PySem.W.findIn K (.ref CE_BadTour) "__init__" = some (some (.ref f2)))
    (i2 : PySem.W.isFn K (.ref f2) = true)
    (l2 : K.lookup f2 = some ⟨oc2, od2, .func (PySem.W.fnOf "__init__" "BadTour.__init__" (defArgs s_BadTour_init) (defBody s_BadTour_init) (defScope s_BadTour_init) .none kV2 dc2 pm2 an2 cd2 ct2), sl2⟩)
    (c2 : PySem.W.codeIn K cd2 "BadTour.__init__" = true)
    (k2 : PySem.W.keepIn K (.ref f2) = true)
    (a3 : PySem.W.findIn K (.ref CE_BadSaying) "__init__" = some (some (.ref f3)))
    (i3 : PySem.W.isFn K (.ref f3) = true)
    (l3 : K.lookup f3 = some ⟨oc3, od3, .func (PySem.W.fnOf "__init__" "BadSaying.__init__" (defArgs s_BadSaying_init) (defBody s_BadSaying_init) (defScope s_BadSaying_init) .none kV3 dc3 pm3 an3 cd3 ct3), sl3⟩)
    (c3 : PySem.W.codeIn K cd3 "BadSaying.__init__" = true)
    (k3 : PySem.W.keepIn K (.ref f3) = true)
    (a4 : PySem.W.nsIn K mainGlobals "is_whole" = some (some (.ref f4)))
    (l4 : K.lookup f4 = some ⟨oc4, od4, .func (PySem.W.fnOf "is_whole" "is_whole" (defArgs s_is_whole) (defBody s_is_whole) (defScope s_is_whole) (.ref D4) kV4 dc4 pm4 an4 cd4 ct4), sl4⟩)
    (c4 : PySem.W.codeIn K cd4 "is_whole" = true)
    (k4 : PySem.W.keepIn K (.ref f4) = true)
    (e4 : K.lookup D4 = some ⟨ocD4, odD4, .seq #[.none, .none] nD4, slD4⟩)
    (a5 : PySem.W.nsIn K mainGlobals "is_sign" = some (some (.ref f5)))
    (l5 : K.lookup f5 = some ⟨oc5, od5, .func (PySem.W.fnOf "is_sign" "is_sign" (defArgs s_is_sign) (defBody s_is_sign) (defScope s_is_sign) .none kV5 dc5 pm5 an5 cd5 ct5), sl5⟩)
    (c5 : PySem.W.codeIn K cd5 "is_sign" = true)
    (k5 : PySem.W.keepIn K (.ref f5) = true)
    (a6 : PySem.W.nsIn K mainGlobals "is_sequence" = some (some (.ref f6)))
    (l6 : K.lookup f6 = some ⟨oc6, od6, .func (PySem.W.fnOf "is_sequence" "is_sequence" (defArgs s_is_sequence) (defBody s_is_sequence) (defScope s_is_sequence) (.ref D6) kV6 dc6 pm6 an6 cd6 ct6), sl6⟩)
    (c6 : PySem.W.codeIn K cd6 "is_sequence" = true)
    (k6 : PySem.W.keepIn K (.ref f6) = true)
    (e6 : K.lookup D6 = some ⟨ocD6, odD6, .seq #[.none] nD6, slD6⟩)
    (a7 : PySem.W.nsIn K mainGlobals "check_tour" = some (some (.ref f7)))
    (l7 : K.lookup f7 = some ⟨oc7, od7, .func (PySem.W.fnOf "check_tour" "check_tour" (defArgs s_check_tour) (defBody s_check_tour) (defScope s_check_tour) .none kV7 dc7 pm7 an7 cd7 ct7), sl7⟩)
    (c7 : PySem.W.codeIn K cd7 "check_tour" = true)
    (k7 : PySem.W.keepIn K (.ref f7) = true)
    (a8 : PySem.W.nsIn K mainGlobals "no_tour" = some (some (.ref f8)))
    (l8 : K.lookup f8 = some ⟨oc8, od8, .func (PySem.W.fnOf "no_tour" "no_tour" (defArgs s_no_tour) (defBody s_no_tour) (defScope s_no_tour) .none kV8 dc8 pm8 an8 cd8 ct8), sl8⟩)
    (c8 : PySem.W.codeIn K cd8 "no_tour" = true)
    (k8 : PySem.W.keepIn K (.ref f8) = true)
    (a9 : PySem.W.nsIn K mainGlobals "tour_sum" = some (some (.ref f9)))
    (l9 : K.lookup f9 = some ⟨oc9, od9, .func (PySem.W.fnOf "tour_sum" "tour_sum" (defArgs s_tour_sum) (defBody s_tour_sum) (defScope s_tour_sum) .none kV9 dc9 pm9 an9 cd9 ct9), sl9⟩)
    (c9 : PySem.W.codeIn K cd9 "tour_sum" = true)
    (k9 : PySem.W.keepIn K (.ref f9) = true)
    (a10 : PySem.W.nsIn K mainGlobals "tour_times" = some (some (.ref f10)))
    (l10 : K.lookup f10 = some ⟨oc10, od10, .func (PySem.W.fnOf "tour_times" "tour_times" (defArgs s_tour_times) (defBody s_tour_times) (defScope s_tour_times) .none kV10 dc10 pm10 an10 cd10 ct10), sl10⟩)
    (c10 : PySem.W.codeIn K cd10 "tour_times" = true)
    (k10 : PySem.W.keepIn K (.ref f10) = true)
    (a11 : PySem.W.nsIn K mainGlobals "tour_size" = some (some (.ref f11)))
    (l11 : K.lookup f11 = some ⟨oc11, od11, .func (PySem.W.fnOf "tour_size" "tour_size" (defArgs s_tour_size) (defBody s_tour_size) (defScope s_tour_size) .none kV11 dc11 pm11 an11 cd11 ct11), sl11⟩)
    (c11 : PySem.W.codeIn K cd11 "tour_size" = true)
    (k11 : PySem.W.keepIn K (.ref f11) = true)
    (a12 : PySem.W.nsIn K mainGlobals "led_tour" = some (some (.ref f12)))
    (l12 : K.lookup f12 = some ⟨oc12, od12, .func (PySem.W.fnOf "led_tour" "led_tour" (defArgs s_led_tour) (defBody s_led_tour) (defScope s_led_tour) .none kV12 dc12 pm12 an12 cd12 ct12), sl12⟩)
    (c12 : PySem.W.codeIn K cd12 "led_tour" = true)
    (k12 : PySem.W.keepIn K (.ref f12) = true)
    (a13 : PySem.W.nsIn K mainGlobals "merged_labels" = some (some (.ref f13)))
    (l13 : K.lookup f13 = some ⟨oc13, od13, .func (PySem.W.fnOf "merged_labels" "merged_labels" (defArgs s_merged_labels) (defBody s_merged_labels) (defScope s_merged_labels) .none kV13 dc13 pm13 an13 cd13 ct13), sl13⟩)
    (c13 : PySem.W.codeIn K cd13 "merged_labels" = true)
    (k13 : PySem.W.keepIn K (.ref f13) = true)
    (a14 : PySem.W.nsIn K mainGlobals "_piece_labels" = some (some (.ref f14)))
    (l14 : K.lookup f14 = some ⟨oc14, od14, .func (PySem.W.fnOf "_piece_labels" "_piece_labels" (defArgs s_piece_labels) (defBody s_piece_labels) (defScope s_piece_labels) .none kV14 dc14 pm14 an14 cd14 ct14), sl14⟩)
    (c14 : PySem.W.codeIn K cd14 "_piece_labels" = true)
    (k14 : PySem.W.keepIn K (.ref f14) = true)
    (a15 : PySem.W.nsIn K mainGlobals "_pieces_by_labels" = some (some (.ref f15)))
    (l15 : K.lookup f15 = some ⟨oc15, od15, .func (PySem.W.fnOf "_pieces_by_labels" "_pieces_by_labels" (defArgs s_pieces_by_labels) (defBody s_pieces_by_labels) (defScope s_pieces_by_labels) .none kV15 dc15 pm15 an15 cd15 ct15), sl15⟩)
    (c15 : PySem.W.codeIn K cd15 "_pieces_by_labels" = true)
    (k15 : PySem.W.keepIn K (.ref f15) = true)
    (a16 : PySem.W.findIn K (.ref CC_Picture) "__init__" = some (some (.ref f16)))
    (i16 : PySem.W.isFn K (.ref f16) = true)
    (l16 : K.lookup f16 = some ⟨oc16, od16, .func (PySem.W.fnOf "__init__" "Picture.__init__" (defArgs s_Picture_init) (defBody s_Picture_init) (defScope s_Picture_init) .none kV16 dc16 pm16 an16 cd16 ct16), sl16⟩)
    (c16 : PySem.W.codeIn K cd16 "Picture.__init__" = true)
    (k16 : PySem.W.keepIn K (.ref f16) = true)
    (a17 : PySem.W.findIn K (.ref CC_Picture) "__eq__" = some (some (.ref f17)))
    (i17 : PySem.W.isFn K (.ref f17) = true)
    (l17 : K.lookup f17 = some ⟨oc17, od17, .func (PySem.W.fnOf "__eq__" "Picture.__eq__" (defArgs s_Picture_eq) (defBody s_Picture_eq) (defScope s_Picture_eq) .none kV17 dc17 pm17 an17 cd17 ct17), sl17⟩)
    (c17 : PySem.W.codeIn K cd17 "Picture.__eq__" = true)
    (k17 : PySem.W.keepIn K (.ref f17) = true)
    (a18 : PySem.W.findIn K (.ref CC_Picture) "__len__" = some (some (.ref f18)))
    (i18 : PySem.W.isFn K (.ref f18) = true)
    (l18 : K.lookup f18 = some ⟨oc18, od18, .func (PySem.W.fnOf "__len__" "Picture.__len__" (defArgs s_Picture_len) (defBody s_Picture_len) (defScope s_Picture_len) .none kV18 dc18 pm18 an18 cd18 ct18), sl18⟩)
    (c18 : PySem.W.codeIn K cd18 "Picture.__len__" = true)
    (k18 : PySem.W.keepIn K (.ref f18) = true)
    (a19 : PySem.W.findIn K (.ref CC_Picture) "pieces" = some (some (.ref pp19)))
    (r19 : PySem.W.recIn K pp19 "property" = some (.ref f19 :: rest19))
    (i19 : PySem.W.isFn K (.ref f19) = true)
    (l19 : K.lookup f19 = some ⟨oc19, od19, .func (PySem.W.fnOf "pieces" "Picture.pieces" (defArgs s_Picture_pieces) (defBody s_Picture_pieces) (defScope s_Picture_pieces) .none kV19 dc19 pm19 an19 cd19 ct19), sl19⟩)
    (c19 : PySem.W.codeIn K cd19 "Picture.pieces" = true)
    (k19 : PySem.W.keepIn K (.ref f19) = true)
    (a20 : PySem.W.findIn K (.ref CC_Picture) "_is_pair" = some (some (.ref f20)))
    (i20 : PySem.W.isFn K (.ref f20) = true)
    (l20 : K.lookup f20 = some ⟨oc20, od20, .func (PySem.W.fnOf "_is_pair" "Picture._is_pair" (defArgs s_Pictureis_pair) (defBody s_Pictureis_pair) (defScope s_Pictureis_pair) .none kV20 dc20 pm20 an20 cd20 ct20), sl20⟩)
    (c20 : PySem.W.codeIn K cd20 "Picture._is_pair" = true)
    (k20 : PySem.W.keepIn K (.ref f20) = true)
    (a21 : PySem.W.findIn K (.ref CC_Picture) "place_of" = some (some (.ref f21)))
    (i21 : PySem.W.isFn K (.ref f21) = true)
    (l21 : K.lookup f21 = some ⟨oc21, od21, .func (PySem.W.fnOf "place_of" "Picture.place_of" (defArgs s_Picture_place_of) (defBody s_Picture_place_of) (defScope s_Picture_place_of) .none kV21 dc21 pm21 an21 cd21 ct21), sl21⟩)
    (c21 : PySem.W.codeIn K cd21 "Picture.place_of" = true)
    (k21 : PySem.W.keepIn K (.ref f21) = true)
    (a22 : PySem.W.findIn K (.ref CC_Picture) "is_open" = some (some (.ref f22)))
    (i22 : PySem.W.isFn K (.ref f22) = true)
    (l22 : K.lookup f22 = some ⟨oc22, od22, .func (PySem.W.fnOf "is_open" "Picture.is_open" (defArgs s_Picture_is_open) (defBody s_Picture_is_open) (defScope s_Picture_is_open) .none kV22 dc22 pm22 an22 cd22 ct22), sl22⟩)
    (c22 : PySem.W.codeIn K cd22 "Picture.is_open" = true)
    (k22 : PySem.W.keepIn K (.ref f22) = true)
    (a23 : PySem.W.nsIn K mainGlobals "check_saying" = some (some (.ref f23)))
    (l23 : K.lookup f23 = some ⟨oc23, od23, .func (PySem.W.fnOf "check_saying" "check_saying" (defArgs s_check_saying) (defBody s_check_saying) (defScope s_check_saying) .none kV23 dc23 pm23 an23 cd23 ct23), sl23⟩)
    (c23 : PySem.W.codeIn K cd23 "check_saying" = true)
    (k23 : PySem.W.keepIn K (.ref f23) = true)
    (a24 : PySem.W.nsIn K mainGlobals "minus_saying" = some (some (.ref f24)))
    (l24 : K.lookup f24 = some ⟨oc24, od24, .func (PySem.W.fnOf "minus_saying" "minus_saying" (defArgs s_minus_saying) (defBody s_minus_saying) (defScope s_minus_saying) .none kV24 dc24 pm24 an24 cd24 ct24), sl24⟩)
    (c24 : PySem.W.codeIn K cd24 "minus_saying" = true)
    (k24 : PySem.W.keepIn K (.ref f24) = true)
    (a25 : PySem.W.nsIn K mainGlobals "saying_sum" = some (some (.ref f25)))
    (l25 : K.lookup f25 = some ⟨oc25, od25, .func (PySem.W.fnOf "saying_sum" "saying_sum" (defArgs s_saying_sum) (defBody s_saying_sum) (defScope s_saying_sum) .none kV25 dc25 pm25 an25 cd25 ct25), sl25⟩)
    (c25 : PySem.W.codeIn K cd25 "saying_sum" = true)
    (k25 : PySem.W.keepIn K (.ref f25) = true)
    (a26 : PySem.W.nsIn K mainGlobals "saying_times" = some (some (.ref f26)))
    (l26 : K.lookup f26 = some ⟨oc26, od26, .func (PySem.W.fnOf "saying_times" "saying_times" (defArgs s_saying_times) (defBody s_saying_times) (defScope s_saying_times) .none kV26 dc26 pm26 an26 cd26 ct26), sl26⟩)
    (c26 : PySem.W.codeIn K cd26 "saying_times" = true)
    (k26 : PySem.W.keepIn K (.ref f26) = true)
    (a27 : PySem.W.nsIn K mainGlobals "_law_hand" = some (some (.ref f27)))
    (l27 : K.lookup f27 = some ⟨oc27, od27, .func (PySem.W.fnOf "_law_hand" "_law_hand" (defArgs s_law_hand) (defBody s_law_hand) (defScope s_law_hand) .none kV27 dc27 pm27 an27 cd27 ct27), sl27⟩)
    (c27 : PySem.W.codeIn K cd27 "_law_hand" = true)
    (k27 : PySem.W.keepIn K (.ref f27) = true)
    (a28 : PySem.W.nsIn K mainGlobals "_law_mixed" = some (some (.ref f28)))
    (l28 : K.lookup f28 = some ⟨oc28, od28, .func (PySem.W.fnOf "_law_mixed" "_law_mixed" (defArgs s_law_mixed) (defBody s_law_mixed) (defScope s_law_mixed) .none kV28 dc28 pm28 an28 cd28 ct28), sl28⟩)
    (c28 : PySem.W.codeIn K cd28 "_law_mixed" = true)
    (k28 : PySem.W.keepIn K (.ref f28) = true)
    (a29 : PySem.W.nsIn K mainGlobals "_law_take" = some (some (.ref f29)))
    (l29 : K.lookup f29 = some ⟨oc29, od29, .func (PySem.W.fnOf "_law_take" "_law_take" (defArgs s_law_take) (defBody s_law_take) (defScope s_law_take) .none kV29 dc29 pm29 an29 cd29 ct29), sl29⟩)
    (c29 : PySem.W.codeIn K cd29 "_law_take" = true)
    (k29 : PySem.W.keepIn K (.ref f29) = true)
    (a30 : PySem.W.nsIn K mainGlobals "_law_whole" = some (some (.ref f30)))
    (l30 : K.lookup f30 = some ⟨oc30, od30, .func (PySem.W.fnOf "_law_whole" "_law_whole" (defArgs s_law_whole) (defBody s_law_whole) (defScope s_law_whole) .none kV30 dc30 pm30 an30 cd30 ct30), sl30⟩)
    (c30 : PySem.W.codeIn K cd30 "_law_whole" = true)
    (k30 : PySem.W.keepIn K (.ref f30) = true)
    (a31 : PySem.W.nsIn K mainGlobals "_law_full" = some (some (.ref f31)))
    (l31 : K.lookup f31 = some ⟨oc31, od31, .func (PySem.W.fnOf "_law_full" "_law_full" (defArgs s_law_full) (defBody s_law_full) (defScope s_law_full) .none kV31 dc31 pm31 an31 cd31 ct31), sl31⟩)
    (c31 : PySem.W.codeIn K cd31 "_law_full" = true)
    (k31 : PySem.W.keepIn K (.ref f31) = true)
    (a32 : PySem.W.nsIn K mainGlobals "_law_picture" = some (some (.ref f32)))
    (l32 : K.lookup f32 = some ⟨oc32, od32, .func (PySem.W.fnOf "_law_picture" "_law_picture" (defArgs s_law_picture) (defBody s_law_picture) (defScope s_law_picture) .none kV32 dc32 pm32 an32 cd32 ct32), sl32⟩)
    (c32 : PySem.W.codeIn K cd32 "_law_picture" = true)
    (k32 : PySem.W.keepIn K (.ref f32) = true)
    (a33 : PySem.W.nsIn K mainGlobals "_law_marks" = some (some (.ref f33)))
    (l33 : K.lookup f33 = some ⟨oc33, od33, .func (PySem.W.fnOf "_law_marks" "_law_marks" (defArgs s_law_marks) (defBody s_law_marks) (defScope s_law_marks) .none kV33 dc33 pm33 an33 cd33 ct33), sl33⟩)
    (c33 : PySem.W.codeIn K cd33 "_law_marks" = true)
    (k33 : PySem.W.keepIn K (.ref f33) = true)
    (a34 : PySem.W.nsIn K mainGlobals "_law_tree" = some (some (.ref f34)))
    (l34 : K.lookup f34 = some ⟨oc34, od34, .func (PySem.W.fnOf "_law_tree" "_law_tree" (defArgs s_law_tree) (defBody s_law_tree) (defScope s_law_tree) .none kV34 dc34 pm34 an34 cd34 ct34), sl34⟩)
    (c34 : PySem.W.codeIn K cd34 "_law_tree" = true)
    (k34 : PySem.W.keepIn K (.ref f34) = true)
    (a35 : PySem.W.nsIn K mainGlobals "_law_tour_of" = some (some (.ref f35)))
    (l35 : K.lookup f35 = some ⟨oc35, od35, .func (PySem.W.fnOf "_law_tour_of" "_law_tour_of" (defArgs s_law_tour_of) (defBody s_law_tour_of) (defScope s_law_tour_of) .none kV35 dc35 pm35 an35 cd35 ct35), sl35⟩)
    (c35 : PySem.W.codeIn K cd35 "_law_tour_of" = true)
    (k35 : PySem.W.keepIn K (.ref f35) = true)
    (a36 : PySem.W.nsIn K mainGlobals "_law_sum" = some (some (.ref f36)))
    (l36 : K.lookup f36 = some ⟨oc36, od36, .func (PySem.W.fnOf "_law_sum" "_law_sum" (defArgs s_law_sum) (defBody s_law_sum) (defScope s_law_sum) .none kV36 dc36 pm36 an36 cd36 ct36), sl36⟩)
    (c36 : PySem.W.codeIn K cd36 "_law_sum" = true)
    (k36 : PySem.W.keepIn K (.ref f36) = true)
    (a37 : PySem.W.nsIn K mainGlobals "_law_times" = some (some (.ref f37)))
    (l37 : K.lookup f37 = some ⟨oc37, od37, .func (PySem.W.fnOf "_law_times" "_law_times" (defArgs s_law_times) (defBody s_law_times) (defScope s_law_times) .none kV37 dc37 pm37 an37 cd37 ct37), sl37⟩)
    (c37 : PySem.W.codeIn K cd37 "_law_times" = true)
    (k37 : PySem.W.keepIn K (.ref f37) = true)
    (a38 : PySem.W.nsIn K mainGlobals "_law_numbers" = some (some (.ref f38)))
    (l38 : K.lookup f38 = some ⟨oc38, od38, .func (PySem.W.fnOf "_law_numbers" "_law_numbers" (defArgs s_law_numbers) (defBody s_law_numbers) (defScope s_law_numbers) .none kV38 dc38 pm38 an38 cd38 ct38), sl38⟩)
    (c38 : PySem.W.codeIn K cd38 "_law_numbers" = true)
    (k38 : PySem.W.keepIn K (.ref f38) = true)
    (a39 : PySem.W.nsIn K mainGlobals "_law_tour_due" = some (some (.ref f39)))
    (l39 : K.lookup f39 = some ⟨oc39, od39, .func (PySem.W.fnOf "_law_tour_due" "_law_tour_due" (defArgs s_law_tour_due) (defBody s_law_tour_due) (defScope s_law_tour_due) .none kV39 dc39 pm39 an39 cd39 ct39), sl39⟩)
    (c39 : PySem.W.codeIn K cd39 "_law_tour_due" = true)
    (k39 : PySem.W.keepIn K (.ref f39) = true)
    (a40 : PySem.W.nsIn K mainGlobals "_law_saying_due" = some (some (.ref f40)))
    (l40 : K.lookup f40 = some ⟨oc40, od40, .func (PySem.W.fnOf "_law_saying_due" "_law_saying_due" (defArgs s_law_saying_due) (defBody s_law_saying_due) (defScope s_law_saying_due) .none kV40 dc40 pm40 an40 cd40 ct40), sl40⟩)
    (c40 : PySem.W.codeIn K cd40 "_law_saying_due" = true)
    (k40 : PySem.W.keepIn K (.ref f40) = true)
    (a41 : PySem.W.nsIn K mainGlobals "_law_tuple" = some (some (.ref f41)))
    (l41 : K.lookup f41 = some ⟨oc41, od41, .func (PySem.W.fnOf "_law_tuple" "_law_tuple" (defArgs s_law_tuple) (defBody s_law_tuple) (defScope s_law_tuple) .none kV41 dc41 pm41 an41 cd41 ct41), sl41⟩)
    (c41 : PySem.W.codeIn K cd41 "_law_tuple" = true)
    (k41 : PySem.W.keepIn K (.ref f41) = true)
    (a42 : PySem.W.nsIn K mainGlobals "_law_saying" = some (some (.ref f42)))
    (l42 : K.lookup f42 = some ⟨oc42, od42, .func (PySem.W.fnOf "_law_saying" "_law_saying" (defArgs s_law_saying) (defBody s_law_saying) (defScope s_law_saying) .none kV42 dc42 pm42 an42 cd42 ct42), sl42⟩)
    (c42 : PySem.W.codeIn K cd42 "_law_saying" = true)
    (k42 : PySem.W.keepIn K (.ref f42) = true)
    (a43 : PySem.W.nsIn K mainGlobals "_law_asked" = some (some (.ref f43)))
    (l43 : K.lookup f43 = some ⟨oc43, od43, .func (PySem.W.fnOf "_law_asked" "_law_asked" (defArgs s_law_asked) (defBody s_law_asked) (defScope s_law_asked) .none kV43 dc43 pm43 an43 cd43 ct43), sl43⟩)
    (c43 : PySem.W.codeIn K cd43 "_law_asked" = true)
    (k43 : PySem.W.keepIn K (.ref f43) = true)
    (a44 : PySem.W.nsIn K mainGlobals "_law_spoiled" = some (some (.ref f44)))
    (l44 : K.lookup f44 = some ⟨oc44, od44, .func (PySem.W.fnOf "_law_spoiled" "_law_spoiled" (defArgs s_law_spoiled) (defBody s_law_spoiled) (defScope s_law_spoiled) .none kV44 dc44 pm44 an44 cd44 ct44), sl44⟩)
    (c44 : PySem.W.codeIn K cd44 "_law_spoiled" = true)
    (k44 : PySem.W.keepIn K (.ref f44) = true)
    (a45 : PySem.W.nsIn K mainGlobals "_law_tours" = some (some (.ref f45)))
    (l45 : K.lookup f45 = some ⟨oc45, od45, .func (PySem.W.fnOf "_law_tours" "_law_tours" (defArgs s_law_tours) (defBody s_law_tours) (defScope s_law_tours) .none kV45 dc45 pm45 an45 cd45 ct45), sl45⟩)
    (c45 : PySem.W.codeIn K cd45 "_law_tours" = true)
    (k45 : PySem.W.keepIn K (.ref f45) = true)
    (a46 : PySem.W.nsIn K mainGlobals "_law_sayings" = some (some (.ref f46)))
    (l46 : K.lookup f46 = some ⟨oc46, od46, .func (PySem.W.fnOf "_law_sayings" "_law_sayings" (defArgs s_law_sayings) (defBody s_law_sayings) (defScope s_law_sayings) .none kV46 dc46 pm46 an46 cd46 ct46), sl46⟩)
    (c46 : PySem.W.codeIn K cd46 "_law_sayings" = true)
    (k46 : PySem.W.keepIn K (.ref f46) = true)
    (a47 : PySem.W.nsIn K mainGlobals "_law_led" = some (some (.ref f47)))
    (l47 : K.lookup f47 = some ⟨oc47, od47, .func (PySem.W.fnOf "_law_led" "_law_led" (defArgs s_law_led) (defBody s_law_led) (defScope s_law_led) .none kV47 dc47 pm47 an47 cd47 ct47), sl47⟩)
    (c47 : PySem.W.codeIn K cd47 "_law_led" = true)
    (k47 : PySem.W.keepIn K (.ref f47) = true)
    (a48 : PySem.W.nsIn K mainGlobals "_law_led_refused" = some (some (.ref f48)))
    (l48 : K.lookup f48 = some ⟨oc48, od48, .func (PySem.W.fnOf "_law_led_refused" "_law_led_refused" (defArgs s_law_led_refused) (defBody s_law_led_refused) (defScope s_law_led_refused) .none kV48 dc48 pm48 an48 cd48 ct48), sl48⟩)
    (c48 : PySem.W.codeIn K cd48 "_law_led_refused" = true)
    (k48 : PySem.W.keepIn K (.ref f48) = true)
    (a49 : PySem.W.nsIn K mainGlobals "law" = some (some (.ref f49)))
    (l49 : K.lookup f49 = some ⟨oc49, od49, .func (PySem.W.fnOf "law" "law" (defArgs s_law) (defBody s_law) (defScope s_law) .none kV49 dc49 pm49 an49 cd49 ct49), sl49⟩)
    (c49 : PySem.W.codeIn K cd49 "law" = true)
    (k49 : PySem.W.keepIn K (.ref f49) = true)
    (z_abs : PySem.W.nsIn K mainGlobals "abs" = some none)
    (z_any : PySem.W.nsIn K mainGlobals "any" = some none)
    (z_bool : PySem.W.nsIn K mainGlobals "bool" = some none)
    (z_int : PySem.W.nsIn K mainGlobals "int" = some none)
    (z_isinstance : PySem.W.nsIn K mainGlobals "isinstance" = some none)
    (z_len : PySem.W.nsIn K mainGlobals "len" = some none)
    (z_list : PySem.W.nsIn K mainGlobals "list" = some none)
    (z_min : PySem.W.nsIn K mainGlobals "min" = some none)
    (z_property : PySem.W.nsIn K mainGlobals "property" = some none)
    (z_range : PySem.W.nsIn K mainGlobals "range" = some none)
    (z_repr : PySem.W.nsIn K mainGlobals "repr" = some none)
    (z_sorted : PySem.W.nsIn K mainGlobals "sorted" = some none)
    (z_sum : PySem.W.nsIn K mainGlobals "sum" = some none)
    (z_tuple : PySem.W.nsIn K mainGlobals "tuple" = some none)
    (z_zip : PySem.W.nsIn K mainGlobals "zip" = some none)
    (zc_MOST_CORNERS : PySem.W.nsIn K mainGlobals "MOST_CORNERS" = some (some (.int 5 tkc_MOST_CORNERS)))
    (w1 : PySem.W.specialIn K (.builtin "object.__class__") "__get__" = some (some (.builtin "getset_descriptor.__get__")))
    (w2 : PySem.W.takesIn K (.builtin "object.__class__") = some true)
    (xt_SheetError : PySem.W.typeIn K (.ref CE_SheetError) = some (.type "type"))
    (xi_SheetError : PySem.W.isClsIn K CE_SheetError = true)
    (xt_BadPicture : PySem.W.typeIn K (.ref CE_BadPicture) = some (.type "type"))
    (xi_BadPicture : PySem.W.isClsIn K CE_BadPicture = true)
    (xb_BadPicture : PySem.W.subIn K (.ref CE_BadPicture) (.type "BaseException") = some true)
    (xk_BadPicture : PySem.W.keepIn K (.ref CE_BadPicture) = true)
    (x1_BadPicture : PySem.W.findIn K (.ref CE_BadPicture) "__getattribute__" = some (some (.builtin "BaseException.__getattribute__")))
    (x2_BadPicture : PySem.W.findIn K (.ref CE_BadPicture) "__getattr__" = some none)
    (x3_BadPicture : PySem.W.hasDictIn K CE_BadPicture = true)
    (x4_BadPicture : PySem.W.findIn K (.ref CE_BadPicture) "__class__" = some (some (.builtin "object.__class__")))
    (x5_BadPicture : PySem.W.mroIn K CE_BadPicture (.type "object") = some true)
    (xl_BadPicture : K.lookup CE_BadPicture = some (excClassObj nm_BadPicture qn_BadPicture CE_BadPicture NB_BadPicture bs_BadPicture bm_BadPicture true sn_BadPicture sub_BadPicture ab_BadPicture col_BadPicture dd_BadPicture m0_BadPicture m1_BadPicture m2_BadPicture m3_BadPicture m5_BadPicture "ValueError.__new__"))
    (xr_BadPicture : PySem.HandSPX.refsVE bm_BadPicture = true)
    (xs_BadPicture : PySem.W.findIn K (.ref CE_BadPicture) "__setattr__" = some (some (.builtin "object.__setattr__")))
    (xf_BadPicture : PySem.W.typeIn K (.ref f0) = some (.type "function"))
    (xn0_BadPicture : PySem.W.findIn K (.ref CE_BadPicture) "what" = some none)
    (xt_NotOpen : PySem.W.typeIn K (.ref CE_NotOpen) = some (.type "type"))
    (xi_NotOpen : PySem.W.isClsIn K CE_NotOpen = true)
    (xb_NotOpen : PySem.W.subIn K (.ref CE_NotOpen) (.type "BaseException") = some true)
    (xk_NotOpen : PySem.W.keepIn K (.ref CE_NotOpen) = true)
    (x1_NotOpen : PySem.W.findIn K (.ref CE_NotOpen) "__getattribute__" = some (some (.builtin "BaseException.__getattribute__")))
    (x2_NotOpen : PySem.W.findIn K (.ref CE_NotOpen) "__getattr__" = some none)
    (x3_NotOpen : PySem.W.hasDictIn K CE_NotOpen = true)
    (x4_NotOpen : PySem.W.findIn K (.ref CE_NotOpen) "__class__" = some (some (.builtin "object.__class__")))
    (x5_NotOpen : PySem.W.mroIn K CE_NotOpen (.type "object") = some true)
    (xl_NotOpen : K.lookup CE_NotOpen = some (excClassObj nm_NotOpen qn_NotOpen CE_NotOpen NB_NotOpen bs_NotOpen bm_NotOpen true sn_NotOpen sub_NotOpen ab_NotOpen col_NotOpen dd_NotOpen m0_NotOpen m1_NotOpen m2_NotOpen m3_NotOpen m5_NotOpen "ValueError.__new__"))
    (xr_NotOpen : PySem.HandSPX.refsVE bm_NotOpen = true)
    (xs_NotOpen : PySem.W.findIn K (.ref CE_NotOpen) "__setattr__" = some (some (.builtin "object.__setattr__")))
    (xf_NotOpen : PySem.W.typeIn K (.ref f1) = some (.type "function"))
    (xn0_NotOpen : PySem.W.findIn K (.ref CE_NotOpen) "pair" = some none)
    (xt_BadTour : PySem.W.typeIn K (.ref CE_BadTour) = some (.type "type"))
    (xi_BadTour : PySem.W.isClsIn K CE_BadTour = true)
    (xb_BadTour : PySem.W.subIn K (.ref CE_BadTour) (.type "BaseException") = some true)
    (xk_BadTour : PySem.W.keepIn K (.ref CE_BadTour) = true)
    (x1_BadTour : PySem.W.findIn K (.ref CE_BadTour) "__getattribute__" = some (some (.builtin "BaseException.__getattribute__")))
    (x2_BadTour : PySem.W.findIn K (.ref CE_BadTour) "__getattr__" = some none)
    (x3_BadTour : PySem.W.hasDictIn K CE_BadTour = true)
    (x4_BadTour : PySem.W.findIn K (.ref CE_BadTour) "__class__" = some (some (.builtin "object.__class__")))
    (x5_BadTour : PySem.W.mroIn K CE_BadTour (.type "object") = some true)
    (xl_BadTour : K.lookup CE_BadTour = some (excClassObj nm_BadTour qn_BadTour CE_BadTour NB_BadTour bs_BadTour bm_BadTour true sn_BadTour sub_BadTour ab_BadTour col_BadTour dd_BadTour m0_BadTour m1_BadTour m2_BadTour m3_BadTour m5_BadTour "ValueError.__new__"))
    (xr_BadTour : PySem.HandSPX.refsVE bm_BadTour = true)
    (xs_BadTour : PySem.W.findIn K (.ref CE_BadTour) "__setattr__" = some (some (.builtin "object.__setattr__")))
    (xf_BadTour : PySem.W.typeIn K (.ref f2) = some (.type "function"))
    (xn0_BadTour : PySem.W.findIn K (.ref CE_BadTour) "what" = some none)
    (xt_BadWhole : PySem.W.typeIn K (.ref CE_BadWhole) = some (.type "type"))
    (xi_BadWhole : PySem.W.isClsIn K CE_BadWhole = true)
    (xb_BadWhole : PySem.W.subIn K (.ref CE_BadWhole) (.type "BaseException") = some true)
    (xk_BadWhole : PySem.W.keepIn K (.ref CE_BadWhole) = true)
    (x1_BadWhole : PySem.W.findIn K (.ref CE_BadWhole) "__getattribute__" = some (some (.builtin "BaseException.__getattribute__")))
    (x2_BadWhole : PySem.W.findIn K (.ref CE_BadWhole) "__getattr__" = some none)
    (x3_BadWhole : PySem.W.hasDictIn K CE_BadWhole = true)
    (x4_BadWhole : PySem.W.findIn K (.ref CE_BadWhole) "__class__" = some (some (.builtin "object.__class__")))
    (x5_BadWhole : PySem.W.mroIn K CE_BadWhole (.type "object") = some true)
    (xq_BadWhole : PySem.W.excIn K CE_BadWhole [Value.type "ValueError", Value.type "Exception", Value.type "BaseException", Value.type "object"] "ValueError.__new__" = true)
    (xt_BadSaying : PySem.W.typeIn K (.ref CE_BadSaying) = some (.type "type"))
    (xi_BadSaying : PySem.W.isClsIn K CE_BadSaying = true)
    (xb_BadSaying : PySem.W.subIn K (.ref CE_BadSaying) (.type "BaseException") = some true)
    (xk_BadSaying : PySem.W.keepIn K (.ref CE_BadSaying) = true)
    (x1_BadSaying : PySem.W.findIn K (.ref CE_BadSaying) "__getattribute__" = some (some (.builtin "BaseException.__getattribute__")))
    (x2_BadSaying : PySem.W.findIn K (.ref CE_BadSaying) "__getattr__" = some none)
    (x3_BadSaying : PySem.W.hasDictIn K CE_BadSaying = true)
    (x4_BadSaying : PySem.W.findIn K (.ref CE_BadSaying) "__class__" = some (some (.builtin "object.__class__")))
    (x5_BadSaying : PySem.W.mroIn K CE_BadSaying (.type "object") = some true)
    (xl_BadSaying : K.lookup CE_BadSaying = some (excClassObj nm_BadSaying qn_BadSaying CE_BadSaying NB_BadSaying bs_BadSaying bm_BadSaying true sn_BadSaying sub_BadSaying ab_BadSaying col_BadSaying dd_BadSaying m0_BadSaying m1_BadSaying m2_BadSaying m3_BadSaying m5_BadSaying "ValueError.__new__"))
    (xr_BadSaying : PySem.HandSPX.refsVE bm_BadSaying = true)
    (xs_BadSaying : PySem.W.findIn K (.ref CE_BadSaying) "__setattr__" = some (some (.builtin "object.__setattr__")))
    (xf_BadSaying : PySem.W.typeIn K (.ref f3) = some (.type "function"))
    (xn0_BadSaying : PySem.W.findIn K (.ref CE_BadSaying) "what" = some none)
    (s_BadPicture_BadTour : PySem.W.subIn K (.ref CE_BadPicture) (.ref CE_BadTour) = some false)
    (s_NotOpen_BadTour : PySem.W.subIn K (.ref CE_NotOpen) (.ref CE_BadTour) = some false)
    (s_BadTour_BadTour : PySem.W.subIn K (.ref CE_BadTour) (.ref CE_BadTour) = some true)
    (s_BadWhole_BadTour : PySem.W.subIn K (.ref CE_BadWhole) (.ref CE_BadTour) = some false)
    (s_BadSaying_BadTour : PySem.W.subIn K (.ref CE_BadSaying) (.ref CE_BadTour) = some false)
    (s_BadPicture_BadSaying : PySem.W.subIn K (.ref CE_BadPicture) (.ref CE_BadSaying) = some false)
    (s_NotOpen_BadSaying : PySem.W.subIn K (.ref CE_NotOpen) (.ref CE_BadSaying) = some false)
    (s_BadTour_BadSaying : PySem.W.subIn K (.ref CE_BadTour) (.ref CE_BadSaying) = some false)
    (s_BadWhole_BadSaying : PySem.W.subIn K (.ref CE_BadWhole) (.ref CE_BadSaying) = some false)
    (s_BadSaying_BadSaying : PySem.W.subIn K (.ref CE_BadSaying) (.ref CE_BadSaying) = some true)
    (s_BadPicture_BadWhole : PySem.W.subIn K (.ref CE_BadPicture) (.ref CE_BadWhole) = some false)
    (s_NotOpen_BadWhole : PySem.W.subIn K (.ref CE_NotOpen) (.ref CE_BadWhole) = some false)
    (s_BadTour_BadWhole : PySem.W.subIn K (.ref CE_BadTour) (.ref CE_BadWhole) = some false)
    (s_BadWhole_BadWhole : PySem.W.subIn K (.ref CE_BadWhole) (.ref CE_BadWhole) = some true)
    (s_BadSaying_BadWhole : PySem.W.subIn K (.ref CE_BadSaying) (.ref CE_BadWhole) = some false)
    (s_BadPicture_NotOpen : PySem.W.subIn K (.ref CE_BadPicture) (.ref CE_NotOpen) = some false)
    (s_NotOpen_NotOpen : PySem.W.subIn K (.ref CE_NotOpen) (.ref CE_NotOpen) = some true)
    (s_BadTour_NotOpen : PySem.W.subIn K (.ref CE_BadTour) (.ref CE_NotOpen) = some false)
    (s_BadWhole_NotOpen : PySem.W.subIn K (.ref CE_BadWhole) (.ref CE_NotOpen) = some false)
    (s_BadSaying_NotOpen : PySem.W.subIn K (.ref CE_BadSaying) (.ref CE_NotOpen) = some false)
    (s_BadTour_SheetError : PySem.W.subIn K (.ref CE_BadTour) (.ref CE_SheetError) = some true)
    (ne_BadTour_BadSaying : (CE_BadTour == CE_BadSaying) = false)
    (s_BadSaying_SheetError : PySem.W.subIn K (.ref CE_BadSaying) (.ref CE_SheetError) = some true)
    (ne_BadSaying_BadTour : (CE_BadSaying == CE_BadTour) = false)
    (s_BadWhole_SheetError : PySem.W.subIn K (.ref CE_BadWhole) (.ref CE_SheetError) = some true)
    (s_NotOpen_SheetError : PySem.W.subIn K (.ref CE_NotOpen) (.ref CE_SheetError) = some true)
    (p1_Picture : PySem.W.plainGet K CC_Picture Str.empty = true)
    (p2_Picture : PySem.W.hasDictIn K CC_Picture = true)
    (p3_Picture : PySem.W.plainOver K CC_Picture = true)
    (p4_Picture : PySem.W.findIn K (.ref CC_Picture) "__setattr__" = some (some (.builtin "object.__setattr__")))
    (p5_Picture : PySem.W.makesIn K CC_Picture = true)
    (p6_Picture : PySem.W.keepIn K (.ref CC_Picture) = true)
    (na_Picture_points : PySem.W.findIn K (.ref CC_Picture) "points" = some none)
    (na_Picture_walls : PySem.W.findIn K (.ref CC_Picture) "walls" = some none)
    (na_Picture_pairs : PySem.W.findIn K (.ref CC_Picture) "pairs" = some none)
    (na_Picture__pieces : PySem.W.findIn K (.ref CC_Picture) "_pieces" = some none)
    (g1_19 : PySem.W.specialIn K (.ref pp19) "__get__" = some (some (.builtin "property.__get__")))
    (g2_19 : PySem.W.takesIn K (.ref pp19) = some true)
    (p7_Picture : PySem.W.findIn K (.ref CC_Picture) "__class__" = some (some (.builtin "object.__class__")))
    (p8_Picture : PySem.W.mroIn K CC_Picture (.type "object") = some true)
    (p9_Picture : PySem.W.subIn K (.ref CC_Picture) (.ref CC_Picture) = some true)
    (pi_Picture : PySem.W.isClsIn K CC_Picture = true)
    (pt_Picture : PySem.W.typeIn K (.ref CC_Picture) = some (.type "type")) :
    ∃ fd : FuncData, (∀ (s : Shared) (v : Value), BindsTo s fd ⟨[v], []⟩ [("_law_script", v)]) ∧ ∀ base : Heap, K.In base → base.Ns mainGlobals mg → TopOk l.prog w K mg base CX0 fa fd ["_law_script"] (sp_law K) := by
  have e := hfa.symm.trans (PySem.W.mg_of X G a49)
  cases e
  have F0 := fun_mk (st := s_BadPicture_init) l0 c0 k0
  have b0 := F0.binds (ps := ["self", "what"]) fun _ _ _ _ _ _ us hl => match us, hl with | [_, _], _ => rfl
  have F1 := fun_mk (st := s_NotOpen_init) l1 c1 k1
  have b1 := F1.binds (ps := ["self", "pair"]) fun _ _ _ _ _ _ us hl => match us, hl with | [_, _], _ => rfl
  have F2 := fun_mk (st := s_BadTour_init) l2 c2 k2
  have b2 := F2.binds (ps := ["self", "what"]) fun _ _ _ _ _ _ us hl => match us, hl with | [_, _], _ => rfl
  have F3 := fun_mk (st := s_BadSaying_init) l3 c3 k3
  have b3 := F3.binds (ps := ["self", "what"]) fun _ _ _ _ _ _ us hl => match us, hl with | [_, _], _ => rfl
  have F4 : FunD K "is_whole" "is_whole" (defArgs s_is_whole) (defBody s_is_whole) (defScope s_is_whole) [.non, .non] [] f4 (PySem.W.fnOf "is_whole" "is_whole" (defArgs s_is_whole) (defBody s_is_whole) (defScope s_is_whole) (.ref D4) kV4 dc4 pm4 an4 cd4 ct4) := 
    ⟨⟨oc4, od4, .ref D4, kV4, dc4, pm4, an4, cd4, ct4, sl4, rfl, l4, c4, .inr ⟨by simp, D4, _, [.none, .none], _, rfl, e4, rfl, .cons rfl (.cons rfl .nil)⟩, .inl rfl⟩, k4⟩
  have bq4_2 : Binds K (PySem.W.fnOf "is_whole" "is_whole" (defArgs s_is_whole) (defBody s_is_whole) (defScope s_is_whole) (.ref D4) kV4 dc4 pm4 an4 cd4 ct4) ["thing", "low", "high"] [.none, .none] := fun s us X hl => by
    have hl : us.length = 1 := by
      rw [List.length_append] at hl
      exact Nat.add_right_cancel (m := 2) hl
    match us, hl with
    | [u0], _ => exact BindsTo.of_looks fun M => looks_items (its := #[.none, .none]) X e4 rfl (.of_pure rfl)
  have bq4_0 : Binds K (PySem.W.fnOf "is_whole" "is_whole" (defArgs s_is_whole) (defBody s_is_whole) (defScope s_is_whole) (.ref D4) kV4 dc4 pm4 an4 cd4 ct4) ["thing", "low", "high"] [] := fun s us X hl => by
    match us, hl with
    | [u0, u1, u2], _ => exact BindsTo.of_looks fun M => looks_items (its := #[.none, .none]) X e4 rfl (.of_pure rfl)
  have F5 := fun_mk (st := s_is_sign) l5 c5 k5
  have b5 := F5.binds (ps := ["thing"]) fun _ _ _ _ _ _ us hl => match us, hl with | [_], _ => rfl
  have F6 : FunD K "is_sequence" "is_sequence" (defArgs s_is_sequence) (defBody s_is_sequence) (defScope s_is_sequence) [.non] [] f6 (PySem.W.fnOf "is_sequence" "is_sequence" (defArgs s_is_sequence) (defBody s_is_sequence) (defScope s_is_sequence) (.ref D6) kV6 dc6 pm6 an6 cd6 ct6) := 
    ⟨⟨oc6, od6, .ref D6, kV6, dc6, pm6, an6, cd6, ct6, sl6, rfl, l6, c6, .inr ⟨by simp, D6, _, [.none], _, rfl, e6, rfl, .cons rfl .nil⟩, .inl rfl⟩, k6⟩
  have bq6_1 : Binds K (PySem.W.fnOf "is_sequence" "is_sequence" (defArgs s_is_sequence) (defBody s_is_sequence) (defScope s_is_sequence) (.ref D6) kV6 dc6 pm6 an6 cd6 ct6) ["thing", "length"] [.none] := fun s us X hl => by
    have hl : us.length = 1 := by
      rw [List.length_append] at hl
      exact Nat.add_right_cancel (m := 1) hl
    match us, hl with
    | [u0], _ => exact BindsTo.of_looks fun M => looks_items (its := #[.none]) X e6 rfl (.of_pure rfl)
  have bq6_0 : Binds K (PySem.W.fnOf "is_sequence" "is_sequence" (defArgs s_is_sequence) (defBody s_is_sequence) (defScope s_is_sequence) (.ref D6) kV6 dc6 pm6 an6 cd6 ct6) ["thing", "length"] [] := fun s us X hl => by
    match us, hl with
    | [u0, u1], _ => exact BindsTo.of_looks fun M => looks_items (its := #[.none]) X e6 rfl (.of_pure rfl)
  have F7 := fun_mk (st := s_check_tour) l7 c7 k7
  have b7 := F7.binds (ps := ["picture", "tour"]) fun _ _ _ _ _ _ us hl => match us, hl with | [_, _], _ => rfl
  have F8 := fun_mk (st := s_no_tour) l8 c8 k8
  have b8 := F8.binds (ps := ["picture"]) fun _ _ _ _ _ _ us hl => match us, hl with | [_], _ => rfl
  have F9 := fun_mk (st := s_tour_sum) l9 c9 k9
  have b9 := F9.binds (ps := ["picture", "one", "other"]) fun _ _ _ _ _ _ us hl => match us, hl with | [_, _, _], _ => rfl
  have F10 := fun_mk (st := s_tour_times) l10 c10 k10
  have b10 := F10.binds (ps := ["picture", "tour", "whole"]) fun _ _ _ _ _ _ us hl => match us, hl with | [_, _, _], _ => rfl
  have F11 := fun_mk (st := s_tour_size) l11 c11 k11
  have b11 := F11.binds (ps := ["picture", "tour"]) fun _ _ _ _ _ _ us hl => match us, hl with | [_, _], _ => rfl
  have F12 := fun_mk (st := s_led_tour) l12 c12 k12
  have b12 := F12.binds (ps := ["one", "other", "tour"]) fun _ _ _ _ _ _ us hl => match us, hl with | [_, _, _], _ => rfl
  have F13 := fun_mk (st := s_merged_labels) l13 c13 k13
  have b13 := F13.binds (ps := ["labels", "one", "other"]) fun _ _ _ _ _ _ us hl => match us, hl with | [_, _, _], _ => rfl
  have F14 := fun_mk (st := s_piece_labels) l14 c14 k14
  have b14 := F14.binds (ps := ["points", "walls", "pairs"]) fun _ _ _ _ _ _ us hl => match us, hl with | [_, _, _], _ => rfl
  have F15 := fun_mk (st := s_pieces_by_labels) l15 c15 k15
  have b15 := F15.binds (ps := ["points", "labels"]) fun _ _ _ _ _ _ us hl => match us, hl with | [_, _], _ => rfl
  have F16 := fun_mk (st := s_Picture_init) l16 c16 k16
  have b16 := F16.binds (ps := ["self", "points", "walls", "pairs"]) fun _ _ _ _ _ _ us hl => match us, hl with | [_, _, _, _], _ => rfl
  have F17 := fun_mk (st := s_Picture_eq) l17 c17 k17
  have b17 := F17.binds (ps := ["self", "other"]) fun _ _ _ _ _ _ us hl => match us, hl with | [_, _], _ => rfl
  have F18 := fun_mk (st := s_Picture_len) l18 c18 k18
  have b18 := F18.binds (ps := ["self"]) fun _ _ _ _ _ _ us hl => match us, hl with | [_], _ => rfl
  have F19 := fun_mk (st := s_Picture_pieces) l19 c19 k19
  have b19 := F19.binds (ps := ["self"]) fun _ _ _ _ _ _ us hl => match us, hl with | [_], _ => rfl
  have F20 := fun_mk (st := s_Pictureis_pair) l20 c20 k20
  have b20 := F20.binds (ps := ["self", "thing"]) fun _ _ _ _ _ _ us hl => match us, hl with | [_, _], _ => rfl
  have F21 := fun_mk (st := s_Picture_place_of) l21 c21 k21
  have b21 := F21.binds (ps := ["self", "pair"]) fun _ _ _ _ _ _ us hl => match us, hl with | [_, _], _ => rfl
  have F22 := fun_mk (st := s_Picture_is_open) l22 c22 k22
  have b22 := F22.binds (ps := ["self", "pair"]) fun _ _ _ _ _ _ us hl => match us, hl with | [_, _], _ => rfl
  have F23 := fun_mk (st := s_check_saying) l23 c23 k23
  have b23 := F23.binds (ps := ["picture", "saying"]) fun _ _ _ _ _ _ us hl => match us, hl with | [_, _], _ => rfl
  have F24 := fun_mk (st := s_minus_saying) l24 c24 k24
  have b24 := F24.binds (ps := ["picture"]) fun _ _ _ _ _ _ us hl => match us, hl with | [_], _ => rfl
  have F25 := fun_mk (st := s_saying_sum) l25 c25 k25
  have b25 := F25.binds (ps := ["picture", "one", "other"]) fun _ _ _ _ _ _ us hl => match us, hl with | [_, _, _], _ => rfl
  have F26 := fun_mk (st := s_saying_times) l26 c26 k26
  have b26 := F26.binds (ps := ["picture", "saying", "whole"]) fun _ _ _ _ _ _ us hl => match us, hl with | [_, _, _], _ => rfl
  have F27 := fun_mk (st := s_law_hand) l27 c27 k27
  have b27 := F27.binds (ps := ["_law_script"]) fun _ _ _ _ _ _ us hl => match us, hl with | [_], _ => rfl
  have F28 := fun_mk (st := s_law_mixed) l28 c28 k28
  have b28 := F28.binds (ps := ["_law_number", "_law_turn"]) fun _ _ _ _ _ _ us hl => match us, hl with | [_, _], _ => rfl
  have F29 := fun_mk (st := s_law_take) l29 c29 k29
  have b29 := F29.binds (ps := ["_law_hand_here", "_law_many"]) fun _ _ _ _ _ _ us hl => match us, hl with | [_, _], _ => rfl
  have F30 := fun_mk (st := s_law_whole) l30 c30 k30
  have b30 := F30.binds (ps := ["_law_thing"]) fun _ _ _ _ _ _ us hl => match us, hl with | [_], _ => rfl
  have F31 := fun_mk (st := s_law_full) l31 c31 k31
  have b31 := F31.binds (ps := ["_law_points", "_law_shuts"]) fun _ _ _ _ _ _ us hl => match us, hl with | [_, _], _ => rfl
  have F32 := fun_mk (st := s_law_picture) l32 c32 k32
  have b32 := F32.binds (ps := ["_law_hand_here"]) fun _ _ _ _ _ _ us hl => match us, hl with | [_], _ => rfl
  have F33 := fun_mk (st := s_law_marks) l33 c33 k33
  have b33 := F33.binds (ps := ["_law_points", "_law_shuts", "_law_pairs"]) fun _ _ _ _ _ _ us hl => match us, hl with | [_, _, _], _ => rfl
  have F34 := fun_mk (st := s_law_tree) l34 c34 k34
  have b34 := F34.binds (ps := ["_law_points", "_law_shuts", "_law_pairs"]) fun _ _ _ _ _ _ us hl => match us, hl with | [_, _, _], _ => rfl
  have F35 := fun_mk (st := s_law_tour_of) l35 c35 k35
  have b35 := F35.binds (ps := ["_law_points", "_law_shuts", "_law_pairs", "_law_row"]) fun _ _ _ _ _ _ us hl => match us, hl with | [_, _, _, _], _ => rfl
  have F36 := fun_mk (st := s_law_sum) l36 c36 k36
  have b36 := F36.binds (ps := ["_law_one", "_law_other"]) fun _ _ _ _ _ _ us hl => match us, hl with | [_, _], _ => rfl
  have F37 := fun_mk (st := s_law_times) l37 c37 k37
  have b37 := F37.binds (ps := ["_law_saying_here", "_law_whole_here"]) fun _ _ _ _ _ _ us hl => match us, hl with | [_, _], _ => rfl
  have F38 := fun_mk (st := s_law_numbers) l38 c38 k38
  have b38 := F38.binds (ps := ["_law_hand_here", "_law_many"]) fun _ _ _ _ _ _ us hl => match us, hl with | [_, _], _ => rfl
  have F39 := fun_mk (st := s_law_tour_due) l39 c39 k39
  have b39 := F39.binds (ps := ["_law_points", "_law_shuts", "_law_pairs", "_law_tour"]) fun _ _ _ _ _ _ us hl => match us, hl with | [_, _, _, _], _ => rfl
  have F40 := fun_mk (st := s_law_saying_due) l40 c40 k40
  have b40 := F40.binds (ps := ["_law_points", "_law_shuts", "_law_pairs", "_law_saying_here"]) fun _ _ _ _ _ _ us hl => match us, hl with | [_, _, _, _], _ => rfl
  have F41 := fun_mk (st := s_law_tuple) l41 c41 k41
  have b41 := F41.binds (ps := ["_law_told", "_law_due"]) fun _ _ _ _ _ _ us hl => match us, hl with | [_, _], _ => rfl
  have F42 := fun_mk (st := s_law_saying) l42 c42 k42
  have b42 := F42.binds (ps := ["_law_told", "_law_due"]) fun _ _ _ _ _ _ us hl => match us, hl with | [_, _], _ => rfl
  have F43 := fun_mk (st := s_law_asked) l43 c43 k43
  have b43 := F43.binds (ps := ["_law_way", "_law_picture_here", "_law_one", "_law_other"]) fun _ _ _ _ _ _ us hl => match us, hl with | [_, _, _, _], _ => rfl
  have F44 := fun_mk (st := s_law_spoiled) l44 c44 k44
  have b44 := F44.binds (ps := ["_law_hand_here", "_law_pairs", "_law_tour"]) fun _ _ _ _ _ _ us hl => match us, hl with | [_, _, _], _ => rfl
  have F45 := fun_mk (st := s_law_tours) l45 c45 k45
  have b45 := F45.binds (ps := ["_law_hand_here", "_law_world", "_law_picture_here", "_law_one", "_law_other"]) fun _ _ _ _ _ _ us hl => match us, hl with | [_, _, _, _, _], _ => rfl
  have F46 := fun_mk (st := s_law_sayings) l46 c46 k46
  have b46 := F46.binds (ps := ["_law_hand_here", "_law_world", "_law_picture_here", "_law_one", "_law_other"]) fun _ _ _ _ _ _ us hl => match us, hl with | [_, _, _, _, _], _ => rfl
  have F47 := fun_mk (st := s_law_led) l47 c47 k47
  have b47 := F47.binds (ps := ["_law_hand_here", "_law_world", "_law_picture_here", "_law_tour"]) fun _ _ _ _ _ _ us hl => match us, hl with | [_, _, _, _], _ => rfl
  have F48 := fun_mk (st := s_law_led_refused) l48 c48 k48
  have b48 := F48.binds (ps := ["_law_world", "_law_picture_here", "_law_tour"]) fun _ _ _ _ _ _ us hl => match us, hl with | [_, _, _], _ => rfl
  have F49 := fun_mk (st := s_law) l49 c49 k49
  let T : Txt K mg := { f_BadPicture_init := f0, d_BadPicture_init := _, F_BadPicture_init := F0, b_BadPicture_init := b0, f_NotOpen_init := f1, d_NotOpen_init := _, F_NotOpen_init := F1, b_NotOpen_init := b1, f_BadTour_init := f2, d_BadTour_init := _, F_BadTour_init := F2, b_BadTour_init := b2, f_BadSaying_init := f3, d_BadSaying_init := _, F_BadSaying_init := F3, b_BadSaying_init := b3, f_is_whole := f4, d_is_whole := _, F_is_whole := F4, b2_is_whole := bq4_2, b_is_whole := bq4_0, g_is_whole := PySem.W.mg_of X G a4, f_is_sign := f5, d_is_sign := _, F_is_sign := F5, b_is_sign := b5, g_is_sign := PySem.W.mg_of X G a5, f_is_sequence := f6, d_is_sequence := _, F_is_sequence := F6, b1_is_sequence := bq6_1, b_is_sequence := bq6_0, g_is_sequence := PySem.W.mg_of X G a6, f_check_tour := f7, d_check_tour := _, F_check_tour := F7, b_check_tour := b7, g_check_tour := PySem.W.mg_of X G a7, f_no_tour := f8, d_no_tour := _, F_no_tour := F8, b_no_tour := b8, g_no_tour := PySem.W.mg_of X G a8, f_tour_sum := f9, d_tour_sum := _, F_tour_sum := F9, b_tour_sum := b9, g_tour_sum := PySem.W.mg_of X G a9, f_tour_times := f10, d_tour_times := _, F_tour_times := F10, b_tour_times := b10, g_tour_times := PySem.W.mg_of X G a10, f_tour_size := f11, d_tour_size := _, F_tour_size := F11, b_tour_size := b11, g_tour_size := PySem.W.mg_of X G a11, f_led_tour := f12, d_led_tour := _, F_led_tour := F12, b_led_tour := b12, g_led_tour := PySem.W.mg_of X G a12, f_merged_labels := f13, d_merged_labels := _, F_merged_labels := F13, b_merged_labels := b13, g_merged_labels := PySem.W.mg_of X G a13, f_piece_labels := f14, d_piece_labels := _, F_piece_labels := F14, b_piece_labels := b14, g_piece_labels := PySem.W.mg_of X G a14, f_pieces_by_labels := f15, d_pieces_by_labels := _, F_pieces_by_labels := F15, b_pieces_by_labels := b15, g_pieces_by_labels := PySem.W.mg_of X G a15, f_Picture_init := f16, d_Picture_init := _, F_Picture_init := F16, b_Picture_init := b16, f_Picture_eq := f17, d_Picture_eq := _, F_Picture_eq := F17, b_Picture_eq := b17, f_Picture_len := f18, d_Picture_len := _, F_Picture_len := F18, b_Picture_len := b18, f_Picture_pieces := f19, d_Picture_pieces := _, F_Picture_pieces := F19, b_Picture_pieces := b19, f_Pictureis_pair := f20, d_Pictureis_pair := _, F_Pictureis_pair := F20, b_Pictureis_pair := b20, f_Picture_place_of := f21, d_Picture_place_of := _, F_Picture_place_of := F21, b_Picture_place_of := b21, f_Picture_is_open := f22, d_Picture_is_open := _, F_Picture_is_open := F22, b_Picture_is_open := b22, f_check_saying := f23, d_check_saying := _, F_check_saying := F23, b_check_saying := b23, g_check_saying := PySem.W.mg_of X G a23, f_minus_saying := f24, d_minus_saying := _, F_minus_saying := F24, b_minus_saying := b24, g_minus_saying := PySem.W.mg_of X G a24, f_saying_sum := f25, d_saying_sum := _, F_saying_sum := F25, b_saying_sum := b25, g_saying_sum := PySem.W.mg_of X G a25, f_saying_times := f26, d_saying_times := _, F_saying_times := F26, b_saying_times := b26, g_saying_times := PySem.W.mg_of X G a26, f_law_hand := f27, d_law_hand := _, F_law_hand := F27, b_law_hand := b27, g_law_hand := PySem.W.mg_of X G a27, f_law_mixed := f28, d_law_mixed := _, F_law_mixed := F28, b_law_mixed := b28, g_law_mixed := PySem.W.mg_of X G a28, f_law_take := f29, d_law_take := _, F_law_take := F29, b_law_take := b29, g_law_take := PySem.W.mg_of X G a29, f_law_whole := f30, d_law_whole := _, F_law_whole := F30, b_law_whole := b30, g_law_whole := PySem.W.mg_of X G a30, f_law_full := f31, d_law_full := _, F_law_full := F31, b_law_full := b31, g_law_full := PySem.W.mg_of X G a31, f_law_picture := f32, d_law_picture := _, F_law_picture := F32, b_law_picture := b32, g_law_picture := PySem.W.mg_of X G a32, f_law_marks := f33, d_law_marks := _, F_law_marks := F33, b_law_marks := b33, g_law_marks := PySem.W.mg_of X G a33, f_law_tree := f34, d_law_tree := _, F_law_tree := F34, b_law_tree := b34, g_law_tree := PySem.W.mg_of X G a34, f_law_tour_of := f35, d_law_tour_of := _, F_law_tour_of := F35, b_law_tour_of := b35, g_law_tour_of := PySem.W.mg_of X G a35, f_law_sum := f36, d_law_sum := _, F_law_sum := F36, b_law_sum := b36, g_law_sum := PySem.W.mg_of X G a36, f_law_times := f37, d_law_times := _, F_law_times := F37, b_law_times := b37, g_law_times := PySem.W.mg_of X G a37, f_law_numbers := f38, d_law_numbers := _, F_law_numbers := F38, b_law_numbers := b38, g_law_numbers := PySem.W.mg_of X G a38, f_law_tour_due := f39, d_law_tour_due := _, F_law_tour_due := F39, b_law_tour_due := b39, g_law_tour_due := PySem.W.mg_of X G a39, f_law_saying_due := f40, d_law_saying_due := _, F_law_saying_due := F40, b_law_saying_due := b40, g_law_saying_due := PySem.W.mg_of X G a40, f_law_tuple := f41, d_law_tuple := _, F_law_tuple := F41, b_law_tuple := b41, g_law_tuple := PySem.W.mg_of X G a41, f_law_saying := f42, d_law_saying := _, F_law_saying := F42, b_law_saying := b42, g_law_saying := PySem.W.mg_of X G a42, f_law_asked := f43, d_law_asked := _, F_law_asked := F43, b_law_asked := b43, g_law_asked := PySem.W.mg_of X G a43, f_law_spoiled := f44, d_law_spoiled := _, F_law_spoiled := F44, b_law_spoiled := b44, g_law_spoiled := PySem.W.mg_of X G a44, f_law_tours := f45, d_law_tours := _, F_law_tours := F45, b_law_tours := b45, g_law_tours := PySem.W.mg_of X G a45, f_law_sayings := f46, d_law_sayings := _, F_law_sayings := F46, b_law_sayings := b46, g_law_sayings := PySem.W.mg_of X G a46, f_law_led := f47, d_law_led := _, F_law_led := F47, b_law_led := b47, g_law_led := PySem.W.mg_of X G a47, f_law_led_refused := f48, d_law_led_refused := _, F_law_led_refused := F48, b_law_led_refused := b48, g_law_led_refused := PySem.W.mg_of X G a48, f_law := fa, d_law := _, F_law := F49, m_abs := PySem.W.mg_none_of X G z_abs, m_any := PySem.W.mg_none_of X G z_any, m_bool := PySem.W.mg_none_of X G z_bool, m_int := PySem.W.mg_none_of X G z_int, m_isinstance := PySem.W.mg_none_of X G z_isinstance, m_len := PySem.W.mg_none_of X G z_len, m_list := PySem.W.mg_none_of X G z_list, m_min := PySem.W.mg_none_of X G z_min, m_property := PySem.W.mg_none_of X G z_property, m_range := PySem.W.mg_none_of X G z_range, m_repr := PySem.W.mg_none_of X G z_repr, m_sorted := PySem.W.mg_none_of X G z_sorted, m_sum := PySem.W.mg_none_of X G z_sum, m_tuple := PySem.W.mg_none_of X G z_tuple, m_zip := PySem.W.mg_none_of X G z_zip, tk_MOST_CORNERS := tkc_MOST_CORNERS, c_MOST_CORNERS := PySem.W.mg_of X G zc_MOST_CORNERS, C_SheetError := CE_SheetError, g_SheetError := PySem.W.mg_of X G h_SheetError, C_BadPicture := CE_BadPicture, g_BadPicture := PySem.W.mg_of X G h_BadPicture, x_BadPicture := ⟨x1_BadPicture, x2_BadPicture, xb_BadPicture, x3_BadPicture⟩, e_BadPicture := ⟨x1_BadPicture, x2_BadPicture, xb_BadPicture, x3_BadPicture, x4_BadPicture, w1, w2, x5_BadPicture⟩, o_BadPicture := ⟨⟨_, _, _, _, _, _, _, _, _, _, _, _, _, _, _, xl_BadPicture, xr_BadPicture⟩, xs_BadPicture, xb_BadPicture, xt_BadPicture, xk_BadPicture⟩, i_BadPicture := a0, t_BadPicture := xf_BadPicture, n_BadPicture := xn0_BadPicture, C_NotOpen := CE_NotOpen, g_NotOpen := PySem.W.mg_of X G h_NotOpen, x_NotOpen := ⟨x1_NotOpen, x2_NotOpen, xb_NotOpen, x3_NotOpen⟩, e_NotOpen := ⟨x1_NotOpen, x2_NotOpen, xb_NotOpen, x3_NotOpen, x4_NotOpen, w1, w2, x5_NotOpen⟩, o_NotOpen := ⟨⟨_, _, _, _, _, _, _, _, _, _, _, _, _, _, _, xl_NotOpen, xr_NotOpen⟩, xs_NotOpen, xb_NotOpen, xt_NotOpen, xk_NotOpen⟩, i_NotOpen := a1, t_NotOpen := xf_NotOpen, n_NotOpen := xn0_NotOpen, C_BadTour := CE_BadTour, g_BadTour := PySem.W.mg_of X G h_BadTour, x_BadTour := ⟨x1_BadTour, x2_BadTour, xb_BadTour, x3_BadTour⟩, e_BadTour := ⟨x1_BadTour, x2_BadTour, xb_BadTour, x3_BadTour, x4_BadTour, w1, w2, x5_BadTour⟩, o_BadTour := ⟨⟨_, _, _, _, _, _, _, _, _, _, _, _, _, _, _, xl_BadTour, xr_BadTour⟩, xs_BadTour, xb_BadTour, xt_BadTour, xk_BadTour⟩, i_BadTour := a2, t_BadTour := xf_BadTour, n_BadTour := xn0_BadTour, C_BadWhole := CE_BadWhole, g_BadWhole := PySem.W.mg_of X G h_BadWhole, x_BadWhole := ⟨x1_BadWhole, x2_BadWhole, xb_BadWhole, x3_BadWhole⟩, e_BadWhole := ⟨x1_BadWhole, x2_BadWhole, xb_BadWhole, x3_BadWhole, x4_BadWhole, w1, w2, x5_BadWhole⟩, q_BadWhole := xq_BadWhole, k_BadWhole := xk_BadWhole, b_BadWhole := xb_BadWhole, ty_BadWhole := xt_BadWhole, C_BadSaying := CE_BadSaying, g_BadSaying := PySem.W.mg_of X G h_BadSaying, x_BadSaying := ⟨x1_BadSaying, x2_BadSaying, xb_BadSaying, x3_BadSaying⟩, e_BadSaying := ⟨x1_BadSaying, x2_BadSaying, xb_BadSaying, x3_BadSaying, x4_BadSaying, w1, w2, x5_BadSaying⟩, o_BadSaying := ⟨⟨_, _, _, _, _, _, _, _, _, _, _, _, _, _, _, xl_BadSaying, xr_BadSaying⟩, xs_BadSaying, xb_BadSaying, xt_BadSaying, xk_BadSaying⟩, i_BadSaying := a3, t_BadSaying := xf_BadSaying, n_BadSaying := xn0_BadSaying, mm_BadPicture_BadTour := own_exm xb_BadTour xi_BadTour xt_BadTour s_BadPicture_BadTour, mm_NotOpen_BadTour := own_exm xb_BadTour xi_BadTour xt_BadTour s_NotOpen_BadTour, mm_BadTour_BadTour := own_exm xb_BadTour xi_BadTour xt_BadTour s_BadTour_BadTour, mm_BadWhole_BadTour := own_exm xb_BadTour xi_BadTour xt_BadTour s_BadWhole_BadTour, mm_BadSaying_BadTour := own_exm xb_BadTour xi_BadTour xt_BadTour s_BadSaying_BadTour, mm_BadPicture_BadSaying := own_exm xb_BadSaying xi_BadSaying xt_BadSaying s_BadPicture_BadSaying, mm_NotOpen_BadSaying := own_exm xb_BadSaying xi_BadSaying xt_BadSaying s_NotOpen_BadSaying, mm_BadTour_BadSaying := own_exm xb_BadSaying xi_BadSaying xt_BadSaying s_BadTour_BadSaying, mm_BadWhole_BadSaying := own_exm xb_BadSaying xi_BadSaying xt_BadSaying s_BadWhole_BadSaying, mm_BadSaying_BadSaying := own_exm xb_BadSaying xi_BadSaying xt_BadSaying s_BadSaying_BadSaying, mm_BadPicture_BadWhole := own_exm xb_BadWhole xi_BadWhole xt_BadWhole s_BadPicture_BadWhole, mm_NotOpen_BadWhole := own_exm xb_BadWhole xi_BadWhole xt_BadWhole s_NotOpen_BadWhole, mm_BadTour_BadWhole := own_exm xb_BadWhole xi_BadWhole xt_BadWhole s_BadTour_BadWhole, mm_BadWhole_BadWhole := own_exm xb_BadWhole xi_BadWhole xt_BadWhole s_BadWhole_BadWhole, mm_BadSaying_BadWhole := own_exm xb_BadWhole xi_BadWhole xt_BadWhole s_BadSaying_BadWhole, mm_BadPicture_NotOpen := own_exm xb_NotOpen xi_NotOpen xt_NotOpen s_BadPicture_NotOpen, mm_NotOpen_NotOpen := own_exm xb_NotOpen xi_NotOpen xt_NotOpen s_NotOpen_NotOpen, mm_BadTour_NotOpen := own_exm xb_NotOpen xi_NotOpen xt_NotOpen s_BadTour_NotOpen, mm_BadWhole_NotOpen := own_exm xb_NotOpen xi_NotOpen xt_NotOpen s_BadWhole_NotOpen, mm_BadSaying_NotOpen := own_exm xb_NotOpen xi_NotOpen xt_NotOpen s_BadSaying_NotOpen, kit_BadTour_SheetError := own_kit xi_SheetError xt_SheetError s_BadTour_SheetError (fun _ => rfl), kit_BadTour_BadSaying := own_kit xi_BadSaying xt_BadSaying s_BadTour_BadSaying (fun z => by rw [ne_BadTour_BadSaying] at z; cases z), kit_BadSaying_SheetError := own_kit xi_SheetError xt_SheetError s_BadSaying_SheetError (fun _ => rfl), kit_BadSaying_BadTour := own_kit xi_BadTour xt_BadTour s_BadSaying_BadTour (fun z => by rw [ne_BadSaying_BadTour] at z; cases z), kit_BadWhole_SheetError := own_kit xi_SheetError xt_SheetError s_BadWhole_SheetError (fun _ => rfl), kit_NotOpen_SheetError := own_kit xi_SheetError xt_SheetError s_NotOpen_SheetError (fun _ => rfl), C_Picture := CC_Picture, g_Picture := PySem.W.mg_of X G h_Picture, cl_Picture := ⟨p1_Picture, p2_Picture, p3_Picture, p4_Picture⟩, M_Picture := ⟨p5_Picture, a16, i16, p6_Picture⟩, na_points := na_Picture_points, na_walls := na_Picture_walls, na_pairs := na_Picture_pairs, na_pieces := na_Picture__pieces, eq_at := a17, eq_fn := i17, len_at := a18, len_fn := i18, p_pieces := pp19, pr_pieces := ⟨a19, g1_19, g2_19, _, r19⟩, M_is_pair := ⟨a20, i20, k20⟩, M_place_of := ⟨a21, i21, k21⟩, M_is_open := ⟨a22, i22, k22⟩, k_class := p7_Picture, k_get := w1, k_takes := w2, k_mro := p8_Picture, k_isp := own_kit pi_Picture pt_Picture p9_Picture (fun _ => rfl) }
  exact ⟨_, fun s v => .of_eq rfl, fun base _ _ => ok_law T⟩
end K01
open PySem PySem.W PyProof.Rows
set_option maxHeartbeats 0 in
theorem PySem.Challenge.cw_sheetproofs_k01_whole_tours_and_sayings_holds : PySem.Challenge.rw_sheetproofs_k01_whole_tours_and_sayings.Holds := by
  w_on; o_law; k_head; (case hw => w_witness2)
  k_fill
  refine TkS.walk_top (l := PySem.Challenge.rw_sheetproofs_k01_whole_tours_and_sayings) (n := 63) (x := "_law_script") (CX := fun _ => L2.CX0) (sp := fun w => K01.sp_law _) rfl (by decide) rfl (fun w h Y => PySem.W.kIn_of Y) ?F (fun _ _ a ns hl _ hS => ⟨a, ns, rfl, hS, hl, fun _ => rfl⟩) (fun _ _ _ _ _ h => h)
  case F =>
    intro w mg fa h KX G hmg
    refine' K01.all_mk KX G hmg ?h_SheetError ?h_BadPicture ?h_NotOpen ?h_BadTour ?h_BadWhole ?h_BadSaying ?h_Picture ?a0 ?i0 ?l0 ?c0 ?k0 ?a1 ?i1 ?l1 ?c1 ?k1 ?a2 ?i2 ?l2 ?c2 ?k2 ?a3 ?i3 ?l3 ?c3 ?k3 ?a4 ?l4 ?c4 ?k4 ?e4 ?a5 ?l5 ?c5 ?k5 ?a6 ?l6 ?c6 ?k6 ?e6 ?a7 ?l7 ?c7 ?k7 ?a8 ?l8 ?c8 ?k8 ?a9 ?l9 ?c9 ?k9 ?a10 ?l10 ?c10 ?k10 ?a11 ?l11 ?c11 ?k11 ?a12 ?l12 ?c12 ?k12 ?a13 ?l13 ?c13 ?k13 ?a14 ?l14 ?c14 ?k14 ?a15 ?l15 ?c15 ?k15 ?a16 ?i16 ?l16 ?c16 ?k16 ?a17 ?i17 ?l17 ?c17 ?k17 ?a18 ?i18 ?l18 ?c18 ?k18 ?a19 ?r19 ?i19 ?l19 ?c19 ?k19 ?a20 ?i20 ?l20 ?c20 ?k20 ?a21 ?i21 ?l21 ?c21 ?k21 ?a22 ?i22 ?l22 ?c22 ?k22 ?a23 ?l23 ?c23 ?k23 ?a24 ?l24 ?c24 ?k24 ?a25 ?l25 ?c25 ?k25 ?a26 ?l26 ?c26 ?k26 ?a27 ?l27 ?c27 ?k27 ?a28 ?l28 ?c28 ?k28 ?a29 ?l29 ?c29 ?k29 ?a30 ?l30 ?c30 ?k30 ?a31 ?l31 ?c31 ?k31 ?a32 ?l32 ?c32 ?k32 ?a33 ?l33 ?c33 ?k33 ?a34 ?l34 ?c34 ?k34 ?a35 ?l35 ?c35 ?k35 ?a36 ?l36 ?c36 ?k36 ?a37 ?l37 ?c37 ?k37 ?a38 ?l38 ?c38 ?k38 ?a39 ?l39 ?c39 ?k39 ?a40 ?l40 ?c40 ?k40 ?a41 ?l41 ?c41 ?k41 ?a42 ?l42 ?c42 ?k42 ?a43 ?l43 ?c43 ?k43 ?a44 ?l44 ?c44 ?k44 ?a45 ?l45 ?c45 ?k45 ?a46 ?l46 ?c46 ?k46 ?a47 ?l47 ?c47 ?k47 ?a48 ?l48 ?c48 ?k48 ?a49 ?l49 ?c49 ?k49 ?z_abs ?z_any ?z_bool ?z_int ?z_isinstance ?z_len ?z_list ?z_min ?z_property ?z_range ?z_repr ?z_sorted ?z_sum ?z_tuple ?z_zip ?zc_MOST_CORNERS ?w1 ?w2 ?xt_SheetError ?xi_SheetError ?xt_BadPicture ?xi_BadPicture ?xb_BadPicture ?xk_BadPicture ?x1_BadPicture ?x2_BadPicture ?x3_BadPicture ?x4_BadPicture ?x5_BadPicture ?xl_BadPicture ?xr_BadPicture ?xs_BadPicture ?xf_BadPicture ?xn0_BadPicture ?xt_NotOpen ?xi_NotOpen ?xb_NotOpen ?xk_NotOpen ?x1_NotOpen ?x2_NotOpen ?x3_NotOpen ?x4_NotOpen ?x5_NotOpen ?xl_NotOpen ?xr_NotOpen ?xs_NotOpen ?xf_NotOpen ?xn0_NotOpen ?xt_BadTour ?xi_BadTour ?xb_BadTour ?xk_BadTour ?x1_BadTour ?x2_BadTour ?x3_BadTour ?x4_BadTour ?x5_BadTour ?xl_BadTour ?xr_BadTour ?xs_BadTour ?xf_BadTour ?xn0_BadTour ?xt_BadWhole ?xi_BadWhole ?xb_BadWhole ?xk_BadWhole ?x1_BadWhole ?x2_BadWhole ?x3_BadWhole ?x4_BadWhole ?x5_BadWhole ?xq_BadWhole ?xt_BadSaying ?xi_BadSaying ?xb_BadSaying ?xk_BadSaying ?x1_BadSaying ?x2_BadSaying ?x3_BadSaying ?x4_BadSaying ?x5_BadSaying ?xl_BadSaying ?xr_BadSaying ?xs_BadSaying ?xf_BadSaying ?xn0_BadSaying ?s_BadPicture_BadTour ?s_NotOpen_BadTour ?s_BadTour_BadTour ?s_BadWhole_BadTour ?s_BadSaying_BadTour ?s_BadPicture_BadSaying ?s_NotOpen_BadSaying ?s_BadTour_BadSaying ?s_BadWhole_BadSaying ?s_BadSaying_BadSaying ?s_BadPicture_BadWhole ?s_NotOpen_BadWhole ?s_BadTour_BadWhole ?s_BadWhole_BadWhole ?s_BadSaying_BadWhole ?s_BadPicture_NotOpen ?s_NotOpen_NotOpen ?s_BadTour_NotOpen ?s_BadWhole_NotOpen ?s_BadSaying_NotOpen ?s_BadTour_SheetError ?ne_BadTour_BadSaying ?s_BadSaying_SheetError ?ne_BadSaying_BadTour ?s_BadWhole_SheetError ?s_NotOpen_SheetError ?p1_Picture ?p2_Picture ?p3_Picture ?p4_Picture ?p5_Picture ?p6_Picture ?na_Picture_points ?na_Picture_walls ?na_Picture_pairs ?na_Picture__pieces ?g1_19 ?g2_19 ?p7_Picture ?p8_Picture ?p9_Picture ?pi_Picture ?pt_Picture
    (case h_SheetError => k_is); (case h_BadPicture => k_is); (case h_NotOpen => k_is); (case h_BadTour => k_is); (case h_BadWhole => k_is); (case h_BadSaying => k_is); (case h_Picture => k_is); (case a0 => k_is); (case i0 => k_is); (case l0 => k_is); (case c0 => k_is); (case k0 => k_is); (case a1 => k_is); (case i1 => k_is); (case l1 => k_is); (case c1 => k_is); (case k1 => k_is); (case a2 => k_is); (case i2 => k_is); (case l2 => k_is); (case c2 => k_is); (case k2 => k_is); (case a3 => k_is); (case i3 => k_is); (case l3 => k_is); (case c3 => k_is); (case k3 => k_is); (case a4 => k_is); (case l4 => k_is); (case c4 => k_is); (case k4 => k_is); (case e4 => k_is); (case a5 => k_is); (case l5 => k_is); (case c5 => k_is); (case k5 => k_is); (case a6 => k_is); (case l6 => k_is); (case c6 => k_is); (case k6 => k_is); (case e6 => k_is); (case a7 => k_is); (case l7 => k_is); (case c7 => k_is); (case k7 => k_is); (case a8 => k_is); (case l8 => k_is); (case c8 => k_is); (case k8 => k_is); (case a9 => k_is); (case l9 => k_is); (case c9 => k_is); (case k9 => k_is); (case a10 => k_is); (case l10 => k_is); (case c10 => k_is); (case k10 => k_is); (case a11 => k_is); (case l11 => k_is); (case c11 => k_is); (case k11 => k_is); (case a12 => k_is); (case l12 => k_is); (case c12 => k_is); (case k12 => k_is); (case a13 => k_is); (case l13 => k_is); (case c13 => k_is); (case k13 => k_is); (case a14 => k_is); (case l14 => k_is); (case c14 => k_is); (case k14 => k_is); (case a15 => k_is); (case l15 => k_is); (case c15 => k_is); (case k15 => k_is); (case a16 => k_is); (case i16 => k_is); (case l16 => k_is); (case c16 => k_is); (case k16 => k_is); (case a17 => k_is); (case i17 => k_is); (case l17 => k_is); (case c17 => k_is); (case k17 => k_is); (case a18 => k_is); (case i18 => k_is); (case l18 => k_is); (case c18 => k_is); (case k18 => k_is); (case a19 => k_is); (case r19 => k_is); (case i19 => k_is); (case l19 => k_is); (case c19 => k_is); (case k19 => k_is); (case a20 => k_is); (case i20 => k_is); (case l20 => k_is); (case c20 => k_is); (case k20 => k_is); (case a21 => k_is); (case i21 => k_is); (case l21 => k_is); (case c21 => k_is); (case k21 => k_is); (case a22 => k_is); (case i22 => k_is); (case l22 => k_is); (case c22 => k_is); (case k22 => k_is); (case a23 => k_is); (case l23 => k_is); (case c23 => k_is); (case k23 => k_is); (case a24 => k_is); (case l24 => k_is); (case c24 => k_is); (case k24 => k_is); (case a25 => k_is); (case l25 => k_is); (case c25 => k_is); (case k25 => k_is); (case a26 => k_is); (case l26 => k_is); (case c26 => k_is); (case k26 => k_is); (case a27 => k_is); (case l27 => k_is); (case c27 => k_is); (case k27 => k_is); (case a28 => k_is); (case l28 => k_is); (case c28 => k_is); (case k28 => k_is); (case a29 => k_is); (case l29 => k_is); (case c29 => k_is); (case k29 => k_is); (case a30 => k_is); (case l30 => k_is); (case c30 => k_is); (case k30 => k_is); (case a31 => k_is); (case l31 => k_is); (case c31 => k_is); (case k31 => k_is); (case a32 => k_is); (case l32 => k_is); (case c32 => k_is); (case k32 => k_is); (case a33 => k_is); (case l33 => k_is); (case c33 => k_is); (case k33 => k_is); (case a34 => k_is); (case l34 => k_is); (case c34 => k_is); (case k34 => k_is); (case a35 => k_is); (case l35 => k_is); (case c35 => k_is); (case k35 => k_is); (case a36 => k_is); (case l36 => k_is); (case c36 => k_is); (case k36 => k_is); (case a37 => k_is); (case l37 => k_is); (case c37 => k_is); (case k37 => k_is); (case a38 => k_is); (case l38 => k_is); (case c38 => k_is); (case k38 => k_is); (case a39 => k_is); (case l39 => k_is); (case c39 => k_is); (case k39 => k_is); (case a40 => k_is); (case l40 => k_is); (case c40 => k_is); (case k40 => k_is); (case a41 => k_is); (case l41 => k_is); (case c41 => k_is); (case k41 => k_is); (case a42 => k_is); (case l42 => k_is); (case c42 => k_is); (case k42 => k_is); (case a43 => k_is); (case l43 => k_is); (case c43 => k_is); (case k43 => k_is); (case a44 => k_is); (case l44 => k_is); (case c44 => k_is); (case k44 => k_is); (case a45 => k_is); (case l45 => k_is); (case c45 => k_is); (case k45 => k_is); (case a46 => k_is); (case l46 => k_is); (case c46 => k_is); (case k46 => k_is); (case a47 => k_is); (case l47 => k_is); (case c47 => k_is); (case k47 => k_is); (case a48 => k_is); (case l48 => k_is); (case c48 => k_is); (case k48 => k_is); (case a49 => k_is); (case l49 => k_is); (case c49 => k_is); (case k49 => k_is); (case z_abs => k_is); (case z_any => k_is); (case z_bool => k_is); (case z_int => k_is); (case z_isinstance => k_is); (case z_len => k_is); (case z_list => k_is); (case z_min => k_is); (case z_property => k_is); (case z_range => k_is); (case z_repr => k_is); (case z_sorted => k_is); (case z_sum => k_is); (case z_tuple => k_is); (case z_zip => k_is); (case zc_MOST_CORNERS => k_is); (case w1 => k_is); (case w2 => k_is); (case xt_SheetError => k_is); (case xi_SheetError => k_is); (case xt_BadPicture => k_is); (case xi_BadPicture => k_is); (case xb_BadPicture => k_is); (case xk_BadPicture => k_is); (case x1_BadPicture => k_is); (case x2_BadPicture => k_is); (case x3_BadPicture => k_is); (case x4_BadPicture => k_is); (case x5_BadPicture => k_is); (case xl_BadPicture => k_is); (case xr_BadPicture => decide +kernel); (case xs_BadPicture => k_is); (case xf_BadPicture => k_is); (case xn0_BadPicture => k_is); (case xt_NotOpen => k_is); (case xi_NotOpen => k_is); (case xb_NotOpen => k_is); (case xk_NotOpen => k_is); (case x1_NotOpen => k_is); (case x2_NotOpen => k_is); (case x3_NotOpen => k_is); (case x4_NotOpen => k_is); (case x5_NotOpen => k_is); (case xl_NotOpen => k_is); (case xr_NotOpen => decide +kernel); (case xs_NotOpen => k_is); (case xf_NotOpen => k_is); (case xn0_NotOpen => k_is); (case xt_BadTour => k_is); (case xi_BadTour => k_is); (case xb_BadTour => k_is); (case xk_BadTour => k_is); (case x1_BadTour => k_is); (case x2_BadTour => k_is); (case x3_BadTour => k_is); (case x4_BadTour => k_is); (case x5_BadTour => k_is); (case xl_BadTour => k_is); (case xr_BadTour => decide +kernel); (case xs_BadTour => k_is); (case xf_BadTour => k_is); (case xn0_BadTour => k_is); (case xt_BadWhole => k_is); (case xi_BadWhole => k_is); (case xb_BadWhole => k_is); (case xk_BadWhole => k_is); (case x1_BadWhole => k_is); (case x2_BadWhole => k_is); (case x3_BadWhole => k_is); (case x4_BadWhole => k_is); (case x5_BadWhole => k_is); (case xq_BadWhole => k_exc); (case xt_BadSaying => k_is); (case xi_BadSaying => k_is); (case xb_BadSaying => k_is); (case xk_BadSaying => k_is); (case x1_BadSaying => k_is); (case x2_BadSaying => k_is); (case x3_BadSaying => k_is); (case x4_BadSaying => k_is); (case x5_BadSaying => k_is); (case xl_BadSaying => k_is); (case xr_BadSaying => decide +kernel); (case xs_BadSaying => k_is); (case xf_BadSaying => k_is); (case xn0_BadSaying => k_is); (case s_BadPicture_BadTour => k_is); (case s_NotOpen_BadTour => k_is); (case s_BadTour_BadTour => first | rfl | k_is); (case s_BadWhole_BadTour => k_is); (case s_BadSaying_BadTour => k_is); (case s_BadPicture_BadSaying => k_is); (case s_NotOpen_BadSaying => k_is); (case s_BadTour_BadSaying => k_is); (case s_BadWhole_BadSaying => k_is); (case s_BadSaying_BadSaying => first | rfl | k_is); (case s_BadPicture_BadWhole => k_is); (case s_NotOpen_BadWhole => k_is); (case s_BadTour_BadWhole => k_is); (case s_BadWhole_BadWhole => first | rfl | k_is); (case s_BadSaying_BadWhole => k_is); (case s_BadPicture_NotOpen => k_is); (case s_NotOpen_NotOpen => first | rfl | k_is); (case s_BadTour_NotOpen => k_is); (case s_BadWhole_NotOpen => k_is); (case s_BadSaying_NotOpen => k_is); (case s_BadTour_SheetError => k_is); (case ne_BadTour_BadSaying => decide); (case s_BadSaying_SheetError => k_is); (case ne_BadSaying_BadTour => decide); (case s_BadWhole_SheetError => k_is); (case s_NotOpen_SheetError => k_is); (case p1_Picture => k_is); (case p2_Picture => k_is); (case p3_Picture => k_is); (case p4_Picture => k_is); (case p5_Picture => k_is); (case p6_Picture => k_is); (case na_Picture_points => k_is); (case na_Picture_walls => k_is); (case na_Picture_pairs => k_is); (case na_Picture__pieces => k_is); (case g1_19 => k_is); (case g2_19 => k_is); (case p7_Picture => k_is); (case p8_Picture => k_is); (case p9_Picture => first | rfl | k_is); (case pi_Picture => k_is); (case pt_Picture => k_is)

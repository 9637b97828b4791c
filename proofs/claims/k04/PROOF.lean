import PyProof.Rows.All
import HandS.ForMost
import HandS.Zip
import HandS.Walk
import HandS.Deep
import HandS.Strs
import HandS.ExcIs
import HandS.ExcField
import PyProof.Rows.ReprR
import HandS.Exc
import HandS.ExcOwn
import HandS.CallSlots
import HandS.OwnEq
import HandS.IsInst
import HandS.Conv
import HandS.TupAny
import HandS.TupSets
import HandS.TryMany
import HandS.Ends
import HandS.Rev
import PyProof.ListNew
import HandS.List
import HandS.WordsExc
import HandS.ExcInit
import HandS.ExcInitHot
import HandS.SuiteRaise
import HandS.Iter
import KE.GoesEnum
import HandS.TupMul
import PyProof.P3Eq
import HandS.Defaults
import HandS.Style
import HandS.SortRule
import HandS.Property
import HandS.Evl
import HandS.Wide
import HandS.Gcd
import HandS.WideBits
import HandS.TryOnly
import HandS.HeadEnd
import PySem.Challenge.RW_sheetproofs_k04_whole_fields_reckoned
set_option Elab.async false
set_option linter.all false
set_option maxRecDepth 100000
set_option maxHeartbeats 4000000
/-! zip of two sequences, each a list or a tuple -/
namespace RZM
open PySem
open PySem.Sem (wp)
def SIter (t : Bool) (h : Heap) (it l : Addr) (i : Nat) : Prop := match t with
  | true => h.IsTupleIter it l i
  | false => h.IsListIter it l i
def SSeq (t : Bool) (h : Heap) (l : Addr) (xs : Array Value) : Prop := match t with
  | true => h.IsTuple l xs
  | false => h.IsList l xs
def itName (t : Bool) : String := match t with
  | true => "tuple_iterator"
  | false => "list_iterator"
section
variable {t : Bool} {h h' : Heap} {a b l : Addr} {i : Nat} {xs : Array Value}
theorem SIter.extBut (x : SIter t h a l i) (hs : Heap.ExtBut b h h') (hab : a ≠ b) : SIter t h' a l i := by
  cases t with
  | true => exact Heap.IsTupleIter.extBut x hs hab
  | false => exact Heap.IsListIter.extBut x hs hab
theorem SSeq.extBut (x : SSeq t h a xs) (hs : Heap.ExtBut b h h') (hab : a ≠ b) : SSeq t h' a xs := by
  cases t with
  | true => exact Heap.IsTuple.extBut x hs hab
  | false => exact Heap.IsList.extBut x hs hab
theorem SIter.at (x : SIter t h a l i) (e : ∀ o, h.get? a = some o → h'.get? a = some o) : SIter t h' a l i := by
  cases t with
  | true => exact Heap.IsTupleIter.at x e
  | false => exact Heap.IsListIter.at x e
theorem SIter.obj (x : SIter t h a l i) : ∃ o, h.get? a = some o ∧ ∀ v, o.data ≠ .cell v := by
  cases t with
  | true =>
    obtain ⟨o, e, _, d⟩ := (show h.IsTupleIter a l i from x)
    exact ⟨o, e, fun v z => by rw [d] at z; cases z⟩
  | false =>
    obtain ⟨o, e, _, d⟩ := (show h.IsListIter a l i from x)
    exact ⟨o, e, fun v z => by rw [d] at z; cases z⟩
theorem SIter.lt (x : SIter t h a l i) : a < h.objs.size := by
  obtain ⟨o, e, _⟩ := x.obj
  exact Heap.lt_size e
theorem SSeq.lt (x : SSeq t h a xs) : a < h.objs.size := by
  cases t with
  | true =>
    obtain ⟨o, e, _⟩ := (show h.IsTuple a xs from x)
    exact Heap.lt_size e
  | false =>
    obtain ⟨o, e, _⟩ := (show h.IsList a xs from x)
    exact Heap.lt_size e
end
section
variable {prog : Program} {w : World} {A : Around} {E : Value → Shared → Prop} {s : Shared}
theorem nextOf_S_item {t : Bool} {it l : Addr} {i : Nat} {items : Array Value} {x : Value} {Q : Value → Shared → Prop} (hit : SIter t s.heap it l i) (hl : SSeq t s.heap l items) (hx : items[i]? = some x)
    (hQ : ∀ h', SIter t h' it l (i + 1) → Heap.SameBut it s.heap h' → Q x { s with heap := h' }) : wpAny (model prog w) A (Builtin.SmallTypes.nextOf (.ref it)) Q E s := by
  cases t with
  | true => exact RZ.nextOf_tuple_item hit hl hx hQ
  | false => exact wpAny_nextOf_list_item hit hl hx hQ
theorem nextOf_S_end {t : Bool} {it l : Addr} {i : Nat} {items : Array Value} {Q : Value → Shared → Prop} (hh : A.handled = none) (hit : SIter t s.heap it l i) (hl : SSeq t s.heap l items) (hx : items[i]? = none)
    (hE : ∀ h' e, Heap.ExtBut it s.heap h' → (∃ o, h'.get? e = some o ∧ o.cls = .type "StopIteration") → E (.ref e) { s with heap := h' }) : wpAny (model prog w) A (Builtin.SmallTypes.nextOf (.ref it)) Q E s := by
  cases t with
  | true => exact RZ.nextOf_tuple_end hh hit hl hx hE
  | false => exact wpAny_nextOf_list_end hh hit hl hx hE
theorem zipS_next_item {t1 t2 : Bool} {z TI TO i1 i2 l1 l2 : Addr} {k1 k2 : Nat} {xs ys : Array Value} {x y a b : Value} {Q : Value → Shared → Prop} (D : ZipApart z TI TO i1 i2 l1 l2)
    (hz : IsZip s.heap z TI TO .none) (hTI : IsPair s.heap TI (.ref i1) (.ref i2)) (hTO : IsPair s.heap TO a b)
    (h1 : SIter t1 s.heap i1 l1 k1) (h2 : SIter t2 s.heap i2 l2 k2) (hl1 : SSeq t1 s.heap l1 xs) (hl2 : SSeq t2 s.heap l2 ys) (hx : xs[k1]? = some x) (hy : ys[k2]? = some y)
    (hQ : ∀ h', IsZip h' z TI TO (rawInt s.heap.objs.size) → IsPair h' TO x y → SIter t1 h' i1 l1 (k1 + 1) → SIter t2 h' i2 l2 (k2 + 1) → IsPair h' s.heap.objs.size x y → h'.objs.size = s.heap.objs.size + 1 →
      (∀ c o, c ≠ z → c ≠ TO → c ≠ i1 → c ≠ i2 → s.heap.get? c = some o → h'.get? c = some o) → Q (.ref s.heap.objs.size) { s with heap := h' }) :
    wpAny (model prog w) A (Builtin.«zip.__next__» ⟨[.ref z], []⟩) (fun fin s' => ∃ v, fin = .done (.ret v) ∧ Q v s') E s := by
  show wpAny _ _ (field (.ref z) 2 >>= _) _ _ _
  refine wpAny_bind (wpAny_field hz rfl (x := .bool false) rfl ?_)
  show wpAny _ _ (field (.ref z) 3 >>= _) _ _ _
  refine wpAny_bind (wpAny_field hz rfl (x := .ref TI) rfl ?_)
  refine wpAny_bind (wpAny_seqItems hTI rfl ?_)
  show wpAny _ _ (Builtin.SmallTypes.ownedTupleIsFree (.ref z) >>= _) _ _ _
  refine wpAny_bind ?_
  unfold Builtin.SmallTypes.ownedTupleIsFree
  refine wpAny_bind (wpAny_field hz rfl (x := .none) rfl (wpAny_pure ?_))
  simp only [if_true]
  refine wpAny_bind (wpAny_rule ?_)
  refine wpAny_bind (wpAny_field hz rfl (x := .ref TO) rfl ?_)
  refine wpAny_bind (wpAny_setField_rec hz (by simp) fun h₁ hz₁ hs₁ => ?_)
  replace hz₁ : IsZip h₁ z TI TO .ellipsis := hz₁
  refine wpAny_bind ?_
  simp only [List.zipIdx_cons, List.zipIdx_nil, List.forIn_cons, List.forIn_nil]

  refine wpAny_bind (wpAny_bind (wpAny_onRaise ?_))
  show wpAny _ _ (Builtin.SmallTypes.nextOf (.ref i1) >>= _) _ _ _
  refine wpAny_bind (nextOf_S_item (h1.extBut hs₁.extBut D.i1z) (hl1.extBut hs₁.extBut D.l1z) hx fun h₂ h1₂ hs₂ => wpAny_pure ?_)
  have hTO₂ : IsPair h₂ TO a b := hs₂.extBut _ _ D.TOi1 (hs₁.extBut _ _ D.TOz hTO)
  refine wpAny_bind (wpAny_seqItems hTO₂ rfl ?_)
  refine wpAny_bind (wpAny_updateSeq_pair hTO₂ fun h₃ hTO₃ hs₃ => ?_)
  replace hTO₃ : IsPair h₃ TO x b := hTO₃
  refine wpAny_bind (wpAny_letGo (wpAny_pure ?_))

  refine wpAny_bind (wpAny_bind (wpAny_onRaise ?_))
  show wpAny _ _ (Builtin.SmallTypes.nextOf (.ref i2) >>= _) _ _ _
  refine wpAny_bind (nextOf_S_item (((h2.extBut hs₁.extBut D.i2z).extBut hs₂.extBut D.i12.symm).extBut hs₃.extBut D.TOi2.symm)
    (((hl2.extBut hs₁.extBut D.l2z).extBut hs₂.extBut D.l2i1).extBut hs₃.extBut D.l2TO) hy fun h₄ h2₄ hs₄ => wpAny_pure ?_)
  have hTO₄ : IsPair h₄ TO x b := hs₄.extBut _ _ D.TOi2 hTO₃
  refine wpAny_bind (wpAny_seqItems hTO₄ rfl ?_)
  refine wpAny_bind (wpAny_updateSeq_pair hTO₄ fun h₅ hTO₅ hs₅ => ?_)
  replace hTO₅ : IsPair h₅ TO x y := hTO₅
  refine wpAny_bind (wpAny_letGo (wpAny_pure (wpAny_pure ?_)))

  refine wpAny_bind (wpAny_seqItems hTO₅ rfl ?_)
  refine wpAny_bind (wpAny_newTuple ?_)
  have hsz : h₅.objs.size = s.heap.objs.size := by rw [hs₅.1, hs₄.1, hs₃.1, hs₂.1, hs₁.1]
  have hz₅ : IsZip h₅ z TI TO .ellipsis := hs₅.extBut _ _ D.TOz.symm (hs₄.extBut _ _ D.i2z.symm (hs₃.extBut _ _ D.TOz.symm (hs₂.extBut _ _ D.i1z.symm hz₁)))
  have hk₅ : ∀ c o, c ≠ z → c ≠ TO → c ≠ i1 → c ≠ i2 → s.heap.get? c = some o → h₅.get? c = some o := fun c o c1 c2 c3 c4 e =>
    hs₅.extBut _ _ c2 (hs₄.extBut _ _ c4 (hs₃.extBut _ _ c2 (hs₂.extBut _ _ c3 (hs₁.extBut _ _ c1 e))))
  have h1₅ : SIter t1 h₅ i1 l1 (k1 + 1) := ((h1₂.extBut hs₃.extBut D.TOi1.symm).extBut hs₄.extBut D.i12).extBut hs₅.extBut D.TOi1.symm
  have h2₅ : SIter t2 h₅ i2 l2 (k2 + 1) := h2₄.extBut hs₅.extBut D.TOi2.symm
  have hzlt : z < h₅.objs.size := Heap.lt_size hz₅
  have hTOlt : TO < h₅.objs.size := Heap.lt_size hTO₅
  have hi1lt : i1 < h₅.objs.size := by exact h1₅.lt
  have hi2lt : i2 < h₅.objs.size := by exact h2₅.lt
  show wpAny _ _ (Builtin.SmallTypes.ownedTupleHandOut (.ref z) (.ref h₅.objs.size) >>= _) _ _ _
  refine wpAny_bind ?_
  unfold Builtin.SmallTypes.ownedTupleHandOut
  have hz₆ : IsZip (h₅.push { cls := .type "tuple", data := .seq #[x, y] }) z TI TO .ellipsis := Heap.get?_push_of_some _ hz₅
  refine wpAny_bind (wpAny_setField_rec hz₆ (by simp) fun h₇ hz₇ hs₇ => ?_)
  replace hz₇ : IsZip h₇ z TI TO (rawInt h₅.objs.size) := hz₇
  refine wpAny_setField_rec hz₇ (by simp) fun h₈ hz₈ hs₈ => ?_
  replace hz₈ : IsZip h₈ z TI TO (rawInt h₅.objs.size) := hz₈
  have up : ∀ c o, c ≠ z → h₅.get? c = some o → h₈.get? c = some o := fun c o c1 e => hs₈.extBut _ _ c1 (hs₇.extBut _ _ c1 (Heap.get?_push_of_some _ e))
  have hT₈ : IsPair h₈ h₅.objs.size x y := hs₈.extBut _ _ (Nat.ne_of_gt hzlt) (hs₇.extBut _ _ (Nat.ne_of_gt hzlt) (Heap.get?_push_size _ rfl))
  have hz8 : h₈.objs.size = h₅.objs.size + 1 := by rw [hs₈.1, hs₇.1, Heap.size_push]
  rw [hsz] at hz₈ hT₈ hz8
  refine wpAny_pure ⟨_, rfl, ?_⟩
  show Q (.ref h₅.objs.size) _
  rw [hsz]
  exact hQ h₈ hz₈ (up _ _ D.TOz hTO₅) (h1₅.at fun o e => up _ o D.i1z e) (h2₅.at fun o e => up _ o D.i2z e) hT₈ hz8 fun c o c1 c2 c3 c4 e => up c o c1 (hk₅ c o c1 c2 c3 c4 e)

theorem zipS_next_end {t1 t2 : Bool} {z TI TO i1 i2 l1 l2 : Addr} {k1 k2 : Nat} {xs ys : Array Value} {a b : Value} {Q : Fin → Shared → Prop} (hh : A.handled = none) (D : ZipApart z TI TO i1 i2 l1 l2)
    (hz : IsZip s.heap z TI TO .none) (hTI : IsPair s.heap TI (.ref i1) (.ref i2)) (hTO : IsPair s.heap TO a b)
    (h1 : SIter t1 s.heap i1 l1 k1) (h2 : SIter t2 s.heap i2 l2 k2) (hl1 : SSeq t1 s.heap l1 xs) (hl2 : SSeq t2 s.heap l2 ys) (hend : xs[k1]? = none ∨ ys[k2]? = none)
    (hE : ∀ h' e, (∀ c o, c ≠ z → c ≠ TO → c ≠ i1 → c ≠ i2 → s.heap.get? c = some o → h'.get? c = some o) → (∃ o, h'.get? e = some o ∧ o.cls = .type "StopIteration") → E (.ref e) { s with heap := h' }) :
    wpAny (model prog w) A (Builtin.«zip.__next__» ⟨[.ref z], []⟩) Q E s := by
  show wpAny _ _ (field (.ref z) 2 >>= _) _ _ _
  refine wpAny_bind (wpAny_field hz rfl (x := .bool false) rfl ?_)
  show wpAny _ _ (field (.ref z) 3 >>= _) _ _ _
  refine wpAny_bind (wpAny_field hz rfl (x := .ref TI) rfl ?_)
  refine wpAny_bind (wpAny_seqItems hTI rfl ?_)
  show wpAny _ _ (Builtin.SmallTypes.ownedTupleIsFree (.ref z) >>= _) _ _ _
  refine wpAny_bind ?_
  unfold Builtin.SmallTypes.ownedTupleIsFree
  refine wpAny_bind (wpAny_field hz rfl (x := .none) rfl (wpAny_pure ?_))
  simp only [if_true]
  refine wpAny_bind (wpAny_rule ?_)
  refine wpAny_bind (wpAny_field hz rfl (x := .ref TO) rfl ?_)
  refine wpAny_bind (wpAny_setField_rec hz (by simp) fun h₁ hz₁ hs₁ => ?_)
  replace hz₁ : IsZip h₁ z TI TO .ellipsis := hz₁
  refine wpAny_bind ?_
  simp only [List.zipIdx_cons, List.zipIdx_nil, List.forIn_cons, List.forIn_nil]
  refine wpAny_bind (wpAny_bind (wpAny_onRaise ?_))
  show wpAny _ _ (Builtin.SmallTypes.nextOf (.ref i1) >>= _) _ _ _
  cases hx : xs[k1]? with
  | none =>
    refine wpAny_bind (nextOf_S_end hh (h1.extBut hs₁.extBut D.i1z) (hl1.extBut hs₁.extBut D.l1z) hx fun h₂ e hs₂ he => ?_)
    obtain ⟨oe, hoe, hce⟩ := he
    have hz₂ : IsZip h₂ z TI TO .ellipsis := hs₂ _ _ D.i1z.symm hz₁
    have hez : e ≠ z := fun x => by subst x; rw [hz₂] at hoe; cases hoe; simp at hce
    refine wpAny_setField_rec hz₂ (by simp) fun h₃ _ hs₃ => hE h₃ e (fun c o c1 _ c3 _ x => hs₃.extBut _ _ c1 (hs₂ _ _ c3 (hs₁.extBut _ _ c1 x))) ⟨oe, hs₃.extBut _ _ hez hoe, hce⟩
  | some x =>
    have hy : ys[k2]? = none := by rcases hend with h | h; rw [hx] at h; cases h; exact h
    refine wpAny_bind (nextOf_S_item (h1.extBut hs₁.extBut D.i1z) (hl1.extBut hs₁.extBut D.l1z) hx fun h₂ h1₂ hs₂ => wpAny_pure ?_)
    have hTO₂ : IsPair h₂ TO a b := hs₂.extBut _ _ D.TOi1 (hs₁.extBut _ _ D.TOz hTO)
    refine wpAny_bind (wpAny_seqItems hTO₂ rfl ?_)
    refine wpAny_bind (wpAny_updateSeq_pair hTO₂ fun h₃ hTO₃ hs₃ => ?_)
    refine wpAny_bind (wpAny_letGo (wpAny_pure ?_))
    refine wpAny_bind (wpAny_bind (wpAny_onRaise ?_))
    show wpAny _ _ (Builtin.SmallTypes.nextOf (.ref i2) >>= _) _ _ _
    refine wpAny_bind (nextOf_S_end hh (((h2.extBut hs₁.extBut D.i2z).extBut hs₂.extBut D.i12.symm).extBut hs₃.extBut D.TOi2.symm)
      (((hl2.extBut hs₁.extBut D.l2z).extBut hs₂.extBut D.l2i1).extBut hs₃.extBut D.l2TO) hy fun h₄ e hs₄ he => ?_)
    obtain ⟨oe, hoe, hce⟩ := he
    have hz₄ : IsZip h₄ z TI TO .ellipsis := hs₄ _ _ D.i2z.symm (hs₃.extBut _ _ D.TOz.symm (hs₂.extBut _ _ D.i1z.symm hz₁))
    have hez : e ≠ z := fun x => by subst x; rw [hz₄] at hoe; cases hoe; simp at hce
    refine wpAny_setField_rec hz₄ (by simp) fun h₅ _ hs₅ => hE h₅ e (fun c o c1 c2 c3 c4 x => hs₅.extBut _ _ c1 (hs₄ _ _ c4 (hs₃.extBut _ _ c2 (hs₂.extBut _ _ c3 (hs₁.extBut _ _ c1 x))))) ⟨oe, hs₅.extBut _ _ hez hoe, hce⟩

theorem pyNext_zipS_item {t1 t2 : Bool} {z TI TO i1 i2 l1 l2 : Addr} {k1 k2 : Nat} {xs ys : Array Value} {x y a b : Value} {Q : Option Value → Shared → Prop} (D : ZipApart z TI TO i1 i2 l1 l2)
    (hz : IsZip s.heap z TI TO .none) (hTI : IsPair s.heap TI (.ref i1) (.ref i2)) (hTO : IsPair s.heap TO a b)
    (h1 : SIter t1 s.heap i1 l1 k1) (h2 : SIter t2 s.heap i2 l2 k2) (hl1 : SSeq t1 s.heap l1 xs) (hl2 : SSeq t2 s.heap l2 ys) (hx : xs[k1]? = some x) (hy : ys[k2]? = some y)
    (hQ : ∀ h', IsZip h' z TI TO (rawInt s.heap.objs.size) → IsPair h' TO x y → SIter t1 h' i1 l1 (k1 + 1) → SIter t2 h' i2 l2 (k2 + 1) → IsPair h' s.heap.objs.size x y → h'.objs.size = s.heap.objs.size + 1 →
      (∀ c o, c ≠ z → c ≠ TO → c ≠ i1 → c ≠ i2 → s.heap.get? c = some o → h'.get? c = some o) → Q (some (.ref s.heap.objs.size)) { s with heap := h' }) :
    wpAny (model prog w) A (pyNext (.ref z)) Q E s := by
  have hT : s.TypeIs (.ref z) "zip" := ⟨_, hz, rfl⟩
  unfold pyNext
  exact wpAny_bind (wpAny_attempt (wpAny_callSpecial?_slot (name := Str.ofString "__next__") hT F.slot_zip_next
    (wpAny_call_entry F.slot_zip_next hT F.entry_zip_next
      (zipS_next_item D hz hTI hTO h1 h2 hl1 hl2 hx hy fun h' a1 a2 a3 a4 a5 a6 a7 => wpAny_pure (hQ h' a1 a2 a3 a4 a5 a6 a7)) (F.args_zip_next_1 _))))

theorem pyNext_zipS_end {t1 t2 : Bool} {z TI TO i1 i2 l1 l2 : Addr} {k1 k2 : Nat} {xs ys : Array Value} {a b : Value} {Q : Option Value → Shared → Prop} (hh : A.handled = none) (D : ZipApart z TI TO i1 i2 l1 l2)
    (hz : IsZip s.heap z TI TO .none) (hTI : IsPair s.heap TI (.ref i1) (.ref i2)) (hTO : IsPair s.heap TO a b)
    (h1 : SIter t1 s.heap i1 l1 k1) (h2 : SIter t2 s.heap i2 l2 k2) (hl1 : SSeq t1 s.heap l1 xs) (hl2 : SSeq t2 s.heap l2 ys) (hend : xs[k1]? = none ∨ ys[k2]? = none)
    (hQ : ∀ h', (∀ c o, c ≠ z → c ≠ TO → c ≠ i1 → c ≠ i2 → s.heap.get? c = some o → h'.get? c = some o) → Q none { s with heap := h' }) : wpAny (model prog w) A (pyNext (.ref z)) Q E s := by
  have hT : s.TypeIs (.ref z) "zip" := ⟨_, hz, rfl⟩
  unfold pyNext
  refine wpAny_bind (wpAny_attempt (wpAny_callSpecial?_slot (name := Str.ofString "__next__") hT F.slot_zip_next
    (wpAny_call_entry F.slot_zip_next hT F.entry_zip_next (zipS_next_end hh D hz hTI hTO h1 h2 hl1 hl2 hend fun h' e hk he => ?_) (F.args_zip_next_1 _))))
  obtain ⟨o, ho, hc⟩ := he
  refine wpAny_bind (wpAny_isInstance (T := "StopIteration") (b := true) ⟨o, ho, hc⟩ isSubtype_stop ?_)
  exact wpAny_pure (hQ _ hk)
end


abbrev zH1 (t1 : Bool) (h : Heap) (l1 : Addr) : Heap := h.push { cls := .type (itName t1), data := .fields #[.ref l1, .int 0 0] }
abbrev zH2 (t1 t2 : Bool) (h : Heap) (l1 l2 : Addr) : Heap := (zH1 t1 h l1).push { cls := .type (itName t2), data := .fields #[.ref l2, .int 0 0] }
abbrev zH3 (t1 t2 : Bool) (h : Heap) (l1 l2 : Addr) : Heap := (zH2 t1 t2 h l1 l2).push { cls := .type "tuple", data := .seq #[.ref h.objs.size, .ref (zH1 t1 h l1).objs.size] }
abbrev zH4 (t1 t2 : Bool) (h : Heap) (l1 l2 : Addr) : Heap := (zH3 t1 t2 h l1 l2).push { cls := .type "tuple", data := .seq #[.none, .none] }
abbrev zH5 (t1 t2 : Bool) (h : Heap) (l1 l2 : Addr) : Heap := (zH4 t1 t2 h l1 l2).push { cls := .type "zip", data := .fields #[.none, .bool false, .bool false, .ref (zH2 t1 t2 h l1 l2).objs.size, .ref (zH3 t1 t2 h l1 l2).objs.size] }
theorem meets_zipS (t1 t2 : Bool) (l1 l2 : Addr) (xs ys : Array Value) :
    Meets (Builtin.«zip.__new__» ⟨[.type "zip", .ref l1, .ref l2], []⟩) (fun _ R s => SSeq t1 s.heap l1 xs ∧ SSeq t2 s.heap l2 ys ∧
      R (.ok (.ret (.ref (zH4 t1 t2 s.heap l1 l2).objs.size))) { s with heap := zH5 t1 t2 s.heap l1 l2 }) := by
  cases t1 with
  | true => cases t2 with
    | true => exact RZ.meets_zipT_new l1 l2 xs ys
    | false =>
        refine .of_wp fun prog w A R s h => ?_
        obtain ⟨hp, g, d, tk, os⟩ := s; obtain ⟨hl1, hl2, h⟩ := h
        have hsub := sub_zip
        have hL1 : Heap.IsTuple (Shared.heap ⟨hp, g, d, tk, os⟩) l1 xs := hl1
        have hL2 : Heap.IsList (Shared.heap ⟨hp.push { cls := .type "tuple_iterator", data := .fields #[.ref l1, .int 0 0] }, g, d, tk, os⟩) l2 ys := Heap.IsList.push hl2 _
        wp_walk using wpAny_pyIter_tuple hL1, wpAny_pyIter_list hL2
        exact ⟨_, rfl, h⟩
  | false => cases t2 with
    | false => exact meets_zip_new l1 l2 xs ys
    | true =>
        refine .of_wp fun prog w A R s h => ?_
        obtain ⟨hp, g, d, tk, os⟩ := s; obtain ⟨hl1, hl2, h⟩ := h
        have hsub := sub_zip
        have hL1 : Heap.IsList (Shared.heap ⟨hp, g, d, tk, os⟩) l1 xs := hl1
        have hL2 : Heap.IsTuple (Shared.heap ⟨hp.push { cls := .type "list_iterator", data := .fields #[.ref l1, .int 0 0] }, g, d, tk, os⟩) l2 ys := Heap.IsTuple.push hl2 _
        wp_walk using wpAny_pyIter_list hL1, wpAny_pyIter_tuple hL2
        exact ⟨_, rfl, h⟩
section
variable {prog : Program} {w : World} {A : Around} {E : Value → Shared → Prop} {s : Shared}
theorem call_zipS {t1 t2 : Bool} {l1 l2 : Addr} {xs ys : Array Value} {Q : Value → Shared → Prop} (hl1 : SSeq t1 s.heap l1 xs) (hl2 : SSeq t2 s.heap l2 ys)
    (h : ∀ h', IsZip h' (s.heap.objs.size + 4) (s.heap.objs.size + 2) (s.heap.objs.size + 3) .none → IsPair h' (s.heap.objs.size + 2) (.ref s.heap.objs.size) (.ref (s.heap.objs.size + 1)) →
      IsPair h' (s.heap.objs.size + 3) .none .none → SIter t1 h' s.heap.objs.size l1 0 → SIter t2 h' (s.heap.objs.size + 1) l2 0 → h'.objs.size = s.heap.objs.size + 5 →
      (∀ c o, s.heap.get? c = some o → h'.get? c = some o) → Q (.ref (s.heap.objs.size + 4)) { s with heap := h' }) :
    wpAny (model prog w) A (call (.type "zip") [.ref l1, .ref l2]) Q E s := by
  refine callType_new F.called_zip (by decide) (F.typeCall_zip_2 _ _) (F.newCall_zip_2 _ _) (fun obj => F.args_object_init_3 obj _ _) F.entry_zip_new
    (meets_zipS t1 t2 l1 l2 xs ys) ⟨hl1, hl2, ?_⟩
  have z1 : (zH1 t1 s.heap l1).objs.size = s.heap.objs.size + 1 := Heap.size_push ..
  have z2 : (zH2 t1 t2 s.heap l1 l2).objs.size = s.heap.objs.size + 2 := by rw [Heap.size_push, z1]
  have z3 : (zH3 t1 t2 s.heap l1 l2).objs.size = s.heap.objs.size + 3 := by rw [Heap.size_push, z2]
  have z4 : (zH4 t1 t2 s.heap l1 l2).objs.size = s.heap.objs.size + 4 := by rw [Heap.size_push, z3]
  have z5 : (zH5 t1 t2 s.heap l1 l2).objs.size = s.heap.objs.size + 5 := by rw [Heap.size_push, z4]
  have g5 : (zH5 t1 t2 s.heap l1 l2).get? (zH4 t1 t2 s.heap l1 l2).objs.size = some _ := Heap.get?_push_size _ rfl
  have g4 : (zH5 t1 t2 s.heap l1 l2).get? (zH3 t1 t2 s.heap l1 l2).objs.size = some _ := Heap.get?_push_of_some _ (Heap.get?_push_size _ rfl)
  have g3 : (zH5 t1 t2 s.heap l1 l2).get? (zH2 t1 t2 s.heap l1 l2).objs.size = some _ := Heap.get?_push_of_some _ (Heap.get?_push_of_some _ (Heap.get?_push_size _ rfl))
  have g2 : (zH5 t1 t2 s.heap l1 l2).get? (zH1 t1 s.heap l1).objs.size = some _ := Heap.get?_push_of_some _ (Heap.get?_push_of_some _ (Heap.get?_push_of_some _ (Heap.get?_push_size _ rfl)))
  have g1 : (zH5 t1 t2 s.heap l1 l2).get? s.heap.objs.size = some _ := Heap.get?_push_of_some _ (Heap.get?_push_of_some _ (Heap.get?_push_of_some _ (Heap.get?_push_of_some _ (Heap.get?_push_size _ rfl))))
  show _ ∧ _
  rw [z2, z3, z4] at g5
  rw [z1, z2] at g3
  rw [z3] at g4
  rw [z1] at g2
  rw [z4]
  exact ⟨⟨_, g5, rfl⟩, h _ g5 g3 g4 (by cases t1 <;> exact ⟨_, g1, rfl, rfl⟩) (by cases t2 <;> exact ⟨_, g2, rfl, rfl⟩) z5 fun c o x =>
    Heap.get?_push_of_some _ (Heap.get?_push_of_some _ (Heap.get?_push_of_some _ (Heap.get?_push_of_some _ (Heap.get?_push_of_some _ x))))⟩
end
end RZM
namespace RZM
open PySem PySem.Spec PyProof.Rows L2
def SqS (t : Bool) (K : PySem.W.Frag) (H : Hp) (a : Addr) (xs : List V) : Prop := match t with
  | true => SqT K H a xs
  | false => SqL K H a xs
theorem sq_ok {X : Cx} {pins : List (Addr × Obj)} {σ : L2.St} {H : Hp} {s : Shared} {t : Bool} {a : Addr} {xs : List V} (I : Inv X pins σ H s) (h : SqS t X.K H a xs) : ∃ its : List Value, Vals xs its ∧ SSeq t s.heap a its.toArray ∧ xs.length ≤ sizeLine := by
  cases t with
  | true =>
    obtain ⟨its, r, p, z⟩ := I.tuple h
    exact ⟨its, r, (show s.heap.IsTuple a its.toArray from p), z⟩
  | false =>
    obtain ⟨its, r, p, z⟩ := I.list h
    exact ⟨its, r, p.isList, z⟩
theorem sq_inj {X : Cx} {pins : List (Addr × Obj)} {σ : L2.St} {H : Hp} {s : Shared} {t : Bool} {a : Addr} {xs ys : List V} (I : Inv X pins σ H s) (h : SqS t X.K H a xs) (h' : SqS t X.K H a ys) : xs = ys := by
  cases t with
  | true => exact I.tuple_inj h h'
  | false => exact I.list_inj h h'
def ItzS (t1 t2 : Bool) (K : PySem.W.Frag) (a b : Addr) : It :=
  ⟨fun i H => ∃ (xs ys : List V) (x y : V), SqS t1 K H a xs ∧ SqS t2 K H b ys ∧ xs[i]? = some x ∧ ys[i]? = some y,
    fun i H v H' => ∃ T x y, v = .ref T ∧ H T = none ∧ H' = upd H T (.tup [x, y]) ∧ (∀ xs, SqS t1 K H a xs → xs[i]? = some x) ∧ ∀ ys, SqS t2 K H b ys → ys[i]? = some y,
    fun i H => ∃ xs ys : List V, SqS t1 K H a xs ∧ SqS t2 K H b ys ∧ (xs.length ≤ i ∨ ys.length ≤ i)⟩
theorem turn_zipS {t1 t2 : Bool} {P : Program} {w : World} {K : PySem.W.Frag} {elts : List Expr} {kk : Nat} {tpos : Pos} {a b z TI TO i1 i2 : Addr} (D : ZipApart z TI TO i1 i2 a b) :
    Turn P w K (.Tuple elts kk tpos) (ItzS t1 t2 K a b) [z, TI, TO, i1, i2] z (fun i h => IsZip h z TI TO .none ∧ IsPair h TI (.ref i1) (.ref i2) ∧ (∃ x y, IsPair h TO x y) ∧ SIter t1 h i1 a i ∧ SIter t2 h i2 b i) where
  mem := by simp
  obj := fun i h st c hc => by
    obtain ⟨hz, hTI, ⟨x, y, hTO⟩, h1, h2⟩ := st
    obtain ⟨o1, e1, d1⟩ := h1.obj
    obtain ⟨o2, e2, d2⟩ := h2.obj
    have e' : c = z ∨ c = TI ∨ c = TO ∨ c = i1 ∨ c = i2 := by simpa using hc
    rcases e' with q | q | q | q | q
    · rw [q]; exact ⟨_, hz, fun v q => nomatch q⟩
    · rw [q]; exact ⟨_, hTI, fun v q => nomatch q⟩
    · rw [q]; exact ⟨_, hTO, fun v q => nomatch q⟩
    · rw [q]; exact ⟨o1, e1, d1⟩
    · rw [q]; exact ⟨o2, e2, d2⟩
  keep := fun i h h' st k => by
    obtain ⟨hz, hTI, ⟨x, y, hTO⟩, h1, h2⟩ := st
    exact ⟨k z (by simp) _ hz, k TI (by simp) _ hTI, ⟨x, y, k TO (by simp) _ hTO⟩, h1.at fun o q => k i1 (by simp) o q, h2.at fun o q => k i2 (by simp) o q⟩
  item := by
    intro X hP hw hK hc i pins s σ H E I hf st hg
    subst hP hw hK
    obtain ⟨hz, hTI, ⟨x0, y0, hTO⟩, h1, h2⟩ := st
    obtain ⟨xs, ys, x, y, hqx, hqy, hx, hy⟩ := hg
    obtain ⟨its, rv, p, _⟩ := sq_ok I hqx
    obtain ⟨its2, rv2, p2, _⟩ := sq_ok I hqy
    obtain ⟨u, hu, ru⟩ := rv.get hx
    obtain ⟨u2, hu2, ru2⟩ := rv2.get hy
    have hzl : z < s.heap.objs.size := Heap.lt_size hz
    refine pyNext_zipS_item D hz hTI hTO h1 h2 p p2 (x := u) (y := u2) (by simpa using hu) (by simpa using hu2) fun h' z' TO' h1' h2' hT hsz hk => ?_
    refine ⟨_, rfl, wpAny_letOwnedTupleGo_zip (s := { s with heap := h' }) z' fun h'' z'' sb => ?_⟩
    have hT2 : h''.get? s.heap.objs.size = some { cls := .type "tuple", data := .seq #[u, u2] } := (sb.2 _ (Nat.ne_of_gt hzl)).trans hT
    have new : ObjOk X.prog X.w (upd H s.heap.objs.size (.tup [x, y])) h'' s.heap.objs.size (.tup [x, y]) :=
      ⟨by show 2 ≤ sizeLine; decide, [u, u2], .cons ru (.cons ru2 .nil), ⟨_, hT2, rfl, _, rfl⟩⟩
    have I1 : Inv X pins σ (upd H s.heap.objs.size (.tup [x, y])) { s with heap := h'' } :=
      I.turnedNew (t' := s.toks) (ch := [z, TI, TO, i1, i2]) (fun c o hb q => (sb.2 c (fun q' => hb (by simp [q']))).trans (hk c o (fun q' => hb (by simp [q'])) (fun q' => hb (by simp [q'])) (fun q' => hb (by simp [q'])) (fun q' => hb (by simp [q'])) q)) hf (Nat.le_refl _) new
    refine ⟨.ref s.heap.objs.size, _, I1, rfl, ⟨_, x, y, rfl, I.hok.fresh (Nat.le_refl _), rfl, fun l hl => by rw [sq_inj I hl hqx]; exact hx, fun l hl => by rw [sq_inj I hl hqy]; exact hy⟩, ⟨z'', ?_, ⟨u, u2, ?_⟩, ?_, ?_⟩, fun c hcm => ?_⟩
    · exact (sb.2 _ D.TIz).trans (hk _ _ D.TIz D.TITO D.TIi1 D.TIi2 hTI)
    · exact (sb.2 _ D.TOz).trans TO'
    · exact h1'.at fun o q => (sb.2 _ D.i1z).trans q
    · exact h2'.at fun o q => (sb.2 _ D.i2z).trans q
    · have hlt : c < s.heap.objs.size := by
        have e' : c = z ∨ c = TI ∨ c = TO ∨ c = i1 ∨ c = i2 := by simpa using hcm
        rcases e' with q | q | q | q | q
        · rw [q]; exact hzl
        · rw [q]; exact Heap.lt_size hTI
        · rw [q]; exact Heap.lt_size hTO
        · rw [q]; exact h1.lt
        · rw [q]; exact h2.lt
      rw [upd_ne (Nat.ne_of_lt hlt)]
      exact (hf c hcm).1
  done := by
    intro X hP hw hK hc i pins s σ H E I hf st hg
    subst hP hw hK
    obtain ⟨hz, hTI, ⟨x0, y0, hTO⟩, h1, h2⟩ := st
    obtain ⟨xs, ys, hqx, hqy, hend⟩ := hg
    obtain ⟨its, rv, p, _⟩ := sq_ok I hqx
    obtain ⟨its2, rv2, p2, _⟩ := sq_ok I hqy
    have l1 := rv.length
    have l2 := rv2.length
    have he : its.toArray[i]? = none ∨ its2.toArray[i]? = none := by
      rcases hend with q | q
      · exact .inl (by simp; omega)
      · exact .inr (by simp; omega)
    exact pyNext_zipS_end (I.ok.hd hc) D hz hTI hTO h1 h2 p p2 he fun h' hk => ⟨rfl, I.turnedL (t' := s.toks) (ch := [z, TI, TO, i1, i2]) (fun c o hb q =>
      hk c o (fun q' => hb (by simp [q'])) (fun q' => hb (by simp [q'])) (fun q' => hb (by simp [q'])) (fun q' => hb (by simp [q'])) q) hf⟩
  self := fun A i s Q E st h => wpAny_pyIter_zip st.1 h

/-- zip(e, e2), each a list or a tuple -/
def iZipS (K : PySem.W.Frag) (ta : TA) : TI := fun σ H R => ta σ H fun vs H1 => ∃ t1 t2 a b xs ys, vs = [.ref a, .ref b] ∧ SqS t1 K H1 a xs ∧ SqS t2 K H1 b ys ∧ R (ItzS t1 t2 K a b) H1
theorem sseq_lt {t : Bool} {h : Heap} {a : Addr} {its : Array Value} (x : SSeq t h a its) : a < h.objs.size := by
  cases t with
  | true =>
    obtain ⟨o, e, _⟩ := (show h.IsTuple a its from x)
    exact Heap.lt_size e
  | false =>
    obtain ⟨o, e, _⟩ := (show h.IsList a its from x)
    exact Heap.lt_size e
theorem pi_zipS {X : Cx} {e e2 : Expr} {ta : TA} {p pos tpos : Pos} {elts : List Expr} {kk : Nat} (hg : Gl X "zip") (hm : X.mg "zip" = none) (ha : PA X [e, e2] ta)
    (hs : starEach [e, e2] X.env = (false, eval e X.env) :: starEach [e2] X.env := by rfl) (hpl : (backTo pos (starEach [e2] X.env)).any (·.1) = false := by rfl) :
    PI X (.Tuple elts kk tpos) (.Call (.Name "zip" p) [e, e2] [] pos) (iZipS X.K ta) := by
  refine ⟨fun pins s σ H R I h => Call_ (ld_blt I hg hm PyProof.Rows.boot_zip (PyProof.Rows.callWith_type1 (thn (ha.run pos pins s σ H _ I h) fun us s1 ⟨vs, H1, I1, r1, t1, t2, a, b, xs, ys, ex, hqx, hqy, q⟩ => ?_) hs hpl))⟩
  subst ex
  obtain ⟨u1, u2, rfl, r, r'⟩ := vals2 r1
  cases r
  cases r'
  obtain ⟨its, rv, p1, _⟩ := sq_ok I1 hqx
  obtain ⟨its2, rv2, p2, _⟩ := sq_ok I1 hqy
  have fresh5 : ∀ c, c ∈ [s1.heap.objs.size + 4, s1.heap.objs.size + 2, s1.heap.objs.size + 3, s1.heap.objs.size, s1.heap.objs.size + 1] → FpOk X pins H1 c := fun c hcm => by
    have hle : s1.heap.objs.size ≤ c := by
      simp only [List.mem_cons, List.not_mem_nil, or_false] at hcm
      omega
    exact I1.fpOk hle (I1.hok.fresh hle)
  refine call_zipS p1 p2 fun h' hz hTI hTO h1 h2 hsz hk => wpAny_pyIter_zip hz ?_
  have I2 : Inv X pins σ H1 { s1 with heap := h' } := I1.kept (t' := s1.toks) hk
  exact ⟨s1.heap.objs.size + 4, [s1.heap.objs.size + 4, s1.heap.objs.size + 2, s1.heap.objs.size + 3, s1.heap.objs.size, s1.heap.objs.size + 1], _, _, H1, rfl, I2, turn_zipS (PySem.W.ktu_apart s1.heap.objs.size a b (sseq_lt p1) (sseq_lt p2)), ⟨hz, hTI, ⟨_, _, hTO⟩, h1, h2⟩, fresh5, q⟩
theorem for_zipS {t1 t2 : Bool} {K : PySem.W.Frag} {a b : Addr} {xs ys : List V} {g : TG} {tb : TS} {D : Ends} {σ : L2.St} {H : Hp} (hl : xs.length = ys.length) (Pv : Nat → L2.St → Hp → Prop) (h0 : Pv 0 σ H) (hq : ∀ i σ H, Pv i σ H → SqS t1 K H a xs ∧ SqS t2 K H b ys)
    (hs : ∀ (i : Nat) (x y : V) (T : Addr) (σ : L2.St) (H : Hp), xs[i]? = some x → ys[i]? = some y → Pv i σ H → H T = none → g (.ref T) σ (upd H T (.tup [x, y])) fun σ2 H2 => tb { D with nx := Pv (i + 1), ct := Pv (i + 1), bk := D.nx } σ2 H2) (hd : ∀ σ H, Pv xs.length σ H → D.nx σ H) :
    ∃ W : Nat → Nat → L2.St → Hp → Prop, (∃ m, W 0 m σ H) ∧ ∀ i m σ H, W i m σ H →
      ((ItzS t1 t2 K a b).stop i H ∧ D.nx σ H) ∨ ((ItzS t1 t2 K a b).go i H ∧ ∃ N : L2.St → Hp → Prop, (∀ σ' H', N σ' H' → ∃ m', m' < m ∧ W (i + 1) m' σ' H') ∧ ∀ v H', (ItzS t1 t2 K a b).yld i H v H' → g v σ H' fun σ2 H2 => tb { D with nx := N, ct := N, bk := D.nx } σ2 H2) := by
  refine ⟨fun i m σ H => m = xs.length - i ∧ i ≤ xs.length ∧ Pv i σ H, ⟨xs.length, rfl, Nat.zero_le _, h0⟩, ?_⟩
  rintro i m σ H ⟨rfl, hi, p⟩
  obtain ⟨qx, qy⟩ := hq i σ H p
  rcases Nat.lt_or_ge i xs.length with hlt | hge
  · refine .inr ⟨⟨xs, ys, _, _, qx, qy, List.getElem?_eq_getElem hlt, List.getElem?_eq_getElem (by omega)⟩, Pv (i + 1), fun σ' H' p' => ⟨xs.length - (i + 1), by omega, rfl, hlt, p'⟩, fun v H' y => ?_⟩
    obtain ⟨T, x', y', rfl, hT, rfl, f1, f2⟩ := y
    exact hs i x' y' T σ H (f1 xs qx) (f2 ys qy) p hT
  · have e : i = xs.length := by omega
    subst e
    exact .inl ⟨⟨xs, ys, qx, qy, Or.inl (Nat.le_refl _)⟩, hd σ H p⟩
end RZM
set_option Elab.async false
set_option linter.all false
set_option maxRecDepth 100000
set_option maxHeartbeats 4000000
/-! in, not in, index of tuples whose items are data of any depth; repr of data; isinstance of a caught error that has a dict -/
namespace TkS
open PySem PySem.Spec PyProof.Rows L2
section
variable {X : Cx}
def rInT (K : PySem.W.Frag) (neg : Bool) : R2 := fun x y H Q => ∃ d ds, Dp K H x d ∧ Dp K H y (.tuple ds) ∧ SeqAt.shaped d = true ∧ SeqAt.shaped (.tuple ds) = true ∧ Q (.bl (if neg then !ds.any fun z => PyData.eqv z d else ds.any fun z => PyData.eqv z d)) H
theorem room_tup {d : PyData} {ds : List PyData} (sd : SeqAt.shaped d = true) (hu : X.A.units + 65 < cLine) : X.A.units + 1 + min (PyData.depthAll ds) d.depth < cLine := by
  have h : d.depth ≤ 64 := by
    have z : (d.canLay0 && decide (d.depth ≤ 64)) = true := sd
    rw [Bool.and_eq_true] at z
    exact of_decide_eq_true z.2
  have := Nat.min_le_right (PyData.depthAll ds) d.depth
  omega
theorem lay_tup {ds : List PyData} (se : SeqAt.shaped (.tuple ds) = true) : PyData.canLayAll0 ds = true := SeqAt.canLay_of_shaped se
theorem op_inT (hu : X.A.units + 65 < cLine) : OpR X (compareOp .In) (rInT X.K false) := by
  intro pins s σ H x y v u Q I rx ry h
  obtain ⟨d, ds, hd, he, sd, se, q⟩ := h
  obtain ⟨as, r1⟩ := Dp.reads I d x v hd rx
  obtain ⟨bs, r2⟩ := Dp.reads I (.tuple ds) y u he ry
  exact SeqAt.in_tuple_reads r2 r1 (lay_tup se) (SeqAt.canLay_of_shaped sd) (room_tup sd hu) ⟨.bl _, H, I, rfl, q⟩
theorem op_notInT (hu : X.A.units + 65 < cLine) : OpR X (compareOp .NotIn) (rInT X.K true) := by
  intro pins s σ H x y v u Q I rx ry h
  obtain ⟨d, ds, hd, he, sd, se, q⟩ := h
  obtain ⟨as, r1⟩ := Dp.reads I d x v hd rx
  obtain ⟨bs, r2⟩ := Dp.reads I (.tuple ds) y u he ry
  exact SeqAt.notIn_tuple_reads r2 r1 (lay_tup se) (SeqAt.canLay_of_shaped sd) (room_tup sd hu) ⟨.bl _, H, I, rfl, q⟩
/-- t.index(x): the first place of an equal one -/
def rIxT (K : PySem.W.Frag) : V → List V → Hp → VK → Prop := fun x xs H Q => ∃ (a : Addr) (y : V) (d : PyData) (ds : List PyData) (j : Nat) (z : PyData), x = V.ref a ∧ xs = [y] ∧ Dp K H (V.ref a) (.tuple ds) ∧ Dp K H y d ∧
  SeqAt.shaped (.tuple ds) = true ∧ SeqAt.shaped d = true ∧ ds[j]? = some z ∧ PyData.eqv z d = true ∧ (∀ (m : Nat) (z' : PyData), m < j → ds[m]? = some z' → PyData.eqv z' d = false) ∧ Q (.int (j : Nat)) H
theorem mt_tupIx (hu : X.A.units + 65 < cLine) : MtR X "tuple.index" (rIxT X.K) := by
  intro pins s σ H x xs v us Q I rx rxs h
  obtain ⟨a, y, d, ds, j, z, rfl, rfl, hl, hy, sl, sd, hz, hzj, hno, q⟩ := h
  cases rx
  cases rxs with
  | cons ry rt =>
    rename_i uy ut
    cases rt
    obtain ⟨bs, r1⟩ := Dp.reads I d y uy hy ry
    have hxs : PyData.canLayAll0 ds = true := lay_tup sl
    cases hl with
    | tup hs ha =>
      obtain ⟨its, rv, ⟨⟨cls, dd, data, sls⟩, ho, hc, n, hdt⟩, hlen⟩ := I.tuple hs
      simp only at hc hdt
      subst hc hdt
      obtain ⟨as, h4⟩ := Dp.readsAll I ds _ its ha rv
      have hmap : its.map (SeqAt.readOf s.heap) = ds := SeqAt.readsAll_map ds its as hxs h4
      have hn : its.length = ds.length := SeqAt.ReadsAll.length ds its as h4
      obtain ⟨hjd, _⟩ := List.getElem?_eq_some_iff.mp hz
      have hj : j < its.toArray.size := by
        rw [List.size_toArray]
        omega
      have at_ : ∀ (m : Nat) (hm : m < its.toArray.size) (z' : PyData), ds[m]? = some z' → SeqAt.readOf s.heap its.toArray[m] = z' := by
        intro m hm z' hz'
        have hml : m < its.length := by simpa using hm
        rw [← hmap, List.getElem?_map, List.getElem?_eq_getElem hml] at hz'
        have e1 : SeqAt.readOf s.heap its[m] = z' := Option.some.inj hz'
        simpa using e1
      refine call_meets PySem.F.slot_tuple_index ⟨_, ho, rfl⟩ PySem.F.entry_tuple_index (PySem.F.args_tuple_index_2 _ _)
        (TI.tuple_indexAt a its.toArray n dd sls uy (fun u => PyData.eqv (SeqAt.readOf s.heap u) d) j hj ?_ ?_) ⟨ho, SeqAt.items_eqAt (vs := its.toArray) (show ReadsAll s.heap its.toArray.toList ds as from h4) r1 hxs (SeqAt.canLay_of_shaped sd) (room_tup sd hu), ?_⟩
      · show PyData.eqv (SeqAt.readOf s.heap its.toArray[j]) d = true
        rw [at_ j hj z hz]
        exact hzj
      · intro m hm hmj
        have hmd : m < ds.length := by omega
        have hz' : ds[m]? = some ds[m] := List.getElem?_eq_getElem hmd
        show PyData.eqv (SeqAt.readOf s.heap its.toArray[m]) d = false
        rw [at_ m hm _ hz']
        exact hno m _ hmj hz'
      · exact ⟨.int (j : Nat), H, I.tok _, ⟨_, rfl⟩, q⟩
/-- repr of a list or tuple of data: its text hangs on the data alone -/
def rReprD (K : PySem.W.Frag) : List V → Hp → VK → Prop := fun xs H Q => ∃ a d, xs = [.ref a] ∧ Dp K H (.ref a) d ∧ d.showable = true ∧ d.hasDict = false ∧ d.depth ≤ 60 ∧ d.shown.length ≤ sizeLine ∧ Q (.str d.shown) H
theorem call_reprD (hg : X.A.guards = some []) (hu : X.A.units + 65 < cLine) : CallR X (.builtin "repr") (rReprD X.K) := by
  intro pins s σ H xs us Q I r h
  obtain ⟨a, d, rfl, hd, h1, h2, h3, h4, q⟩ := h
  obtain ⟨u, rfl, ru⟩ := vals1 r
  obtain ⟨as, rd⟩ := Dp.reads I d (.ref a) u hd ru
  cases ru
  exact repr_of_reads' rd h1 (PyData.noDict_hsm h2) hg (by omega) (fun _ _ e => e) (fun h' u tk k => ⟨.str d.shown, H, I.kept (t' := tk) k, ⟨_, rfl⟩, q⟩) h4
end
end TkS
set_option Elab.async false
set_option linter.all false
set_option maxRecDepth 100000
set_option maxHeartbeats 4000000
namespace PySem.W
open PySem PySem.Spec PySem.Calls PyProof.Rows
section
variable {prog : Program} {w : World} {A : Around} {E : Value → Shared → Prop} {s : Shared} {K : Frag} {x D : Addr} {ox : Obj}
theorem kin_classD {od : Obj} {Q : Option Value → Shared → Prop} (hga : findIn K (.ref D) "__getattribute__" = some (some (.builtin "BaseException.__getattribute__"))) (hgt : findIn K (.ref D) "__getattr__" = some none) (hsub : subIn K (.ref D) (.type "BaseException") = some true)
    (hdct : hasDictIn K D = true) (ha : findIn K (.ref D) "__class__" = some (some (.builtin "object.__class__")))
    (hn : specialIn K (.builtin "object.__class__") "__get__" = some (some (.builtin "getset_descriptor.__get__"))) (htk : takesIn K (.builtin "object.__class__") = some true) (hm : mroIn K D (.type "object") = some true)
    (X : K.In s.heap) (I : InstAt s.heap x ox D (some od)) (h : Q (some (.ref D)) { s with toks := s.toks + 1 }) : wpAny (model prog w) A (getAttr? (.ref x) "__class__") Q E s := by
  have hf : findObj K D (some od) "__class__" = some (.bind (.builtin "getset_descriptor.__get__") (.builtin "object.__class__")) := findObj_data (by obtain ⟨cd, hc, _⟩ := any_some hdct; rw [hc]; rfl) ha hn htk
  obtain ⟨hp, g, d, t, os⟩ := s
  have L0 := I.type (M := model prog w)
  have L1 := looks_findIn (M := model prog w) X hga
  have L2 := looks_findIn (M := model prog w) X hgt
  have L3 := looks_find (M := model prog w) X I hf
  have sub : Looks (model prog w) hp (isInstance (.ref x) (.type "BaseException")) true := L0.andThen (looks_subIn X hsub)
  have hx0 : (false && onTheHeap (Value.builtin "BaseException.__getattribute__")) = false := rfl
  have hx2 : (Value.builtin "BaseException.__getattribute__" == Value.builtin "object.__getattribute__") = false := by decide +kernel
  have hx1 : (onTheHeap (Value.ref D) && Value.builtin "BaseException.__getattribute__" == Value.builtin "object.__getattribute__") = false := by rw [hx2]; rfl
  unfold getAttr? getAttrBy? getAttrBy
  refine wpAny_bind (wpAny_mkText (wpAny_bind (wpAny_attempt (wpAny_holding (wpAny_bind (L0.at (wpAny_bind (L1.at ?_))))))))
  show wpAny _ _ (if (onTheHeap (Value.ref D) && Value.builtin "BaseException.__getattribute__" == Value.builtin "object.__getattribute__") = true then _ else _) _ _ _
  rw [hx1, if_neg Bool.false_ne_true]
  unfold getAttrByItsOwn hookBefore
  refine wpAny_bind ?_
  rw [if_pos (show onTheHeap (Value.ref D) = true from rfl)]
  refine L2.at ?_
  refine wpAny_bind (wpAny_attempt (wpAny_holding ?_))
  unfold callGetattribute
  rw [hx0, if_neg Bool.false_ne_true]
  unfold boundAndCalled
  rw [PySem.F.excAttr_ValueError.ga.bind (.ref x)]
  refine wpAny_bind (wpAny_pure ?_)
  show wpAny _ _ (call (.builtin "BaseException.__getattribute__") [.ref x, .str "__class__" t]) _ _ _
  refine wpAny_call (codeAny_call_builtin PySem.F.excAttr_ValueError.ga.plain PySem.F.entry_bexc_ga ?_)
  refine @check_slot (model prog w) _ _ ⟨hp, g, d, t + 1, os⟩ "BaseException.__getattribute__" "BaseException" "__getattribute__" (.ref x) [.str "__class__" t] [] _ (by decide +kernel) (by decide +kernel) sub (PySem.F.args_bexc_ga (.ref x) (.str "__class__" t)) ?_
  unfold Builtin.«object.__getattribute__»
  refine wpAny_bind (wpAny_of_eq (a := ((Value.ref x : Value), [Value.str "__class__" t])) (by first | rfl | (simp only [slotArgs]; rfl)) ?_)
  refine wpAny_bind (wpAny_pure (wpAny_bind (L0.at (wpAny_bind (L3.at ?_)))))
  show wpAny _ _ (holding [Value.builtin "object.__class__"] (call (.builtin "getset_descriptor.__get__") [.builtin "object.__class__", .ref x, .ref D]) >>= ret) _ _ _
  refine wpAny_bind (wpAny_holding (wpAny_call (class_get (s := ⟨hp, g, d, t + 1, os⟩) (ox := ox) (od := some od) X I hm ?_)))
  refine wpAny_pure ?_
  show wpAny _ _ (handedOut (.ref D)) _ _ _
  rw [handedOut_of (v := .ref D) rfl]
  first
    | exact wpAny_pure (wpAny_pure h)
    | exact wpAny_pure h
    | exact wpAny_pure (wpAny_bind (wpAny_pure (wpAny_pure h)))
theorem kitx_excD (hga : findIn K (.ref D) "__getattribute__" = some (some (.builtin "BaseException.__getattribute__"))) (hgt : findIn K (.ref D) "__getattr__" = some none) (hsub : subIn K (.ref D) (.type "BaseException") = some true) (hdct : hasDictIn K D = true) (ha : findIn K (.ref D) "__class__" = some (some (.builtin "object.__class__")))
    (hn : specialIn K (.builtin "object.__class__") "__get__" = some (some (.builtin "getset_descriptor.__get__"))) (htk : takesIn K (.builtin "object.__class__") = some true) (hm : mroIn K D (.type "object") = some true) :
    KitX K (.ref x) (.ref D) (fun h => ∃ od, InstAt h x ox D (some od)) where
  ty := fun _ _ _ I => I.elim fun _ J => J.type
  it := fun _ _ X _ => by
    obtain ⟨cdD, hcD, _⟩ := any_some hdct
    unfold clsIn at hcD
    split at hcD
    · rename_i c' d' cd' sl' ho
      intro A' Q' E' s' k q
      unfold isType loadHead
      exact wpAny_bind (wpAny_loadPart (k _ _ (X _ _ ho)) (wpAny_pure q))
    · cases hcD
  ne := fun h tp dd its n sl X htp => by
    obtain ⟨cdD, hcD, _⟩ := any_some hdct
    refine Bool.eq_false_iff.mpr fun q => ?_
    have e : D = tp := Value.ref.inj (beq_iff_eq.mp q)
    subst e
    unfold clsIn at hcD
    split at hcD
    · rename_i c' d' cd' sl' ho
      have z := (X _ _ ho).symm.trans htp
      cases z
    · cases hcD
  ca := fun X I k => I.elim fun _ J => kin_classD hga hgt hsub hdct ha hn htk hm X J k
end
end PySem.W
namespace TkS
open PySem PySem.Spec PyProof.Rows L2
/-- isinstance(e, c), e the error that the suite holds, which has a dict -/
def rIsD (K : PySem.W.Frag) (D a : Addr) (cls : Value) (d : Option Addr) : List V → Hp → VK → Prop := fun xs H Q => cls = .ref D ∧ ∃ (dd : Addr) (fs : List (Str × V)) (c : V) (cv : Value) (b : Bool), d = some dd ∧ H dd = some (.xd fs) ∧ xs = [.ref a, c] ∧ (∀ u, RelV c u → u = cv) ∧ PySem.W.kitOne K (.ref D) cv = some b ∧ Q (.bl b) H
theorem call_isD {X : Cx} {a D : Addr} {oe : Obj} {cls : Value} {d : Option Addr} {pn : List (Addr × Obj)} (C : ExcC X.K D) (hz : Zc cls d oe) (hf : ∃ vs, oe.data = .fields vs) : CallR (X.suite a ((a, oe) :: pn)) (.builtin "isinstance") (rIsD X.K D a cls d) := by
  intro pins s σ H xs us Q I r h
  obtain ⟨rfl, dd, fs, c, cv, b, rfl, ea, rfl, hcv, e, q⟩ := h
  obtain ⟨u1, u2, rfl, r1, r2⟩ := vals2 r
  cases r1
  have ec := hcv _ r2
  subst ec
  obtain ⟨hget, _⟩ := I.pin (a, oe) (List.mem_append_left _ List.mem_cons_self)
  obtain ⟨vs, hv⟩ := hf
  have hx : ObjOk X.prog X.w H s.heap dd (.xd fs) := I.hok dd _ ea
  obtain ⟨mA, hns, hr⟩ := hx
  obtain ⟨od, ho, hl⟩ := lookIn_ns hns
  have J : PySem.W.InstAt s.heap a oe D (some od) := ⟨hget, hz.1, by unfold PySem.W.notCls; rw [hv] <;> rfl, by rw [hz.2]; exact ho⟩
  exact PySem.W.kia_one (PySem.W.kitx_excD C.hg C.hk C.hs C.hd C.ha C.hn C.ht C.hm) I.kIn ⟨od, J⟩ e (fun z => nomatch z) fun tk => ⟨.bl b, H, I.kept (t' := tk) fun _ _ z => z, rfl, q⟩
end TkS
set_option Elab.async false
set_option linter.all false
set_option maxRecDepth 100000
set_option maxHeartbeats 4000000
/-! C(..) and o.m(..) where what is raised is wished for at the caller's slots (within a try) -/
namespace TkS
open PySem PySem.Spec PyProof.Rows L2
def tMethSD (C : Addr) (m : Str) (sp : Sp) (dvs : List V) (E : L2.St → XK) (ta : TE) (t : TA) : TE := fun σ H Q => ta σ H fun x H1 => ∃ a dx fs, x = .ref a ∧ H1 a = some (.ins C dx fs) ∧ fs.lookup m = none ∧
  t σ H1 fun vs H2 => sp (x :: (vs ++ dvs)) H2 Q (E σ)
def tMakeSD (C : Addr) (sp : Sp) (dvs : List V) (E : L2.St → XK) (t : TA) : TE := fun σ H Q => t σ H fun vs H1 => ∀ x dx, H1 x = none → H1 dx = none → dx ≠ x →
  sp (.ref x :: (vs ++ dvs)) (upd (upd H1 dx (.own x)) x (.ins C dx [])) (fun v H2 => v = .non ∧ Q (.ref x) H2) (E σ)
section
variable {X : Cx} {CX : CXT} {k : Nat} {f C : Addr} {fd : FuncData} {ps : List Str} {sp : Sp} {dvs : List V} {ds : List Value} {E : L2.St → XK} {x m : Str} {p pos apos : Pos} {e o : Expr} {es : List Expr} {ta : TE} {t : TA}
theorem run_makeSD {pins : List (Addr × Obj)} {σ : L2.St} {H : Hp} {s : Shared} {Q : VK} {us : List Value} {vs : List V} (M : Mk X.K C f) (F : FnOk X.prog X.w X.K X.mg X.base CX k f fd ps sp) (hr : Room (k + 1) X.A) (hb : Binds X.K fd ps ds) (hd : Vals dvs ds)
    (hx : PassesAt CX X σ (E σ)) (I : Inv X pins σ H s) (r : Vals vs us)
    (h : ∀ x dx, H x = none → H dx = none → dx ≠ x → sp (.ref x :: (vs ++ dvs)) (upd (upd H dx (.own x)) x (.ins C dx [])) (fun v H2 => v = .non ∧ Q (.ref x) H2) (E σ)) :
    wpAny (model X.prog X.w) X.A (call (.ref C) us) (EP X pins σ Q) X.xe s := by
  have hq := h (s.heap.objs.size + 1) s.heap.objs.size (I.hok.fresh (Nat.le_succ _)) (I.hok.fresh (Nat.le_refl _)) (Nat.ne_of_lt (Nat.lt_succ_self _))
  have I2 := Inv.made (C := C) I
  have r2 : Vals (V.ref (s.heap.objs.size + 1) :: (vs ++ dvs)) (Value.ref (s.heap.objs.size + 1) :: (us ++ ds)) := .cons rfl (r.append hd)
  have hl : (Value.ref (s.heap.objs.size + 1) :: us ++ ds).length = ps.length := by
    have e := r2.length
    rw [F.len _ _ _ _ hq] at e
    exact e.symm
  refine wpAny_call (make_map (f := f) I.kIn M.makes M.init (beq_iff_eq.mp M.fn) (codeAny_mono (F.run _ X.stack _ _ ⟨Value.ref (s.heap.objs.size + 1) :: us, []⟩ (Value.ref (s.heap.objs.size + 1) :: (us ++ ds)) _ _ (E σ) (hr.make C us [])
    (I2.env0.make C us []) (hb _ (Value.ref (s.heap.objs.size + 1) :: us) I2.kIn hl) r2 hq) fun r s' hq' => ?_))
  cases r with
  | error e => exact hx pins _ _ e s' I2 hq'
  | ok fl =>
    cases fl with
    | ret u =>
      obtain ⟨v, H', I3, rv, ev, q3⟩ := I2.after hq'
      subst ev
      exact ⟨rv, ⟨V.ref (s.heap.objs.size + 1), H', I3, rfl, q3⟩⟩
    | next => exact False.elim hq'
    | brk => exact False.elim hq'
    | cont => exact False.elim hq'
theorem pe_makeSD (M : Mk X.K C f) (F : FnOk X.prog X.w X.K X.mg X.base CX k f fd ps sp) (hr : Room (k + 1) X.A) (hg : Gl X x) (hm : X.mg x = some (.ref C)) (hb : Binds X.K fd ps ds) (hd : Vals dvs ds) (hx : ∀ σ, PassesAt CX X σ (E σ))
    (ha : PA X (e :: es) t) (hdb : (x == ("__debug__" : Str)) = false := by decide) (he : starEach (e :: es) X.env = (false, eval e X.env) :: starEach es X.env := by rfl) (hpl : (backTo pos (starEach es X.env)).any (·.1) = false := by rfl) :
    PE X (.Call (.Name x p) (e :: es) [] pos) (tMakeSD C sp dvs E t) := by
  refine ⟨fun pins s σ H Q I h => ?_⟩
  refine wpAny_Call_Name_kw (ld_glob I hg hm ?_ hdb)
  refine PySem.W.callWith_K (h₀ := X.base) I.ok.mod.kin M.kp (thn (ha.run pos pins s σ H _ I h) fun us s1 ⟨vs, H1, I1, r, q⟩ => ⟨I1.kIn, ?_⟩) he hpl
  exact run_makeSD M F hr hb hd (hx σ) I1 r q
theorem pe_methSD {pl : Sem Bool} (he : PE X o ta) (c : Cls X.K C) (hm : Meth X.K C m f) (F : FnOk X.prog X.w X.K X.mg X.base CX k f fd ps sp) (hr : Room k X.A) (hb : Binds X.K fd ps ds) (hd : Vals dvs ds) (hx : ∀ σ, PassesAt CX X σ (E σ)) (ha : PA X (e :: es) t)
    (hst : starEach (e :: es) X.env = (false, eval e X.env) :: starEach es X.env := by rfl) (hpl : (backTo pos (starEach es X.env)).any (·.1) = false := by rfl)
    (ht : eval (.Call (.Attribute o m apos) (e :: es) [] pos) X.env = (do
      let ov ← eval o X.env
      standAt apos.atName
      let (f, first) ← holding [ov] (getMethod ov m pl)
      callWith pos f first (backTo pos (starEach (e :: es) X.env)) (backToKw pos (keywordEach [] X.env))) := by rfl) :
    PE X (.Call (.Attribute o m apos) (e :: es) [] pos) (tMethSD C m sp dvs E ta t) := by
  refine ⟨fun pins s σ H Q I h => ?_⟩
  refine PySem.W.methodCall_KW (pl := pl) (thn (he.run pins s σ H _ I h) fun u s1 ⟨x, H1, I1, rx, a, dx, fs, ex, ea, l, q⟩ => ?_) ht
  subst ex
  obtain rfl : u = Value.ref a := rx
  refine getmeth_ok I1 ea c hm l ?_
  refine PySem.W.callWith_K (first := [.ref a]) (h₀ := X.base) I.ok.mod.kin hm.kp (thn (ha.run pos pins s1 σ H1 _ I1 q) fun us s2 ⟨vs, H2, I2, r, q2⟩ => ⟨I2.kIn, ?_⟩) hst hpl
  exact run_fnSD (us := .ref a :: us) (vs := .ref a :: vs) F hr hb hd (hx σ) I2 (.cons rfl r) q2
end
end TkS
set_option Elab.async false
set_option linter.all false
set_option maxRecDepth 100000
set_option maxHeartbeats 4000000
/-! == of two instances by an own __eq__ with any answer; len of an instance by an own __len__ -/
namespace TkS
open PySem PySem.Spec PyProof.Rows L2
section
variable {X : Cx} {CX : CXT} {n : Nat} {f C : Addr} {fd : FuncData} {ps : List Str} {sp : Sp} {E : XK}
def rEqOwn (C : Addr) (sp : Sp) (E : XK) : R2 := fun x y H Q => ∃ a b dx dy fs gs, x = .ref a ∧ y = .ref b ∧ H a = some (.ins C dx fs) ∧ H b = some (.ins C dy gs) ∧ sp [.ref a, .ref b] H (fun v H' => (∃ r, v = .bl r) ∧ Q v H') E
theorem op_eqOwn (F : FnOk X.prog X.w X.K X.mg X.base CX n f fd ps sp) (hr : Room n X.A) (hs : PySem.W.findIn X.K (.ref C) "__eq__" = some (some (.ref f))) (hf : PySem.W.isFn X.K (.ref f) = true) (hb : Binds X.K fd ps []) (hx : Passes CX X E) :
    OpR X (compareOp .Eq) (rEqOwn C sp E) := by
  intro pins s σ H x y v u Q I rx ry h
  obtain ⟨a, b, dx, dy, fs, gs, rfl, rfl, ha, hb', hq⟩ := h
  cases rx
  cases ry
  obtain ⟨mA, J, _⟩ := ins_get I.hok ha
  obtain ⟨mB, J', _⟩ := ins_get I.hok hb'
  obtain ⟨od, J, _⟩ := J.look
  obtain ⟨od', J', _⟩ := J'.look
  obtain ⟨m, hF⟩ := I.fr
  show wpAny (model X.prog X.w) X.A (richCompare .Eq (.ref a) (.ref b)) (EP X pins σ Q) X.xe s
  refine PySem.W.cmp_K (op := .Eq) (tb := .ref C) hr.units0 hF I.ok.mod.kin J J'.type (by simp [PySem.W.notFirst]) hs hf ?_
  have hl := F.len _ _ _ _ hq
  refine wpAny_mono (run_fn (us := [.ref a, .ref b]) (vs := [.ref a, .ref b]) (dvs := []) (Q := fun v H' => (∃ r, v = .bl r) ∧ Q v H') F hr hb .nil hx I (.cons rfl (.cons rfl .nil)) hq) (fun u s' z => ?_) fun _ _ z => z
  obtain ⟨v, H', I', rv, ⟨r, ev⟩, q⟩ := z
  subst ev
  cases (show u = Value.bool r from rv)
  exact ⟨.bl r, H', I', rfl, q⟩
def rLenOwn (C : Addr) (sp : Sp) (E : XK) : List V → Hp → VK → Prop := fun xs H Q => ∃ (a dx : Addr) (fs : List (Str × V)) (k : Nat), xs = [.ref a] ∧ H a = some (.ins C dx fs) ∧ k < 2 ^ 62 ∧ sp [.ref a] H (fun v H' => v = .int (k : Int) ∧ Q v H') E
theorem call_lenOwn (F : FnOk X.prog X.w X.K X.mg X.base CX n f fd ps sp) (hr : Room (n + 1) X.A) (hs : PySem.W.findIn X.K (.ref C) "__len__" = some (some (.ref f))) (hf : PySem.W.isFn X.K (.ref f) = true) (hb : Binds X.K fd ps []) (hx : Passes CX X E) : CallR X (.builtin "len") (rLenOwn C sp E) := by
  intro pins s σ H xs us Q I r h
  obtain ⟨a, dx, fs, k, rfl, ha, hk, hq⟩ := h
  obtain ⟨u, rfl, ru⟩ := vals1 r
  cases ru
  obtain ⟨mA, J, _⟩ := ins_get I.hok ha
  obtain ⟨od, J, _⟩ := J.look
  obtain ⟨m, hF⟩ := I.fr
  have hl : ([Value.ref a] ++ ([] : List Value)).length = ps.length := by
    rw [← F.len _ _ _ _ hq]
    rfl
  refine PySem.W.len_K hF I.ok.mod.kin J hs hf (wpAny_call ?_)
  refine codeAny_mono (F.run X.A.in1 X.stack s H ⟨[.ref a], []⟩ [.ref a] [.ref a] _ E hr.in1 I.env0.in1 (hb s [.ref a] I.kIn hl) (.cons rfl .nil) hq) fun r s' hq => ?_
  cases r with
  | error e => exact hx pins σ H s e s' I hq
  | ok fl =>
    cases fl with
    | ret u =>
      obtain ⟨v, H', I', rv, ev, q⟩ := I.after hq
      subst ev
      obtain ⟨t, eu⟩ := (show ∃ t, u = Value.int (k : Int) t from rv)
      subst eu
      refine ⟨⟨by omega, by omega⟩, .int (k : Int), H', I'.tok _, ⟨_, rfl⟩, q⟩
    | next => exact False.elim hq
    | brk => exact False.elim hq
    | cont => exact False.elim hq
end
end TkS
set_option Elab.async false
set_option linter.all false
set_option maxRecDepth 100000
set_option maxHeartbeats 4000000
/-! data whose objects are all tracked -/
namespace TkS
open PySem PySem.Spec PyProof.Rows L2
mutual
inductive Dq (H : Hp) : V → PyData → Prop
  | non : Dq H .non .none
  | bl (b : Bool) : Dq H (.bl b) (.bool b)
  | int (i : Int) : Dq H (.int i) (.int i)
  | str (x : Str) : Dq H (.str x) (.str x)
  | lst {a : Addr} {xs : List V} {ds : List PyData} : H a = some (.lst xs) → DqAll H xs ds → Dq H (.ref a) (.list ds)
  | tup {a : Addr} {xs : List V} {ds : List PyData} : H a = some (.tup xs) → DqAll H xs ds → Dq H (.ref a) (.tuple ds)
inductive DqAll (H : Hp) : List V → List PyData → Prop
  | nil : DqAll H [] []
  | cons {v : V} {vs : List V} {d : PyData} {ds : List PyData} : Dq H v d → DqAll H vs ds → DqAll H (v :: vs) (d :: ds)
end
theorem DqAll.len {H : Hp} : ∀ {xs : List V} {ds : List PyData}, DqAll H xs ds → xs.length = ds.length
  | _, _, .nil => rfl
  | _, _, .cons _ t => congrArg Nat.succ t.len
theorem DqAll.get {H : Hp} : ∀ {xs : List V} {ds : List PyData} {i : Nat} {x : V}, DqAll H xs ds → xs[i]? = some x → ∃ d, ds[i]? = some d ∧ Dq H x d
  | _, _, _, _, .nil, e => by simp at e
  | _, _, 0, _, .cons h _, e => by
    simp at e
    subst e
    exact ⟨_, rfl, h⟩
  | _, _, i + 1, _, .cons _ t, e => by
    obtain ⟨d, h1, h2⟩ := t.get (i := i) (by simpa using e)
    exact ⟨d, by simpa using h1, h2⟩
theorem DqAll.append {H : Hp} : ∀ {xs ys : List V} {ds es : List PyData}, DqAll H xs ds → DqAll H ys es → DqAll H (xs ++ ys) (ds ++ es)
  | _, _, _, _, .nil, s => s
  | _, _, _, _, .cons r t, s => .cons r (t.append s)
theorem DqAll.snoc {H : Hp} {xs : List V} {ds : List PyData} {x : V} {d : PyData} (h : DqAll H xs ds) (h1 : Dq H x d) : DqAll H (xs ++ [x]) (ds ++ [d]) := h.append (.cons h1 .nil)
mutual
theorem Dq.same {H H' : Hp} (s : Same H H') : ∀ {v : V} (d : PyData), Dq H v d → Dq H' v d
  | _, .none, .non => .non
  | _, .bool _, .bl b => .bl b
  | _, .int _, .int i => .int i
  | _, .str _, .str x => .str x
  | _, .list _, .lst h t => .lst (s _ _ h) (DqAll.same s _ t)
  | _, .tuple _, .tup h t => .tup (s _ _ h) (DqAll.same s _ t)
theorem DqAll.same {H H' : Hp} (s : Same H H') : ∀ {vs : List V} (ds : List PyData), DqAll H vs ds → DqAll H' vs ds
  | _, [], .nil => .nil
  | _, _ :: _, .cons h t => .cons (Dq.same s _ h) (DqAll.same s _ t)
end
mutual
theorem Dq.dp {K : PySem.W.Frag} {H : Hp} : ∀ {v : V} (d : PyData), Dq H v d → Dp K H v d
  | _, .none, .non => .non
  | _, .bool _, .bl b => .bl b
  | _, .int _, .int i => .int i
  | _, .str _, .str x => .str x
  | _, .list _, .lst h t => .lst (SqL.of h) (DqAll.dp _ t)
  | _, .tuple _, .tup h t => .tup (SqT.of h) (DqAll.dp _ t)
theorem DqAll.dp {K : PySem.W.Frag} {H : Hp} : ∀ {vs : List V} (ds : List PyData), DqAll H vs ds → DpAll K H vs ds
  | _, [], .nil => .nil
  | _, _ :: _, .cons h t => .cons (Dq.dp _ h) (DqAll.dp _ t)
end
mutual
theorem Dq.fn {H : Hp} : ∀ {v : V} (d e : PyData), Dq H v d → Dq H v e → d = e
  | _, .none, _, .non, .non => rfl
  | _, .bool _, _, .bl _, .bl _ => rfl
  | _, .int _, _, .int _, .int _ => rfl
  | _, .str _, _, .str _, .str _ => rfl
  | _, .list ds, _, .lst h t, .lst h' t' => by
    rw [h] at h'
    cases h'
    rw [DqAll.fn _ _ t t']
  | _, .list _, _, .lst h _, .tup h' _ => by
    rw [h] at h'
    cases h'
  | _, .tuple ds, _, .tup h t, .tup h' t' => by
    rw [h] at h'
    cases h'
    rw [DqAll.fn _ _ t t']
  | _, .tuple _, _, .tup h _, .lst h' _ => by
    rw [h] at h'
    cases h'
theorem DqAll.fn {H : Hp} : ∀ {vs : List V} (ds es : List PyData), DqAll H vs ds → DqAll H vs es → ds = es
  | _, [], _, .nil, .nil => rfl
  | _, _ :: _, _, .cons h t, .cons h' t' => by rw [Dq.fn _ _ h h', DqAll.fn _ _ t t']
end
/-- the heap without one address -/
def Off (h : Addr) (H : Hp) : Hp := fun b => if b = h then none else H b
theorem off_same {h : Addr} {H : Hp} : Same (Off h H) H := fun b o e => by
  unfold Off at e
  by_cases z : b = h
  · rw [if_pos z] at e
    cases e
  · rw [if_neg z] at e
    exact e
theorem off_keep {h : Addr} {H H' : Hp} (k : ∀ b o, b ≠ h → H b = some o → H' b = some o) : Same (Off h H) (Off h H') := fun b o e => by
  unfold Off at e ⊢
  by_cases z : b = h
  · rw [if_pos z] at e
    cases e
  · rw [if_neg z] at e ⊢
    exact k b o z e
theorem off_of {h : Addr} {H H' : Hp} (s : Same H H') : Same (Off h H) (Off h H') := off_keep fun b o _ e => s b o e
theorem off_at {h a : Addr} {H : Hp} {o : HO} (n : a ≠ h) (e : H a = some o) : Off h H a = some o := by
  unfold Off
  rw [if_neg n]
  exact e
theorem same_new {H : Hp} {p : Addr} {o : HO} (h : H p = none) : Same H (upd H p o) := fun b x e => by
  rw [upd_ne (ne_of_none e h)]
  exact e
/-- a thing's kind as isinstance sees it -/
def isBlV : V → Bool
  | .bl _ => true
  | _ => false
def isNumV : V → Bool
  | .bl _ => true
  | .int _ => true
  | _ => false
def isIntV : V → Bool
  | .int _ => true
  | _ => false
def itemsD : PyData → Option (List PyData)
  | .list xs => some xs
  | .tuple xs => some xs
  | _ => none
theorem dq_ty {K : PySem.W.Frag} {H : Hp} {x : V} {d : PyData} (k : Dq H x d) : ∃ t, TyX K H x t ∧ PySem.W.kitOne K t (.type "bool") = some (isBlV x) ∧ PySem.W.kitOne K t (.type "int") = some (isNumV x) ∧
    PySem.W.kitAny K t [.type "list", .type "tuple"] = some (itemsD d).isSome ∧ PySem.W.kitOne K t (.type "tuple") = some (match d with | .tuple _ => true | _ => false) := by
  cases k with
  | non => exact ⟨_, .base .non, kit_ty (show kitB "NoneType" "bool" = some false by decide +kernel), kit_ty (show kitB "NoneType" "int" = some false by decide +kernel),
      kitAny_cons (b := false) (kit_ty (show kitB "NoneType" "list" = some false by decide +kernel)) (fun _ => kitAny_cons (b := false) (kit_ty (show kitB "NoneType" "tuple" = some false by decide +kernel)) (fun _ => kitAny_nil) (fun z => nomatch z)) (fun z => nomatch z), kit_ty (show kitB "NoneType" "tuple" = some false by decide +kernel)⟩
  | bl b => exact ⟨_, .base (.bl b), kit_ty (show kitB "bool" "bool" = some true by decide +kernel), kit_ty (show kitB "bool" "int" = some true by decide +kernel),
      kitAny_cons (b := false) (kit_ty (show kitB "bool" "list" = some false by decide +kernel)) (fun _ => kitAny_cons (b := false) (kit_ty (show kitB "bool" "tuple" = some false by decide +kernel)) (fun _ => kitAny_nil) (fun z => nomatch z)) (fun z => nomatch z), kit_ty (show kitB "bool" "tuple" = some false by decide +kernel)⟩
  | int i => exact ⟨_, .base (.int i), kit_ty (show kitB "int" "bool" = some false by decide +kernel), kit_ty (show kitB "int" "int" = some true by decide +kernel),
      kitAny_cons (b := false) (kit_ty (show kitB "int" "list" = some false by decide +kernel)) (fun _ => kitAny_cons (b := false) (kit_ty (show kitB "int" "tuple" = some false by decide +kernel)) (fun _ => kitAny_nil) (fun z => nomatch z)) (fun z => nomatch z), kit_ty (show kitB "int" "tuple" = some false by decide +kernel)⟩
  | str x => exact ⟨_, .base (.str x), kit_ty (show kitB "str" "bool" = some false by decide +kernel), kit_ty (show kitB "str" "int" = some false by decide +kernel),
      kitAny_cons (b := false) (kit_ty (show kitB "str" "list" = some false by decide +kernel)) (fun _ => kitAny_cons (b := false) (kit_ty (show kitB "str" "tuple" = some false by decide +kernel)) (fun _ => kitAny_nil) (fun z => nomatch z)) (fun z => nomatch z), kit_ty (show kitB "str" "tuple" = some false by decide +kernel)⟩
  | lst h _ => exact ⟨_, .base (.lst h), kit_ty (show kitB "list" "bool" = some false by decide +kernel), kit_ty (show kitB "list" "int" = some false by decide +kernel),
      kitAny_cons (b := true) (kit_ty (show kitB "list" "list" = some true by decide +kernel)) (fun z => nomatch z) (fun _ => rfl), kit_ty (show kitB "list" "tuple" = some false by decide +kernel)⟩
  | tup h _ => exact ⟨_, .base (.tup h), kit_ty (show kitB "tuple" "bool" = some false by decide +kernel), kit_ty (show kitB "tuple" "int" = some false by decide +kernel),
      kitAny_cons (b := false) (kit_ty (show kitB "tuple" "list" = some false by decide +kernel)) (fun _ => kitAny_cons (b := true) (kit_ty (show kitB "tuple" "tuple" = some true by decide +kernel)) (fun z => nomatch z) (fun _ => rfl)) (fun z => nomatch z), kit_ty (show kitB "tuple" "tuple" = some true by decide +kernel)⟩
end TkS
set_option Elab.async false
set_option linter.all false
set_option maxRecDepth 100000
set_option maxHeartbeats 4000000
/-! for and comprehensions over a list or a tuple -/
namespace TkS
open PySem PySem.Spec PyProof.Rows L2
def iSeq (K : PySem.W.Frag) (tl : TE) : TI := fun σ H R => iList K tl σ H R ∨ iTup K tl σ H R
theorem pi_seq {X : Cx} {tg l : Expr} {tl : TE} (hl : PE X l tl) : PI X tg l (iSeq X.K tl) :=
  ⟨fun pins s σ H R I h => h.elim (fun h => (pi_list hl).run pins s σ H R I h) (fun h => (pi_tup hl).run pins s σ H R I h)⟩
theorem seqT_same {K : PySem.W.Frag} {H H' : Hp} {a : Addr} {xs : List V} (s : Same H H') (h : SqT K H a xs) : SqT K H' a xs :=
  h.elim (fun h => .inl (h.elim (fun h => .inl (s _ _ h)) fun ⟨o, h⟩ => .inr ⟨o, s _ _ h⟩)) fun h => .inr h
def Sq (K : PySem.W.Frag) (H : Hp) (a : Addr) (xs : List V) : Prop := SqL K H a xs ∨ SqT K H a xs
theorem Sq.same {K : PySem.W.Frag} {H H' : Hp} {a : Addr} {xs : List V} (h : Sq K H a xs) (s : Same H H') : Sq K H' a xs :=
  h.elim (fun h => .inl (s.seq h)) (fun h => .inr (seqT_same s h))
theorem for_seq {K : PySem.W.Frag} {a : Addr} {xs : List V} {tl : TE} {g : TG} {tb : TS} {D : Ends} {σ : L2.St} {H : Hp} (Pv : Nat → L2.St → Hp → Prop) (ht : ∀ Q : VK, Q (.ref a) H → tl σ H Q) (hq : Sq K H a xs) (h0 : Pv 0 σ H)
    (hl : ∀ i σ H', i ≤ xs.length → Pv i σ H' → Same H H')
    (hs : ∀ i x σ H, xs[i]? = some x → Pv i σ H → g x σ H fun σ2 H2 => tb { D with nx := Pv (i + 1), ct := Pv (i + 1), bk := D.nx } σ2 H2) (hd : ∀ σ H, Pv xs.length σ H → D.nx σ H) :
    tFor (iSeq K tl) g tb D σ H :=
  hq.elim (fun h => .inl (ht _ ⟨a, rfl, ⟨xs, h⟩, for_list Pv h0 (fun i σ H' hi hP => (hl i σ H' hi hP).seq h) hs hd⟩))
    (fun h => .inr (ht _ ⟨a, rfl, ⟨xs, h⟩, for_tup Pv h0 (fun i σ H' hi hP => seqT_same (hl i σ H' hi hP) h) hs hd⟩))
theorem lc_seq {K : PySem.W.Frag} {a : Addr} {xs : List V} {tl : TE} {g : TG} {tt : TT} {te : TE} {vs : List Nat} {σ : L2.St} {H : Hp} {Q : VK} (Pv : Addr → Nat → Hp → Prop) (ht : ∀ Q : VK, Q (.ref a) H → tl σ H Q) (hq : Sq K H a xs)
    (h0 : ∀ D, H D = none → Pv D 0 (upd H D (.lst []))) (hl : ∀ D i H', H D = none → i ≤ xs.length → Pv D i H' → Same H H')
    (hs : ∀ D i x H', H D = none → xs[i]? = some x → Pv D i H' → g x (wipe σ vs) H' fun σ2 H2 => wipe σ2 vs = wipe σ vs ∧ tt σ2 H2 fun b H3 =>
      if b = true then te σ2 H3 fun y H4 => ∃ acc, H4 D = some (.lst acc) ∧ acc.length < sizeLine ∧ Pv D (i + 1) (upd H4 D (.lst (acc ++ [y]))) else Pv D (i + 1) H3) (hd : ∀ D H', H D = none → Pv D xs.length H' → Q (.ref D) H') :
    tLc (iSeq K tl) g tt te vs σ H Q :=
  hq.elim (fun h => .inl (ht _ ⟨a, rfl, ⟨xs, h⟩, fun D nD => lc_list (Pv D) (h0 D nD) (fun i H' hi hP => (hl D i H' nD hi hP).seq h) (fun i x H' => hs D i x H' nD) (fun H' => hd D H' nD)⟩))
    (fun h => .inr (ht _ ⟨a, rfl, ⟨xs, h⟩, fun D nD => lc_tup (Pv D) (h0 D nD) (fun i H' hi hP => seqT_same (hl D i H' nD hi hP) h) (fun i x H' => hs D i x H' nD) (fun H' => hd D H' nD)⟩))
/-- the items of a list or a tuple -/
theorem sq_of {K : PySem.W.Frag} {H : Hp} {x : V} {d : PyData} {ds : List PyData} (k : Dq H x d) (e : itemsD d = some ds) : ∃ (p : Addr) (xs : List V), x = .ref p ∧ DqAll H xs ds ∧ Sq K H p xs := by
  cases k with
  | lst h1 h2 =>
    cases e
    exact ⟨_, _, rfl, h2, .inl (SqL.of h1)⟩
  | tup h1 h2 =>
    cases e
    exact ⟨_, _, rfl, h2, .inr (SqT.of h1)⟩
  | _ => cases e
/-- tuple(x), x a list or a tuple of data -/
def rTupD : List V → Hp → VK → Prop := fun xs H Q => ∃ x d ds, xs = [x] ∧ Dq H x d ∧ itemsD d = some ds ∧ ∀ l H', Same H H' → Dq H' (.ref l) (.tuple ds) → Q (.ref l) H'
theorem call_tupD {X : Cx} : CallR X (.type "tuple") rTupD := by
  intro pins s σ H vs us Q I r h
  refine call_tuple_of pins s σ H vs us Q I r ?_
  obtain ⟨x, d, ds, rfl, k, e, q⟩ := h
  cases k with
  | lst h1 h2 =>
    cases e
    exact ⟨_, _, rfl, .inl ⟨SqL.of h1, fun l nl => q l _ (same_new nl) (.tup upd_same (DqAll.same (same_new nl) _ h2))⟩⟩
  | tup h1 h2 =>
    cases e
    exact ⟨_, _, rfl, .inr ⟨SqT.of h1, q _ _ (fun _ _ z => z) (.tup h1 h2)⟩⟩
  | _ => cases e
end TkS
set_option Elab.async false
set_option linter.all false
set_option maxRecDepth 100000
set_option maxHeartbeats 4000000
/-! sums and parts of tuples and lists of data -/
namespace TkS
open PySem PySem.Spec PyProof.Rows L2
theorem DqAll.take {H : Hp} : ∀ {xs : List V} {ds : List PyData}, DqAll H xs ds → ∀ n, DqAll H (xs.take n) (ds.take n)
  | _, _, _, 0 => .nil
  | _, _, .nil, _ + 1 => .nil
  | _, _, .cons h t, n + 1 => .cons h (t.take n)
theorem DqAll.drop {H : Hp} : ∀ {xs : List V} {ds : List PyData}, DqAll H xs ds → ∀ n, DqAll H (xs.drop n) (ds.drop n)
  | _, _, h, 0 => h
  | _, _, .nil, _ + 1 => .nil
  | _, _, .cons h t, n + 1 => t.drop n
theorem DqAll.of_get {H : Hp} : ∀ {xs : List V} {ds : List PyData}, xs.length = ds.length → (∀ (i : Nat) (x : V) (d : PyData), xs[i]? = some x → ds[i]? = some d → Dq H x d) → DqAll H xs ds
  | [], [], _, _ => .nil
  | x :: xs, d :: ds, e, h => .cons (h 0 x d rfl rfl) (DqAll.of_get (by simpa using e) fun i y f h1 h2 => h (i + 1) y f (by simpa using h1) (by simpa using h2))
theorem DqAll.rev {H : Hp} : ∀ {xs : List V} {ds : List PyData}, DqAll H xs ds → DqAll H xs.reverse ds.reverse
  | _, _, .nil => .nil
  | _, _, .cons h t => by
    rw [List.reverse_cons, List.reverse_cons]
    exact t.rev.snoc h
def cutD {α : Type} (xs : List α) (lo hi : Option Int) : List α := (xs.drop (HT.sIx xs.length 0 lo)).take (HT.sIx xs.length xs.length hi - HT.sIx xs.length 0 lo)
theorem cutD_lo {α : Type} (xs : List α) (n : Nat) : cutD xs (some (n : Int)) none = xs.drop n := by
  unfold cutD
  rw [HT.sIx_none, HT.sIx_nat]
  rcases Nat.le_total n xs.length with h | h
  · rw [Nat.min_eq_left h]
    exact List.take_of_length_le (by rw [List.length_drop]; omega)
  · rw [Nat.min_eq_right h, List.drop_of_length_le h, List.drop_of_length_le (Nat.le_refl _), List.take_nil]
theorem cutD_hi {α : Type} (xs : List α) (n : Nat) : cutD xs none (some (n : Int)) = xs.take n := by
  unfold cutD
  rw [HT.sIx_none, HT.sIx_nat]
  rcases Nat.le_total n xs.length with h | h
  · rw [Nat.min_eq_left h]
    rfl
  · rw [Nat.min_eq_right h, List.take_of_length_le h]
    exact List.take_of_length_le (by simp)
theorem DqAll.cut {H : Hp} {xs : List V} {ds : List PyData} (h : DqAll H xs ds) (lo hi : Option Int) : DqAll H (cutV xs lo hi) (cutD ds lo hi) := by
  unfold cutV cutD
  rw [h.len]
  exact (h.drop _).take _
theorem cutV_whole {α : Type} {xs : List α} {lo hi : Option Int} (h : HT.sIx xs.length 0 lo = 0 ∧ HT.sIx xs.length xs.length hi = xs.length) : cutD xs lo hi = xs := by
  unfold cutD
  rw [h.1, h.2]
  exact List.take_of_length_le (by simp)
def rCatD : R2 := fun x y H Q => ∃ ds es, Dq H x (.tuple ds) ∧ Dq H y (.tuple es) ∧ ds.length + es.length ≤ 1000 ∧ ∀ l H', Same H H' → Dq H' (.ref l) (.tuple (ds ++ es)) → Q (.ref l) H'
theorem thousand : 1000 ≤ sizeLine := by decide
theorem op_catD {X : Cx} : OpR X (binaryOp .Add) rCatD := by
  intro pins s σ H x y v u Q I rx ry h
  obtain ⟨ds, es, k1, k2, hl, q⟩ := h
  cases k1 with
  | tup h1 t1 =>
    cases k2 with
    | tup h2 t2 =>
      rename_i a xs b ys
      refine op_catA pins s σ H _ _ v u Q I rx ry ⟨a, b, xs, ys, rfl, rfl, SqT.of h1, SqT.of h2, ?_, fun e => ?_, fun _ e => ?_, fun _ _ p np => ?_⟩
      · rw [t1.len, t2.len]
        exact Nat.le_trans hl thousand
      · subst e
        cases t1
        exact q b H (fun _ _ z => z) (.tup h2 t2)
      · subst e
        cases t2
        exact q a H (fun _ _ z => z) (by rw [List.append_nil]; exact .tup h1 t1)
      · exact q p _ (same_new np) (.tup upd_same ((DqAll.same (same_new np) _ t1).append (DqAll.same (same_new np) _ t2)))
def rSlD : V → Option Int → Option Int → Hp → VK → Prop := fun x lo hi H Q => ∃ ds, Dq H x (.tuple ds) ∧ ∀ l H', Same H H' → Dq H' (.ref l) (.tuple (cutD ds lo hi)) → Q (.ref l) H'
theorem sl_tupD {X : Cx} : SlR X rSlD := by
  intro pins s σ H x v vl vu lo hi sl Q I rx hs pl pu h
  obtain ⟨ds, k, q⟩ := h
  cases k with
  | tup h1 t1 =>
    rename_i a xs
    refine sl_tupA pins s σ H _ v vl vu lo hi sl Q I rx hs pl pu ⟨a, xs, rfl, SqT.of h1, fun e => ?_, fun _ p np => ?_⟩
    · refine q a H (fun _ _ z => z) ?_
      rw [cutV_whole (by rw [← t1.len]; exact e)]
      exact .tup h1 t1
    · exact q p _ (same_new np) (.tup upd_same (DqAll.same (same_new np) _ (t1.cut lo hi)))
def rSlDL : V → Option Int → Option Int → Hp → VK → Prop := fun x lo hi H Q => ∃ ds, Dq H x (.list ds) ∧ ∀ l H', Same H H' → H l = none → Dq H' (.ref l) (.list (cutD ds lo hi)) → Q (.ref l) H'
theorem sl_listD {X : Cx} : SlR X rSlDL := by
  intro pins s σ H x v vl vu lo hi sl Q I rx hs pl pu h
  obtain ⟨ds, k, q⟩ := h
  cases k with
  | lst h1 t1 =>
    rename_i a xs
    exact sl_list pins s σ H _ v vl vu lo hi sl Q I rx hs pl pu ⟨a, xs, rfl, SqL.of h1, fun p np => q p _ (same_new np) np (.lst upd_same (DqAll.same (same_new np) _ (t1.cut lo hi)))⟩
/-- the sum of two lists -/
def rCatDL : R2 := fun x y H Q => ∃ ds es, Dq H x (.list ds) ∧ Dq H y (.list es) ∧ ds.length + es.length ≤ 1000 ∧ ∀ l H', Same H H' → H l = none → Dq H' (.ref l) (.list (ds ++ es)) → Q (.ref l) H'
theorem op_catDL {X : Cx} : OpR X (binaryOp .Add) rCatDL := by
  intro pins s σ H x y v u Q I rx ry h
  obtain ⟨ds, es, k1, k2, hl, q⟩ := h
  cases k1 with
  | lst h1 t1 =>
    cases k2 with
    | lst h2 t2 =>
      rename_i a xs b ys
      exact op_cat pins s σ H _ _ v u Q I rx ry ⟨a, b, xs, ys, rfl, rfl, h1, h2, by
        rw [t1.len, t2.len]
        exact Nat.le_trans hl thousand, fun p np => q p _ (same_new np) np (.lst upd_same ((DqAll.same (same_new np) _ t1).append (DqAll.same (same_new np) _ t2)))⟩
end TkS
set_option Elab.async false
set_option linter.all false
set_option maxRecDepth 100000
set_option maxHeartbeats 4000000
/-! a tuple whose object is known (its methods may be called) -/
namespace TkS
open PySem PySem.Spec PyProof.Rows L2
def Frz (H : Hp) (a : Addr) (xs : List V) : Prop := ∃ o : Obj, H a = some (.frz o (.tup xs)) ∧ o.cls = .type "tuple" ∧ o.dict = none
theorem Frz.same {H H' : Hp} {a : Addr} {xs : List V} (h : Frz H a xs) (s : Same H H') : Frz H' a xs := by
  obtain ⟨o, h1, h2⟩ := h
  exact ⟨o, s _ _ h1, h2⟩
theorem Frz.seq {K : PySem.W.Frag} {H : Hp} {a : Addr} {xs : List V} (h : Frz H a xs) : SqT K H a xs := by
  obtain ⟨o, h1, _⟩ := h
  exact .inl (.inr ⟨o, h1⟩)
theorem Frz.ty {K : PySem.W.Frag} {H : Hp} {a : Addr} {xs : List V} (h : Frz H a xs) : TyX K H (.ref a) (.type "tuple") := by
  obtain ⟨o, h1, _⟩ := h
  exact .fTuple h1
theorem Frz.fn {H : Hp} {a : Addr} {xs ys : List V} (h : Frz H a xs) (h' : Frz H a ys) : xs = ys := by
  obtain ⟨o, h1, _⟩ := h
  obtain ⟨o', h1', _⟩ := h'
  rw [h1] at h1'
  cases h1'
  rfl
def rTupF (K : PySem.W.Frag) : List V → Hp → VK → Prop := fun xs H Q => ∃ p ys, xs = [.ref p] ∧ SqL K H p ys ∧ ∀ l H', Same H H' → H l = none → Frz H' l ys → Q (.ref l) H'
theorem call_tupF {X : Cx} : CallR X (.type "tuple") (rTupF X.K) := by
  intro pins s σ H xs us Q I r h
  obtain ⟨p, ys, rfl, hq, q⟩ := h
  obtain ⟨u, rfl, rx⟩ := vals1 r
  cases rx
  obtain ⟨its, r', pl, hz⟩ := I.list hq
  have hlen := r'.length
  refine call_tuple_list pl.isList (fun h' kp => ?_) (by simp only [List.size_toArray] <;> omega)
  have I1 : Inv X pins σ H { s with heap := h' } := I.kept (t' := s.toks) kp
  have I2 : Inv X pins σ (upd H h'.objs.size (.frz { cls := .type "tuple", data := .seq its.toArray } (.tup ys))) { s with heap := h'.push { cls := .type "tuple", data := .seq its.toArray } } :=
    I1.laid (t' := s.toks) (fun b o e => Heap.get?_push_of_some _ e) (Nat.le_refl _) (show ObjOk X.prog X.w _ _ _ (.frz _ (.tup ys)) from ⟨Heap.get?_push_size _ rfl, hz, its, r', IsTup.new _ _⟩)
  have nf := I1.hok.fresh (Nat.le_refl _)
  exact ⟨.ref h'.objs.size, _, I2, rfl, q _ _ (same_new nf) nf ⟨_, upd_same, rfl, rfl⟩⟩
def tBMF (r : V → List V → Hp → VK → Prop) (to : TE) (t : TA) : TE := fun σ H Q => to σ H fun x H1 => (∃ a xs, x = .ref a ∧ Frz H1 a xs) ∧ t σ H1 fun xs H2 => r x xs H2 Q
theorem pe_bmF {X : Cx} {o e : Expr} {es : List Expr} {to : TE} {t : TA} {name : Str} {apos cpos : Pos} {id : String} {r : V → List V → Hp → VK → Prop} (pa : PlainAttrs "tuple") (slot : Slot "tuple" name id) (hty : typeOf (.builtin id) = pure (.type "method_descriptor")) (hm : MtR X id r) (ho : PE X o to) (ha : PA X (e :: es) t)
    (hbase : attributeBase o name X.env (eval o X.env) = eval o X.env := by rfl)
    (hfew : ((backTo cpos (starEach (e :: es) X.env)).all (fun x => !x.1) && (backToKw cpos (keywordEach [] X.env)).all (fun x => x.1.isSome)
      && decide ((e :: es).length + ([] : List Keyword).length + (if ([] : List Keyword).isEmpty then 0 else 1) < 30)) = true := by rfl)
    (hline : (apos.endLine == cpos.line) = true := by rfl) (hs : starEach (e :: es) X.env = (false, eval e X.env) :: starEach es X.env := by rfl) (hplain : (backTo cpos (starEach es X.env)).any (·.1) = false := by rfl) :
    PE X (.Call (.Attribute o name apos) (e :: es) [] cpos) (tBMF r to t) := by
  refine ⟨fun pins s σ H Q I h => ?_⟩
  refine wpAny_Call_method_late hbase hfew hline rfl (thn (ho.run pins s σ H _ I h) fun v s1 ⟨x, H1, I1, r1, ⟨a, xs, ex, o, h1, h2, h3⟩, q1⟩ => ?_)
  subst ex
  cases r1
  have hk := (I1.hok a _ h1).1
  refine ⟨"tuple", id, pa, slot, hty, ⟨o, hk, h2⟩, fun b e => by cases e; exact ⟨o, hk, h3⟩, ?_⟩
  have hA := ha.run cpos pins s1 σ H1 _ I1 q1
  rw [hs] at hA ⊢
  refine Calls.callWith_builtin (by show (false || (backTo cpos (starEach es X.env)).any (·.1)) = false; rw [hplain] <;> rfl) (Calls.evalArgs_plain ?_)
  exact thn hA fun us s2 ⟨vs, H2, I2, r2, q2⟩ => hm pins s2 σ H2 (.ref a) vs _ us Q I2 rfl r2 q2
theorem Frz.dp {K : PySem.W.Frag} {H : Hp} {a : Addr} {xs : List V} {ds : List PyData} (h : Frz H a xs) (k : DqAll H xs ds) : Dp K H (.ref a) (.tuple ds) := .tup h.seq (DqAll.dp _ k)
/-- such a tuple and a tuple that is not empty -/
def rCatF : R2 := fun x y H Q => ∃ (a : Addr) (xs : List V) (ds es : List PyData), x = .ref a ∧ Frz H a xs ∧ DqAll H xs ds ∧ Dq H y (.tuple es) ∧ es ≠ [] ∧ ds.length + es.length ≤ 1000 ∧ ∀ l H', Same H H' → Dq H' (.ref l) (.tuple (ds ++ es)) → Q (.ref l) H'
theorem op_catF {X : Cx} : OpR X (binaryOp .Add) rCatF := by
  intro pins s σ H x y v u Q I rx ry h
  obtain ⟨a, xs, ds, es, rfl, f, t1, k2, ne, hl, q⟩ := h
  cases k2 with
  | tup h2 t2 =>
    rename_i b ys
    refine op_catA pins s σ H _ _ v u Q I rx ry ⟨a, b, xs, ys, rfl, rfl, f.seq, SqT.of h2, ?_, fun e => ?_, fun _ e => ?_, fun _ _ p np => ?_⟩
    · rw [t1.len, t2.len]
      exact Nat.le_trans hl thousand
    · subst e
      cases t1
      exact q b H (fun _ _ z => z) (.tup h2 t2)
    · subst e
      cases t2
      exact absurd rfl ne
    · exact q p _ (same_new np) (.tup upd_same ((DqAll.same (same_new np) _ t1).append (DqAll.same (same_new np) _ t2)))
/-- a part of such a tuple that is not the whole -/
def rSlF : V → Option Int → Option Int → Hp → VK → Prop := fun x lo hi H Q => ∃ (a : Addr) (xs : List V) (ds : List PyData), x = .ref a ∧ Frz H a xs ∧ DqAll H xs ds ∧ ¬ (HT.sIx ds.length 0 lo = 0 ∧ HT.sIx ds.length ds.length hi = ds.length) ∧
  ∀ l H', Same H H' → Dq H' (.ref l) (.tuple (cutD ds lo hi)) → Q (.ref l) H'
theorem sl_tupF {X : Cx} : SlR X rSlF := by
  intro pins s σ H x v vl vu lo hi sl Q I rx hs pl pu h
  obtain ⟨a, xs, ds, rfl, f, t1, nw, q⟩ := h
  refine sl_tupA pins s σ H _ v vl vu lo hi sl Q I rx hs pl pu ⟨a, xs, rfl, f.seq, fun e => ?_, fun _ p np => ?_⟩
  · rw [t1.len] at e
    exact absurd e nw
  · exact q p _ (same_new np) (.tup upd_same (DqAll.same (same_new np) _ (t1.cut lo hi)))
end TkS
set_option Elab.async false
set_option linter.all false
set_option maxRecDepth 100000
set_option maxHeartbeats 4000000
/-! comprehensions whose items are data -/
namespace TkS
open PySem PySem.Spec PyProof.Rows L2
theorem off_put {h : Addr} {H : Hp} {o : HO} : TkS.Off h (upd H h o) = TkS.Off h H := by
  funext b
  unfold TkS.Off
  by_cases z : b = h
  · rw [if_pos z, if_pos z]
  · rw [if_neg z, if_neg z, upd_ne z]
theorem filter_snoc {α β : Type} (p : α → Bool) (f : α → β) {l : List α} {i : Nat} {x : α} (h : l[i]? = some x) :
    ((l.take (i + 1)).filter p).map f = if p x = true then ((l.take i).filter p).map f ++ [f x] else ((l.take i).filter p).map f := by
  rw [List.take_add_one, h]
  show ((l.take i ++ [x]).filter p).map f = _
  rw [List.filter_append, List.map_append, List.filter_cons]
  by_cases c : p x = true
  · rw [if_pos c, if_pos c]
    rfl
  · rw [if_neg c, if_neg c]
    show ((l.take i).filter p).map f ++ [] = _
    rw [List.append_nil]
theorem len_ft {α β : Type} (p : α → Bool) (f : α → β) (l : List α) : ((l.filter p).map f).length ≤ l.length := by
  rw [List.length_map]
  exact List.length_filter_le _ _
/-- the shared turn: a list D under way -/
def Acc (H0 : Hp) (D : Addr) (ds : List PyData) (H' : Hp) : Prop := Same H0 H' ∧ ∃ ys, H' D = some (.lst ys) ∧ DqAll (TkS.Off D H') ys ds
theorem Acc.nil {H0 : Hp} {D : Addr} (nD : H0 D = none) : Acc H0 D [] (upd H0 D (.lst [])) := ⟨same_new nD, [], upd_same, .nil⟩
theorem Acc.put {H0 H' H'' : Hp} {D : Addr} {ds : List PyData} {y : V} {d : PyData} (a : Acc H0 D ds H') (nD : H0 D = none) (hl : ds.length ≤ 900) (s : Same H' H'') (k : Dq (TkS.Off D H'') y d) :
    ∃ acc, H'' D = some (.lst acc) ∧ acc.length < sizeLine ∧ Acc H0 D (ds ++ [d]) (upd H'' D (.lst (acc ++ [y]))) := by
  obtain ⟨s0, ys, h1, h2⟩ := a
  refine ⟨ys, s _ _ h1, ?_, fun b o e => ?_, ys ++ [y], upd_same, ?_⟩
  · rw [h2.len]
    exact Nat.lt_of_le_of_lt hl (by decide)
  · rw [upd_ne (ne_of_none e nD)]
    exact s _ _ (s0 _ _ e)
  · rw [off_put]
    exact (DqAll.same (off_of s) _ h2).snoc k
theorem Acc.mv {H0 H' H'' : Hp} {D : Addr} {ds : List PyData} (a : Acc H0 D ds H') (s : Same H' H'') : Acc H0 D ds H'' := by
  obtain ⟨s0, ys, h1, h2⟩ := a
  exact ⟨s0.trans s, ys, s _ _ h1, DqAll.same (off_of s) _ h2⟩
theorem Acc.dq {H0 H' : Hp} {D : Addr} {ds : List PyData} (a : Acc H0 D ds H') : Dq H' (.ref D) (.list ds) := by
  obtain ⟨s0, ys, h1, h2⟩ := a
  exact .lst h1 (DqAll.same off_same _ h2)
theorem lc_rngD {tt : TT} {te : TE} {vs : List Nat} {σ : L2.St} {H0 : Hp} {D : Addr} {Qd : Hp → Prop} {j n : Nat} (f : Nat → Bool) (e : Nat → PyData)
    (nD : H0 D = none) (hl : n ≤ 900) (hw : ∀ x : V, wipe ((wipe σ vs).set j (some x)) vs = wipe σ vs)
    (ht : ∀ (i : Nat) (H' : Hp) (Q : Bool → Hp → Prop), i < n → Same H0 H' → (∀ H'', Same H' H'' → Q (f i) H'') → tt ((wipe σ vs).set j (some (.int (0 + (i : Int))))) H' Q)
    (he : ∀ (i : Nat) (H' : Hp) (Q : VK), i < n → f i = true → Same H0 H' → (∃ acc, H' D = some (.lst acc)) → (∀ y H'', Same H' H'' → Dq (TkS.Off D H'') y (e i) → Q y H'') → te ((wipe σ vs).set j (some (.int (0 + (i : Int))))) H' Q)
    (hd : ∀ H', Same H0 H' → Dq H' (.ref D) (.list (((List.range n).filter f).map e)) → Qd H') :
    ∃ W : Nat → Nat → Hp → Prop, (∃ m, W 0 m (upd H0 D (.lst []))) ∧ ∀ i m H, W i m H →
      ((Itr 0 n).stop i H ∧ Qd H) ∨ ((Itr 0 n).go i H ∧ ∃ Nx : Hp → Prop, (∀ H', Nx H' → ∃ m', m' < m ∧ W (i + 1) m' H') ∧ ∀ x H', (Itr 0 n).yld i H x H' → gName j x (wipe σ vs) H' fun σ2 H2 => wipe σ2 vs = wipe σ vs ∧ tt σ2 H2 fun b H3 =>
        if b = true then te σ2 H3 fun y H4 => ∃ acc, H4 D = some (.lst acc) ∧ acc.length < sizeLine ∧ Nx (upd H4 D (.lst (acc ++ [y]))) else Nx H3) := by
  refine lc_range (lo := 0) (n := n) (fun i H' => Acc H0 D (((List.range i).filter f).map e) H') (Acc.nil nD) (fun i H' hi hP => ?_) (fun H' hP => ?_)
  · refine ⟨hw _, ht i H' _ hi hP.1 fun H2 s2 => ?_⟩
    have er : ((List.range (i + 1)).filter f).map e = if f i = true then ((List.range i).filter f).map e ++ [e i] else ((List.range i).filter f).map e := by
      rw [List.range_succ, List.filter_append, List.map_append, List.filter_cons]
      by_cases c : f i = true
      · rw [if_pos c, if_pos c]
        rfl
      · rw [if_neg c, if_neg c]
        show _ ++ [] = _
        rw [List.append_nil]
    have hP2 := hP.mv s2
    cases c : f i with
    | true =>
      refine he i H2 _ hi c hP2.1 ⟨_, hP2.2.choose_spec.1⟩ fun y H3 s3 k => ?_
      rw [er, if_pos c]
      refine hP2.put nD ?_ s3 k
      have := len_ft f e (List.range i)
      rw [List.length_range] at this
      omega
    | false =>
      show Acc _ _ _ _
      rw [er, c, if_neg Bool.false_ne_true]
      exact hP2
  · exact hd H' hP.1 hP.dq
theorem lc_seqD {K : PySem.W.Frag} {a : Addr} {xs : List V} {ds : List PyData} {tl : TE} {tt : TT} {te : TE} {vs : List Nat} {σ : L2.St} {H : Hp} {Q : VK} {j : Nat} (f : PyData → Bool) (e : PyData → PyData)
    (ht0 : ∀ Q : VK, Q (.ref a) H → tl σ H Q) (hq : Sq K H a xs) (hx : DqAll H xs ds) (hl : ds.length ≤ 900) (hw : ∀ x : V, wipe ((wipe σ vs).set j (some x)) vs = wipe σ vs)
    (ht : ∀ (i : Nat) (x : V) (d : PyData) (H' : Hp) (Q : Bool → Hp → Prop), ds[i]? = some d → Same H H' → Dq H' x d → (∀ H'', Same H' H'' → Q (f d) H'') → tt ((wipe σ vs).set j (some x)) H' Q)
    (he : ∀ (D : Addr) (i : Nat) (x : V) (d : PyData) (H' : Hp) (Q : VK), H D = none → ds[i]? = some d → f d = true → Same H H' → Dq H' x d → (∃ acc, H' D = some (.lst acc)) → (∀ y H'', Same H' H'' → Dq (TkS.Off D H'') y (e d) → Q y H'') → te ((wipe σ vs).set j (some x)) H' Q)
    (hd : ∀ D H', H D = none → Same H H' → Dq H' (.ref D) (.list ((ds.filter f).map e)) → Q (.ref D) H') :
    tLc (iSeq K tl) (gName j) tt te vs σ H Q := by
  refine lc_seq (fun D i H' => Acc H D (((ds.take i).filter f).map e) H') ht0 hq (fun D nD => Acc.nil nD) (fun D i H' _ _ hP => hP.1) (fun D i x H' nD hxi hP => ?_) (fun D H' nD hP => ?_)
  · obtain ⟨d, hdi, kd⟩ := hx.get hxi
    have kd1 := kd.same hP.1
    refine ⟨hw _, ht i x d H' _ hdi hP.1 kd1 fun H2 s2 => ?_⟩
    have hP2 := hP.mv s2
    cases c : f d with
    | true =>
      refine he D i x d H2 _ nD hdi c hP2.1 (kd1.same s2) ⟨_, hP2.2.choose_spec.1⟩ fun y H3 s3 k => ?_
      rw [filter_snoc _ _ hdi, if_pos c]
      refine hP2.put nD ?_ s3 k
      have := len_ft f e (ds.take i)
      rw [List.length_take] at this
      omega
    | false =>
      show Acc _ _ _ _
      rw [filter_snoc _ _ hdi, c, if_neg Bool.false_ne_true]
      exact hP2
  · rw [hx.len, List.take_length] at hP
    exact hd D H' nD hP.1 hP.dq
/-! data without a list -/
mutual
def noList : PyData → Bool
  | .list _ => false
  | .tuple ds => noLists ds
  | _ => true
def noLists : List PyData → Bool
  | [] => true
  | d :: ds => noList d && noLists ds
end
mutual
theorem dq_noL {H : Hp} {D : Addr} {acc : List V} (h : H D = some (.lst acc)) : ∀ {v : V} (d : PyData), noList d = true → Dq H v d → Dq (TkS.Off D H) v d
  | _, .none, _, .non => .non
  | _, .bool _, _, .bl b => .bl b
  | _, .int _, _, .int i => .int i
  | _, .str _, _, .str x => .str x
  | _, .list _, n, .lst e t => by cases n
  | _, .tuple ds, n, .tup e t => .tup (off_at (fun z => by rw [z, h] at e; cases e) e) (dqs_noL h ds n t)
theorem dqs_noL {H : Hp} {D : Addr} {acc : List V} (h : H D = some (.lst acc)) : ∀ {vs : List V} (ds : List PyData), noLists ds = true → DqAll H vs ds → DqAll (TkS.Off D H) vs ds
  | _, [], _, .nil => .nil
  | _, d :: ds, n, .cons k t => .cons (dq_noL h d (by
      have n' : (noList d && noLists ds) = true := n
      exact (Bool.and_eq_true_iff.mp n').1) k) (dqs_noL h ds (by
      have n' : (noList d && noLists ds) = true := n
      exact (Bool.and_eq_true_iff.mp n').2) t)
end
/-! a hand (a list of a list and three ints) is no part of other data -/
def handD : PyData → Bool
  | .list [_, .int _, .int _, .int _] => true
  | _ => false
mutual
def noHand : PyData → Bool
  | .list ds => !handD (.list ds) && noHands ds
  | .tuple ds => noHands ds
  | _ => true
def noHands : List PyData → Bool
  | [] => true
  | d :: ds => noHand d && noHands ds
end
mutual
theorem dq_hand {H H' : Hp} {h : Addr} {c : V} {p r t : Int} (hh : H h = some (.lst [c, .int p, .int r, .int t])) (k : ∀ b o, b ≠ h → H b = some o → H' b = some o) : ∀ {v : V} (d : PyData), noHand d = true → Dq H v d → Dq H' v d
  | _, .none, _, .non => .non
  | _, .bool _, _, .bl b => .bl b
  | _, .int _, _, .int i => .int i
  | _, .str _, _, .str x => .str x
  | _, .list ds, n, .lst e u => by
    have n' : (!handD (.list ds) && noHands ds) = true := n
    obtain ⟨n1, n2⟩ := Bool.and_eq_true_iff.mp n'
    refine .lst (k _ _ (fun z => ?_) e) (dqs_hand hh k ds n2 u)
    rw [z, hh] at e
    cases e
    cases u with
    | cons u0 u =>
      cases u with
      | cons u1 u =>
        cases u with
        | cons u2 u =>
          cases u with
          | cons u3 u =>
            cases u
            cases u1
            cases u2
            cases u3
            exact absurd n1 (by simp [handD])
  | _, .tuple ds, n, .tup e u => .tup (k _ _ (fun z => by rw [z, hh] at e; cases e) e) (dqs_hand hh k ds n u)
theorem dqs_hand {H H' : Hp} {h : Addr} {c : V} {p r t : Int} (hh : H h = some (.lst [c, .int p, .int r, .int t])) (k : ∀ b o, b ≠ h → H b = some o → H' b = some o) : ∀ {vs : List V} (ds : List PyData), noHands ds = true → DqAll H vs ds → DqAll H' vs ds
  | _, [], _, .nil => .nil
  | _, d :: ds, n, .cons u v => .cons (dq_hand hh k d (by
      have n' : (noHand d && noHands ds) = true := n
      exact (Bool.and_eq_true_iff.mp n').1) u) (dqs_hand hh k ds (by
      have n' : (noHand d && noHands ds) = true := n
      exact (Bool.and_eq_true_iff.mp n').2) v)
end
end TkS
set_option Elab.async false
set_option linter.all false
set_option maxRecDepth 100000
set_option maxHeartbeats 4000000
/-! len(set(xs)), xs a list of tuples of ints -/
namespace TkS
open PySem PySem.Spec PyProof.Rows L2
def rLenSetT (P : Program) (w : World) : List V → Hp → VK → Prop := fun xs H Q => ∃ (a : Addr) (L : List (Addr × List Int)), xs = [.ref a] ∧ H a = some (SetTO P w a L) ∧ (∀ p ∈ L, ∃ ys, H p.1 = some (.tup ys) ∧ ys = p.2.map V.int) ∧ ((L.map (·.2)).Nodup → Q (.int (L.length : Int)) H)
theorem call_lenSetT {X : Cx} : CallR X (.builtin "len") (rLenSetT X.prog X.w) := by
  intro pins s σ H xs us Q I r h
  obtain ⟨a, L, rfl, ha, ht, q⟩ := h
  obtain ⟨u, rfl, rx⟩ := vals1 r
  cases rx
  have R0 : SetT0 X.prog X.w s.heap a L := (I.hok a _ ha).1
  obtain ⟨es, ep, t, R⟩ := R0.full fun p hp => by
    obtain ⟨ys, h1, h2⟩ := ht p hp
    subst h2
    exact I.isT (.inl (.inl h1))
  obtain ⟨o, ho, hex, hd⟩ := R.ob
  have hsz := R.size
  have few := R.few
  refine call_len_set ho hex hd R.fits (by rw [hsz]; omega) ⟨.int (L.length : Int), H, I.tok _, ⟨_, by rw [hsz]⟩, q R.nd⟩
theorem nd_le {α : Type} [DecidableEq α] : ∀ {A B : List α}, A.Nodup → (∀ x ∈ A, x ∈ B) → A.length ≤ B.length
  | [], _, _, _ => Nat.zero_le _
  | a :: A, B, n, s => by
    have ha := s a List.mem_cons_self
    have n2 := List.nodup_cons.mp n
    have := nd_le (A := A) (B := B.erase a) n2.2 fun x m => (List.mem_erase_of_ne (show x ≠ a from fun z => by subst z; exact n2.1 m)).mpr (s x (List.mem_cons_of_mem _ m))
    have e := (List.perm_cons_erase ha).length_eq
    simp only [List.length_cons] at e ⊢
    omega
theorem nd_perm {α : Type} [DecidableEq α] : ∀ {A B : List α}, A.Nodup → (∀ x ∈ A, x ∈ B) → A.length = B.length → A.Perm B
  | [], B, _, _, e => by
    have : B = [] := List.length_eq_zero_iff.mp e.symm
    rw [this]
  | a :: A, B, n, s, e => by
    have ha := s a List.mem_cons_self
    have n2 := List.nodup_cons.mp n
    have pe := List.perm_cons_erase ha
    have e2 := pe.length_eq
    simp only [List.length_cons] at e e2
    exact ((nd_perm (A := A) (B := B.erase a) n2.2 (fun x m => (List.mem_erase_of_ne (show x ≠ a from fun z => by subst z; exact n2.1 m)).mpr (s x (List.mem_cons_of_mem _ m))) (by omega)).cons a).trans pe.symm
theorem nd_iff {α : Type} [DecidableEq α] {A B : List α} (n : A.Nodup) (s : ∀ x ∈ A, x ∈ B) (s' : ∀ x ∈ B, x ∈ A) : A.length = B.length ↔ B.Nodup :=
  ⟨fun e => (nd_perm n s e).nodup_iff.mp n, fun nb => Nat.le_antisymm (nd_le n s) (nd_le nb s')⟩
end TkS
set_option Elab.async false
set_option linter.all false
set_option maxRecDepth 100000
set_option maxHeartbeats 4000000
/-! try with several clauses that each bind the error to one and the same name -/
namespace TkS
open PySem PySem.Spec PyProof.Rows L2
/-- a clause's ends: behind the suite the name is gone -/
def goneE (i : Nat) (D : Ends) : Ends := { nx := fun σ' H' => D.nx (σ'.set i none) H', rt := D.rt, bk := fun σ' H' => D.bk (σ'.set i none) H', ct := fun σ' H' => D.ct (σ'.set i none) H' }
def wAsM (K : PySem.W.Frag) (i : Nat) (Wout : WX) (D : Ends) : List (Value × (Addr → Value → Option Addr → TS)) → WX
  | [] => Wout
  | (c, ts) :: r => fun cls d σ H => ∃ b, PySem.W.exmOne K cls c = some b ∧ (b = true → ∀ a, H a = none → ts a cls d (goneE i D) (σ.set i (some (.ref a))) H) ∧ (b = false → wAsM K i Wout D r cls d σ H)
inductive AsOk (X : Cx) (n : Str) : List ExceptHandler → List (Value × (Addr → Value → Option Addr → TS)) → Prop
  | nil : AsOk X n [] []
  | cons {x : Str} {c : Value} {ts : Addr → Value → Option Addr → TS} {b₀ : Stmt} {suite : List Stmt} {np pos' : Pos} {hds : List ExceptHandler} {l : List (Value × (Addr → Value → Option Addr → TS))} (hc : Names X x c)
      (hsu : ∀ (a : Addr) (oe : Obj) (cls : Value) (d : Option Addr) (pn : List (Addr × Obj)), Zc cls d oe → (∃ vs, oe.data = .fields vs) → PSs (X.suite a ((a, oe) :: pn)) (b₀ :: suite) (ts a cls d)) (r : AsOk X n hds l) :
      AsOk X n (.ExceptHandler (some (.Name x np)) (some n) (b₀ :: suite) pos' :: hds) ((c, ts) :: l)
section
variable {X : Cx} {n : Str} {i : Nat} {body : List Stmt} {h₀ : ExceptHandler} {hds : List ExceptHandler} {l : List (Value × (Addr → Value → Option Addr → TS))} {pos : Pos} {tb : WX → TS} {Wout : WX}
theorem ps_try_asM (hs : X.stack = X.env :: X.outer) (hf : X.env.frame = some X.env.locals) (hN : X.N.Nodup) (hi : X.N[i]? = some n) (hln : X.env.kindOf n = some .local) (tk : Takes X Wout)
    (hb : ∀ (W : WX) (pn : List (Addr × Obj)) (xe : Value → Shared → Prop), Takes (X.tr pn xe) W → PassesOwn (model X.prog X.w) X.A X.env xe → PSs (X.tr pn xe) body (tb W))
    (hh : AsOk X n (h₀ :: hds) l) : PS X (.Try body (h₀ :: hds) [] [] pos) (fun D σ H => tb (wAsM X.K i Wout D l) D σ H) := by
  refine ⟨fun pins s σ H D I h => wpAny_Try_except ?_⟩
  have ok := I.ok
  have hfr : X.A.frames = some (X.env :: X.outer) := by rw [ok.frames, hs]
  refine wpAny_mono ((hb (wAsM X.K i Wout D l) (X.pn ++ pins) (fun e s₁ => wpAny (model X.prog X.w) X.A (noteFrame e X.env) (fun _ s₂ => wpAny (model X.prog X.w) X.A (setFlight e none) (fun _ s₃ =>
    wpAny (model X.prog X.w) X.A (handleBy e X.env (h₀ :: hds)) (SP X pins D) X.xe s₃) X.xe s₂) X.xe s₁) (fun u s' xx => ?_) PassesOwn.looking).run [] s σ H D (I.toTry _) h) (fun f s1 hsp => ?_) (fun e s1 he => he)
  · obtain ⟨a, B, sI, pins', σ', H', cls, d, rfl, J', nb, up, sky, na, os, ag, w⟩ := xx
    have J : Inv X pins σ' H' sI := J'.ofTry ok
    refine Sky.land Zc.steady hfr hf (by rw [← hs]; exact sky) fun h3 fl3 up3 => ?_
    have J3 : Inv X pins σ' H' { s' with heap := h3 } := J.landed nb fl3.1 (up.trans up3) os ag
    obtain ⟨oe3, vs3, he3, hz3, hd3⟩ := fl3.there
    have nfr : a ∉ frs (X.env :: X.outer) := fun hm => by
      obtain ⟨_, o', e', hnf⟩ := fl3.2.2.1.mem hm
      rw [he3] at e'
      cases e'
      exact hnf _ hd3
    have nL : a ≠ X.env.locals := fun z => nfr (List.mem_filterMap.mpr ⟨X.env, List.mem_cons_self, by rw [hf, z]⟩)
    have nF : a ∉ X.fs := fun hm => by
      obtain ⟨e, he, q⟩ := List.mem_filterMap.mp hm
      exact nfr (List.mem_filterMap.mpr ⟨e, List.mem_cons_of_mem _ he, q⟩)
    have S3 := J3.suite he3 hd3 na nL nF
    have go : ∀ {hds' : List ExceptHandler} {l' : List (Value × (Addr → Value → Option Addr → TS))}, AsOk X n hds' l' → wAsM X.K i Wout D l' cls d σ' H' →
        wpAny (model X.prog X.w) X.A (handleBy (.ref a) X.env hds') (SP X pins D) X.xe { s' with heap := h3 } := by
      intro hds' l' hk
      induction hk with
      | nil =>
        intro w
        refine wpAny_handleBy_nil ?_
        obtain ⟨k1, k2, k3, oe, vs, T, oT, ts', he, hz, hd, h1, hr⟩ := id fl3
        unfold PySem.passOn
        refine wpAny_bind (wpAny_field he hd h1 ?_)
        rw [if_neg (show ¬ ((Value.ref T == Value.none) = true) from by simp)]
        have fin : wpAny (model X.prog X.w) X.A (setFlight (.ref a) X.env.frame) (fun _ s4 => wpAny (model X.prog X.w) X.A (throw (.ref a) : Sem Flow) (SP X pins D) X.xe s4) X.xe { s' with heap := h3 } := by
          rw [hf]
          exact HandSPX.setFlight_upZ fl3 fun h4 hh4 up4 => wpAny_throw (tk _ _ ⟨a, B, sI, pins, σ', H', cls, d, rfl, J, nb, (up.trans up3).trans up4, .inr (.inr (by rw [hs]; exact hh4)), na, os, ag, w⟩)
        first
          | exact wpAny_bind (wpAny_pure (wpAny_bind fin))
          | exact wpAny_bind fin
      | @cons x c ts b₀ suite np pos' hds2 l2 hc hsu r ih =>
        intro w
        obtain ⟨b, hb1, hyes, hno⟩ := w
        refine wpAny_handleBy_cons (codeAny_handlers_test ?_) (by intro q; cases q)
        have LM := PySem.W.exm_one (M := model X.prog X.w) (J3.kIn) (fun A Q E s k q => wpAny_typeOf_ref (k _ _ he3) (by rw [hz3.1]; exact q)) hb1
        have test : ∀ {Q : Value → Shared → Prop} {E : Value → Shared → Prop}, Q c { s' with heap := h3 } → wpAny (model X.prog X.w) (X.A.mark (some (.ref a))) (eval (.Name x np) X.env) Q E { s' with heap := h3 } := fun {Q E} q => by
          obtain ⟨hg, hdbg, hm | ⟨hm, hv, hnn⟩⟩ := hc
          · exact ld_glob (X := X.suite a ((a, oe3) :: (X.pn ++ pins))) S3 hg hm q hdbg
          · exact ld_blt (X := X.suite a ((a, oe3) :: (X.pn ++ pins))) S3 hg hm hv q hnn hdbg
        refine test (LM.here ?_)
        cases b with
        | false => exact ih (hno rfl)
        | true =>
          refine codeAny_handlers_suite_as (HandSPX.lands_againZ fl3 fun h4 fl4 up4 => ?_)
          have J4 : Inv X pins σ' H' { s' with heap := h4 } := J.landed nb fl4.1 ((up.trans up3).trans up4) os ag
          obtain ⟨oe4, vs4, he4, hz4, hd4⟩ := fl4.there
          have S4 := J4.suite he4 hd4 na nL nF
          refine store_ok (X := X.suite a ((a, oe4) :: (X.pn ++ pins))) (v := .ref a) S4 hN hi (.inl hln) rfl (fun s5 S5 => ?_) (.inr hln)
          refine wpAny_mono ((hsu a oe4 cls d (X.pn ++ pins) hz4 ⟨_, hd4⟩).run [] s5 _ H' _ S5 (hyes rfl a na)) (fun f s6 hsp => ?_) (fun _ _ z => False.elim z)
          have end_ : ∀ {σ6 : L2.St} {H6 : Hp} {Q : Shared → Prop}, Inv (X.suite a ((a, oe4) :: (X.pn ++ pins))) [] σ6 H6 s6 → (∀ s7, Inv X pins (σ6.set i none) H6 s7 → Q s7) →
              wpAny (model X.prog X.w) X.A (do bindName X.env n .none; unbindBehindTheSuite X.env n pos') (fun _ s7 => Q s7) X.xe s6 := fun {σ6 H6 Q} S6 hq => gone_ok (S6.unsuite ok) hN hi hln hq
          cases f with
          | ret u =>
            obtain ⟨v6, σ6, H6, S6, r6, q6⟩ := hsp
            exact end_ S6 fun s7 J7 => ⟨_, _, _, J7, r6, q6⟩
          | next =>
            obtain ⟨σ6, H6, S6, q6⟩ := hsp
            exact end_ S6 fun s7 J7 => ⟨_, _, J7, q6⟩
          | brk =>
            obtain ⟨σ6, H6, S6, q6⟩ := hsp
            exact end_ S6 fun s7 J7 => ⟨_, _, J7, q6⟩
          | cont =>
            obtain ⟨σ6, H6, S6, q6⟩ := hsp
            exact end_ S6 fun s7 J7 => ⟨_, _, J7, q6⟩
    exact go hh w
  · cases f with
    | ret u =>
      obtain ⟨v, σ', H', J', r, q⟩ := hsp
      exact ⟨v, σ', H', J'.ofTry ok, r, q⟩
    | next =>
      obtain ⟨σ', H', J', q⟩ := hsp
      exact wpAny_execs_nil ⟨σ', H', J'.ofTry ok, q⟩
    | brk =>
      obtain ⟨σ', H', J', q⟩ := hsp
      exact ⟨σ', H', J'.ofTry ok, q⟩
    | cont =>
      obtain ⟨σ', H', J', q⟩ := hsp
      exact ⟨σ', H', J'.ofTry ok, q⟩
end
end TkS
set_option Elab.async false
set_option linter.all false
set_option maxRecDepth 100000
set_option maxHeartbeats 4000000
/-! the law's def at its caller alone, where it is known that nothing is being printed (repr asks for that) -/
namespace TkS
open PySem PySem.Spec PyProof.Rows L2
/-- a def's promise at the law's caller -/
def TopOk (P : Program) (w : World) (K : PySem.W.Frag) (mg : Str → Option Value) (base : Heap) (CX : CXT) (f : Addr) (fd : FuncData) (ps : List Str) (sp : Sp) : Prop :=
  ∀ (outer : List Env) (s : Shared) (H : Hp) (args : Args) (us : List Value) (vs : List V) (Q : VK) (E : XK), Env0 P w K mg base callerA outer s H → BindsTo s fd args (ps.zip us) → Vals vs us → sp vs H Q E →
    codeAny (model P w) callerA (.call (.ref f) args) (CR CX outer P w H s Q E) s
theorem room_top : Room 200 callerA := ⟨rfl, by decide, by decide⟩
theorem top_of {CX : CXT} {P : Program} {w : World} {K : PySem.W.Frag} {mg : Str → Option Value} {base : Heap} {f : Addr} {name qual : Str} {params : Arguments} {body : List Stmt} {scope : Scope} {dV kV doc pm cdv ct oc : Value} {an od : Option Addr}
    {osl : Array (Option Value)} {N ps : List Str} {sp : Sp} (lk : K.lookup f = some ⟨oc, od, .func (PySem.W.fnOf name qual params body scope dV kV doc pm an cdv ct), osl⟩) (hcd : PySem.W.codeIn K cdv qual = true) (S : FnScope N ps scope)
    (len : ∀ vs H Q E, sp vs H Q E → vs.length = ps.length)
    (hbody : ∀ (outer : List Env) (s : Shared) (H : Hp) (vs : List V) (Q : VK) (E : XK), Room 199 (callerA.deeper (envOfC qual scope s.heap.objs.size f cdv)) → sp vs H Q E →
      ∃ t, PSs (cxOf CX P w K mg base N qual scope f cdv callerA outer s H E) body t ∧ t { nx := fun _ H' => Q .non H', rt := Q } (start N vs) H) :
    TopOk P w K mg base CX f (PySem.W.fnOf name qual params body scope dV kV doc pm an cdv ct) ps sp := by
  intro outer s H args us vs Q E e0 hb r hsp
  have hr := room_top
  have hl := len _ _ _ _ hsp
  have KX : K.In s.heap := e0.mod.kin.keeps fun b o e => (e0.bs b o e).1
  have lim : s.heap.NoLimit := e0.mod.nolimit.keeps fun b o e => (e0.bs b o e).1
  have hkind : ∀ y ∈ ps.zip us, scope.names.lookup y.1 = some .local ∨ (scope.names.lookup y.1 = some .cell ∧ ((cellsFrom (s.heap.objs.size + 1) scope.names []).lookup y.1).isSome = true) := fun ⟨n, v⟩ hy => by
    rcases S.par n (List.of_mem_zip hy).1 with q | q
    · exact .inl q
    · exact .inr ⟨q, PySem.W.cellsFrom_some _ _ _ (.inl q)⟩
  refine codeAny_call_function hr.depth (KX _ _ lk) rfl S.co S.gen rfl (PySem.W.codeRec_of KX hcd) (hb _ _ _ _ ?_)
  refine wpAny_newFunctionEnv_cells S.kind hkind fun env he s1 x => ?_
  subst he
  refine ⟨lim.keeps x.toInCall.keep, codeAny_func ?_⟩
  obtain ⟨t, ht, hq⟩ := hbody outer s H vs Q E (hr.deeper _) hsp
  have I : Inv (cxOf CX P w K mg base N qual scope f cdv callerA outer s H E) [] (start N vs) H s1 := inv_start S hr.hd e0 hl r x
  refine wpAny_mono (ht.run [] s1 (start N vs) H _ I hq) (fun fl s' hs => ?_) fun e s' hs => hs
  have fin : ∀ {σ' : L2.St} {H' : Hp} {v : V} {u : Value}, Inv (cxOf CX P w K mg base N qual scope f cdv callerA outer s H E) [] σ' H' s' → RelV v u → Q v H' → CE outer P w H s Q u s' :=
    fun {σ' H' v u} J rv q => ⟨v, H', J.os, J.bare, J.base, J.hok, rv, q⟩
  cases fl with
  | ret u =>
    obtain ⟨v, σ', H', J, rv, q⟩ := hs
    exact fin J rv q
  | next =>
    obtain ⟨σ', H', J, q⟩ := hs
    exact fin (v := V.non) (u := Value.none) J rfl q
  | brk =>
    obtain ⟨_, _, _, q⟩ := hs
    exact False.elim q
  | cont =>
    obtain ⟨_, _, _, q⟩ := hs
    exact False.elim q
theorem top_call {P : Program} {w : World} {K : PySem.W.Frag} {mg mb : Str → Option Value} {CX : CXT} {fa a : Addr} {fd : FuncData} {x : Str} {sp : Sp} {s₁ : Shared} {vs : List Value} {ns : List Int}
    (KX : K.In s₁.heap) (hns : s₁.heap.Ns mainGlobals mg) (hb : s₁.heap.Ns builtinsNs mb) (hbb : ∀ x : Str, x ≠ "__name__" → mb x = bootBuiltins x) (hlim : s₁.heap.NoLimit) (hg : s₁.gens = #[])
    (ha : s₁.heap.get? a = some { cls := .type "list", data := .seq vs.toArray }) (hi : IntsAre vs ns) (hl : ns.length ≤ sizeLine)
    (F : ∀ base : Heap, K.In base → base.Ns mainGlobals mg → TopOk P w K mg base CX fa fd [x] sp) (hbind : ∀ (s : Shared) (u : Value), BindsTo s fd ⟨[u], []⟩ [(x, u)])
    (hsp : ∀ H : Hp, Only H → SqL K H a (ns.map V.int) → sp [.ref a] H (fun v _ => v = .bl true) fun _ _ _ => False)
    (hCX : ∀ H e s', CX [] H s₁ (fun _ _ _ => False) e s' → False) :
    codeAny (model P w) callerA (.call (.ref fa) ⟨[.ref a], []⟩) (fun r s' => r = .ok (.ret (.bool true)) ∧ OldK s₁.heap s'.heap ∧ s'.os = s₁.os ∧ AllBare s'.gens) s₁ := by
  have rv := vals_ints hi
  have lenV := hi.length
  -- from an abstract heap in which nothing but the script may be tracked
  have core : ∀ H : Hp, Only H → SqL K H a (ns.map V.int) → HOk P w H s₁.heap → (∀ b, H b ≠ none → b = a) → (H a ≠ none → K.lookup a = none) →
      codeAny (model P w) callerA (.call (.ref fa) ⟨[.ref a], []⟩) (fun r s' => r = .ok (.ret (.bool true)) ∧ OldK s₁.heap s'.heap ∧ s'.os = s₁.os ∧ AllBare s'.gens) s₁ := by
    intro H hO hS hok hA hK
    have base_of : ∀ {b : Addr} {o : Obj}, s₁.heap.get? b = some o → H b = none → (hidT s₁.heap H).get? b = some o := fun e n => hidT_get e n
    have noA : ∀ {b : Addr} {o : Obj} {es : Array DictEntry} {ep : Nat}, s₁.heap.get? b = some o → o.data = .dict es ep → H b = none := fun {b o es ep} e d => by
      cases q : H b with
      | none => rfl
      | some u =>
        have e' : b = a := hA b (by rw [q]; simp)
        subst e'
        rw [ha] at e; cases e
        have d' : Data.seq vs.toArray _ = Data.dict es ep := d
        cases d'
    have nsK : ∀ {b : Addr} {m : Str → Option Value}, s₁.heap.Ns b m → (hidT s₁.heap H).Ns b m := fun {b m} ⟨o, es, ep, e, d, r⟩ => ⟨o, es, ep, base_of e (noA e d), d, r⟩
    have hKb : K.In (hidT s₁.heap H) := fun b o e => base_of (KX b o e) (by
      cases q : H b with
      | none => rfl
      | some u =>
        have e' : b = a := hA b (by rw [q]; simp)
        subst e'
        rw [hK (by rw [q]; simp)] at e; cases e)
    have hM : Mod K mg (hidT s₁.heap H) := ⟨hKb, nsK hns, ⟨mb, nsK hb, hbb⟩, let ⟨mc, h1, h2⟩ := hlim; ⟨mc, nsK h1, h2⟩⟩
    have e0 : Env0 P w K mg (hidT s₁.heap H) callerA [] s₁ H := ⟨rfl, hM, fun b o e => of_hidT e, Nat.le_of_eq (hidT_size _ _), trivial, fun b hb => absurd (show b ∈ ([] : List Addr) from hb) (by simp), hok, .of_eq hg⟩
    refine codeAny_mono (F _ hKb (nsK hns) [] s₁ H ⟨[.ref a], []⟩ [.ref a] [.ref a] _ _ e0 (hbind s₁ (.ref a)) (.cons rfl .nil) (hsp H hO hS)) fun r s' h => ?_
    cases r with
    | error e => exact (hCX H e s' h).elim
    | ok fl =>
      cases fl with
      | next => exact False.elim h
      | brk => exact False.elim h
      | cont => exact False.elim h
      | ret u =>
        obtain ⟨v, H', os, bare, un, hok', r', q⟩ := h
        have q' : v = .bl true := q
        subst q'
        obtain rfl : u = Value.bool true := r'
        refine ⟨rfl, OldK.of_keep fun b o e => ?_, os, bare⟩
        cases q : H b with
        | none => exact un.keep b o e q (by intro z; exact absurd (show b ∈ ([] : List Addr) from z) (by simp)) (by simp)
        | some u =>
          rcases hO b with z | ⟨ob, xs, z⟩
          · rw [q] at z; cases z
          · have z2 := un.frzs b ob _ z
            obtain ⟨e1, _⟩ := hok b _ z
            obtain ⟨e2, _⟩ := hok' b _ z2
            rw [e] at e1; cases e1
            exact e2
  cases hk : K.lookup a with
  | some o =>
    -- the script is one of the module's own objects
    have e := KX a o hk
    rw [ha] at e
    cases e
    refine core (fun _ => none) (fun _ => .inl rfl) (.inr ⟨_, vs.toArray, _, hk, rfl, rfl, rfl, by rw [List.size_toArray, lenV]; exact hl, by simpa using rv⟩) (fun b u z => by have z' : (none : Option HO) = some u := z; cases z') (fun b z => absurd rfl z) fun z => absurd rfl z
  | none =>
    refine core (fun b => if b = a then some (.frz { cls := .type "list", data := .seq vs.toArray } (.lst (ns.map V.int))) else none) (fun b => ?_) (.inl (.inr ⟨{ cls := .type "list", data := .seq vs.toArray }, if_pos rfl⟩)) (fun b u z => ?_) (fun b z => ?_) fun _ => hk
    · by_cases hb : b = a
      · exact .inr ⟨_, _, if_pos hb⟩
      · exact .inl (if_neg hb)
    · by_cases hb : b = a
      · have z' := (if_pos hb).symm.trans z
        cases z'
        subst hb
        exact ⟨ha, by rw [List.length_map]; exact hl, vs, _, rv, ha⟩
      · have z' := (if_neg hb).symm.trans z
        cases z'
    · by_cases hb : b = a
      · exact hb
      · exact absurd (if_neg hb) z
theorem walk_top {l : PySem.W.OpenLaw} {n : Nat} {q : Program} {loose : List Str} {XP : (Str → Option Value) → Heap → Prop} {YP : World → Heap → Prop} {d : DefRec} {K : Params → PySem.W.Frag} {CX : World → CXT} {sp : World → Sp} {x : Str}
    (hn : l.most = some n) (hn2 : n ≤ sizeLine) (hdf : d.params.defaults = [])
    (hY : ∀ (w : World) (h : Heap), YP w h → (K w.params).In h)
    (F : ∀ (w : World) (mg : Str → Option Value) (fa : Addr) (h : Heap), (K w.params).In h → h.Ns mainGlobals mg → mg d.name = some (.ref fa) →
      ∃ fd : FuncData, (∀ (s : Shared) (u : Value), BindsTo s fd ⟨[u], []⟩ [(x, u)]) ∧
        ∀ base : Heap, (K w.params).In base → base.Ns mainGlobals mg → TopOk l.prog w (K w.params) mg base (CX w) fa fd [x] (sp w))
    (hsp : ∀ (w : World) (H : Hp) (a : Addr) (ns : List Int), ns.length ≤ n → Only H → SqL (K w.params) H a (ns.map V.int) → sp w [.ref a] H (fun v _ => v = .bl true) fun _ _ _ => False)
    (hCX : ∀ (w : World) (H : Hp) (s : Shared) (e : Value) (s' : Shared), CX w [] H s (fun _ _ _ => False) e s' → False) :
    PySem.W.WalkO q loose XP YP l.row.toRowW d [] (fun f vs => PySem.call f vs) := by
  refine Att.attach_call hn hdf fun w s₀ s₁ mg mb fa o pm cd doc a vs ns G Y ho hd hcd hmg hobj hints hlen hg => ?_
  have KX := hY w _ Y
  obtain ⟨fd, hb, hF⟩ := F w mg fa _ KX G.T.g hmg
  exact top_call KX G.T.g G.T.b G.T.builtins G.T.nolimit hg hobj hints (Nat.le_trans hlen hn2) hF hb (fun H hO hS => hsp w H a ns hlen hO hS) fun H e s' => hCX w H s₁ e s'
end TkS
set_option Elab.async false
set_option linter.all false
set_option maxRecDepth 100000
set_option maxHeartbeats 4000000
/-! list(reversed(xs)), xs a list -/
namespace TkS
open PySem PySem.Spec PyProof.Rows L2
section
variable {prog : Program} {w : World} {A : Around} {E : Value → Shared → Prop} {s : Shared} {R : Result → Shared → Prop}
theorem extend_rev {it l S : Addr} {items : Array Value} {res : Value} {c₀ : Nat} (hh : A.in1.handled = none) (hit : s.heap.IsRevIter it l ((items.size : Int) - 1)) (hl : s.heap.IsList l items) (hne : l ≠ it) (hn : items.size ≤ sizeLine) (hSi : S ≠ it) (hSl : S ≠ l)
    (hS : s.heap.get? S = some { cls := .type "list", data := .seq #[] c₀ })
    (hR : ∀ (s' : Shared) (acc' : Array Value) (c' : Nat), Moved (S :: [it]) (fun a b => b = a) s s' → s'.heap.get? S = some { cls := .type "list", dict := none, data := .seq acc' c', slots := #[] } → ItemsOf (fun i v => items[items.size - 1 - i]? = some v) acc' items.size → R (.ok (.ret res)) s') :
    wpAny (model prog w) A.in1 (Builtin.List.listExtendWith (.ref S) (.ref it) res)
      (fun fin s' => match fin with | .done f => R (.ok f) s' | .again c' => c'.quiet = true ∧ codeAny (model prog w) A c' R s') (fun e s' => R (.error e) s') s := by
  have W := (Walks.listRev (prog := prog) (w := w) (A := A.in1) hh it l hne items).toS
  have hSf : S ∉ [it, l] := by simp only [List.mem_cons, List.not_mem_nil, or_false, not_or]; exact ⟨hSi, hSl⟩
  have hT : s.TypeIs (.ref it) "list_reverseiterator" := hit.typeIs
  have h1 : Builtin.List.listSameRef (.ref S) (.ref it) = false := by simp [Builtin.List.listSameRef, hSi]
  unfold Builtin.List.listExtendWith
  refine wpAny_bind (wpAny_typeOf hT ?_)
  rw [if_neg (by rw [h1]; decide)]
  refine wpAny_bind (wpAny_pyIter_revIter hit ?_)
  refine wpAny_bind (wpAny_holding ?_)
  unfold Builtin.List.listLengthHint
  refine wpAny_bind (wpAny_specialOf hT RT.nolen_lri ?_)
  show wpAny _ A.in1 (specialOf (Value.ref it) (Str.ofString "__length_hint__") >>= _) _ _ _
  refine wpAny_bind (wpAny_specialOf hT RT.hint_lri ?_)
  generalize hid : ("list_reverseiterator.__length_hint__" : String) = id0
  wp_delta
  rw [show splitId id0 = some ("list_reverseiterator", "__length_hint__") from by subst hid; decide +kernel]
  subst hid
  refine wpAny_bind (wpAny_isInstance (b := true) hT (by rw [isSubtype_type]; kernel_rfl) ?_)
  refine wpAny_pure ?_
  rw [if_neg (by decide)]
  have e0 : ((items.size : Nat) : Int) - 1 - ((0 : Nat) : Int) = (items.size : Int) - 1 := by omega
  exact wpAny_pure ⟨plainId_quiet F.plain_extend_loop _, codeAny_extend_loopS W hn _ hSf _ items.size 0 _ _ _ rfl (Nat.zero_le _) ⟨Nat.zero_le _, by rw [e0]; exact hit, hl⟩ hS (ItemsOf.nil _) fun s' acc' c' hm hS' hacc => hR s' acc' c' hm hS' hacc⟩
theorem list_init_rev {it l S : Addr} {items : Array Value} (hh : A.in1.handled = none) (hit : s.heap.IsRevIter it l ((items.size : Int) - 1)) (hl : s.heap.IsList l items) (hne : l ≠ it) (hn : items.size ≤ sizeLine) (hSi : S ≠ it) (hSl : S ≠ l)
    (hS : s.heap.get? S = some { cls := .type "list", data := .seq #[] })
    (hR : ∀ (s' : Shared) (acc' : Array Value) (c' : Nat), (∀ b o, b ≠ S → b ≠ it → s.heap.get? b = some o → s'.heap.get? b = some o) → s' = { s with heap := s'.heap, toks := s'.toks } → s'.heap.get? S = some { cls := .type "list", dict := none, data := .seq acc' c', slots := #[] } → ItemsOf (fun i v => items[items.size - 1 - i]? = some v) acc' items.size → R (.ok (.ret .none)) s') :
    wpAny (model prog w) A.in1 (Builtin.«list.__init__» ⟨[.ref S, .ref it], []⟩)
      (fun fin s' => match fin with | .done f => R (.ok f) s' | .again c' => c'.quiet = true ∧ codeAny (model prog w) A c' R s') (fun e s' => R (.error e) s') s := by
  show wpAny _ A.in1 (do let old ← Builtin.List.listItems (.ref S); Builtin.List.listUpdate (.ref S) (fun _ => #[]); letGo old.toList.reverse; Builtin.List.listExtendWith (.ref S) (.ref it) .none) _ _ s
  refine wpAny_bind ?_
  unfold Builtin.List.listItems
  refine wpAny_bind (wpAny_seqItems hS rfl (wpAny_pure ?_))
  show wpAny _ A.in1 (updateSeq S (fun _ => #[]) >>= fun _ => letGo (#[] : Array Value).toList.reverse >>= fun _ => Builtin.List.listExtendWith (.ref S) (.ref it) .none) _ _ s
  refine wpAny_bind (wpAny_updateSeq hS rfl ?_)
  have hS₂ := Heap.get?_update_self (Obj.mapSeq (fun _ => (#[] : Array Value))) hS rfl
  have oth : ∀ b o, b ≠ S → s.heap.get? b = some o → (s.heap.update S (Obj.mapSeq (fun _ => (#[] : Array Value)))).get? b = some o :=
    fun b o hb e => (Heap.get?_update_other _ _ (Ne.symm hb)).trans e
  refine wpAny_bind (wpAny_letGo ?_)
  have hl' := hl
  obtain ⟨ol, hol, hlc, nl, hld⟩ := hl'
  refine extend_rev hh (hit.at fun o e => oth it o (Ne.symm hSi) e) ⟨ol, oth l _ (Ne.symm hSl) hol, hlc, nl, hld⟩ hne hn hSi hSl hS₂ fun s' acc' c' hm hS' hacc => ?_
  refine hR s' acc' c' (fun b o h1 h2 e => hm.heap b o (by simp [h1, h2]) (oth b o h1 e)) ?_ hS' hacc
  have := Moved.eq_with hm
  exact this
theorem call_list_rev {it l : Addr} {items : Array Value} {Q : Value → Shared → Prop} (hh : A.handled = none) (hit : s.heap.IsRevIter it l ((items.size : Int) - 1)) (hl : s.heap.IsList l items) (hne : l ≠ it) (hn : items.size ≤ sizeLine)
    (hQ : ∀ (h' : Heap) (tk : Nat) (acc : Array Value) (c' : Nat), (∀ b o, b ≠ it → s.heap.get? b = some o → h'.get? b = some o) → h'.get? s.heap.objs.size = some { cls := .type "list", dict := none, data := .seq acc c', slots := #[] } →
      ItemsOf (fun i v => items[items.size - 1 - i]? = some v) acc items.size → Q (.ref s.heap.objs.size) { s with heap := h', toks := tk }) :
    wpAny (model prog w) A (call (.type "list") [.ref it]) Q E s := by
  refine callType_codes (Q₁ := fun obj s₁ => obj = .ref s.heap.objs.size ∧ s₁ = { s with heap := s.heap.push { cls := .type "list", data := .seq #[] } }) F.called_list (F.typeCall_list_1 _) F.entry_list_init
    (code_list_new _ ⟨rfl, rfl⟩) fun obj s₁ h₁ => ?_
  obtain ⟨rfl, rfl⟩ := h₁
  have hS : (s.heap.push { cls := .type "list", data := .seq #[] }).get? s.heap.objs.size = some { cls := .type "list", data := .seq #[] } := Heap.get?_push_size _ rfl
  obtain ⟨oi, hoi, _⟩ := id hit
  obtain ⟨ol, hol, _⟩ := id hl
  refine ⟨⟨_, hS, rfl⟩, F.args_list_init_2 _ _, list_init_rev (A := A.in1) hh (hit.at fun o e => Heap.get?_push_of_some _ e) (hl.push _) hne hn (Nat.ne_of_gt (Heap.lt_size hoi)) (Nat.ne_of_gt (Heap.lt_size hol)) hS fun s' acc' c' k e hS' hacc => ?_⟩
  rw [e]
  exact ⟨rfl, hQ s'.heap s'.toks acc' c' (fun b o hb eo => k b o (Nat.ne_of_lt (Heap.lt_size eo)) hb (Heap.get?_push_of_some _ eo)) hS' hacc⟩
end
def tLstRev (K : PySem.W.Frag) (te : TE) : TE := fun σ H Q => te σ H fun v H1 => ∃ (a : Addr) (xs : List V), v = .ref a ∧ SqL K H1 a xs ∧ ∀ q, H1 q = none → Q (.ref q) (upd H1 q (.lst xs.reverse))
section
variable {X : Cx}
theorem pe_lstRev {e : Expr} {te : TE} {p p2 pos pos2 : Pos} (hc : X.calm = true) (hg : Gl X "list") (hm : X.mg "list" = none) (hg2 : Gl X "reversed") (hm2 : X.mg "reversed" = none) (he : PE X e te)
    (hs : starEach [e] X.env = (false, eval e X.env) :: starEach [] X.env := by rfl)
    (hs2 : starEach [.Call (.Name "reversed" p2) [e] [] pos2] X.env = (false, eval (.Call (.Name "reversed" p2) [e] [] pos2) X.env) :: starEach [] X.env := by rfl) :
    PE X (.Call (.Name "list" p) [.Call (.Name "reversed" p2) [e] [] pos2] [] pos) (tLstRev X.K te) := by
  refine ⟨fun pins s σ H Q I h => ?_⟩
  refine Call_ (ld_blt I hg hm boot_list (PyProof.Rows.callWith_type1 (args_cons (Call_ (ld_blt I hg2 hm2 PyProof.Rows.boot_reversed (PyProof.Rows.callWith_type1 (args_cons (thn (he.run pins s σ H _ I h) fun u s1 ⟨v, H1, I1, r1, q1⟩ => args_nil ?_) hs) hs rfl))) hs2) hs2 rfl))
  obtain ⟨a, xs, ev, hq, q⟩ := q1
  subst ev
  obtain rfl : u = Value.ref a := r1
  obtain ⟨its, rv, p', hz⟩ := I1.list hq
  refine call_reversed_list p'.isList (args_nil ?_)
  have k0 : ∀ b o, s1.heap.get? b = some o → (s1.heap.push (revObj a ((its.toArray.size : Int) - 1))).get? b = some o := fun b o e => Heap.get?_push_of_some _ e
  have I2 : Inv X pins σ H1 { s1 with heap := s1.heap.push (revObj a ((its.toArray.size : Int) - 1)) } := I1.kept (t' := s1.toks) k0
  obtain ⟨f0, f1, f2, f3, f4, f5⟩ := I1.fpOk (H' := H1) (b := s1.heap.objs.size) (Nat.le_refl _) (I1.hok.fresh (Nat.le_refl _))
  have hl := p'.isList
  obtain ⟨ol, hol, _⟩ := id hl
  have hn : its.toArray.size ≤ sizeLine := by rw [List.size_toArray, ← rv.length]; exact hz
  refine call_list_rev (s := { s1 with heap := s1.heap.push (revObj a ((its.toArray.size : Int) - 1)) }) (I1.ok.hd hc) ⟨_, Heap.get?_push_size _ rfl, rfl, rfl⟩ (hl.push _) (Nat.ne_of_lt (Heap.lt_size hol)) hn fun h' tk acc c' hk e' hi => ?_
  have hsz : (s1.heap.push (revObj a ((its.toArray.size : Int) - 1))).objs.size = s1.heap.objs.size + 1 := Heap.size_push ..
  rw [hsz] at e' ⊢
  refine ⟨.ref (s1.heap.objs.size + 1), upd H1 (s1.heap.objs.size + 1) (.lst xs.reverse), I1.laid (t' := tk) (fun b o e => hk b o (Nat.ne_of_lt (Heap.lt_size e)) (k0 b o e)) (Nat.le_succ _) (show ObjOk X.prog X.w _ _ _ (.lst xs.reverse) from ⟨by rw [List.length_reverse]; exact hz, acc.toList, c', RT.vals_rev rv hi, ?_⟩), rfl, q _ (I1.hok.fresh (Nat.le_succ _))⟩
  rw [Array.toArray_toList]
  exact e'
end
end TkS
set_option Elab.async false
set_option linter.all false
set_option maxRecDepth 100000
set_option maxHeartbeats 4000000
/-! how long a shown list of pairs of small numbers is -/
namespace TkS
open PySem PySem.Spec PyProof.Rows L2
theorem small_pair {a b : Int} (a0 : 0 ≤ a) (a1 : a < 5) (b0 : 0 ≤ b) (b1 : b < 5) :
    (PyData.shown (.tuple [.int a, .int b])).length ≤ 10 ∧ (PyData.shown (.list [.int a, .int b])).length ≤ 10 ∧ PyData.showable (.tuple [.int a, .int b]) = true ∧ PyData.showable (.list [.int a, .int b]) = true := by
  have ha : a = 0 ∨ a = 1 ∨ a = 2 ∨ a = 3 ∨ a = 4 := by omega
  have hb : b = 0 ∨ b = 1 ∨ b = 2 ∨ b = 3 ∨ b = 4 := by omega
  rcases ha with rfl | rfl | rfl | rfl | rfl <;> rcases hb with rfl | rfl | rfl | rfl | rfl <;> decide +kernel
theorem textFrom_le (n : Nat) : ∀ (ts : List Str) (k : Nat) (acc : Str), (∀ t ∈ ts, t.length ≤ n) → (textFrom k acc ts).length ≤ acc.length + ts.length * (n + 2)
  | [], _, acc, _ => by
    show acc.length ≤ acc.length + _
    omega
  | t :: r, k, acc, h => by
    have ih := textFrom_le n r (k + 1) (acc ++ (if k > 0 then ", " else "" : String) ++ t) fun u m => h u (List.mem_cons_of_mem _ m)
    have e : (acc ++ (if k > 0 then ", " else "" : String) ++ t).length = acc.length + (if k > 0 then 2 else 0) + t.length := by
      rw [strLen_append, strLen_append]
      split <;> rfl
    have ht := h t List.mem_cons_self
    have e3 : (t :: r).length * (n + 2) = r.length * (n + 2) + (n + 2) := by
      rw [List.length_cons, Nat.succ_mul]
    rw [e] at ih
    show (textFrom (k + 1) _ r).length ≤ _
    rw [e3]
    have hb : (if k > 0 then 2 else 0 : Nat) ≤ 2 := by split <;> omega
    omega
def SmallPair (d : PyData) : Prop := ∃ a b : Int, 0 ≤ a ∧ a < 5 ∧ 0 ≤ b ∧ b < 5 ∧ (d = .tuple [.int a, .int b] ∨ d = .list [.int a, .int b])
theorem small_show {d : PyData} (h : SmallPair d) : d.shown.length ≤ 10 ∧ d.showable = true ∧ d.hasDict = false ∧ d.depth ≤ 1 := by
  obtain ⟨a, b, a0, a1, b0, b1, rfl | rfl⟩ := h
  · obtain ⟨h1, _, h3, _⟩ := small_pair a0 a1 b0 b1
    exact ⟨h1, h3, by simp [PyData.hasDict, PyData.hasDictAll], by simp [PyData.depth, PyData.depthAll]⟩
  · obtain ⟨_, h2, _, h4⟩ := small_pair a0 a1 b0 b1
    exact ⟨h2, h4, by simp [PyData.hasDict, PyData.hasDictAll], by simp [PyData.depth, PyData.depthAll]⟩
theorem shown_pairs {ds : List PyData} (h : ∀ d ∈ ds, SmallPair d) (hl : ds.length ≤ 30) : (PyData.list ds).showable = true ∧ (PyData.list ds).hasDict = false ∧ (PyData.list ds).depth ≤ 60 ∧ (PyData.list ds).shown.length ≤ sizeLine := by
  have key : PyData.showableAll ds = true ∧ PyData.hasDictAll ds = false ∧ PyData.depthAll ds ≤ 1 ∧ (∀ t ∈ PyData.shownAll ds, t.length ≤ 10) ∧ (PyData.shownAll ds).length = ds.length := by
    clear hl
    induction ds with
    | nil => exact ⟨by simp [PyData.showableAll], by simp [PyData.hasDictAll], by simp [PyData.depthAll], by simp [PyData.shownAll], by simp [PyData.shownAll]⟩
    | cons d ds ih =>
      obtain ⟨i1, i2, i3, i4, i5⟩ := ih fun x m => h x (List.mem_cons_of_mem _ m)
      obtain ⟨s1, s2, s3, s4⟩ := small_show (h d List.mem_cons_self)
      refine ⟨by simp [PyData.showableAll, s2, i1], by simp [PyData.hasDictAll, s3, i2], by simp only [PyData.depthAll]; omega, fun t m => ?_, by simp [PyData.shownAll, i5]⟩
      rw [PyData.shownAll] at m
      rcases List.mem_cons.mp m with e | e
      · rw [e]
        exact s1
      · exact i4 t e
  obtain ⟨k1, k2, k3, k4, k5⟩ := key
  refine ⟨by simp [PyData.showable, k1], by simp [PyData.hasDict, k2], by simp only [PyData.depth]; omega, ?_⟩
  have e := textFrom_le 10 (PyData.shownAll ds) 0 "[" k4
  rw [k5] at e
  have e1 : (PyData.list ds).shown = textFrom 0 "[" (PyData.shownAll ds) ++ "]" := by
    simp only [PyData.shown, listText]
  rw [e1, strLen_append]
  have e2 : (("[" : Str)).length = 1 := rfl
  have e3 : (("]" : Str)).length = 1 := rfl
  rw [e2] at e
  rw [e3]
  have : 1000 ≤ sizeLine := by decide
  omega
end TkS
set_option Elab.async false
set_option linter.all false
set_option maxRecDepth 100000
set_option maxHeartbeats 4000000
/-! comprehensions over a list that is made on the way, and over zip -/
namespace TkS
open PySem PySem.Spec PyProof.Rows L2
theorem lc_listD {K : PySem.W.Frag} {a : Addr} {xs : List V} {ds : List PyData} {tt : TT} {te : TE} {vs : List Nat} {σ : L2.St} {H : Hp} {D : Addr} {Qd : Hp → Prop} {j : Nat} (f : PyData → Bool) (e : PyData → PyData)
    (hq : SqL K H a xs) (hx : DqAll H xs ds) (nD : H D = none) (hl : ds.length ≤ 900) (hw : ∀ x : V, wipe ((wipe σ vs).set j (some x)) vs = wipe σ vs)
    (ht : ∀ (i : Nat) (x : V) (d : PyData) (H' : Hp) (Q : Bool → Hp → Prop), ds[i]? = some d → Same H H' → Dq H' x d → (∀ H'', Same H' H'' → Q (f d) H'') → tt ((wipe σ vs).set j (some x)) H' Q)
    (he : ∀ (i : Nat) (x : V) (d : PyData) (H' : Hp) (Q : VK), ds[i]? = some d → f d = true → Same H H' → Dq H' x d → (∃ acc, H' D = some (.lst acc)) → (∀ y H'', Same H' H'' → Dq (TkS.Off D H'') y (e d) → Q y H'') → te ((wipe σ vs).set j (some x)) H' Q)
    (hd : ∀ H', Same H H' → Dq H' (.ref D) (.list ((ds.filter f).map e)) → Qd H') :
    ∃ W : Nat → Nat → Hp → Prop, (∃ m, W 0 m (upd H D (.lst []))) ∧ ∀ i m H, W i m H →
      ((Itl K a).stop i H ∧ Qd H) ∨ ((Itl K a).go i H ∧ ∃ Nx : Hp → Prop, (∀ H', Nx H' → ∃ m', m' < m ∧ W (i + 1) m' H') ∧ ∀ x H', (Itl K a).yld i H x H' → gName j x (wipe σ vs) H' fun σ2 H2 => wipe σ2 vs = wipe σ vs ∧ tt σ2 H2 fun b H3 =>
        if b = true then te σ2 H3 fun y H4 => ∃ acc, H4 D = some (.lst acc) ∧ acc.length < sizeLine ∧ Nx (upd H4 D (.lst (acc ++ [y]))) else Nx H3) := by
  refine lc_list (xs := xs) (fun i H' => Acc H D (((ds.take i).filter f).map e) H') (Acc.nil nD) (fun i H' _ hP => hP.1.seq hq) (fun i x H' hxi hP => ?_) (fun H' hP => ?_)
  · obtain ⟨d, hdi, kd⟩ := hx.get hxi
    have kd1 := kd.same hP.1
    refine ⟨hw _, ht i x d H' _ hdi hP.1 kd1 fun H2 s2 => ?_⟩
    have hP2 := hP.mv s2
    cases c : f d with
    | true =>
      refine he i x d H2 _ hdi c hP2.1 (kd1.same s2) ⟨_, hP2.2.choose_spec.1⟩ fun y H3 s3 k => ?_
      rw [filter_snoc _ _ hdi, if_pos c]
      refine hP2.put nD ?_ s3 k
      have := len_ft f e (ds.take i)
      rw [List.length_take] at this
      omega
    | false =>
      show Acc _ _ _ _
      rw [filter_snoc _ _ hdi, c, if_neg Bool.false_ne_true]
      exact hP2
  · rw [hx.len, List.take_length] at hP
    exact hd H' hP.1 hP.dq
theorem lc_zipS {t1 t2 : Bool} {K : PySem.W.Frag} {a b : Addr} {xs ys : List V} {g : TG} {tt : TT} {te : TE} {vs : List Nat} {σ : L2.St} {H1 : Hp} {D : Addr} {Qd : Hp → Prop} (hl : xs.length = ys.length) (Pv : Nat → Hp → Prop) (h0 : Pv 0 (upd H1 D (.lst []))) (hq : ∀ i H, Pv i H → RZM.SqS t1 K H a xs ∧ RZM.SqS t2 K H b ys)
    (hs : ∀ (i : Nat) (x y : V) (T : Addr) (H : Hp), xs[i]? = some x → ys[i]? = some y → Pv i H → H T = none → g (.ref T) (wipe σ vs) (upd H T (.tup [x, y])) fun σ2 H2 => wipe σ2 vs = wipe σ vs ∧ tt σ2 H2 fun b H3 =>
      if b = true then te σ2 H3 fun y H4 => ∃ acc, H4 D = some (.lst acc) ∧ acc.length < sizeLine ∧ Pv (i + 1) (upd H4 D (.lst (acc ++ [y]))) else Pv (i + 1) H3) (hd : ∀ H, Pv xs.length H → Qd H) :
    ∃ W : Nat → Nat → Hp → Prop, (∃ m, W 0 m (upd H1 D (.lst []))) ∧ ∀ i m H, W i m H →
      ((RZM.ItzS t1 t2 K a b).stop i H ∧ Qd H) ∨ ((RZM.ItzS t1 t2 K a b).go i H ∧ ∃ Nx : Hp → Prop, (∀ H', Nx H' → ∃ m', m' < m ∧ W (i + 1) m' H') ∧ ∀ x H', (RZM.ItzS t1 t2 K a b).yld i H x H' → g x (wipe σ vs) H' fun σ2 H2 => wipe σ2 vs = wipe σ vs ∧ tt σ2 H2 fun b H3 =>
        if b = true then te σ2 H3 fun y H4 => ∃ acc, H4 D = some (.lst acc) ∧ acc.length < sizeLine ∧ Nx (upd H4 D (.lst (acc ++ [y]))) else Nx H3) := by
  refine ⟨fun i m H => m = xs.length - i ∧ i ≤ xs.length ∧ Pv i H, ⟨xs.length, rfl, Nat.zero_le _, h0⟩, ?_⟩
  rintro i m H ⟨rfl, hi, p⟩
  obtain ⟨qx, qy⟩ := hq i H p
  rcases Nat.lt_or_ge i xs.length with hlt | hge
  · refine .inr ⟨⟨xs, ys, _, _, qx, qy, List.getElem?_eq_getElem hlt, List.getElem?_eq_getElem (by omega)⟩, Pv (i + 1), fun H' p' => ⟨xs.length - (i + 1), by omega, rfl, hlt, p'⟩, fun v H' y => ?_⟩
    obtain ⟨T, x', y', rfl, hT, rfl, f1, f2⟩ := y
    exact hs i x' y' T H (f1 xs qx) (f2 ys qy) p hT
  · have e : i = xs.length := by omega
    subst e
    exact .inl ⟨⟨xs, ys, qx, qy, Or.inl (Nat.le_refl _)⟩, hd H p⟩
end TkS
set_option Elab.async false
set_option linter.all false
set_option maxRecDepth 100000
set_option maxHeartbeats 4000000
/-! X() of an own error without __init__; any() of whole numbers; defs and calls that know that nothing is being printed -/
namespace TkS
open PySem PySem.Spec PyProof.Rows L2
theorem pmk_own0 {X : Cx} {C : Addr} {bmB : List Value} {B newId initId : String} {x : Str} {p pos : Pos} (F : ExcBaseFacts B newId initId bmB) (q : PySem.W.excIn X.K C bmB newId = true) (gC : X.mg x = some (.ref C)) (kC : PySem.W.keepIn X.K (.ref C) = true)
    (r : Raises X (.ref C)) (hg : Gl X x) (hdb : (x == ("__debug__" : Str)) = false := by decide) : PMk X (.Call (.Name x p) [] [] pos) (fun _ H Q => Q (.ref C) none H) := by
  intro pins s σ H Q I h
  refine wpAny_Call_Name_kw (ld_glob I hg gC ?_ hdb)
  refine PySem.W.callWith_K0 I.kIn kC ?_
  show wpAny _ _ (call (.ref C) []) _ _ _
  obtain ⟨bm, N, nm, qn, bs, hdct, sn, sub, ab, col, dd, k0, k1, k2, k3, k5, mN, hC, hN, hni, T⟩ := exc_obj I.kIn q
  refine wpAny_call_exc_subT F T hC hN hni (fun h' e hm => ?_) (Nat.zero_le _)
  exact mk_of I hm r h (I.hok.gone hm.new)
theorem truth_ints {prog : Program} {w : World} {A : Around} {ns : List Int} {its : List Value} (e : Vals (ns.map V.int) its) :
    TruthOf prog w A (fun i v => its.toArray[i]? = some v) (fun i => decide (ns.getD i 0 ≠ 0)) := fun i v s Q E hv hq => by
  have hv' : its[i]? = some v := by simpa using hv
  have hi : i < ns.length := by
    have := (List.getElem?_eq_some_iff.mp hv').1
    rw [← e.length, List.length_map] at this
    exact this
  obtain ⟨u, hu, t, rfl⟩ : ∃ u, its[i]? = some u ∧ ∃ t, u = Value.int (ns.getD i 0) t := by
    have h1 : (ns.map V.int)[i]? = some (.int (ns.getD i 0)) := by
      rw [List.getElem?_map, List.getElem?_eq_getElem hi, List.getD_eq_getElem?_getD, List.getElem?_eq_getElem hi]
      rfl
    obtain ⟨u, hu, r⟩ := e.get h1
    exact ⟨u, hu, r⟩
  rw [hv'] at hu
  cases hu
  have hq2 : Q (decide (ns.getD i 0 ≠ 0)) s := hq
  generalize ns.getD i 0 = z at hq2
  have z2 : decide (z ≠ 0) = (z != 0) := by
    by_cases c : z = 0
    · subst c
      rfl
    · rw [decide_eq_true c, bne_iff_ne.mpr c]
  rw [z2] at hq2
  exact PyProof.Rows.truthy_int hq2
theorem any_rangeI : ∀ ns : List Int, (List.range ns.length).any (fun i => decide (ns.getD i 0 ≠ 0)) = ns.any fun z => decide (z ≠ 0)
  | [] => rfl
  | b :: bs => by
    rw [List.length_cons, List.range_succ_eq_map, List.any_cons, List.any_map, List.any_cons, ← any_rangeI bs]
    all_goals rfl
def rAnyI (K : PySem.W.Frag) : List V → Hp → VK → Prop := fun vs H Q => ∃ (a : Addr) (ns : List Int), vs = [V.ref a] ∧ SqL K H a (ns.map V.int) ∧ Q (.bl (ns.any fun z => decide (z ≠ 0))) H
theorem cr_anyI {X : Cx} (hc : X.calm = true) : CallR X (.builtin "any") (rAnyI X.K) := by
  intro pins s σ H vs us Q I r h
  obtain ⟨a, bs, rfl, hs, q⟩ := h
  obtain ⟨its, rv, hl, _⟩ := I.list hs
  rw [Vals.ref1 r]
  refine call_any_walk (iter_any hl.isList fun s₂ e2 st hne => ?_)
  subst e2
  refine ⟨_, _, _, _, _, _, _, rfl, Walks.list (A := X.A.in1) (I.ok.hd hc) _ a hne its.toArray, st, truth_ints rv, fun h' tk hk => ?_⟩
  refine ⟨.bl _, H, I.kept fun b o eo => hk b o (fun hmem => ?_) (Heap.get?_push_of_some _ eo), ?_, q⟩
  · rcases List.mem_cons.mp hmem with e1 | hmem
    · exact absurd (e1 ▸ Heap.lt_size eo) (Nat.lt_irrefl _)
    · cases hmem
  · show Value.bool _ = Value.bool _
    rw [← any_rangeI, List.size_toArray, ← rv.length, List.length_map]
/-- a def's promise where nothing is being printed -/
structure FnG (P : Program) (w : World) (K : PySem.W.Frag) (mg : Str → Option Value) (base : Heap) (CX : CXT) (k : Nat) (f : Addr) (fd : FuncData) (ps : List Str) (sp : Sp) : Prop where
  len : ∀ vs H Q E, sp vs H Q E → vs.length = ps.length
  run : ∀ (A : Around) (outer : List Env) (s : Shared) (H : Hp) (args : Args) (us : List Value) (vs : List V) (Q : VK) (E : XK), A.guards = some [] → Room k A → Env0 P w K mg base A outer s H → BindsTo s fd args (ps.zip us) → Vals vs us → sp vs H Q E →
    codeAny (model P w) A (.call (.ref f) args) (CR CX outer P w H s Q E) s
theorem fnG_of {CX : CXT} {P : Program} {w : World} {K : PySem.W.Frag} {mg : Str → Option Value} {base : Heap} {k : Nat} {f : Addr} {name qual : Str} {params : Arguments} {body : List Stmt} {scope : Scope} {dV kV doc pm cdv ct oc : Value} {an od : Option Addr}
    {osl : Array (Option Value)} {N ps : List Str} {sp : Sp} (lk : K.lookup f = some ⟨oc, od, .func (PySem.W.fnOf name qual params body scope dV kV doc pm an cdv ct), osl⟩) (hcd : PySem.W.codeIn K cdv qual = true) (S : FnScope N ps scope)
    (len : ∀ vs H Q E, sp vs H Q E → vs.length = ps.length)
    (hbody : ∀ (A : Around) (outer : List Env) (s : Shared) (H : Hp) (vs : List V) (Q : VK) (E : XK), A.guards = some [] → Room k (A.deeper (envOfC qual scope s.heap.objs.size f cdv)) → sp vs H Q E →
      ∃ t, PSs (cxOf CX P w K mg base N qual scope f cdv A outer s H E) body t ∧ t { nx := fun _ H' => Q .non H', rt := Q } (start N vs) H) :
    FnG P w K mg base CX (k + 1) f (PySem.W.fnOf name qual params body scope dV kV doc pm an cdv ct) ps sp := by
  refine ⟨len, fun A outer s H args us vs Q E gd hr e0 hb r hsp => ?_⟩
  have hl := len _ _ _ _ hsp
  have KX : K.In s.heap := e0.mod.kin.keeps fun b o e => (e0.bs b o e).1
  have lim : s.heap.NoLimit := e0.mod.nolimit.keeps fun b o e => (e0.bs b o e).1
  have hkind : ∀ y ∈ ps.zip us, scope.names.lookup y.1 = some .local ∨ (scope.names.lookup y.1 = some .cell ∧ ((cellsFrom (s.heap.objs.size + 1) scope.names []).lookup y.1).isSome = true) := fun ⟨n, v⟩ hy => by
    rcases S.par n (List.of_mem_zip hy).1 with q | q
    · exact .inl q
    · exact .inr ⟨q, PySem.W.cellsFrom_some _ _ _ (.inl q)⟩
  refine codeAny_call_function hr.depth (KX _ _ lk) rfl S.co S.gen rfl (PySem.W.codeRec_of KX hcd) (hb _ _ _ _ ?_)
  refine wpAny_newFunctionEnv_cells S.kind hkind fun env he s1 x => ?_
  subst he
  refine ⟨lim.keeps x.toInCall.keep, codeAny_func ?_⟩
  obtain ⟨t, ht, hq⟩ := hbody A outer s H vs Q E gd (hr.deeper _) hsp
  have I : Inv (cxOf CX P w K mg base N qual scope f cdv A outer s H E) [] (start N vs) H s1 := inv_start S hr.hd e0 hl r x
  refine wpAny_mono (ht.run [] s1 (start N vs) H _ I hq) (fun fl s' hs => ?_) fun e s' hs => hs
  have fin : ∀ {σ' : L2.St} {H' : Hp} {v : V} {u : Value}, Inv (cxOf CX P w K mg base N qual scope f cdv A outer s H E) [] σ' H' s' → RelV v u → Q v H' → CE outer P w H s Q u s' :=
    fun {σ' H' v u} J rv q => ⟨v, H', J.os, J.bare, J.base, J.hok, rv, q⟩
  cases fl with
  | ret u =>
    obtain ⟨v, σ', H', J, rv, q⟩ := hs
    exact fin J rv q
  | next =>
    obtain ⟨σ', H', J, q⟩ := hs
    exact fin (v := V.non) (u := Value.none) J rfl q
  | brk =>
    obtain ⟨_, _, _, q⟩ := hs
    exact False.elim q
  | cont =>
    obtain ⟨_, _, _, q⟩ := hs
    exact False.elim q
theorem FnG.of_fun {P : Program} {w : World} {K : PySem.W.Frag} {mg : Str → Option Value} {base : Heap} {x qual : Str} {st : Stmt} {f : Addr} {fd : FuncData} {N ps : List Str} {k : Nat} {sp : Sp} (F : Fun K x qual st f fd) (S : FnScope N ps (defScope st)) (len : ∀ vs H Q E, sp vs H Q E → vs.length = ps.length)
    (hbody : ∀ (cdv : Value) (A : Around) (outer : List Env) (s : Shared) (H : Hp) (vs : List V) (Q : VK) (E : XK), A.guards = some [] → Room k (A.deeper (envOfC qual (defScope st) s.heap.objs.size f cdv)) → sp vs H Q E →
      ∃ t, PSs (cxOf CX0 P w K mg base N qual (defScope st) f cdv A outer s H E).nox (defBody st) t ∧ t { nx := fun _ H' => Q .non H', rt := Q } (start N vs) H) : FnG P w K mg base CX0 (k + 1) f fd ps sp := by
  obtain ⟨oc, od, kV, doc, pm, an, cdv, ct, osl, rfl, lk, hcd⟩ := F.ex
  refine fnG_of lk hcd S len fun A outer s H vs Q E gd hr hsp => ?_
  obtain ⟨t, h, q⟩ := hbody cdv A outer s H vs Q E gd hr hsp
  exact ⟨t, h.nox, q⟩
section
variable {X : Cx} {CX : CXT} {k : Nat} {f : Addr} {fd : FuncData} {ps : List Str} {sp : Sp} {dvs : List V} {ds : List Value} {E : XK} {x : Str} {p pos : Pos} {e : Expr} {es : List Expr} {t : TA}
theorem pe_callG (gd : X.A.guards = some []) (F : FnG X.prog X.w X.K X.mg X.base CX k f fd ps sp) (hr : Room k X.A) (hg : Gl X x) (hm : X.mg x = some (.ref f)) (hk : PySem.W.keepIn X.K (.ref f) = true) (hb : Binds X.K fd ps ds) (hd : Vals dvs ds) (hx : Passes CX X E)
    (ha : PA X (e :: es) t) (hdb : (x == ("__debug__" : Str)) = false := by decide) (he : starEach (e :: es) X.env = (false, eval e X.env) :: starEach es X.env := by rfl) (hpl : (backTo pos (starEach es X.env)).any (·.1) = false := by rfl) :
    PE X (.Call (.Name x p) (e :: es) [] pos) (tCall sp dvs E t) := by
  refine ⟨fun pins s σ H Q I h => ?_⟩
  refine wpAny_Call_Name_kw (ld_glob I hg hm ?_ hdb)
  refine PySem.W.callWith_K (h₀ := X.base) I.ok.mod.kin hk (thn (ha.run pos pins s σ H _ I h) fun us s1 ⟨vs, H1, I1, r, q⟩ => ⟨I1.kIn, ?_⟩) he hpl
  have r2 : Vals (vs ++ dvs) (us ++ ds) := r.append hd
  have hl : (us ++ ds).length = ps.length := by rw [← r2.length]; exact F.len _ _ _ _ q
  refine wpAny_call (codeAny_mono (F.run X.A X.stack s1 H1 ⟨us, []⟩ (us ++ ds) (vs ++ dvs) Q E gd hr I1.env0 (hb s1 us I1.kIn hl) r2 q) fun r s' hq => ?_)
  cases r with
  | error e => exact hx pins σ H1 s1 e s' I1 hq
  | ok fl =>
    cases fl with
    | ret u => exact I1.after hq
    | next => exact False.elim hq
    | brk => exact False.elim hq
    | cont => exact False.elim hq
end
end TkS
set_option Elab.async false
set_option linter.all false
set_option maxRecDepth 100000
set_option maxHeartbeats 4000000
/-! comprehensions whose items are known values: over zip, over a list or a tuple, over a range -/
namespace TkS
open PySem PySem.Spec PyProof.Rows L2
theorem sqs_same {t : Bool} {K : PySem.W.Frag} {H H' : Hp} {a : Addr} {xs : List V} (s : Same H H') (h : RZM.SqS t K H a xs) : RZM.SqS t K H' a xs := by
  cases t with
  | true => exact seqT_same s h
  | false => exact s.seq h
theorem sqs_of {K : PySem.W.Frag} {H : Hp} {a : Addr} {xs : List V} (h : Sq K H a xs) : ∃ t, RZM.SqS t K H a xs := h.elim (fun z => ⟨false, z⟩) (fun z => ⟨true, z⟩)
theorem range_snoc {α : Type} (f : Nat → Bool) (e : Nat → α) (i : Nat) : ((List.range (i + 1)).filter f).map e = if f i = true then ((List.range i).filter f).map e ++ [e i] else ((List.range i).filter f).map e := by
  rw [List.range_succ, List.filter_append, List.map_append]
  cases c : f i with
  | true =>
    rw [if_pos rfl, List.filter_cons_of_pos c]
    rfl
  | false =>
    rw [if_neg Bool.false_ne_true, List.filter_cons_of_neg (by rw [c]; exact Bool.false_ne_true)]
    exact List.append_nil _
theorem range_len {α : Type} (f : Nat → Bool) (e : Nat → α) (i : Nat) : (((List.range i).filter f).map e).length ≤ i := by
  rw [List.length_map]
  exact Nat.le_trans (List.length_filter_le _ _) (by rw [List.length_range]; exact Nat.le_refl _)
/-- the list under way -/
def AccV (H0 : Hp) (D : Addr) (vs : List V) (H' : Hp) : Prop := Same H0 H' ∧ H' D = some (.lst vs)
theorem AccV.put {H0 H' H'' : Hp} {D : Addr} {vs : List V} {v : V} (a : AccV H0 D vs H') (nD : H0 D = none) (hl : vs.length ≤ 900) (s : Same H' H'') :
    ∃ acc, H'' D = some (.lst acc) ∧ acc.length < sizeLine ∧ AccV H0 D (vs ++ [v]) (upd H'' D (.lst (acc ++ [v]))) := by
  refine ⟨vs, s _ _ a.2, small1000 (by omega), fun b o e => ?_, upd_same⟩
  rw [upd_ne (ne_of_none e nD)]
  exact s _ _ (a.1 _ _ e)
theorem AccV.mv {H0 H' H'' : Hp} {D : Addr} {vs : List V} (a : AccV H0 D vs H') (s : Same H' H'') : AccV H0 D vs H'' := ⟨a.1.trans s, s _ _ a.2⟩
theorem lc_zipV {t1 t2 : Bool} {K : PySem.W.Frag} {a b : Addr} {xs ys : List V} {g : TG} {tt : TT} {te : TE} {vs : List Nat} {σ : L2.St} {H1 : Hp} {D : Addr} {Qd : Hp → Prop} (f : Nat → Bool) (e : Nat → V) (hl : xs.length = ys.length) (hn : xs.length ≤ 900) (nD : H1 D = none)
    (qx : RZM.SqS t1 K H1 a xs) (qy : RZM.SqS t2 K H1 b ys)
    (hs : ∀ (i : Nat) (x y : V) (T : Addr) (H' : Hp) (R : V → Hp → Prop) (N : Hp → Prop), xs[i]? = some x → ys[i]? = some y → Same H1 H' → H' T = some (.tup [x, y]) → (f i = true → ∀ H'', Same H' H'' → R (e i) H'') → (f i = false → ∀ H'', Same H' H'' → N H'') →
      g (.ref T) (wipe σ vs) H' fun σ2 H2 => wipe σ2 vs = wipe σ vs ∧ tt σ2 H2 fun b H3 => if b = true then te σ2 H3 R else N H3)
    (hd : ∀ H', Same H1 H' → H' D = some (.lst (((List.range xs.length).filter f).map e)) → Qd H') :
    ∃ W : Nat → Nat → Hp → Prop, (∃ m, W 0 m (upd H1 D (.lst []))) ∧ ∀ i m H, W i m H →
      ((RZM.ItzS t1 t2 K a b).stop i H ∧ Qd H) ∨ ((RZM.ItzS t1 t2 K a b).go i H ∧ ∃ Nx : Hp → Prop, (∀ H', Nx H' → ∃ m', m' < m ∧ W (i + 1) m' H') ∧ ∀ x H', (RZM.ItzS t1 t2 K a b).yld i H x H' → g x (wipe σ vs) H' fun σ2 H2 => wipe σ2 vs = wipe σ vs ∧ tt σ2 H2 fun b H3 =>
        if b = true then te σ2 H3 fun y H4 => ∃ acc, H4 D = some (.lst acc) ∧ acc.length < sizeLine ∧ Nx (upd H4 D (.lst (acc ++ [y]))) else Nx H3) := by
  refine lc_zipS hl (fun i H' => AccV H1 D (((List.range i).filter f).map e) H') ⟨same_new nD, upd_same⟩ (fun i H' hP => ⟨sqs_same hP.1 qx, sqs_same hP.1 qy⟩) (fun i x y T H' hx hy hP nT => ?_) (fun H' hP => hd H' hP.1 hP.2)
  have hi : i < xs.length := (List.getElem?_eq_some_iff.mp hx).1
  have sT : Same H' (upd H' T (.tup [x, y])) := same_new nT
  have hP2 := hP.mv sT
  refine hs i x y T _ _ _ hx hy hP2.1 upd_same (fun c H'' s => ?_) (fun c H'' s => ?_)
  · rw [range_snoc, if_pos c]
    exact hP2.put nD (Nat.le_trans (range_len _ _ _) (by omega)) s
  · show AccV _ _ _ _
    rw [range_snoc, c, if_neg Bool.false_ne_true]
    exact hP2.mv s
theorem lc_seqV {K : PySem.W.Frag} {a : Addr} {xs : List V} {tl : TE} {g : TG} {tt : TT} {te : TE} {vs : List Nat} {σ : L2.St} {H : Hp} {Q : VK} (f : Nat → Bool) (e : Nat → V)
    (ht0 : ∀ Q : VK, Q (.ref a) H → tl σ H Q) (hq : Sq K H a xs) (hn : xs.length ≤ 900)
    (hs : ∀ (i : Nat) (x : V) (H' : Hp) (R : V → Hp → Prop) (N : Hp → Prop), xs[i]? = some x → Same H H' → (f i = true → ∀ H'', Same H' H'' → R (e i) H'') → (f i = false → ∀ H'', Same H' H'' → N H'') →
      g x (wipe σ vs) H' fun σ2 H2 => wipe σ2 vs = wipe σ vs ∧ tt σ2 H2 fun b H3 => if b = true then te σ2 H3 R else N H3)
    (hd : ∀ D H', H D = none → Same H H' → H' D = some (.lst (((List.range xs.length).filter f).map e)) → Q (.ref D) H') :
    tLc (iSeq K tl) g tt te vs σ H Q := by
  refine lc_seq (fun D i H' => AccV H D (((List.range i).filter f).map e) H') ht0 hq (fun D nD => ⟨same_new nD, upd_same⟩) (fun D i H' _ _ hP => hP.1) (fun D i x H' nD hx hP => ?_) (fun D H' nD hP => hd D H' nD hP.1 hP.2)
  have hi : i < xs.length := (List.getElem?_eq_some_iff.mp hx).1
  refine hs i x _ _ _ hx hP.1 (fun c H'' s => ?_) (fun c H'' s => ?_)
  · rw [range_snoc, if_pos c]
    exact hP.put nD (Nat.le_trans (range_len _ _ _) (by omega)) s
  · show AccV _ _ _ _
    rw [range_snoc, c, if_neg Bool.false_ne_true]
    exact hP.mv s
theorem range_all {α : Type} (e : Nat → α) (n : Nat) : ((List.range n).filter fun _ => true).map e = (List.range n).map e := by
  rw [List.filter_eq_self.mpr fun _ _ => rfl]
theorem ret_cb_lc {r : List V → Hp → VK → Prop} {wi : TI} {g : TG} {tt : TT} {te : TE} {vs : List Nat} {D : Ends} {σ : L2.St} {H : Hp} (h : tLc wi g tt te vs σ H fun v H1 => r [v] H1 D.rt) : tRet (tCB r (tCons (tLc wi g tt te vs) tNil)) D σ H := h
theorem lc_tupV {K : PySem.W.Frag} {a : Addr} {xs : List V} {g : TG} {tt : TT} {te : TE} {vs : List Nat} {σ : L2.St} {H : Hp} {D : Addr} {Qd : Hp → Prop} (f : Nat → Bool) (e : Nat → V)
    (hq : SqT K H a xs) (hn : xs.length ≤ 900) (nD : H D = none)
    (hs : ∀ (i : Nat) (x : V) (H' : Hp) (R : V → Hp → Prop) (N : Hp → Prop), xs[i]? = some x → Same H H' → (f i = true → ∀ H'', Same H' H'' → R (e i) H'') → (f i = false → ∀ H'', Same H' H'' → N H'') →
      g x (wipe σ vs) H' fun σ2 H2 => wipe σ2 vs = wipe σ vs ∧ tt σ2 H2 fun b H3 => if b = true then te σ2 H3 R else N H3)
    (hd : ∀ H', Same H H' → H' D = some (.lst (((List.range xs.length).filter f).map e)) → Qd H') :
    ∃ W : Nat → Nat → Hp → Prop, (∃ m, W 0 m (upd H D (.lst []))) ∧ ∀ i m H, W i m H →
      ((Itt K a).stop i H ∧ Qd H) ∨ ((Itt K a).go i H ∧ ∃ Nx : Hp → Prop, (∀ H', Nx H' → ∃ m', m' < m ∧ W (i + 1) m' H') ∧ ∀ x H', (Itt K a).yld i H x H' → g x (wipe σ vs) H' fun σ2 H2 => wipe σ2 vs = wipe σ vs ∧ tt σ2 H2 fun b H3 =>
        if b = true then te σ2 H3 fun y H4 => ∃ acc, H4 D = some (.lst acc) ∧ acc.length < sizeLine ∧ Nx (upd H4 D (.lst (acc ++ [y]))) else Nx H3) := by
  refine lc_tup (fun i H' => AccV H D (((List.range i).filter f).map e) H') ⟨same_new nD, upd_same⟩ (fun i H' _ hP => seqT_same hP.1 hq) (fun i x H' hx hP => ?_) (fun H' hP => hd H' hP.1 hP.2)
  have hi : i < xs.length := (List.getElem?_eq_some_iff.mp hx).1
  refine hs i x _ _ _ hx hP.1 (fun c H'' s => ?_) (fun c H'' s => ?_)
  · rw [range_snoc, if_pos c]
    exact hP.put nD (Nat.le_trans (range_len _ _ _) (by omega)) s
  · show AccV _ _ _ _
    rw [range_snoc, c, if_neg Bool.false_ne_true]
    exact hP.mv s
theorem nx_go {f : L2.St → Hp → Prop} {D : Ends} {σ : L2.St} {H : Hp} (hD : D.nx = f) (h : f σ H) : tNext D σ H := by
  unfold tNext
  rw [hD]
  exact h
theorem if_lcOp {r : R2} {wi : TI} {g : TG} {tt : TT} {te tb : TE} {vs : List Nat} {t1 t2 rest : TS} {D : Ends} {σ : L2.St} {H : Hp}
    (h : tLc wi g tt te vs σ H fun x H1 => tb σ H1 fun y H2 => r x y H2 fun v H3 => ∃ b, v = .bl b ∧ if b = true then t1 { D with nx := rest D } σ H3 else t2 { D with nx := rest D } σ H3) :
    tSeq (tIfS (tTest (tOp r (tLc wi g tt te vs) tb)) t1 t2) rest D σ H := h
theorem lc_listD2 {K : PySem.W.Frag} {a : Addr} {xs : List V} {ds : List PyData} {tt : TT} {te : TE} {vs : List Nat} {σ : L2.St} {H : Hp} {D : Addr} {Qd : Hp → Prop} {j : Nat} (f : PyData → Bool) (e : PyData → PyData)
    (hq : SqL K H a xs) (hx : DqAll H xs ds) (nD : H D = none) (hl : ds.length ≤ 900) (hw : ∀ x : V, wipe ((wipe σ vs).set j (some x)) vs = wipe σ vs)
    (ht : ∀ (i : Nat) (x : V) (d : PyData) (H' : Hp) (Q : Bool → Hp → Prop), ds[i]? = some d → Same H H' → Dq H' x d → (∀ H'', Same H' H'' → Q (f d) H'') → tt ((wipe σ vs).set j (some x)) H' Q)
    (he : ∀ (i : Nat) (x : V) (d : PyData) (H' : Hp) (Q : VK), ds[i]? = some d → f d = true → Dq H x d → Same H H' → Dq H' x d → (∃ acc, H' D = some (.lst acc)) → (∀ y H'', Same H' H'' → Dq (TkS.Off D H'') y (e d) → Q y H'') → te ((wipe σ vs).set j (some x)) H' Q)
    (hd : ∀ H', Same H H' → Dq H' (.ref D) (.list ((ds.filter f).map e)) → Qd H') :
    ∃ W : Nat → Nat → Hp → Prop, (∃ m, W 0 m (upd H D (.lst []))) ∧ ∀ i m H, W i m H →
      ((Itl K a).stop i H ∧ Qd H) ∨ ((Itl K a).go i H ∧ ∃ Nx : Hp → Prop, (∀ H', Nx H' → ∃ m', m' < m ∧ W (i + 1) m' H') ∧ ∀ x H', (Itl K a).yld i H x H' → gName j x (wipe σ vs) H' fun σ2 H2 => wipe σ2 vs = wipe σ vs ∧ tt σ2 H2 fun b H3 =>
        if b = true then te σ2 H3 fun y H4 => ∃ acc, H4 D = some (.lst acc) ∧ acc.length < sizeLine ∧ Nx (upd H4 D (.lst (acc ++ [y]))) else Nx H3) := by
  refine lc_list (xs := xs) (fun i H' => Acc H D (((ds.take i).filter f).map e) H') (Acc.nil nD) (fun i H' _ hP => hP.1.seq hq) (fun i x H' hxi hP => ?_) (fun H' hP => ?_)
  · obtain ⟨d, hdi, kd⟩ := hx.get hxi
    have kd1 := kd.same hP.1
    refine ⟨hw _, ht i x d H' _ hdi hP.1 kd1 fun H2 s2 => ?_⟩
    have hP2 := hP.mv s2
    cases c : f d with
    | true =>
      refine he i x d H2 _ hdi c kd hP2.1 (kd1.same s2) ⟨_, hP2.2.choose_spec.1⟩ fun y H3 s3 k => ?_
      rw [filter_snoc _ _ hdi, if_pos c]
      refine hP2.put nD ?_ s3 k
      have := len_ft f e (ds.take i)
      rw [List.length_take] at this
      omega
    | false =>
      show Acc _ _ _ _
      rw [filter_snoc _ _ hdi, c, if_neg Bool.false_ne_true]
      exact hP2
  · rw [hx.len, List.take_length] at hP
    exact hd H' hP.1 hP.dq
theorem same_off {H H' : Hp} {D : Addr} (nD : H D = none) (s : Same H H') : Same H (TkS.Off D H') := fun b o e => off_at (ne_of_none e nD) (s _ _ e)
end TkS
set_option Elab.async false
set_option linter.all false
set_option maxRecDepth 100000
set_option maxHeartbeats 4000000
/-! errors with an own __init__ whose context is known to be None; a try whose suite raises another error -/
namespace TkS
open PySem PySem.Spec PyProof.Rows L2
theorem CX.ofN {P : Program} {w : World} {outer : List Env} {H : Hp} {s : Shared} {E : XK} {u : Value} {s' : Shared} (c : L2N.CX P w outer H s E u s') : L2.CX P w outer H s E u s' := by
  obtain ⟨a, B, H', cls, d, e, fl, r⟩ := c
  exact ⟨a, B, H', cls, d, e, L2H.flyingZ_imp (fun _ z => z.zc) fl, r⟩
theorem FnOk.ofN {P : Program} {w : World} {K : PySem.W.Frag} {mg : Str → Option Value} {base : Heap} {k : Nat} {f : Addr} {fd : FuncData} {ps : List Str} {sp : Sp} (F : FnOk P w K mg base (L2N.CX P w) k f fd ps sp) : FnOk P w K mg base (L2.CX P w) k f fd ps sp :=
  ⟨F.len, fun A outer s H args us vs Q E hr e0 hb r hsp => codeAny_mono (F.run A outer s H args us vs Q E hr e0 hb r hsp) fun r s' h => by
    cases r with
    | error e => exact CX.ofN h
    | ok fl => cases fl <;> exact h⟩
theorem Fun.okN {P : Program} {w : World} {K : PySem.W.Frag} {mg : Str → Option Value} {base : Heap} {x qual : Str} {st : Stmt} {f : Addr} {fd : FuncData} {N ps : List Str} {k : Nat} {sp : Sp} (F : Fun K x qual st f fd) (S : FnScope N ps (defScope st)) (len : ∀ vs H Q E, sp vs H Q E → vs.length = ps.length)
    (hbody : ∀ (cdv : Value) (A : Around) (outer : List Env) (s : Shared) (H : Hp) (vs : List V) (Q : VK) (E : XK), Room k (A.deeper (envOfC qual (defScope st) s.heap.objs.size f cdv)) → sp vs H Q E →
      ∃ t, PSs (cxOf (L2N.CX P w) P w K mg base N qual (defScope st) f cdv A outer s H E) (defBody st) t ∧ t { nx := fun _ H' => Q .non H', rt := Q } (start N vs) H) : FnOk P w K mg base (L2N.CX P w) (k + 1) f fd ps sp := by
  obtain ⟨oc, od, kV, doc, pm, an, cdv, ct, osl, rfl, lk, hcd⟩ := F.ex
  exact fn_of lk hcd S len fun A outer s H vs Q E hr hsp => hbody cdv A outer s H vs Q E hr hsp
section
variable {X : Cx} {e : Expr} {es : List Expr} {ta : TA} {p pos : Pos}
theorem mk_endN {pins : List (Addr × Obj)} {σ : L2.St} {H1 H2 : Hp} {Q : XK} {hp hp2 h2 : Heap} {g1 g2 : Array GenState} {d1 d2 : Drawn} {t1 t2 : Nat} {os1 os2 : OsState} {a C d p : Addr} {fs : List (Str × V)} (T : Raises X (.ref C)) (I1 : Inv X pins σ H1 ⟨hp, g1, d1, t1, os1⟩)
    (ha : hp.objs.size ≤ a) (k : ∀ b o, hp.get? b = some o → hp2.get? b = some o) (un : Un (frs X.stack) [] (upd H1 a (exo a C none)) H2 hp2 h2) (hok : HOk X.prog X.w H2 h2) (ho : os2 = os1) (hb : AllBare g2)
    (ea : H2 a = some (exo a C (some d))) (ed : H2 d = some (exd d fs)) (hd1 : H1 d = none) (q : Q (.ref C) (some d) (upd (del H2 a) d (.xd fs))) : L2N.MkP X pins σ Q (.ref a) ⟨h2, g2, d2, t2, os2⟩ := by
  obtain ⟨t0, G, J, kG, ge, hoe, na⟩ := mk_end0 (d2 := d2) (t2 := t2) I1 ha k un hok ho hb ea ed hd1
  refine ⟨a, _, _, ⟨G, g2, d2, t2, os2⟩, _, .ref C, some d, rfl, J, kG, ge, hoe, ⟨rfl, rfl, fun vs hv => ?_⟩, rfl, rfl, na, rfl, hb, T, q⟩
  cases hv
  rfl
theorem pmkN_oex {CX : CXT} {x : Str} {C fI : Addr} {k : Nat} {fd : FuncData} {ps : List Str} {sp : Sp} {ds : List Value} {dvs : List V} (T : OexC X.K C) (iC : PySem.W.findIn X.K (.ref C) "__init__" = some (some (.ref fI))) (tI : PySem.W.typeIn X.K (.ref fI) = some (.type "function"))
    (F1 : FnOk X.prog X.w X.K X.mg X.base CX k fI fd ps sp) (hr : Room (k + 1) X.A) (hb : Binds X.K fd ps ds) (hd : Vals dvs ds) (hx : Passes CX X (fun _ _ _ => False)) (hg : Gl X x) (hm : X.mg x = some (.ref C)) (ha : PA X (e :: es) ta)
    (hdb : (x == ("__debug__" : Str)) = false := by decide) (he : starEach (e :: es) X.env = (false, eval e X.env) :: starEach es X.env := by rfl) (hpl : (backTo pos (starEach es X.env)).any (·.1) = false := by rfl) :
    L2N.PMk X (.Call (.Name x p) (e :: es) [] pos) (tMkO C sp dvs ta) := by
  intro pins s σ H Q I h
  obtain ⟨nm, q, N, bs, bm, sn, sub, ab, col, dd, k0, k1, k2, k3, k5, hC, hbm⟩ := T.cls
  refine wpAny_Call_Name_kw (ld_glob I hg hm ?_ hdb)
  refine PySem.W.callWith_K (h₀ := X.base) I.ok.mod.kin T.kC (thn (ha.run pos pins s σ H _ I h) fun us s1 ⟨vs, H1, I1, r1, hz, q1⟩ => ⟨I1.kIn, ?_⟩) he hpl
  show wpAny _ _ (call (.ref C) us) _ _ _
  obtain ⟨hp, g, dr, tk, os⟩ := s1
  have hsz : hp.objs.size ≤ hp.objs.size + 1 := Nat.le_succ _
  have hn : H1 (hp.objs.size + 1) = none := I1.hok.fresh hsz
  have hq := q1 (hp.objs.size + 1) hn
  have kk : ∀ b o, hp.get? b = some o → ((hp.push (PySem.W.kdv_tup us)).push (PySem.HandSPX.excO C hp.objs.size)).get? b = some o := fun b o e => Heap.get?_push_of_some _ (Heap.get?_push_of_some _ e)
  have hget : ((hp.push (PySem.W.kdv_tup us)).push (PySem.HandSPX.excO C hp.objs.size)).get? (hp.objs.size + 1) = some (PySem.HandSPX.excO C hp.objs.size) := by heap_get
  have I2 : Inv X pins σ (upd H1 (hp.objs.size + 1) (exo (hp.objs.size + 1) C none)) ⟨(hp.push (PySem.W.kdv_tup us)).push (PySem.HandSPX.excO C hp.objs.size), g, dr, tk, os⟩ :=
    I1.laid (t' := tk) (a := hp.objs.size + 1) (o := exo (hp.objs.size + 1) C none) (h' := (hp.push (PySem.W.kdv_tup us)).push (PySem.HandSPX.excO C hp.objs.size)) kk hsz (exo_ok hget)
  have r2 : Vals (V.ref (hp.objs.size + 1) :: (vs ++ dvs)) (Value.ref (hp.objs.size + 1) :: (us ++ ds)) := .cons rfl (r1.append hd)
  have hl : (Value.ref (hp.objs.size + 1) :: us ++ ds).length = ps.length := by
    have e := r2.length
    rw [F1.len _ _ _ _ hq] at e
    exact e.symm
  have hus : us.length ≤ sizeLine := by
    rw [← Paired.length r1, sizeLine_eq]
    omega
  refine wpAny_call (PySem.HandSPX.call_own F.excBase_ValueError (fun Y => PySem.HandSPX.refsVE_contains Y bm hbm) (I1.kIn _ _ hC) (PySem.W.looks_findIn I1.kIn iC) (fun self => PySem.W.bind_fn I1.kIn self tI) hus
    (codeAny_mono (F1.run _ X.stack _ _ ⟨Value.ref (hp.objs.size + 1) :: us, []⟩ (Value.ref (hp.objs.size + 1) :: (us ++ ds)) _ _ (fun _ _ _ => False) (hr.make C us []) (I2.env0.make C us []) (hb _ (Value.ref (hp.objs.size + 1) :: us) I2.kIn hl) r2 hq) fun r s' hq' => ?_))
  cases r with
  | error er => exact hx pins σ _ _ er s' I2 hq'
  | ok fl =>
    cases fl with
    | ret u =>
      obtain ⟨v, H2, os2, bare2, un2, hok2, rv, ev, d, fs, ea, ed, hd1, q2⟩ := hq'
      subst ev
      obtain ⟨h2, g2, d2, t2, os'⟩ := s'
      exact ⟨rv, mk_endN (p := hp.objs.size) (raises_own T.exC T.tyC) I1 hsz kk un2 hok2 os2 bare2 ea ed hd1 q2⟩
    | next => exact False.elim hq'
    | brk => exact False.elim hq'
    | cont => exact False.elim hq'
end
theorem Fun.okH {P : Program} {w : World} {K : PySem.W.Frag} {mg : Str → Option Value} {base : Heap} {x qual : Str} {st : Stmt} {f : Addr} {fd : FuncData} {N ps : List Str} {k : Nat} {sp : Sp} (F : Fun K x qual st f fd) (S : FnScope N ps (defScope st)) (len : ∀ vs H Q E, sp vs H Q E → vs.length = ps.length)
    (hbody : ∀ (cdv : Value) (A : Around) (outer : List Env) (s : Shared) (H : Hp) (vs : List V) (Q : VK) (E : XK) (p : Addr × Obj), L2H.Hot1 A p → L2H.RoomH k (A.deeper (envOfC qual (defScope st) s.heap.objs.size f cdv)) → sp vs H Q E →
      ∃ t, PSs (L2H.cxH CX0 P w K mg base N qual (defScope st) f cdv A outer s H E p) (defBody st) t ∧ t { nx := fun _ H' => Q .non H', rt := Q } (start N vs) H) : L2H.FnH P w K mg base CX0 (k + 1) f fd ps sp := by
  obtain ⟨oc, od, kV, doc, pm, an, cdv, ct, osl, rfl, lk, hcd⟩ := F.ex
  exact L2H.fn_ofH lk hcd S len fun A outer s H vs Q E p hot hr hsp => hbody cdv A outer s H vs Q E p hot hr hsp
end TkS
set_option Elab.async false
set_option linter.all false
set_option maxRecDepth 100000
set_option maxHeartbeats 4000000
/-! data that the hand can't be part of: a hand's first item is a list -/
namespace TkS
open PySem PySem.Spec PyProof.Rows L2
def hdD : PyData → Bool
  | .list [.list _, .int _, .int _, .int _] => true
  | _ => false
mutual
def noHd : PyData → Bool
  | .list ds => !hdD (.list ds) && noHds ds
  | .tuple ds => noHds ds
  | _ => true
def noHds : List PyData → Bool
  | [] => true
  | d :: ds => noHd d && noHds ds
end
mutual
theorem dq_hd {H H' : Hp} {h c : Addr} {cs : List V} {p r t : Int} (hh : H h = some (.lst [.ref c, .int p, .int r, .int t])) (hc : H c = some (.lst cs)) (k : ∀ b o, b ≠ h → H b = some o → H' b = some o) : ∀ {v : V} (d : PyData), noHd d = true → Dq H v d → Dq H' v d
  | _, .none, _, .non => .non
  | _, .bool _, _, .bl b => .bl b
  | _, .int _, _, .int i => .int i
  | _, .str _, _, .str x => .str x
  | _, .list ds, n, .lst e u => by
    have n' : (!hdD (.list ds) && noHds ds) = true := n
    obtain ⟨n1, n2⟩ := Bool.and_eq_true_iff.mp n'
    refine .lst (k _ _ (fun z => ?_) e) (dqs_hd hh hc k ds n2 u)
    rw [z, hh] at e
    cases e
    cases u with
    | cons u0 u =>
      cases u with
      | cons u1 u =>
        cases u with
        | cons u2 u =>
          cases u with
          | cons u3 u =>
            cases u
            cases u1
            cases u2
            cases u3
            cases u0 with
            | lst e0 _ => exact absurd n1 (by simp [hdD])
            | tup e0 _ =>
              rw [hc] at e0
              cases e0
  | _, .tuple ds, n, .tup e u => .tup (k _ _ (fun z => by rw [z, hh] at e; cases e) e) (dqs_hd hh hc k ds n u)
theorem dqs_hd {H H' : Hp} {h c : Addr} {cs : List V} {p r t : Int} (hh : H h = some (.lst [.ref c, .int p, .int r, .int t])) (hc : H c = some (.lst cs)) (k : ∀ b o, b ≠ h → H b = some o → H' b = some o) : ∀ {vs : List V} (ds : List PyData), noHds ds = true → DqAll H vs ds → DqAll H' vs ds
  | _, [], _, .nil => .nil
  | _, d :: ds, n, .cons u v => .cons (dq_hd hh hc k d (by
      have n' : (noHd d && noHds ds) = true := n
      exact (Bool.and_eq_true_iff.mp n').1) u) (dqs_hd hh hc k ds (by
      have n' : (noHd d && noHds ds) = true := n
      exact (Bool.and_eq_true_iff.mp n').2) v)
end
theorem noHds_all {ds : List PyData} : noHds ds = true ↔ ∀ d ∈ ds, noHd d = true := by
  induction ds with
  | nil => exact ⟨(fun _ _ m => nomatch m), (fun _ => rfl)⟩
  | cons a ds ih =>
    show (noHd a && noHds ds) = true ↔ _
    rw [Bool.and_eq_true, ih]
    constructor
    · rintro ⟨h1, h2⟩ d m
      rcases List.mem_cons.mp m with e | m
      · rw [e]; exact h1
      · exact h2 d m
    · exact fun h => ⟨h a List.mem_cons_self, fun d m => h d (List.mem_cons_of_mem _ m)⟩
theorem noHd_list {ds : List PyData} (h : ∀ d ∈ ds, noHd d = true) (n : ds.length ≠ 4 ∨ ∀ d ∈ ds, ∀ es, d ≠ .list es) : noHd (.list ds) = true := by
  show (!hdD (.list ds) && noHds ds) = true
  rw [noHds_all.mpr h, Bool.and_true]
  cases c : hdD (.list ds) with
  | false => rfl
  | true =>
    exfalso
    unfold hdD at c
    split at c
    · rename_i es a b cc e
      cases e
      rcases n with n | n
      · exact n rfl
      · exact n _ List.mem_cons_self es rfl
    · cases c
theorem noHd_tup {ds : List PyData} (h : ∀ d ∈ ds, noHd d = true) : noHd (.tuple ds) = true := noHds_all.mpr h
/-! data of before stands beside a new object -/
mutual
theorem dq_new {H : Hp} {l : Addr} {o : HO} (n : H l = none) : ∀ {v : V} (d : PyData), Dq H v d → Dq (TkS.Off l (upd H l o)) v d
  | _, .none, .non => .non
  | _, .bool _, .bl b => .bl b
  | _, .int _, .int i => .int i
  | _, .str _, .str x => .str x
  | _, .list _, .lst e t => .lst (off_at (ne_of_none e n) ((same_new n) _ _ e)) (dqs_new n _ t)
  | _, .tuple _, .tup e t => .tup (off_at (ne_of_none e n) ((same_new n) _ _ e)) (dqs_new n _ t)
theorem dqs_new {H : Hp} {l : Addr} {o : HO} (n : H l = none) : ∀ {vs : List V} (ds : List PyData), DqAll H vs ds → DqAll (TkS.Off l (upd H l o)) vs ds
  | _, [], .nil => .nil
  | _, _ :: _, .cons k t => .cons (dq_new n _ k) (dqs_new n _ t)
end
end TkS
set_option Elab.async false
set_option linter.all false
set_option maxRecDepth 100000
set_option maxHeartbeats 4000000
set_option exponentiation.threshold 5000
/-! data of bounded depth, width and numbers: it can be laid, shown, compared -/
namespace TkS
open PySem PySem.Spec PyProof.Rows L2
def mild : Nat → PyData → Bool
  | _, .none => true
  | _, .bool _ => true
  | _, .int i => decide (i.natAbs < 10 ^ 121)
  | _, .str x => PyData.canLay0 (.str x) && decide ((PyData.shown (.str x)).length ≤ 130)
  | n + 1, .list ds => decide (ds.length ≤ 40) && ds.all (mild n)
  | n + 1, .tuple ds => decide (ds.length ≤ 40) && ds.all (mild n)
  | _, _ => false
theorem int_len {i : Int} (h : i.natAbs < 10 ^ 121) : (PyData.shown (.int i)).length ≤ 130 := by
  have e : PyData.shown (.int i) = Str.ofString (toString i) := by simp only [PyData.shown]
  rw [e, PySem.ofString_length]
  have nat : ∀ n : Nat, n < 10 ^ 121 → n.repr.length ≤ 121 := fun n hn => by
    have : n.repr = String.ofList (Nat.toDigits 10 n) := rfl
    rw [this, String.length_ofList]
    exact (Nat.length_toDigits_le_iff (by decide) (by decide)).mpr hn
  have e2 : toString i = i.repr := rfl
  rw [e2]
  cases i with
  | ofNat m =>
    have := nat m h
    show m.repr.length ≤ 130
    omega
  | negSucc m =>
    have := nat (m + 1) h
    show ("-" ++ (m + 1).repr).length ≤ 130
    rw [String.length_append]
    have : ("-" : String).length = 1 := by decide
    omega
def bnd : Nat → Nat
  | 0 => 130
  | n + 1 => 40 * (bnd n + 2) + 10
theorem bnd_ge : ∀ n, 130 ≤ bnd n
  | 0 => Nat.le_refl _
  | n + 1 => by
    have := bnd_ge n
    show 130 ≤ 40 * (bnd n + 2) + 10
    omega
theorem join_le (n : Nat) : ∀ ts : List Str, (∀ t ∈ ts, t.length ≤ n) → (Str.join ", " ts).length ≤ ts.length * (n + 2)
  | [], _ => by
    show (0 : Nat) ≤ _
    omega
  | [x], h => by
    show x.length ≤ _
    have := h x List.mem_cons_self
    rw [List.length_singleton]
    omega
  | x :: y :: r, h => by
    have ih := join_le n (y :: r) fun t m => h t (List.mem_cons_of_mem _ m)
    show (x ++ ", " ++ Str.join ", " (y :: r)).length ≤ _
    have e2 : ((", " : String) : Str).length = 2 := rfl
    rw [strLen_append, strLen_append, e2]
    have := h x List.mem_cons_self
    have e3 : (x :: y :: r).length * (n + 2) = (y :: r).length * (n + 2) + (n + 2) := by
      rw [List.length_cons, Nat.succ_mul]
    rw [e3]
    omega
structure Mild (n : Nat) (d : PyData) : Prop where
  lay : d.canLay0 = true
  dep : d.depth ≤ n
  sh : d.showable = true
  len : d.shown.length ≤ bnd n
theorem log_small {i : Int} (h : i.natAbs < 10 ^ 121) : i.natAbs.log2 < 1920 := by
  have : i.natAbs < 2 ^ 1920 := Nat.lt_of_lt_of_le h (by decide)
  by_cases z : i.natAbs = 0
  · rw [z]
    decide
  · exact (Nat.log2_lt z).mpr this
theorem mild_is : ∀ (n : Nat) (d : PyData), mild n d = true → Mild n d
  | n, .none, _ => ⟨by simp [PyData.canLay0], by simp [PyData.depth], by simp [PyData.showable], by
    have : (PyData.shown .none).length = 4 := by decide +kernel
    have := bnd_ge n
    omega⟩
  | n, .bool b, _ => ⟨by simp [PyData.canLay0], by simp [PyData.depth], by simp [PyData.showable], by
    have : (PyData.shown (.bool b)).length ≤ 5 := by cases b <;> decide +kernel
    have := bnd_ge n
    omega⟩
  | n, .int i, h => ⟨by simp [PyData.canLay0], by simp [PyData.depth], by
    have h' : i.natAbs < 10 ^ 121 := by
      unfold mild at h
      exact of_decide_eq_true h
    simp only [PyData.showable]
    exact decide_eq_true (log_small h'), by
    have h' : i.natAbs < 10 ^ 121 := by
      unfold mild at h
      exact of_decide_eq_true h
    exact Nat.le_trans (int_len h') (bnd_ge n)⟩
  | n, .str x, h => by
    have h' : (PyData.canLay0 (.str x) && decide ((PyData.shown (.str x)).length ≤ 130)) = true := by
      unfold mild at h
      exact h
    rw [Bool.and_eq_true] at h'
    exact ⟨h'.1, by simp [PyData.depth], by simp [PyData.showable], Nat.le_trans (of_decide_eq_true h'.2) (bnd_ge n)⟩
  | 0, .list ds, h => by
    unfold mild at h
    cases h
  | 0, .tuple ds, h => by
    unfold mild at h
    cases h
  | n, .dict k, h => by
    unfold mild at h
    cases n <;> cases h
  | n + 1, .list ds, h => by
    have h' : (decide (ds.length ≤ 40) && ds.all (mild n)) = true := by
      unfold mild at h
      exact h
    rw [Bool.and_eq_true] at h'
    have hl := of_decide_eq_true h'.1
    obtain ⟨k1, k2, k3, k4, k5⟩ := mild_all n ds (fun d m => mild_is n d (List.all_eq_true.mp h'.2 d m))
    refine ⟨by simp [PyData.canLay0, k1], by simp only [PyData.depth]; omega, by simp [PyData.showable, k3], ?_⟩
    have e1 : (PyData.list ds).shown = textFrom 0 "[" (PyData.shownAll ds) ++ "]" := by simp only [PyData.shown, listText]
    have e := textFrom_le (bnd n) (PyData.shownAll ds) 0 "[" k4
    rw [e1, strLen_append]
    have e2 : (("[" : Str)).length = 1 := rfl
    have e3 : (("]" : Str)).length = 1 := rfl
    rw [k5, e2] at e
    rw [e3]
    have : ds.length * (bnd n + 2) ≤ 40 * (bnd n + 2) := Nat.mul_le_mul_right _ hl
    show _ ≤ 40 * (bnd n + 2) + 10
    omega
  | n + 1, .tuple ds, h => by
    have h' : (decide (ds.length ≤ 40) && ds.all (mild n)) = true := by
      unfold mild at h
      exact h
    rw [Bool.and_eq_true] at h'
    have hl := of_decide_eq_true h'.1
    obtain ⟨k1, k2, k3, k4, k5⟩ := mild_all n ds (fun d m => mild_is n d (List.all_eq_true.mp h'.2 d m))
    refine ⟨by simp [PyData.canLay0, k1], by simp only [PyData.depth]; omega, by simp [PyData.showable, k3], ?_⟩
    have e := join_le (bnd n) (PyData.shownAll ds) k4
    have e1 : (PyData.tuple ds).shown = ("(" : Str) ++ Str.join ", " (PyData.shownAll ds) ++ (if (PyData.shownAll ds).length == 1 then ",)" else ")" : String) := by simp only [PyData.shown, tupleText]
    rw [e1, strLen_append, strLen_append]
    have e2 : (("(" : Str)).length = 1 := rfl
    have e3 : (((if (PyData.shownAll ds).length == 1 then ",)" else ")" : String) : Str)).length ≤ 2 := by split <;> decide
    rw [e2]
    rw [k5] at e
    have : ds.length * (bnd n + 2) ≤ 40 * (bnd n + 2) := Nat.mul_le_mul_right _ hl
    show _ ≤ 40 * (bnd n + 2) + 10
    omega
where mild_all (n : Nat) : ∀ ds : List PyData, (∀ d ∈ ds, Mild n d) → PyData.canLayAll0 ds = true ∧ PyData.depthAll ds ≤ n ∧ PyData.showableAll ds = true ∧ (∀ t ∈ PyData.shownAll ds, t.length ≤ bnd n) ∧ (PyData.shownAll ds).length = ds.length
  | [], _ => ⟨by simp [PyData.canLayAll0], by simp [PyData.depthAll], by simp [PyData.showableAll], by simp [PyData.shownAll], by simp [PyData.shownAll]⟩
  | d :: ds, h => by
    obtain ⟨k1, k2, k3, k4, k5⟩ := mild_all n ds fun x m => h x (List.mem_cons_of_mem _ m)
    obtain ⟨m1, m2, m3, m4⟩ := h d List.mem_cons_self
    refine ⟨by simp [PyData.canLayAll0, m1, k1], by simp only [PyData.depthAll]; omega, by simp [PyData.showableAll, m3, k3], fun t m => ?_, by simp [PyData.shownAll, k5]⟩
    rw [PyData.shownAll] at m
    rcases List.mem_cons.mp m with e | e
    · rw [e]
      exact m4
    · exact k4 t e
theorem Mild.shaped {n : Nat} {d : PyData} (h : Mild n d) (hn : n ≤ 60) : SeqAt.shaped d = true := by
  unfold SeqAt.shaped
  rw [h.lay, decide_eq_true (by have := h.dep; omega)]
  rfl
theorem Mild.noDict {n : Nat} {d : PyData} (h : Mild n d) : d.hasDict = false := PyData.hasDict_of_canLay d h.lay
theorem Mild.fits {d : PyData} (h : Mild 3 d) : d.shown.length ≤ sizeLine := Nat.le_trans h.len (by decide)
theorem mild_items {n : Nat} {d : PyData} {ds : List PyData} (h : mild (n + 1) d = true) (e : itemsD d = some ds) : ds.length ≤ 40 ∧ ∀ x ∈ ds, mild n x = true := by
  cases d with
  | list es =>
    cases e
    unfold mild at h
    rw [Bool.and_eq_true] at h
    exact ⟨of_decide_eq_true h.1, fun x m => List.all_eq_true.mp h.2 x m⟩
  | tuple es =>
    cases e
    unfold mild at h
    rw [Bool.and_eq_true] at h
    exact ⟨of_decide_eq_true h.1, fun x m => List.all_eq_true.mp h.2 x m⟩
  | _ => cases e
theorem mild_tup {n : Nat} {ds : List PyData} (hl : ds.length ≤ 40) (h : ∀ x ∈ ds, mild n x = true) : mild (n + 1) (.tuple ds) = true := by
  unfold mild
  rw [decide_eq_true hl, List.all_eq_true.mpr h]
  rfl
theorem mild_lst {n : Nat} {ds : List PyData} (hl : ds.length ≤ 40) (h : ∀ x ∈ ds, mild n x = true) : mild (n + 1) (.list ds) = true := by
  unfold mild
  rw [decide_eq_true hl, List.all_eq_true.mpr h]
  rfl
theorem mild_up : ∀ (n : Nat) (d : PyData), mild n d = true → mild (n + 1) d = true
  | n, .none, _ => by unfold mild; rfl
  | n, .bool b, _ => by unfold mild; rfl
  | n, .int i, h => by
    unfold mild at h ⊢
    exact h
  | n, .str x, h => by
    unfold mild at h ⊢
    exact h
  | 0, .list ds, h => by
    unfold mild at h
    cases h
  | 0, .tuple ds, h => by
    unfold mild at h
    cases h
  | n, .dict k, h => by
    unfold mild at h
    cases n <;> cases h
  | n + 1, .list ds, h => by
    obtain ⟨hl, hi⟩ := mild_items h rfl
    exact mild_lst hl fun x m => mild_up n x (hi x m)
  | n + 1, .tuple ds, h => by
    obtain ⟨hl, hi⟩ := mild_items h rfl
    exact mild_tup hl fun x m => mild_up n x (hi x m)
theorem mild_filter {n : Nat} {ds : List PyData} {f : PyData → Bool} (hl : ds.length ≤ 40) (h : ∀ x ∈ ds, mild n x = true) : mild (n + 1) (.list (ds.filter f)) = true :=
  mild_lst (Nat.le_trans (List.length_filter_le _ _) hl) fun x m => h x (List.mem_filter.mp m).1
end TkS
set_option Elab.async false
set_option linter.all false
set_option maxRecDepth 100000
set_option maxHeartbeats 4000000
/-! repr of data of bounded depth, width and numbers -/
namespace TkS
open PySem PySem.Spec PyProof.Rows L2
def rReprM : List V → Hp → VK → Prop := fun xs H Q => ∃ x d, xs = [x] ∧ Dq H x d ∧ mild 3 d = true ∧ Q (.str d.shown) H
theorem call_reprM {X : Cx} (hg : X.A.guards = some []) (hu : X.A.units + 65 < cLine) : CallR X (.builtin "repr") rReprM := by
  intro pins s σ H xs us Q I r h
  obtain ⟨x, d, rfl, k, hm, q⟩ := h
  have M := mild_is 3 d hm
  have big : ∀ a, x = .ref a → wpAny (model X.prog X.w) X.A (call (.builtin "repr") us) (EP X pins σ Q) X.xe s := fun a e => by
    subst e
    exact call_reprD hg hu pins s σ H _ us Q I r ⟨a, d, rfl, k.dp, M.sh, M.noDict, Nat.le_trans M.dep (by decide), M.fits, q⟩
  cases k with
  | non =>
    obtain ⟨u, rfl, ru⟩ := vals1 r
    cases ru
    have e : PyData.shown .none = ("None" : Str) := by simp only [PyData.shown]
    rw [e] at q
    exact PySem.P.repr_of_none ⟨.str _, H, I.tok _, ⟨_, rfl⟩, q⟩
  | bl b =>
    obtain ⟨u, rfl, ru⟩ := vals1 r
    cases ru
    have e : PyData.shown (.bool b) = if b = true then ("True" : Str) else ("False" : Str) := by simp only [PyData.shown]
    rw [e] at q
    exact PySem.P.repr_of_bool ⟨.str _, H, I.tok _, ⟨_, rfl⟩, q⟩
  | int i =>
    obtain ⟨u, rfl, t, rfl⟩ := vals1 r
    have e : PyData.shown (.int i) = Str.ofString (toString i) := by simp only [PyData.shown]
    rw [e] at q
    have hz : i.natAbs.log2 < 1920 := by
      have := M.sh
      simp only [PyData.showable] at this
      exact of_decide_eq_true this
    exact PySem.P.repr_of_int hz ⟨.str _, H, I.tok _, ⟨_, rfl⟩, q⟩
  | str z =>
    obtain ⟨u, rfl, t, rfl⟩ := vals1 r
    have e : PyData.shown (.str z) = reprText z := by simp only [PyData.shown]
    have hs := M.fits
    rw [e] at q hs
    exact PySem.P.repr_of_str ⟨.str _, H, I.tok _, ⟨_, rfl⟩, q⟩ hs
  | lst h1 h2 => exact big _ rfl
  | tup h1 h2 => exact big _ rfl
end TkS
set_option Elab.async false
set_option linter.all false
set_option maxRecDepth 100000
set_option maxHeartbeats 4000000
/-! enumerate of a tuple, and of a list or a tuple -/
namespace TkS
open PySem PySem.Spec PyProof.Rows L2
set_option maxHeartbeats 1000000 in
theorem meets_enum1 {v : Value} {o : Obj} {H : Heap → Prop} (B : Begins v o H) :
    Meets (Builtin.«enumerate.__new__» ⟨[.type "enumerate", v], []⟩) (fun _ R s => H s.heap ∧
      R (.ok (.ret (.ref (s.heap.push o).objs.size))) { s with heap := (s.heap.push o).push { cls := .type "enumerate", data := .fields #[.none, .bool false, .ref s.heap.objs.size, rawInt 0, .none, .none] } }) :=
  .of_wp fun prog w A R s h => by
    obtain ⟨hp, g, d, tk, os⟩ := s
    obtain ⟨b0, h⟩ := h
    have sube := sub_enumerate
    have go : ∀ {A' : Around} {E : Value → Shared → Prop} {Q : Value → Shared → Prop}, Q (.ref hp.objs.size) ⟨hp.push o, g, d, tk, os⟩ → wpAny (model prog w) A' (pyIter v) Q E ⟨hp, g, d, tk, os⟩ := fun q => B.iter prog w _ _ ⟨hp, g, d, tk, os⟩ _ b0 q
    wp_walk using go
    refine wpAny_stack_any fun st => wpAny_pure ?_
    split
    · rename_i k _ _ _ _ _
      cases (k == Value.type "enumerate") <;> (wp_walk using go; exact ⟨_, rfl, h⟩)
    · wp_walk using go
      exact ⟨_, rfl, h⟩
theorem enum_begins1 {prog : Program} {w : World} {A : Around} {E : Value → Shared → Prop} {s : Shared} {v : Value} {o : Obj} {H : Heap → Prop} {Q : Value → Shared → Prop} (B : Begins v o H) (b0 : H s.heap)
    (h : ∀ h', IsEnum h' (s.heap.objs.size + 1) s.heap.objs.size 0 .none → h'.get? s.heap.objs.size = some o → (∀ b ob, s.heap.get? b = some ob → h'.get? b = some ob) → Q (.ref (s.heap.objs.size + 1)) { s with heap := h' }) :
    wpAny (model prog w) A (call (.type "enumerate") [v]) Q E s := by
  refine callType_new F.called_enumerate (by decide) (F.typeCall_enumerate_1 _) (F.newCall_enumerate_1 _) (fun obj => F.args_object_init_2 obj _) F.entry_enumerate_new (meets_enum1 B) ⟨b0, ?_⟩
  have z1 : (s.heap.push o).objs.size = s.heap.objs.size + 1 := Heap.size_push ..
  have e1 : ((s.heap.push o).push { cls := .type "enumerate", data := .fields #[.none, .bool false, .ref s.heap.objs.size, rawInt 0, .none, .none] }).get? (s.heap.push o).objs.size = some _ := Heap.get?_push_size _ rfl
  show _ ∧ _
  rw [z1] at e1 ⊢
  exact ⟨⟨_, e1, rfl⟩, h _ e1 (Heap.get?_push_of_some _ (Heap.get?_push_size _ B.free)) fun b ob z => Heap.get?_push_of_some _ (Heap.get?_push_of_some _ z)⟩
def IteT (K : PySem.W.Frag) (a : Addr) : It :=
  ⟨fun i H => ∃ (xs : List V) (x : V), SqT K H a xs ∧ xs[i]? = some x, fun i H v H' => ∃ T x, v = .ref T ∧ H T = none ∧ H' = upd H T (.tup [.int (i : Nat), x]) ∧ ∀ xs, SqT K H a xs → xs[i]? = some x, fun i H => ∃ xs : List V, SqT K H a xs ∧ xs.length ≤ i⟩
theorem turn_enumT {P : Program} {w : World} {K : PySem.W.Frag} {elts : List Expr} {kk : Nat} {tpos : Pos} (a e it : Addr) (hei : e ≠ it) (hea : e ≠ a) (hai : a ≠ it) :
    Turn P w K (.Tuple elts kk tpos) (IteT K a) [e, it] e (fun i h => (∃ old, IsEnum h e it ((i : Nat) : Int) old) ∧ h.IsTupleIter it a i) where
  mem := by simp
  obj := fun i h st b hb => by
    obtain ⟨⟨old, he⟩, ⟨o, ho, _, hd⟩⟩ := st
    have hb' : b = e ∨ b = it := by simpa using hb
    rcases hb' with z | z
    · subst z
      exact ⟨_, he, fun v q => nomatch q⟩
    · subst z
      exact ⟨o, ho, fun v q => by rw [hd] at q; cases q⟩
  keep := fun i h h' st k => by
    obtain ⟨⟨old, he⟩, hi⟩ := st
    exact ⟨⟨old, k e (by simp) _ he⟩, hi.at fun o q => k it (by simp) o q⟩
  item := by
    intro X hP hw hK hc i pins s σ H E I hf st hg
    subst hP hw hK
    obtain ⟨⟨old, he⟩, hit⟩ := st
    obtain ⟨xs, x, hq, hx⟩ := hg
    obtain ⟨its, rv, p, hz⟩ := I.tuple hq
    obtain ⟨u, hu, ru⟩ := rv.get hx
    have le : e < s.heap.objs.size := Heap.lt_size he
    have li : it < s.heap.objs.size := by
      obtain ⟨_, q, _⟩ := hit
      exact Heap.lt_size q
    have lx : i < its.toArray.size := by
      have := (List.getElem?_eq_some_iff.mp hu).1
      simpa using this
    refine wpAny_pyNext_enum_itemD (Draws.tuple (prog := X.prog) (w := X.w) (A := X.A.in1) (I.ok.hd hc) it a hai its.toArray) he ⟨hit, p⟩ lx hei (by simp [hei, hea]) fun x' h' tk hP ho hst hT hsz hk => ?_
    have ex : x' = u := by
      have : its[i]? = some x' := by simpa using hP
      rw [hu] at this
      exact (Option.some.inj this).symm
    subst ex
    refine ⟨_, rfl, wpAny_letOwnedTupleGo_enum (s := { s with heap := h', toks := tk + 1 }) ho fun h'' he' sb => ?_⟩
    have hT2 : h''.get? s.heap.objs.size = some { cls := .type "tuple", data := .seq #[.int i tk, x'] } := (sb.2 _ (Nat.ne_of_gt le)).trans hT
    have new : ObjOk X.prog X.w (upd H s.heap.objs.size (.tup [.int (i : Nat), x])) h'' s.heap.objs.size (.tup [.int (i : Nat), x]) :=
      ⟨by show 2 ≤ sizeLine; decide, [.int i tk, x'], .cons ⟨_, rfl⟩ (.cons ru .nil), ⟨_, hT2, rfl, _, rfl⟩⟩
    have I1 : Inv X pins σ (upd H s.heap.objs.size (.tup [.int (i : Nat), x])) { s with heap := h'', toks := tk + 1 } :=
      I.turnedNew (ch := [e, it]) (fun b ob hb q => (sb.2 b (fun z => hb (by simp [z]))).trans (hk b ob (fun z => hb (by simp [z])) (fun z => hb (by simp [z])) q)) hf (Nat.le_refl _) new
    refine ⟨.ref s.heap.objs.size, _, I1, rfl, ⟨_, x, rfl, I.hok.fresh (Nat.le_refl _), rfl, fun ys hy => by rw [I.tuple_inj hy hq]; exact hx⟩, ⟨⟨x', ?_⟩, hst.1.at fun o q => (sb.2 it (Ne.symm hei)).trans q⟩, fun b hb => ?_⟩
    · rw [show ((i + 1 : Nat) : Int) = (i : Int) + 1 by omega]
      exact he'
    · have lb : b < s.heap.objs.size := by
        have hb' : b = e ∨ b = it := by simpa using hb
        rcases hb' with z | z <;> (subst z; assumption)
      rw [upd_ne (Nat.ne_of_lt lb)]
      exact (hf b hb).1
  done := by
    intro X hP hw hK hc i pins s σ H E I hf st hg
    subst hP hw hK
    obtain ⟨⟨old, he⟩, hit⟩ := st
    obtain ⟨xs, hq, hx⟩ := hg
    obtain ⟨its, rv, p, hz⟩ := I.tuple hq
    obtain ⟨f0, f1, f2, f3, f4, f5⟩ := hf it (by simp)
    have hl := rv.length
    have D : Draws X.prog X.w X.A.in1 it [it, a] i (fun j v => its.toArray[j]? = some v) (fun j h => j = i ∧ h.IsTupleIter it a j ∧ h.IsTuple a its.toArray) :=
      { live := fun _ _ st => let ⟨o, ho, _⟩ := st.2.1; ⟨o, ho⟩
        frame := fun j h h' st hk => ⟨st.1, (Draws.tuple (prog := X.prog) (w := X.w) (A := X.A.in1) (I.ok.hd hc) it a hai its.toArray).frame j h h' st.2 hk⟩
        item := fun j s' Q' E' hj st' hQ => absurd st'.1 (Nat.ne_of_lt hj)
        done := fun s' Q' E' st' hE => wpAny_nextOf_tuple_end (I.ok.hd hc) st'.2.1 st'.2.2 (by simp; omega) hE }
    exact wpAny_pyNext_enum_endD D he ⟨rfl, hit, p⟩ fun h' eb => ⟨rfl, I.turned (t' := s.toks) (fun b o hb q => eb b o hb q) f0 f1 f3 f4 f5⟩
  self := fun A i s Q E st h => let ⟨⟨_, he⟩, _⟩ := st; wpAny_pyIter_enum he h
def iEnumT (K : PySem.W.Frag) (ta : TA) : TI := fun σ H R => ta σ H fun vs H1 => ∃ a xs, vs = [.ref a] ∧ SqT K H1 a xs ∧ R (IteT K a) H1
theorem pi_enumT {X : Cx} {e : Expr} {ta : TA} {p pos tpos : Pos} {elts : List Expr} {kk : Nat} (hg : Gl X "enumerate") (hm : X.mg "enumerate" = none) (ha : PA X [e] ta) (hs : starEach [e] X.env = [(false, eval e X.env)] := by rfl) :
    PI X (.Tuple elts kk tpos) (.Call (.Name "enumerate" p) [e] [] pos) (iEnumT X.K ta) := by
  refine ⟨fun pins s σ H R I h => ?_⟩
  refine Call_ (ld_blt I hg hm boot_enumerate (PyProof.Rows.callWith_type1 (thn (ha.run pos pins s σ H _ I h) fun us s1 ⟨vs, H1, I1, r1, a, xs, ex, hq, q⟩ => ?_) hs rfl))
  subst ex
  obtain ⟨u, rfl, r⟩ : ∃ u, us = [u] ∧ RelV (.ref a) u := by
    cases r1 with
    | cons r rr =>
      cases rr
      exact ⟨_, rfl, r⟩
  cases r
  obtain ⟨its, rv, p', hz⟩ := I1.tuple hq
  have la : a < s1.heap.objs.size := by
    obtain ⟨_, z, _⟩ := p'
    exact Heap.lt_size z
  refine enum_begins1 (begins_tuple a its.toArray) p' fun h' he hit hk => wpAny_pyIter_enum he ?_
  have I2 : Inv X pins σ H1 { s1 with heap := h' } := I1.kept (t' := s1.toks) hk
  refine ⟨s1.heap.objs.size + 1, [s1.heap.objs.size + 1, s1.heap.objs.size], _, _, H1, rfl, I2, turn_enumT a (s1.heap.objs.size + 1) s1.heap.objs.size (Nat.succ_ne_self _) (Nat.ne_of_gt (Nat.lt_succ_of_lt la)) (Nat.ne_of_lt la), ⟨⟨.none, he⟩, ⟨_, hit, rfl, rfl⟩⟩, fun b hb => ?_, q⟩
  have lb : s1.heap.objs.size ≤ b := by
    have hb' : b = s1.heap.objs.size + 1 ∨ b = s1.heap.objs.size := by simpa using hb
    rcases hb' with z | z <;> rw [z]
    · exact Nat.le_add_right _ _
    · exact Nat.le_refl _
  exact I1.fpOk lb (I1.hok.fresh lb)
def iEnumS (K : PySem.W.Frag) (ta : TA) : TI := fun σ H R => iEnum K ta σ H R ∨ iEnumT K ta σ H R
theorem pi_enumS {X : Cx} {e : Expr} {ta : TA} {p pos tpos : Pos} {elts : List Expr} {kk : Nat} (hg : Gl X "enumerate") (hm : X.mg "enumerate" = none) (ha : PA X [e] ta) (hs : starEach [e] X.env = [(false, eval e X.env)] := by rfl) :
    PI X (.Tuple elts kk tpos) (.Call (.Name "enumerate" p) [e] [] pos) (iEnumS X.K ta) :=
  ⟨fun pins s σ H R I h => h.elim (fun h => (pi_enum hg hm ha hs).run pins s σ H R I h) (fun h => (pi_enumT hg hm ha hs).run pins s σ H R I h)⟩
theorem for_enumS {K : PySem.W.Frag} {a : Addr} {xs : List V} {ta : TA} {g : TG} {tb : TS} {D : Ends} {σ : L2.St} {H : Hp} (Pv : Nat → L2.St → Hp → Prop) (ht : ∀ Q : List V → Hp → Prop, Q [.ref a] H → ta σ H Q) (hq : Sq K H a xs) (h0 : Pv 0 σ H)
    (hl : ∀ i σ H', Pv i σ H' → Same H H')
    (hs : ∀ i x T σ H', xs[i]? = some x → Pv i σ H' → H' T = none → g (.ref T) σ (upd H' T (.tup [.int (i : Nat), x])) fun σ2 H2 => tb { D with nx := Pv (i + 1), ct := Pv (i + 1), bk := D.nx } σ2 H2) (hd : ∀ σ H', Pv xs.length σ H' → D.nx σ H') :
    tFor (iEnumS K ta) g tb D σ H := by
  have walk : ∀ {J : It} {ok : Hp → Prop}, (∀ i H', ok H' → (∀ x, xs[i]? = some x → J.go i H') ∧ (xs.length ≤ i → J.stop i H') ∧ ∀ v H'', J.yld i H' v H'' → ∃ T x, v = .ref T ∧ H' T = none ∧ H'' = upd H' T (.tup [.int (i : Nat), x]) ∧ xs[i]? = some x) → (∀ H', Same H H' → ok H') →
      ∃ W : Nat → Nat → L2.St → Hp → Prop, (∃ m, W 0 m σ H) ∧ ∀ i m σ H, W i m σ H →
        (J.stop i H ∧ D.nx σ H) ∨ (J.go i H ∧ ∃ N : L2.St → Hp → Prop, (∀ σ' H', N σ' H' → ∃ m', m' < m ∧ W (i + 1) m' σ' H') ∧ ∀ v H', J.yld i H v H' → g v σ H' fun σ2 H2 => tb { D with nx := N, ct := N, bk := D.nx } σ2 H2) := fun {J ok} hJ hok => by
    refine ⟨fun i m σ H' => m = xs.length - i ∧ i ≤ xs.length ∧ Pv i σ H', ⟨xs.length, rfl, Nat.zero_le _, h0⟩, ?_⟩
    rintro i m σ' H' ⟨rfl, hi, p⟩
    obtain ⟨j1, j2, j3⟩ := hJ i H' (hok H' (hl i σ' H' p))
    rcases Nat.lt_or_ge i xs.length with hlt | hge
    · refine .inr ⟨j1 _ (List.getElem?_eq_getElem hlt), Pv (i + 1), fun σ2 H2 p2 => ⟨xs.length - (i + 1), by omega, rfl, hlt, p2⟩, fun v H2 y => ?_⟩
      obtain ⟨T, x, rfl, hT, rfl, hx⟩ := j3 v H2 y
      exact hs i x T σ' H' hx p hT
    · have e : i = xs.length := by omega
      subst e
      exact .inl ⟨j2 (Nat.le_refl _), hd σ' H' p⟩
  rcases hq with hq | hq
  · exact .inl (ht _ ⟨a, xs, rfl, hq, walk (J := Ite K a) (ok := fun H' => SqL K H' a xs) (fun i H' z => ⟨fun x hx => ⟨xs, x, z, hx⟩, fun hi => ⟨xs, z, hi⟩, fun v H2 ⟨T, x, e1, e2, e3, e4⟩ => ⟨T, x, e1, e2, e3, e4 xs z⟩⟩) fun H' s => s.seq hq⟩)
  · exact .inr (ht _ ⟨a, xs, rfl, hq, walk (J := IteT K a) (ok := fun H' => SqT K H' a xs) (fun i H' z => ⟨fun x hx => ⟨xs, x, z, hx⟩, fun hi => ⟨xs, z, hi⟩, fun v H2 ⟨T, x, e1, e2, e3, e4⟩ => ⟨T, x, e1, e2, e3, e4 xs z⟩⟩) fun H' s => seqT_same s hq⟩)
end TkS
set_option Elab.async false
set_option linter.all false
set_option maxRecDepth 100000
set_option maxHeartbeats 4000000
/-! a tuple once or more times -/
namespace TkS
open PySem PySem.Spec PyProof.Rows L2
theorem tuple_mul1 (l : Addr) (items : Array Value) (n : Nat) (dd : Option Addr) (sl : Array (Option Value)) (u : Tok) (he : items.isEmpty = false) :
    Meets (Builtin.«tuple.__mul__» ⟨[.ref l, .int 1 u], []⟩) (fun _ R s => s.heap.get? l = some { cls := .type "tuple", dict := dd, data := .seq items n, slots := sl } ∧ R (.ok (.ret (Value.ref l))) s) :=
  .of_wp fun prog w A R s h => by
    obtain ⟨hp, g, d, tk, os⟩ := s
    obtain ⟨hl, h⟩ := h
    have f1 := AutoSeq1.idx_int
    wp_walk using wpAny_loadPart' hl
    exact ⟨_, rfl, h⟩
/-- tuple * k, k from 1 on: once is the tuple itself -/
def rRepN (K : PySem.W.Frag) : R2 := fun x y H Q => ∃ l k xs, x = .ref l ∧ y = .int k ∧ SqT K H l xs ∧ xs ≠ [] ∧ 1 ≤ k ∧ k ≤ 1000 ∧ xs.length ≤ 1000 ∧ (k = 1 → Q (.ref l) H) ∧ (2 ≤ k → ∀ p, H p = none → Q (.ref p) (upd H p (.tup (List.replicate k.toNat xs).flatten)))
theorem op_repN {X : Cx} : OpR X (binaryOp .Mult) (rRepN X.K) := by
  intro pins s σ H x y v u Q I rx ry h
  obtain ⟨l, k, xs, rfl, rfl, hT, hne, h1, h2, hz, q1, q2⟩ := h
  by_cases c : k = 1
  · subst c
    cases rx
    obtain ⟨t, rfl⟩ := ry
    obtain ⟨its, r, ⟨⟨cls, dd, data, sl⟩, ho, hc, n, hd⟩, hs⟩ := I.tuple hT
    simp only at hc hd
    subst hc hd
    have hi : its.toArray.isEmpty = false := by
      cases its with
      | nil =>
        cases r
        exact absurd rfl hne
      | cons a b => rfl
    refine wpAny_binaryOp_repeat_ref (T := "tuple") (U := "int") (by decide) ⟨_, ho, rfl⟩ (fun s' => typeIs_int s' 1 t) noFill_tuple_mul F.fills_int_mul F.slot_int_rmul repeat_tuple F.slot_int_index.lookup
      (call_meets F.slot_int_rmul (typeIs_int s 1 t) F.entry_int_rmul (F.args_int_rmul_2 _ _) (int_rmul_tuple 1 t l its.toArray n dd sl)
        ⟨ho, rfl, ⟨_, ho, rfl⟩, call_meets F.slot_tuple_mul ⟨_, ho, rfl⟩ F.entry_tuple_mul (F.args_tuple_mul_2 _ _) (tuple_mul1 l its.toArray n dd sl t hi) ⟨ho, ?_⟩⟩)
    exact ⟨.ref l, H, I, rfl, q1 rfl⟩
  · exact op_repT pins s σ H _ _ v u Q I rx ry ⟨l, k, xs, rfl, rfl, hT, hne, by omega, h2, hz, q2 (by omega)⟩
end TkS
set_option Elab.async false
set_option linter.all false
set_option maxRecDepth 100000
set_option maxHeartbeats 4000000
set_option exponentiation.threshold 5000
/-! data of bounded depth; repr of up to 64 numbers; list() of data; a callee that raises in no case -/
namespace TkS
open PySem PySem.Spec PyProof.Rows L2
def low : Nat → PyData → Bool
  | _, .none => true
  | _, .bool _ => true
  | _, .int _ => true
  | _, .str x => PyData.canLay0 (.str x)
  | n + 1, .list ds => ds.all (low n)
  | n + 1, .tuple ds => ds.all (low n)
  | _, _ => false
theorem low_is : ∀ (n : Nat) (d : PyData), low n d = true → d.canLay0 = true ∧ d.depth ≤ n
  | n, .none, _ => ⟨by simp [PyData.canLay0], by simp [PyData.depth]⟩
  | n, .bool b, _ => ⟨by simp [PyData.canLay0], by simp [PyData.depth]⟩
  | n, .int i, _ => ⟨by simp [PyData.canLay0], by simp [PyData.depth]⟩
  | n, .str x, h => by
    unfold low at h
    exact ⟨h, by simp [PyData.depth]⟩
  | 0, .list ds, h => by
    unfold low at h
    cases h
  | 0, .tuple ds, h => by
    unfold low at h
    cases h
  | n, .dict k, h => by
    unfold low at h
    cases n <;> cases h
  | n + 1, .list ds, h => by
    unfold low at h
    obtain ⟨k1, k2⟩ := low_all n ds fun d m => low_is n d (List.all_eq_true.mp h d m)
    exact ⟨by simp [PyData.canLay0, k1], by simp only [PyData.depth]; omega⟩
  | n + 1, .tuple ds, h => by
    unfold low at h
    obtain ⟨k1, k2⟩ := low_all n ds fun d m => low_is n d (List.all_eq_true.mp h d m)
    exact ⟨by simp [PyData.canLay0, k1], by simp only [PyData.depth]; omega⟩
where low_all (n : Nat) : ∀ ds : List PyData, (∀ d ∈ ds, d.canLay0 = true ∧ d.depth ≤ n) → PyData.canLayAll0 ds = true ∧ PyData.depthAll ds ≤ n
  | [], _ => ⟨by simp [PyData.canLayAll0], by simp [PyData.depthAll]⟩
  | d :: ds, h => by
    obtain ⟨k1, k2⟩ := low_all n ds fun x m => h x (List.mem_cons_of_mem _ m)
    obtain ⟨m1, m2⟩ := h d List.mem_cons_self
    exact ⟨by simp [PyData.canLayAll0, m1, k1], by simp only [PyData.depthAll]; omega⟩
theorem low_shp {n : Nat} {d : PyData} (h : low n d = true) (hn : n ≤ 60) : SeqAt.shaped d = true := by
  obtain ⟨k1, k2⟩ := low_is n d h
  unfold SeqAt.shaped
  rw [k1, decide_eq_true (by omega)]
  rfl
theorem low_refl {n : Nat} {d : PyData} (h : low n d = true) : PyData.eqv d d = true := SeqAt.eqv_refl d (low_is n d h).1
theorem low_tup {n : Nat} {ds : List PyData} (h : ∀ x ∈ ds, low n x = true) : low (n + 1) (.tuple ds) = true := by
  unfold low
  exact List.all_eq_true.mpr h
theorem low_lst {n : Nat} {ds : List PyData} (h : ∀ x ∈ ds, low n x = true) : low (n + 1) (.list ds) = true := by
  unfold low
  exact List.all_eq_true.mpr h
theorem low_up : ∀ (n : Nat) (d : PyData), low n d = true → low (n + 1) d = true
  | n, .none, _ => by unfold low; rfl
  | n, .bool b, _ => by unfold low; rfl
  | n, .int i, _ => by unfold low; rfl
  | n, .str x, h => by
    unfold low at h ⊢
    exact h
  | 0, .list ds, h => by
    unfold low at h
    cases h
  | 0, .tuple ds, h => by
    unfold low at h
    cases h
  | n, .dict k, h => by
    unfold low at h
    cases n <;> cases h
  | n + 1, .list ds, h => by
    unfold low at h
    exact low_lst fun x m => low_up n x (List.all_eq_true.mp h x m)
  | n + 1, .tuple ds, h => by
    unfold low at h
    exact low_tup fun x m => low_up n x (List.all_eq_true.mp h x m)
theorem low_int {n : Nat} {i : Int} : low n (.int i) = true := by unfold low; rfl
theorem low_ints (ns : List Int) : low 1 (.tuple (ns.map PyData.int)) = true := low_tup fun x m => by
  obtain ⟨i, _, rfl⟩ := List.mem_map.mp m
  exact low_int
theorem low_intsL (ns : List Int) : low 1 (.list (ns.map PyData.int)) = true := low_lst fun x m => by
  obtain ⟨i, _, rfl⟩ := List.mem_map.mp m
  exact low_int
def rReprI : List V → Hp → VK → Prop := fun xs H Q => ∃ (x : V) (d : PyData) (ns : List Int), xs = [x] ∧ Dq H x d ∧ itemsD d = some (ns.map PyData.int) ∧ ns.length ≤ 64 ∧ (∀ n ∈ ns, n.natAbs < 10 ^ 121) ∧ Q (.str d.shown) H
theorem call_reprI {X : Cx} (hg : X.A.guards = some []) (hu : X.A.units + 65 < cLine) : CallR X (.builtin "repr") rReprI := by
  intro pins s σ H xs us Q I r h
  obtain ⟨x, d, ns, rfl, k, e, hl, hs, q⟩ := h
  obtain ⟨k1, k2, k3, k4, k5⟩ := mild_is.mild_all 0 (ns.map PyData.int) (fun d m => by
    obtain ⟨i, hi, rfl⟩ := List.mem_map.mp m
    refine mild_is 0 _ ?_
    unfold mild
    exact decide_eq_true (hs i hi))
  have ll : (PyData.shownAll (ns.map PyData.int)).length ≤ 64 := by rw [k5, List.length_map]; exact hl
  have b0 : bnd 0 = 130 := rfl
  rw [b0] at k4
  cases k with
  | lst h1 h2 =>
    cases e
    refine call_reprD hg hu pins s σ H _ us Q I r ⟨_, _, rfl, (Dq.lst h1 h2).dp, by simp [PyData.showable, k3], PyData.hasDict_of_canLay _ (by simp [PyData.canLay0, k1]), by simp only [PyData.depth]; omega, ?_, q⟩
    have e1 : (PyData.list (ns.map PyData.int)).shown = textFrom 0 "[" (PyData.shownAll (ns.map PyData.int)) ++ "]" := by simp only [PyData.shown, listText]
    have e := textFrom_le 130 (PyData.shownAll (ns.map PyData.int)) 0 "[" k4
    rw [e1, strLen_append]
    have e2 : (("[" : Str)).length = 1 := rfl
    have e3 : (("]" : Str)).length = 1 := rfl
    rw [e2] at e
    rw [e3, sizeLine_eq]
    have : (PyData.shownAll (ns.map PyData.int)).length * (130 + 2) ≤ 64 * (130 + 2) := Nat.mul_le_mul_right _ ll
    omega
  | tup h1 h2 =>
    cases e
    refine call_reprD hg hu pins s σ H _ us Q I r ⟨_, _, rfl, (Dq.tup h1 h2).dp, by simp [PyData.showable, k3], PyData.hasDict_of_canLay _ (by simp [PyData.canLay0, k1]), by simp only [PyData.depth]; omega, ?_, q⟩
    have e := join_le 130 (PyData.shownAll (ns.map PyData.int)) k4
    have e1 : (PyData.tuple (ns.map PyData.int)).shown = ("(" : Str) ++ Str.join ", " (PyData.shownAll (ns.map PyData.int)) ++ (if (PyData.shownAll (ns.map PyData.int)).length == 1 then ",)" else ")" : String) := by simp only [PyData.shown, tupleText]
    rw [e1, strLen_append, strLen_append]
    have e2 : (("(" : Str)).length = 1 := rfl
    have e3 : (((if (PyData.shownAll (ns.map PyData.int)).length == 1 then ",)" else ")" : String) : Str)).length ≤ 2 := by split <;> decide
    rw [e2, sizeLine_eq]
    have : (PyData.shownAll (ns.map PyData.int)).length * (130 + 2) ≤ 64 * (130 + 2) := Nat.mul_le_mul_right _ ll
    omega
  | _ => cases e
/-- list(x), x a list or a tuple of data -/
def rLstD : List V → Hp → VK → Prop := fun xs H Q => ∃ x d ds, xs = [x] ∧ Dq H x d ∧ itemsD d = some ds ∧ ∀ l H', Same H H' → H l = none → Dq H' (.ref l) (.list ds) → Q (.ref l) H'
theorem call_lstD {X : Cx} : CallR X (.type "list") rLstD := by
  intro pins s σ H vs us Q I r h
  refine call_list_of pins s σ H vs us Q I r ?_
  obtain ⟨x, d, ds, rfl, k, e, q⟩ := h
  cases k with
  | lst h1 h2 =>
    cases e
    exact ⟨_, _, rfl, .inl (SqL.of h1), fun l nl => q l _ (same_new nl) nl (.lst upd_same (DqAll.same (same_new nl) _ h2))⟩
  | tup h1 h2 =>
    cases e
    exact ⟨_, _, rfl, .inr (SqT.of h1), fun l nl => q l _ (same_new nl) nl (.lst upd_same (DqAll.same (same_new nl) _ h2))⟩
  | _ => cases e
theorem passE0 {P : Program} {w : World} {X : Cx} : Passes (L2.CX P w) X E0 := fun _ _ _ _ _ _ _ h => by
  obtain ⟨_, _, _, _, _, _, _, _, _, _, _, _, z⟩ := h
  exact z.elim
end TkS
set_option Elab.async false
set_option linter.all false
set_option maxRecDepth 100000
set_option maxHeartbeats 4000000
/-! a tuple no times -/
namespace TkS
open PySem PySem.Spec PyProof.Rows L2
theorem tuple_mul0 (l : Addr) (items : Array Value) (n : Nat) (dd : Option Addr) (sl : Array (Option Value)) (u : Tok) (he : items.isEmpty = false) :
    Meets (Builtin.«tuple.__mul__» ⟨[.ref l, .int 0 u], []⟩) (fun _ R s => s.heap.get? l = some { cls := .type "tuple", dict := dd, data := .seq items n, slots := sl } ∧
      R (.ok (.ret (Value.ref s.heap.objs.size))) { s with heap := s.heap.push { cls := Value.type "tuple", data := Data.seq #[] }, toks := s.toks }) :=
  .of_wp fun prog w A R s h => by
    obtain ⟨hp, g, d, tk, os⟩ := s
    obtain ⟨hl, h⟩ := h
    have f1 := AutoSeq1.idx_int
    have c1 : (items.isEmpty || (0 : Int) == 1) = false := by rw [he]; rfl
    wp_walk using wpAny_loadPart' hl
    repeat (first
      | (refine wpAny_ite_false (decide_eq_false (by rw [c1]; exact Bool.false_ne_true)) ?_; wp_walk using wpAny_loadPart' hl))
    exact ⟨_, rfl, h⟩
def rRepA (K : PySem.W.Frag) : R2 := fun x y H Q => ∃ l k xs, x = .ref l ∧ y = .int k ∧ SqT K H l xs ∧ xs ≠ [] ∧ 0 ≤ k ∧ k ≤ 1000 ∧ xs.length ≤ 1000 ∧ (k = 1 → Q (.ref l) H) ∧ (k ≠ 1 → ∀ p, H p = none → Q (.ref p) (upd H p (.tup (List.replicate k.toNat xs).flatten)))
theorem op_repA {X : Cx} : OpR X (binaryOp .Mult) (rRepA X.K) := by
  intro pins s σ H x y v u Q I rx ry h
  obtain ⟨l, k, xs, rfl, rfl, hT, hne, h1, h2, hz, q1, q2⟩ := h
  by_cases c : k = 0
  · subst c
    cases rx
    obtain ⟨t, rfl⟩ := ry
    obtain ⟨its, r, ⟨⟨cls, dd, data, sl⟩, ho, hc, n, hd⟩, hs⟩ := I.tuple hT
    simp only at hc hd
    subst hc hd
    have hi : its.toArray.isEmpty = false := by
      cases its with
      | nil =>
        cases r
        exact absurd rfl hne
      | cons a b => rfl
    refine wpAny_binaryOp_repeat_ref (T := "tuple") (U := "int") (by decide) ⟨_, ho, rfl⟩ (fun s' => typeIs_int s' 0 t) noFill_tuple_mul F.fills_int_mul F.slot_int_rmul repeat_tuple F.slot_int_index.lookup
      (call_meets F.slot_int_rmul (typeIs_int s 0 t) F.entry_int_rmul (F.args_int_rmul_2 _ _) (int_rmul_tuple 0 t l its.toArray n dd sl)
        ⟨ho, rfl, ⟨_, ho, rfl⟩, call_meets F.slot_tuple_mul ⟨_, ho, rfl⟩ F.entry_tuple_mul (F.args_tuple_mul_2 _ _) (tuple_mul0 l its.toArray n dd sl t hi) ⟨ho, ?_⟩⟩)
    refine ⟨.ref s.heap.objs.size, _, I.laid (t' := s.toks) (o := .tup []) (fun b ob q => Heap.get?_push_of_some _ q) (Nat.le_refl _) ?_, rfl, q2 (by decide) _ (I.hok.fresh (Nat.le_refl _))⟩
    exact ⟨by rw [sizeLine_eq]; exact Nat.zero_le _, _, .nil, IsTup.new _ _⟩
  · exact op_repN pins s σ H _ _ v u Q I rx ry ⟨l, k, xs, rfl, rfl, hT, hne, by omega, h2, hz, q1, fun z => q2 (by omega)⟩
end TkS
set_option Elab.async false
set_option linter.all false
set_option maxRecDepth 100000
set_option maxHeartbeats 4000000
/-! for over enumerate of a tuple, the loop may change what stood before -/
namespace TkS
open PySem PySem.Spec PyProof.Rows L2
theorem for_enumT {K : PySem.W.Frag} {a : Addr} {xs : List V} {ta : TA} {g : TG} {tb : TS} {D : Ends} {σ : L2.St} {H : Hp} (Pv : Nat → L2.St → Hp → Prop) (ht : ∀ Q : List V → Hp → Prop, Q [.ref a] H → ta σ H Q) (h0 : Pv 0 σ H)
    (hl : ∀ i σ H', Pv i σ H' → SqT K H' a xs)
    (hs : ∀ i x T σ H', xs[i]? = some x → Pv i σ H' → H' T = none → g (.ref T) σ (upd H' T (.tup [.int (i : Nat), x])) fun σ2 H2 => tb { D with nx := Pv (i + 1), ct := Pv (i + 1), bk := D.nx } σ2 H2) (hd : ∀ σ H', Pv xs.length σ H' → D.nx σ H') :
    tFor (iEnumS K ta) g tb D σ H := by
  refine .inr (ht _ ⟨a, xs, rfl, hl 0 σ H h0, ?_⟩)
  refine ⟨fun i m σ H' => m = xs.length - i ∧ i ≤ xs.length ∧ Pv i σ H', ⟨xs.length, rfl, Nat.zero_le _, h0⟩, ?_⟩
  rintro i m σ' H' ⟨rfl, hi, p⟩
  have z := hl i σ' H' p
  rcases Nat.lt_or_ge i xs.length with hlt | hge
  · refine .inr ⟨⟨xs, _, z, List.getElem?_eq_getElem hlt⟩, Pv (i + 1), fun σ2 H2 p2 => ⟨xs.length - (i + 1), by omega, rfl, hlt, p2⟩, fun v H2 y => ?_⟩
    obtain ⟨T, x, rfl, hT, rfl, hx⟩ := y
    exact hs i x T σ' H' (hx xs z) p hT
  · have e : i = xs.length := by omega
    subst e
    exact .inl ⟨⟨xs, z, Nat.le_refl _⟩, hd σ' H' p⟩
end TkS
set_option Elab.async false
set_option linter.all false
set_option maxRecDepth 100000
set_option maxHeartbeats 4000000
/-! len(set(a list of ints)), doubles or none -/
namespace TkS
open PySem PySem.Spec PyProof.Rows L2 RZ
theorem firstMet_set (ns : List Int) : ∀ i, i ≤ ns.length → (PyProof.Rows.firstMet (fun i => ns.getD i 0) i).Nodup ∧ ∀ x, x ∈ PyProof.Rows.firstMet (fun i => ns.getD i 0) i ↔ x ∈ ns.take i
  | 0, _ => ⟨List.nodup_nil, fun x => Iff.rfl⟩
  | i + 1, h => by
    obtain ⟨n1, m1⟩ := firstMet_set ns i (by omega)
    have hlt : i < ns.length := h
    have e1 : ns.getD i 0 = ns[i] := by
      rw [List.getD_eq_getElem?_getD, List.getElem?_eq_getElem hlt] <;> rfl
    have e2 : ns.take (i + 1) = ns.take i ++ [ns[i]] := by
      rw [List.take_add_one, List.getElem?_eq_getElem hlt] <;> rfl
    have e3 : PyProof.Rows.firstMet (fun i => ns.getD i 0) (i + 1) = if (PyProof.Rows.firstMet (fun i => ns.getD i 0) i).any (· == ns.getD i 0) then PyProof.Rows.firstMet (fun i => ns.getD i 0) i else PyProof.Rows.firstMet (fun i => ns.getD i 0) i ++ [ns.getD i 0] := by
      rw [PyProof.Rows.firstMet_succ]
      rfl
    rw [e3, e2, e1]
    cases hb : (PyProof.Rows.firstMet (fun i => ns.getD i 0) i).any (· == ns[i]) with
    | true =>
      rw [if_pos rfl]
      obtain ⟨y, hy, ey⟩ := List.any_eq_true.mp hb
      have ey2 : y = ns[i] := eq_of_beq ey
      rw [ey2] at hy
      refine ⟨n1, fun x => ?_⟩
      rw [m1, List.mem_append, List.mem_singleton]
      exact ⟨.inl, fun z => z.elim id fun e => by rw [e]; exact (m1 _).mp hy⟩
    | false =>
      rw [if_neg Bool.false_ne_true]
      refine ⟨?_, fun x => by rw [List.mem_append, List.mem_append, m1]⟩
      rw [List.nodup_append]
      refine ⟨n1, List.nodup_cons.mpr ⟨by simp, List.nodup_nil⟩, fun a ha b hb2 e => ?_⟩
      rw [List.mem_singleton] at hb2
      subst hb2
      subst e
      have ht : (PyProof.Rows.firstMet (fun i => ns.getD i 0) i).any (fun x => x == ns[i]) = true := List.any_eq_true.mpr ⟨_, ha, beq_self_eq_true _⟩
      rw [hb] at ht
      cases ht
def tLenSetD (K : PySem.W.Frag) (ta : TE) : TE := fun σ H Q => ta σ H fun x H1 => ∃ (l : Addr) (ns : List Int), x = .ref l ∧ SqL K H1 l (ns.map V.int) ∧ ns.length ≤ 4000 ∧ ∀ L : List Int, L.Nodup → (∀ z, z ∈ L ↔ z ∈ ns) → Q (.int (L.length : Nat)) H1
theorem pe_lenSetD {X : Cx} {a : Expr} {ta : TE} {p p2 q pos : Pos} (hg : Gl X "len") (hm : X.mg "len" = none) (hg2 : Gl X "set") (hm2 : X.mg "set" = none) (ha : PE X a ta) (hc : X.calm = true := by rfl)
    (na : starEach [a] X.env = (false, eval a X.env) :: starEach [] X.env := by rfl) : PE X (.Call (.Name "len" p) [.Call (.Name "set" p2) [a] [] q] [] pos) (tLenSetD X.K ta) := by
  refine ⟨fun pins s σ H Q I h => ?_⟩
  refine Call_ (ld_blt I hg hm boot_len ?_)
  refine PyProof.Rows.callWith_builtin1 (PyProof.Rows.args_cons ?_ rfl) rfl rfl
  refine Call_ (ld_blt I hg2 hm2 boot_set ?_)
  refine PyProof.Rows.callWith_type1 (PyProof.Rows.args_cons (thn (ha.run pins s σ H _ I h) fun v s1 ⟨x, H1, I1, r1, q1⟩ => PyProof.Rows.args_nil ?_) na) na rfl
  obtain ⟨l, ns, rfl, hq, hl, q1⟩ := q1
  cases r1
  obtain ⟨its, r, pl, hz⟩ := I1.list hq
  have hlen : its.toArray.size = ns.length := by rw [List.size_toArray, ← r.length, List.length_map]
  refine call_set_list (I1.ok.hd hc) pl.isList (by simpa using intsAre_vals r) (by rw [hlen]; unfold scanBound; omega) fun h' tk hS hk => ?_
  refine PyProof.Rows.args_nil ?_
  obtain ⟨nd, mm⟩ := firstMet_set ns ns.length (Nat.le_refl _)
  rw [List.take_length] at mm
  rw [hlen] at hS
  have lb : (PyProof.Rows.firstMet (fun i => ns.getD i 0) ns.length).length ≤ ns.length := nd_le nd fun x hx => (mm x).mp hx
  obtain ⟨o, es, ep, t, ho, hex, hd, _, _, _, hf, hn⟩ := hS
  have I2 : Inv X pins σ H1 { s1 with heap := h', toks := tk } := I1.kept fun b o e => hk b o (Heap.lt_size e) e
  exact call_len_set ho hex hd hf (by rw [hn] <;> omega) ⟨.int ((PyProof.Rows.firstMet (fun i => ns.getD i 0) ns.length).length : Nat), H1, I2.tok _, ⟨_, by rw [hn]⟩, q1 _ nd mm⟩
end TkS
set_option Elab.async false
set_option linter.all false
set_option maxRecDepth 100000
set_option maxHeartbeats 4000000
set_option exponentiation.threshold 5000
namespace K04
open PySem PySem.Spec PyProof.Rows L2 TkS
/-! the text -/
def topS (i : Nat) : Stmt := PySem.Challenge.pw_sheetproofs_k04_whole_fields_reckoned.main.body.getD i (.Pass ⟨0, 0, 0, 0⟩)
abbrev s_is_whole : Stmt := topS 7
theorem sc_is_whole : FnScope ["thing", "low", "high"] ["thing", "low", "high"] (defScope s_is_whole) := ⟨rfl, rfl, rfl, by decide +kernel, rfl, by decide +kernel, by decide +kernel⟩
abbrev s_common_divisor : Stmt := topS 8
theorem sc_common_divisor : FnScope ["one", "other"] ["one", "other"] (defScope s_common_divisor) := ⟨rfl, rfl, rfl, by decide +kernel, rfl, by decide +kernel, by decide +kernel⟩
abbrev s_power_of : Stmt := topS 9
theorem sc_power_of : FnScope ["base", "exponent", "result"] ["base", "exponent"] (defScope s_power_of) := ⟨rfl, rfl, rfl, by decide +kernel, rfl, by decide +kernel, by decide +kernel⟩
abbrev s_least_factor : Stmt := topS 12
theorem sc_least_factor : FnScope ["number", "factor"] ["number"] (defScope s_least_factor) := ⟨rfl, rfl, rfl, by decide +kernel, rfl, by decide +kernel, by decide +kernel⟩
abbrev s_is_prime : Stmt := topS 13
theorem sc_is_prime : FnScope ["number"] ["number"] (defScope s_is_prime) := ⟨rfl, rfl, rfl, by decide +kernel, rfl, by decide +kernel, by decide +kernel⟩
abbrev s_source_of : Stmt := topS 14
theorem sc_source_of : FnScope ["field", "steps", "shorter", "left", "factor", "number", "exponent"] ["field"] (defScope s_source_of) := ⟨rfl, rfl, rfl, by decide +kernel, rfl, by decide +kernel, by decide +kernel⟩
abbrev s_steps_of : Stmt := topS 15
theorem sc_steps_of : FnScope ["field", "number", "source", "steps", "reached"] ["field", "number"] (defScope s_steps_of) := ⟨rfl, rfl, rfl, by decide +kernel, rfl, by decide +kernel, by decide +kernel⟩
abbrev s_RestField_init : Stmt := inClass (topS 16) 0
theorem sc_RestField_init : FnScope ["self", "prime"] ["self", "prime"] (defScope s_RestField_init) := ⟨rfl, rfl, rfl, by decide +kernel, rfl, by decide +kernel, by decide +kernel⟩
abbrev s_RestField_eq : Stmt := inClass (topS 16) 1
theorem sc_RestField_eq : FnScope ["self", "other"] ["self", "other"] (defScope s_RestField_eq) := ⟨rfl, rfl, rfl, by decide +kernel, rfl, by decide +kernel, by decide +kernel⟩
abbrev s_RestField_check_number : Stmt := inClass (topS 16) 2
theorem sc_RestField_check_number : FnScope ["self", "number"] ["self", "number"] (defScope s_RestField_check_number) := ⟨rfl, rfl, rfl, by decide +kernel, rfl, by decide +kernel, by decide +kernel⟩
abbrev s_RestField_number_of : Stmt := inClass (topS 16) 3
theorem sc_RestField_number_of : FnScope ["self", "whole"] ["self", "whole"] (defScope s_RestField_number_of) := ⟨rfl, rfl, rfl, by decide +kernel, rfl, by decide +kernel, by decide +kernel⟩
abbrev s_RestField_plus : Stmt := inClass (topS 16) 4
theorem sc_RestField_plus : FnScope ["self", "one", "other"] ["self", "one", "other"] (defScope s_RestField_plus) := ⟨rfl, rfl, rfl, by decide +kernel, rfl, by decide +kernel, by decide +kernel⟩
abbrev s_RestField_less : Stmt := inClass (topS 16) 5
theorem sc_RestField_less : FnScope ["self", "one", "other"] ["self", "one", "other"] (defScope s_RestField_less) := ⟨rfl, rfl, rfl, by decide +kernel, rfl, by decide +kernel, by decide +kernel⟩
abbrev s_RestField_times : Stmt := inClass (topS 16) 6
theorem sc_RestField_times : FnScope ["self", "one", "other"] ["self", "one", "other"] (defScope s_RestField_times) := ⟨rfl, rfl, rfl, by decide +kernel, rfl, by decide +kernel, by decide +kernel⟩
abbrev s_RestField_quotient : Stmt := inClass (topS 16) 7
theorem sc_RestField_quotient : FnScope ["self", "one", "other"] ["self", "one", "other"] (defScope s_RestField_quotient) := ⟨rfl, rfl, rfl, by decide +kernel, rfl, by decide +kernel, by decide +kernel⟩
abbrev s_RestField_power : Stmt := inClass (topS 16) 8
theorem sc_RestField_power : FnScope ["self", "number", "exponent", "left", "result"] ["self", "number", "exponent"] (defScope s_RestField_power) := ⟨rfl, rfl, rfl, by decide +kernel, rfl, by decide +kernel, by decide +kernel⟩
abbrev s_fraction : Stmt := topS 17
theorem sc_fraction : FnScope ["top", "bottom", "divisor"] ["top", "bottom"] (defScope s_fraction) := ⟨rfl, rfl, rfl, by decide +kernel, rfl, by decide +kernel, by decide +kernel⟩
abbrev s_FractionField_init : Stmt := inClass (topS 18) 0
theorem sc_FractionField_init : FnScope ["self"] ["self"] (defScope s_FractionField_init) := ⟨rfl, rfl, rfl, by decide +kernel, rfl, by decide +kernel, by decide +kernel⟩
abbrev s_FractionField_eq : Stmt := inClass (topS 18) 1
theorem sc_FractionField_eq : FnScope ["self", "other"] ["self", "other"] (defScope s_FractionField_eq) := ⟨rfl, rfl, rfl, by decide +kernel, rfl, by decide +kernel, by decide +kernel⟩
abbrev s_FractionField_check_number : Stmt := inClass (topS 18) 2
theorem sc_FractionField_check_number : FnScope ["self", "number", "top", "bottom"] ["self", "number"] (defScope s_FractionField_check_number) := ⟨rfl, rfl, rfl, by decide +kernel, rfl, by decide +kernel, by decide +kernel⟩
abbrev s_FractionField_number_of : Stmt := inClass (topS 18) 3
theorem sc_FractionField_number_of : FnScope ["self", "whole"] ["self", "whole"] (defScope s_FractionField_number_of) := ⟨rfl, rfl, rfl, by decide +kernel, rfl, by decide +kernel, by decide +kernel⟩
abbrev s_FractionField_plus : Stmt := inClass (topS 18) 4
theorem sc_FractionField_plus : FnScope ["self", "one", "other"] ["self", "one", "other"] (defScope s_FractionField_plus) := ⟨rfl, rfl, rfl, by decide +kernel, rfl, by decide +kernel, by decide +kernel⟩
abbrev s_FractionField_less : Stmt := inClass (topS 18) 5
theorem sc_FractionField_less : FnScope ["self", "one", "other"] ["self", "one", "other"] (defScope s_FractionField_less) := ⟨rfl, rfl, rfl, by decide +kernel, rfl, by decide +kernel, by decide +kernel⟩
abbrev s_FractionField_times : Stmt := inClass (topS 18) 6
theorem sc_FractionField_times : FnScope ["self", "one", "other"] ["self", "one", "other"] (defScope s_FractionField_times) := ⟨rfl, rfl, rfl, by decide +kernel, rfl, by decide +kernel, by decide +kernel⟩
abbrev s_FractionField_quotient : Stmt := inClass (topS 18) 7
theorem sc_FractionField_quotient : FnScope ["self", "one", "other"] ["self", "one", "other"] (defScope s_FractionField_quotient) := ⟨rfl, rfl, rfl, by decide +kernel, rfl, by decide +kernel, by decide +kernel⟩
abbrev s_FractionField_power : Stmt := inClass (topS 18) 8
theorem sc_FractionField_power : FnScope ["self", "number", "exponent", "top", "bottom"] ["self", "number", "exponent"] (defScope s_FractionField_power) := ⟨rfl, rfl, rfl, by decide +kernel, rfl, by decide +kernel, by decide +kernel⟩
abbrev s_law_mixed : Stmt := topS 20
theorem sc_law_mixed : FnScope ["_law_number_here", "_law_turn", "_law_once", "_law_twice"] ["_law_number_here", "_law_turn"] (defScope s_law_mixed) := ⟨rfl, rfl, rfl, by decide +kernel, rfl, by decide +kernel, by decide +kernel⟩
abbrev s_law_hand : Stmt := topS 21
theorem sc_law_hand : FnScope ["_law_script", "_law_state", "_law_place", "_law_cell"] ["_law_script"] (defScope s_law_hand) := ⟨rfl, rfl, rfl, by decide +kernel, rfl, by decide +kernel, by decide +kernel⟩
abbrev s_law_draw : Stmt := topS 22
theorem sc_law_draw : FnScope ["_law_hand_here", "_law_many", "_law_cell", "_law_rest"] ["_law_hand_here", "_law_many"] (defScope s_law_draw) := ⟨rfl, rfl, rfl, by decide +kernel, rfl, by decide +kernel, by decide +kernel⟩
abbrev s_law_whole : Stmt := topS 23
theorem sc_law_whole : FnScope ["_law_thing"] ["_law_thing"] (defScope s_law_whole) := ⟨rfl, rfl, rfl, by decide +kernel, rfl, by decide +kernel, by decide +kernel⟩
abbrev s_law_divisor : Stmt := topS 24
theorem sc_law_divisor : FnScope ["_law_one_here", "_law_other", "_law_a", "_law_b", "_law_step"] ["_law_one_here", "_law_other"] (defScope s_law_divisor) := ⟨rfl, rfl, rfl, by decide +kernel, rfl, by decide +kernel, by decide +kernel⟩
abbrev s_law_lowest : Stmt := topS 25
theorem sc_law_lowest : FnScope ["_law_top", "_law_bottom", "_law_part"] ["_law_top", "_law_bottom"] (defScope s_law_lowest) := ⟨rfl, rfl, rfl, by decide +kernel, rfl, by decide +kernel, by decide +kernel⟩
abbrev s_law_prime : Stmt := topS 26
theorem sc_law_prime : FnScope ["_law_number_here", "_law_divisor_here"] ["_law_number_here"] (defScope s_law_prime) := ⟨rfl, rfl, rfl, by decide +kernel, rfl, by decide +kernel, by decide +kernel⟩
abbrev s_law_next_prime : Stmt := topS 27
theorem sc_law_next_prime : FnScope ["_law_number_here", "_law_prime_here"] ["_law_number_here"] (defScope s_law_next_prime) := ⟨rfl, rfl, rfl, by decide +kernel, rfl, by decide +kernel, by decide +kernel⟩
abbrev s_law_field : Stmt := topS 28
theorem sc_law_field : FnScope ["_law_hand_here", "_law_pick"] ["_law_hand_here"] (defScope s_law_field) := ⟨rfl, rfl, rfl, by decide +kernel, rfl, by decide +kernel, by decide +kernel⟩
abbrev s_law_made_field : Stmt := topS 29
theorem sc_law_made_field : FnScope ["_law_prime_here"] ["_law_prime_here"] (defScope s_law_made_field) := ⟨rfl, rfl, rfl, by decide +kernel, rfl, by decide +kernel, by decide +kernel⟩
abbrev s_law_one : Stmt := topS 30
theorem sc_law_one : FnScope ["_law_prime_here"] ["_law_prime_here"] (defScope s_law_one) := ⟨rfl, rfl, rfl, by decide +kernel, rfl, by decide +kernel, by decide +kernel⟩
abbrev s_law_minus : Stmt := topS 31
theorem sc_law_minus : FnScope ["_law_prime_here"] ["_law_prime_here"] (defScope s_law_minus) := ⟨rfl, rfl, rfl, by decide +kernel, rfl, by decide +kernel, by decide +kernel⟩
abbrev s_law_times : Stmt := topS 32
theorem sc_law_times : FnScope ["_law_prime_here", "_law_a", "_law_b"] ["_law_prime_here", "_law_a", "_law_b"] (defScope s_law_times) := ⟨rfl, rfl, rfl, by decide +kernel, rfl, by decide +kernel, by decide +kernel⟩
abbrev s_law_power : Stmt := topS 33
theorem sc_law_power : FnScope ["_law_prime_here", "_law_a", "_law_exponent_here", "_law_base", "_law_left", "_law_out", "_law_step"] ["_law_prime_here", "_law_a", "_law_exponent_here"] (defScope s_law_power) := ⟨rfl, rfl, rfl, by decide +kernel, rfl, by decide +kernel, by decide +kernel⟩
abbrev s_law_number : Stmt := topS 34
theorem sc_law_number : FnScope ["_law_hand_here", "_law_prime_here", "_law_pick", "_law_top", "_law_bottom"] ["_law_hand_here", "_law_prime_here"] (defScope s_law_number) := ⟨rfl, rfl, rfl, by decide +kernel, rfl, by decide +kernel, by decide +kernel⟩
abbrev s_law_is_number : Stmt := topS 35
theorem sc_law_is_number : FnScope ["_law_prime_here", "_law_thing"] ["_law_prime_here", "_law_thing"] (defScope s_law_is_number) := ⟨rfl, rfl, rfl, by decide +kernel, rfl, by decide +kernel, by decide +kernel⟩
abbrev s_law_same : Stmt := topS 36
theorem sc_law_same : FnScope ["_law_prime_here", "_law_thing", "_law_due"] ["_law_prime_here", "_law_thing", "_law_due"] (defScope s_law_same) := ⟨rfl, rfl, rfl, by decide +kernel, rfl, by decide +kernel, by decide +kernel⟩
abbrev s_law_odd : Stmt := topS 37
theorem sc_law_odd : FnScope ["_law_hand_here", "_law_prime_here", "_law_odds"] ["_law_hand_here", "_law_prime_here"] (defScope s_law_odd) := ⟨rfl, rfl, rfl, by decide +kernel, rfl, by decide +kernel, by decide +kernel⟩
abbrev s_law_field_told : Stmt := topS 38
theorem sc_law_field_told : FnScope ["_law_number_here", "e"] ["_law_number_here"] (defScope s_law_field_told) := ⟨rfl, rfl, rfl, by decide +kernel, rfl, by decide +kernel, by decide +kernel⟩
abbrev s_law_primes_hold : Stmt := topS 39
theorem sc_law_primes_hold : FnScope ["_law_hand_here", "_law_number_here", "_law_due", "_law_told", "_law_odd_here"] ["_law_hand_here"] (defScope s_law_primes_hold) := ⟨rfl, rfl, rfl, by decide +kernel, rfl, by decide +kernel, by decide +kernel⟩
abbrev s_law_number_told : Stmt := topS 40
theorem sc_law_number_told : FnScope ["_law_field_here", "_law_thing", "e"] ["_law_field_here", "_law_thing"] (defScope s_law_number_told) := ⟨rfl, rfl, rfl, by decide +kernel, rfl, by decide +kernel, by decide +kernel⟩
abbrev s_law_divided : Stmt := topS 41
theorem sc_law_divided : FnScope ["_law_field_here", "_law_one_here", "_law_other", "e"] ["_law_field_here", "_law_one_here", "_law_other"] (defScope s_law_divided) := ⟨rfl, rfl, rfl, by decide +kernel, rfl, by decide +kernel, by decide +kernel⟩
abbrev s_law_raised : Stmt := topS 42
theorem sc_law_raised : FnScope ["_law_field_here", "_law_number_here", "_law_exponent_here", "e"] ["_law_field_here", "_law_number_here", "_law_exponent_here"] (defScope s_law_raised) := ⟨rfl, rfl, rfl, by decide +kernel, rfl, by decide +kernel, by decide +kernel⟩
abbrev s_law_plus : Stmt := topS 43
theorem sc_law_plus : FnScope ["_law_prime_here", "_law_a", "_law_b"] ["_law_prime_here", "_law_a", "_law_b"] (defScope s_law_plus) := ⟨rfl, rfl, rfl, by decide +kernel, rfl, by decide +kernel, by decide +kernel⟩
abbrev s_law_less : Stmt := topS 44
theorem sc_law_less : FnScope ["_law_prime_here", "_law_a", "_law_b"] ["_law_prime_here", "_law_a", "_law_b"] (defScope s_law_less) := ⟨rfl, rfl, rfl, by decide +kernel, rfl, by decide +kernel, by decide +kernel⟩
abbrev s_law_any_number : Stmt := topS 45
theorem sc_law_any_number : FnScope ["_law_hand_here", "_law_prime_here"] ["_law_hand_here", "_law_prime_here"] (defScope s_law_any_number) := ⟨rfl, rfl, rfl, by decide +kernel, rfl, by decide +kernel, by decide +kernel⟩
abbrev s_law_exponent : Stmt := topS 46
theorem sc_law_exponent : FnScope ["_law_hand_here", "_law_prime_here", "_law_pick"] ["_law_hand_here", "_law_prime_here"] (defScope s_law_exponent) := ⟨rfl, rfl, rfl, by decide +kernel, rfl, by decide +kernel, by decide +kernel⟩
abbrev s_law_powers_hold : Stmt := topS 47
theorem sc_law_powers_hold : FnScope ["_law_field_here", "_law_prime_here", "_law_a", "_law_exponent_here", "_law_zero", "_law_told", "_law_due"] ["_law_field_here", "_law_prime_here", "_law_a", "_law_exponent_here", "_law_zero"] (defScope s_law_powers_hold) := ⟨rfl, rfl, rfl, by decide +kernel, rfl, by decide +kernel, by decide +kernel⟩
abbrev s_law_sums_hold : Stmt := topS 48
theorem sc_law_sums_hold : FnScope ["_law_hand_here", "_law_field_here", "_law_prime_here", "_law_zero", "_law_turn", "_law_a", "_law_b", "_law_told", "_law_whole_here", "_law_odd_here"] ["_law_hand_here", "_law_field_here", "_law_prime_here"] (defScope s_law_sums_hold) := ⟨rfl, rfl, rfl, by decide +kernel, rfl, by decide +kernel, by decide +kernel⟩
abbrev s_law_prime_parts : Stmt := topS 49
theorem sc_law_prime_parts : FnScope ["_law_number_here", "_law_out", "_law_left", "_law_divisor_here", "_law_turn"] ["_law_number_here"] (defScope s_law_prime_parts) := ⟨rfl, rfl, rfl, by decide +kernel, rfl, by decide +kernel, by decide +kernel⟩
abbrev s_law_is_source : Stmt := topS 50
theorem sc_law_is_source : FnScope ["_law_prime_here", "_law_number_here", "_law_parts", "_law_part"] ["_law_prime_here", "_law_number_here", "_law_parts"] (defScope s_law_is_source) := ⟨rfl, rfl, rfl, by decide +kernel, rfl, by decide +kernel, by decide +kernel⟩
abbrev s_law_steps_told : Stmt := topS 51
theorem sc_law_steps_told : FnScope ["_law_field_here", "_law_thing"] ["_law_field_here", "_law_thing"] (defScope s_law_steps_told) := ⟨rfl, rfl, rfl, by decide +kernel, rfl, by decide +kernel, by decide +kernel⟩
abbrev s_law_source_holds : Stmt := topS 52
theorem sc_law_source_holds : FnScope ["_law_hand_here", "_law_prime_here", "_law_field_here", "_law_parts", "_law_source", "_law_lesser", "_law_number_here", "_law_told"] ["_law_hand_here", "_law_prime_here"] (defScope s_law_source_holds) := ⟨rfl, rfl, rfl, by decide +kernel, rfl, by decide +kernel, by decide +kernel⟩
abbrev s_law : Stmt := topS 53
theorem sc_law : FnScope ["_law_script", "_law_hand_here", "_law_prime_here", "_law_other", "_law_one_here", "_law_largest"] ["_law_script"] (defScope s_law) := ⟨rfl, rfl, rfl, by decide +kernel, rfl, by decide +kernel, by decide +kernel⟩
/-! what the top leaves -/
structure Txt (K : PySem.W.Frag) (mg : Str → Option Value) where
  f_is_whole : Addr
  d_is_whole : FuncData
  F_is_whole : FunD K "is_whole" "is_whole" (defArgs s_is_whole) (defBody s_is_whole) (defScope s_is_whole) [.non, .non] [] f_is_whole d_is_whole
  b2_is_whole : Binds K d_is_whole ["thing", "low", "high"] [.none, .none]
  b1_is_whole : Binds K d_is_whole ["thing", "low", "high"] [.none]
  b_is_whole : Binds K d_is_whole ["thing", "low", "high"] []
  g_is_whole : mg "is_whole" = some (.ref f_is_whole)
  f_common_divisor : Addr
  d_common_divisor : FuncData
  F_common_divisor : Fun K "common_divisor" "common_divisor" s_common_divisor f_common_divisor d_common_divisor
  b_common_divisor : Binds K d_common_divisor ["one", "other"] []
  g_common_divisor : mg "common_divisor" = some (.ref f_common_divisor)
  f_power_of : Addr
  d_power_of : FuncData
  F_power_of : Fun K "power_of" "power_of" s_power_of f_power_of d_power_of
  b_power_of : Binds K d_power_of ["base", "exponent"] []
  g_power_of : mg "power_of" = some (.ref f_power_of)
  f_least_factor : Addr
  d_least_factor : FuncData
  F_least_factor : Fun K "least_factor" "least_factor" s_least_factor f_least_factor d_least_factor
  b_least_factor : Binds K d_least_factor ["number"] []
  g_least_factor : mg "least_factor" = some (.ref f_least_factor)
  f_is_prime : Addr
  d_is_prime : FuncData
  F_is_prime : Fun K "is_prime" "is_prime" s_is_prime f_is_prime d_is_prime
  b_is_prime : Binds K d_is_prime ["number"] []
  g_is_prime : mg "is_prime" = some (.ref f_is_prime)
  f_source_of : Addr
  d_source_of : FuncData
  F_source_of : Fun K "source_of" "source_of" s_source_of f_source_of d_source_of
  b_source_of : Binds K d_source_of ["field"] []
  g_source_of : mg "source_of" = some (.ref f_source_of)
  f_steps_of : Addr
  d_steps_of : FuncData
  F_steps_of : Fun K "steps_of" "steps_of" s_steps_of f_steps_of d_steps_of
  b_steps_of : Binds K d_steps_of ["field", "number"] []
  g_steps_of : mg "steps_of" = some (.ref f_steps_of)
  f_RestField_init : Addr
  d_RestField_init : FuncData
  F_RestField_init : Fun K "__init__" "RestField.__init__" s_RestField_init f_RestField_init d_RestField_init
  b_RestField_init : Binds K d_RestField_init ["self", "prime"] []
  f_RestField_eq : Addr
  d_RestField_eq : FuncData
  F_RestField_eq : Fun K "__eq__" "RestField.__eq__" s_RestField_eq f_RestField_eq d_RestField_eq
  b_RestField_eq : Binds K d_RestField_eq ["self", "other"] []
  f_RestField_check_number : Addr
  d_RestField_check_number : FuncData
  F_RestField_check_number : Fun K "check_number" "RestField.check_number" s_RestField_check_number f_RestField_check_number d_RestField_check_number
  b_RestField_check_number : Binds K d_RestField_check_number ["self", "number"] []
  f_RestField_number_of : Addr
  d_RestField_number_of : FuncData
  F_RestField_number_of : Fun K "number_of" "RestField.number_of" s_RestField_number_of f_RestField_number_of d_RestField_number_of
  b_RestField_number_of : Binds K d_RestField_number_of ["self", "whole"] []
  f_RestField_plus : Addr
  d_RestField_plus : FuncData
  F_RestField_plus : Fun K "plus" "RestField.plus" s_RestField_plus f_RestField_plus d_RestField_plus
  b_RestField_plus : Binds K d_RestField_plus ["self", "one", "other"] []
  f_RestField_less : Addr
  d_RestField_less : FuncData
  F_RestField_less : Fun K "less" "RestField.less" s_RestField_less f_RestField_less d_RestField_less
  b_RestField_less : Binds K d_RestField_less ["self", "one", "other"] []
  f_RestField_times : Addr
  d_RestField_times : FuncData
  F_RestField_times : Fun K "times" "RestField.times" s_RestField_times f_RestField_times d_RestField_times
  b_RestField_times : Binds K d_RestField_times ["self", "one", "other"] []
  f_RestField_quotient : Addr
  d_RestField_quotient : FuncData
  F_RestField_quotient : Fun K "quotient" "RestField.quotient" s_RestField_quotient f_RestField_quotient d_RestField_quotient
  b_RestField_quotient : Binds K d_RestField_quotient ["self", "one", "other"] []
  f_RestField_power : Addr
  d_RestField_power : FuncData
  F_RestField_power : Fun K "power" "RestField.power" s_RestField_power f_RestField_power d_RestField_power
  b_RestField_power : Binds K d_RestField_power ["self", "number", "exponent"] []
  f_fraction : Addr
  d_fraction : FuncData
  F_fraction : Fun K "_fraction" "_fraction" s_fraction f_fraction d_fraction
  b_fraction : Binds K d_fraction ["top", "bottom"] []
  g_fraction : mg "_fraction" = some (.ref f_fraction)
  f_FractionField_init : Addr
  d_FractionField_init : FuncData
  F_FractionField_init : Fun K "__init__" "FractionField.__init__" s_FractionField_init f_FractionField_init d_FractionField_init
  b_FractionField_init : Binds K d_FractionField_init ["self"] []
  f_FractionField_eq : Addr
  d_FractionField_eq : FuncData
  F_FractionField_eq : Fun K "__eq__" "FractionField.__eq__" s_FractionField_eq f_FractionField_eq d_FractionField_eq
  b_FractionField_eq : Binds K d_FractionField_eq ["self", "other"] []
  f_FractionField_check_number : Addr
  d_FractionField_check_number : FuncData
  F_FractionField_check_number : Fun K "check_number" "FractionField.check_number" s_FractionField_check_number f_FractionField_check_number d_FractionField_check_number
  b_FractionField_check_number : Binds K d_FractionField_check_number ["self", "number"] []
  f_FractionField_number_of : Addr
  d_FractionField_number_of : FuncData
  F_FractionField_number_of : Fun K "number_of" "FractionField.number_of" s_FractionField_number_of f_FractionField_number_of d_FractionField_number_of
  b_FractionField_number_of : Binds K d_FractionField_number_of ["self", "whole"] []
  f_FractionField_plus : Addr
  d_FractionField_plus : FuncData
  F_FractionField_plus : Fun K "plus" "FractionField.plus" s_FractionField_plus f_FractionField_plus d_FractionField_plus
  b_FractionField_plus : Binds K d_FractionField_plus ["self", "one", "other"] []
  f_FractionField_less : Addr
  d_FractionField_less : FuncData
  F_FractionField_less : Fun K "less" "FractionField.less" s_FractionField_less f_FractionField_less d_FractionField_less
  b_FractionField_less : Binds K d_FractionField_less ["self", "one", "other"] []
  f_FractionField_times : Addr
  d_FractionField_times : FuncData
  F_FractionField_times : Fun K "times" "FractionField.times" s_FractionField_times f_FractionField_times d_FractionField_times
  b_FractionField_times : Binds K d_FractionField_times ["self", "one", "other"] []
  f_FractionField_quotient : Addr
  d_FractionField_quotient : FuncData
  F_FractionField_quotient : Fun K "quotient" "FractionField.quotient" s_FractionField_quotient f_FractionField_quotient d_FractionField_quotient
  b_FractionField_quotient : Binds K d_FractionField_quotient ["self", "one", "other"] []
  f_FractionField_power : Addr
  d_FractionField_power : FuncData
  F_FractionField_power : Fun K "power" "FractionField.power" s_FractionField_power f_FractionField_power d_FractionField_power
  b_FractionField_power : Binds K d_FractionField_power ["self", "number", "exponent"] []
  f_law_mixed : Addr
  d_law_mixed : FuncData
  F_law_mixed : Fun K "_law_mixed" "_law_mixed" s_law_mixed f_law_mixed d_law_mixed
  b_law_mixed : Binds K d_law_mixed ["_law_number_here", "_law_turn"] []
  g_law_mixed : mg "_law_mixed" = some (.ref f_law_mixed)
  f_law_hand : Addr
  d_law_hand : FuncData
  F_law_hand : Fun K "_law_hand" "_law_hand" s_law_hand f_law_hand d_law_hand
  b_law_hand : Binds K d_law_hand ["_law_script"] []
  g_law_hand : mg "_law_hand" = some (.ref f_law_hand)
  f_law_draw : Addr
  d_law_draw : FuncData
  F_law_draw : Fun K "_law_draw" "_law_draw" s_law_draw f_law_draw d_law_draw
  b_law_draw : Binds K d_law_draw ["_law_hand_here", "_law_many"] []
  g_law_draw : mg "_law_draw" = some (.ref f_law_draw)
  f_law_whole : Addr
  d_law_whole : FuncData
  F_law_whole : Fun K "_law_whole" "_law_whole" s_law_whole f_law_whole d_law_whole
  b_law_whole : Binds K d_law_whole ["_law_thing"] []
  g_law_whole : mg "_law_whole" = some (.ref f_law_whole)
  f_law_divisor : Addr
  d_law_divisor : FuncData
  F_law_divisor : Fun K "_law_divisor" "_law_divisor" s_law_divisor f_law_divisor d_law_divisor
  b_law_divisor : Binds K d_law_divisor ["_law_one_here", "_law_other"] []
  g_law_divisor : mg "_law_divisor" = some (.ref f_law_divisor)
  f_law_lowest : Addr
  d_law_lowest : FuncData
  F_law_lowest : Fun K "_law_lowest" "_law_lowest" s_law_lowest f_law_lowest d_law_lowest
  b_law_lowest : Binds K d_law_lowest ["_law_top", "_law_bottom"] []
  g_law_lowest : mg "_law_lowest" = some (.ref f_law_lowest)
  f_law_prime : Addr
  d_law_prime : FuncData
  F_law_prime : Fun K "_law_prime" "_law_prime" s_law_prime f_law_prime d_law_prime
  b_law_prime : Binds K d_law_prime ["_law_number_here"] []
  g_law_prime : mg "_law_prime" = some (.ref f_law_prime)
  f_law_next_prime : Addr
  d_law_next_prime : FuncData
  F_law_next_prime : Fun K "_law_next_prime" "_law_next_prime" s_law_next_prime f_law_next_prime d_law_next_prime
  b_law_next_prime : Binds K d_law_next_prime ["_law_number_here"] []
  g_law_next_prime : mg "_law_next_prime" = some (.ref f_law_next_prime)
  f_law_field : Addr
  d_law_field : FuncData
  F_law_field : Fun K "_law_field" "_law_field" s_law_field f_law_field d_law_field
  b_law_field : Binds K d_law_field ["_law_hand_here"] []
  g_law_field : mg "_law_field" = some (.ref f_law_field)
  f_law_made_field : Addr
  d_law_made_field : FuncData
  F_law_made_field : Fun K "_law_made_field" "_law_made_field" s_law_made_field f_law_made_field d_law_made_field
  b_law_made_field : Binds K d_law_made_field ["_law_prime_here"] []
  g_law_made_field : mg "_law_made_field" = some (.ref f_law_made_field)
  f_law_one : Addr
  d_law_one : FuncData
  F_law_one : Fun K "_law_one" "_law_one" s_law_one f_law_one d_law_one
  b_law_one : Binds K d_law_one ["_law_prime_here"] []
  g_law_one : mg "_law_one" = some (.ref f_law_one)
  f_law_minus : Addr
  d_law_minus : FuncData
  F_law_minus : Fun K "_law_minus" "_law_minus" s_law_minus f_law_minus d_law_minus
  b_law_minus : Binds K d_law_minus ["_law_prime_here"] []
  g_law_minus : mg "_law_minus" = some (.ref f_law_minus)
  f_law_times : Addr
  d_law_times : FuncData
  F_law_times : Fun K "_law_times" "_law_times" s_law_times f_law_times d_law_times
  b_law_times : Binds K d_law_times ["_law_prime_here", "_law_a", "_law_b"] []
  g_law_times : mg "_law_times" = some (.ref f_law_times)
  f_law_power : Addr
  d_law_power : FuncData
  F_law_power : Fun K "_law_power" "_law_power" s_law_power f_law_power d_law_power
  b_law_power : Binds K d_law_power ["_law_prime_here", "_law_a", "_law_exponent_here"] []
  g_law_power : mg "_law_power" = some (.ref f_law_power)
  f_law_number : Addr
  d_law_number : FuncData
  F_law_number : Fun K "_law_number" "_law_number" s_law_number f_law_number d_law_number
  b_law_number : Binds K d_law_number ["_law_hand_here", "_law_prime_here"] []
  g_law_number : mg "_law_number" = some (.ref f_law_number)
  f_law_is_number : Addr
  d_law_is_number : FuncData
  F_law_is_number : Fun K "_law_is_number" "_law_is_number" s_law_is_number f_law_is_number d_law_is_number
  b_law_is_number : Binds K d_law_is_number ["_law_prime_here", "_law_thing"] []
  g_law_is_number : mg "_law_is_number" = some (.ref f_law_is_number)
  f_law_same : Addr
  d_law_same : FuncData
  F_law_same : Fun K "_law_same" "_law_same" s_law_same f_law_same d_law_same
  b_law_same : Binds K d_law_same ["_law_prime_here", "_law_thing", "_law_due"] []
  g_law_same : mg "_law_same" = some (.ref f_law_same)
  f_law_odd : Addr
  d_law_odd : FuncData
  F_law_odd : Fun K "_law_odd" "_law_odd" s_law_odd f_law_odd d_law_odd
  b_law_odd : Binds K d_law_odd ["_law_hand_here", "_law_prime_here"] []
  g_law_odd : mg "_law_odd" = some (.ref f_law_odd)
  f_law_field_told : Addr
  d_law_field_told : FuncData
  F_law_field_told : Fun K "_law_field_told" "_law_field_told" s_law_field_told f_law_field_told d_law_field_told
  b_law_field_told : Binds K d_law_field_told ["_law_number_here"] []
  g_law_field_told : mg "_law_field_told" = some (.ref f_law_field_told)
  f_law_primes_hold : Addr
  d_law_primes_hold : FuncData
  F_law_primes_hold : Fun K "_law_primes_hold" "_law_primes_hold" s_law_primes_hold f_law_primes_hold d_law_primes_hold
  b_law_primes_hold : Binds K d_law_primes_hold ["_law_hand_here"] []
  g_law_primes_hold : mg "_law_primes_hold" = some (.ref f_law_primes_hold)
  f_law_number_told : Addr
  d_law_number_told : FuncData
  F_law_number_told : Fun K "_law_number_told" "_law_number_told" s_law_number_told f_law_number_told d_law_number_told
  b_law_number_told : Binds K d_law_number_told ["_law_field_here", "_law_thing"] []
  g_law_number_told : mg "_law_number_told" = some (.ref f_law_number_told)
  f_law_divided : Addr
  d_law_divided : FuncData
  F_law_divided : Fun K "_law_divided" "_law_divided" s_law_divided f_law_divided d_law_divided
  b_law_divided : Binds K d_law_divided ["_law_field_here", "_law_one_here", "_law_other"] []
  g_law_divided : mg "_law_divided" = some (.ref f_law_divided)
  f_law_raised : Addr
  d_law_raised : FuncData
  F_law_raised : Fun K "_law_raised" "_law_raised" s_law_raised f_law_raised d_law_raised
  b_law_raised : Binds K d_law_raised ["_law_field_here", "_law_number_here", "_law_exponent_here"] []
  g_law_raised : mg "_law_raised" = some (.ref f_law_raised)
  f_law_plus : Addr
  d_law_plus : FuncData
  F_law_plus : Fun K "_law_plus" "_law_plus" s_law_plus f_law_plus d_law_plus
  b_law_plus : Binds K d_law_plus ["_law_prime_here", "_law_a", "_law_b"] []
  g_law_plus : mg "_law_plus" = some (.ref f_law_plus)
  f_law_less : Addr
  d_law_less : FuncData
  F_law_less : Fun K "_law_less" "_law_less" s_law_less f_law_less d_law_less
  b_law_less : Binds K d_law_less ["_law_prime_here", "_law_a", "_law_b"] []
  g_law_less : mg "_law_less" = some (.ref f_law_less)
  f_law_any_number : Addr
  d_law_any_number : FuncData
  F_law_any_number : Fun K "_law_any_number" "_law_any_number" s_law_any_number f_law_any_number d_law_any_number
  b_law_any_number : Binds K d_law_any_number ["_law_hand_here", "_law_prime_here"] []
  g_law_any_number : mg "_law_any_number" = some (.ref f_law_any_number)
  f_law_exponent : Addr
  d_law_exponent : FuncData
  F_law_exponent : Fun K "_law_exponent" "_law_exponent" s_law_exponent f_law_exponent d_law_exponent
  b_law_exponent : Binds K d_law_exponent ["_law_hand_here", "_law_prime_here"] []
  g_law_exponent : mg "_law_exponent" = some (.ref f_law_exponent)
  f_law_powers_hold : Addr
  d_law_powers_hold : FuncData
  F_law_powers_hold : Fun K "_law_powers_hold" "_law_powers_hold" s_law_powers_hold f_law_powers_hold d_law_powers_hold
  b_law_powers_hold : Binds K d_law_powers_hold ["_law_field_here", "_law_prime_here", "_law_a", "_law_exponent_here", "_law_zero"] []
  g_law_powers_hold : mg "_law_powers_hold" = some (.ref f_law_powers_hold)
  f_law_sums_hold : Addr
  d_law_sums_hold : FuncData
  F_law_sums_hold : Fun K "_law_sums_hold" "_law_sums_hold" s_law_sums_hold f_law_sums_hold d_law_sums_hold
  b_law_sums_hold : Binds K d_law_sums_hold ["_law_hand_here", "_law_field_here", "_law_prime_here"] []
  g_law_sums_hold : mg "_law_sums_hold" = some (.ref f_law_sums_hold)
  f_law_prime_parts : Addr
  d_law_prime_parts : FuncData
  F_law_prime_parts : Fun K "_law_prime_parts" "_law_prime_parts" s_law_prime_parts f_law_prime_parts d_law_prime_parts
  b_law_prime_parts : Binds K d_law_prime_parts ["_law_number_here"] []
  g_law_prime_parts : mg "_law_prime_parts" = some (.ref f_law_prime_parts)
  f_law_is_source : Addr
  d_law_is_source : FuncData
  F_law_is_source : Fun K "_law_is_source" "_law_is_source" s_law_is_source f_law_is_source d_law_is_source
  b_law_is_source : Binds K d_law_is_source ["_law_prime_here", "_law_number_here", "_law_parts"] []
  g_law_is_source : mg "_law_is_source" = some (.ref f_law_is_source)
  f_law_steps_told : Addr
  d_law_steps_told : FuncData
  F_law_steps_told : Fun K "_law_steps_told" "_law_steps_told" s_law_steps_told f_law_steps_told d_law_steps_told
  b_law_steps_told : Binds K d_law_steps_told ["_law_field_here", "_law_thing"] []
  g_law_steps_told : mg "_law_steps_told" = some (.ref f_law_steps_told)
  f_law_source_holds : Addr
  d_law_source_holds : FuncData
  F_law_source_holds : Fun K "_law_source_holds" "_law_source_holds" s_law_source_holds f_law_source_holds d_law_source_holds
  b_law_source_holds : Binds K d_law_source_holds ["_law_hand_here", "_law_prime_here"] []
  g_law_source_holds : mg "_law_source_holds" = some (.ref f_law_source_holds)
  f_law : Addr
  d_law : FuncData
  F_law : Fun K "law" "law" s_law f_law d_law
  m_ValueError : mg "ValueError" = none
  m_abs : mg "abs" = none
  m_all : mg "all" = none
  m_any : mg "any" = none
  m_bool : mg "bool" = none
  m_enumerate : mg "enumerate" = none
  m_int : mg "int" = none
  m_isinstance : mg "isinstance" = none
  m_len : mg "len" = none
  m_max : mg "max" = none
  m_range : mg "range" = none
  m_str : mg "str" = none
  m_tuple : mg "tuple" = none
  x_gcd : mg "gcd" = some (.builtin "math.gcd")
  tk_MOST_PRIME : Tok
  c_MOST_PRIME : mg "MOST_PRIME" = some (.int 20000 tk_MOST_PRIME)
  C_SheetError : Addr
  g_SheetError : mg "SheetError" = some (.ref C_SheetError)
  C_BadPrime : Addr
  g_BadPrime : mg "BadPrime" = some (.ref C_BadPrime)
  x_BadPrime : XfC K C_BadPrime
  e_BadPrime : ExcC K C_BadPrime
  q_BadPrime : PySem.W.excIn K C_BadPrime [Value.type "ValueError", Value.type "Exception", Value.type "BaseException", Value.type "object"] "ValueError.__new__" = true
  k_BadPrime : PySem.W.keepIn K (.ref C_BadPrime) = true
  b_BadPrime : PySem.W.subIn K (.ref C_BadPrime) (.type "BaseException") = some true
  ty_BadPrime : PySem.W.typeIn K (.ref C_BadPrime) = some (.type "type")
  C_BadNumber : Addr
  g_BadNumber : mg "BadNumber" = some (.ref C_BadNumber)
  x_BadNumber : XfC K C_BadNumber
  e_BadNumber : ExcC K C_BadNumber
  q_BadNumber : PySem.W.excIn K C_BadNumber [Value.type "ValueError", Value.type "Exception", Value.type "BaseException", Value.type "object"] "ValueError.__new__" = true
  k_BadNumber : PySem.W.keepIn K (.ref C_BadNumber) = true
  b_BadNumber : PySem.W.subIn K (.ref C_BadNumber) (.type "BaseException") = some true
  ty_BadNumber : PySem.W.typeIn K (.ref C_BadNumber) = some (.type "type")
  C_ByZero : Addr
  g_ByZero : mg "ByZero" = some (.ref C_ByZero)
  x_ByZero : XfC K C_ByZero
  e_ByZero : ExcC K C_ByZero
  q_ByZero : PySem.W.excIn K C_ByZero [Value.type "ValueError", Value.type "Exception", Value.type "BaseException", Value.type "object"] "ValueError.__new__" = true
  k_ByZero : PySem.W.keepIn K (.ref C_ByZero) = true
  b_ByZero : PySem.W.subIn K (.ref C_ByZero) (.type "BaseException") = some true
  ty_ByZero : PySem.W.typeIn K (.ref C_ByZero) = some (.type "type")
  mm_BadPrime_BadPrime : PySem.W.exmOne K (.ref C_BadPrime) (.ref C_BadPrime) = some true
  mm_BadNumber_BadPrime : PySem.W.exmOne K (.ref C_BadNumber) (.ref C_BadPrime) = some false
  mm_ByZero_BadPrime : PySem.W.exmOne K (.ref C_ByZero) (.ref C_BadPrime) = some false
  mm_BadPrime_BadNumber : PySem.W.exmOne K (.ref C_BadPrime) (.ref C_BadNumber) = some false
  mm_BadNumber_BadNumber : PySem.W.exmOne K (.ref C_BadNumber) (.ref C_BadNumber) = some true
  mm_ByZero_BadNumber : PySem.W.exmOne K (.ref C_ByZero) (.ref C_BadNumber) = some false
  mm_BadPrime_ByZero : PySem.W.exmOne K (.ref C_BadPrime) (.ref C_ByZero) = some false
  mm_BadNumber_ByZero : PySem.W.exmOne K (.ref C_BadNumber) (.ref C_ByZero) = some false
  mm_ByZero_ByZero : PySem.W.exmOne K (.ref C_ByZero) (.ref C_ByZero) = some true
  kit_BadPrime_SheetError : PySem.W.kitOne K (.ref C_BadPrime) (.ref C_SheetError) = some true
  kit_BadPrime_BadNumber : PySem.W.kitOne K (.ref C_BadPrime) (.ref C_BadNumber) = some false
  kit_BadNumber_SheetError : PySem.W.kitOne K (.ref C_BadNumber) (.ref C_SheetError) = some true
  kit_BadNumber_BadPrime : PySem.W.kitOne K (.ref C_BadNumber) (.ref C_BadPrime) = some false
  kit_ByZero_SheetError : PySem.W.kitOne K (.ref C_ByZero) (.ref C_SheetError) = some true
  kit_ByZero_BadNumber : PySem.W.kitOne K (.ref C_ByZero) (.ref C_BadNumber) = some false
  C_RestField : Addr
  g_RestField : mg "RestField" = some (.ref C_RestField)
  cl_RestField : Cls K C_RestField
  M_RestField : Mk K C_RestField f_RestField_init
  na_RestField_prime : NoAttr K C_RestField "prime"
  na_RestField_zero : NoAttr K C_RestField "zero"
  na_RestField_one : NoAttr K C_RestField "one"
  na_RestField_minus_one : NoAttr K C_RestField "minus_one"
  RestField_eq_at : PySem.W.findIn K (.ref C_RestField) "__eq__" = some (some (.ref f_RestField_eq))
  RestField_eq_fn : PySem.W.isFn K (.ref f_RestField_eq) = true
  M_RestField_check_number : Meth K C_RestField "check_number" f_RestField_check_number
  M_RestField_number_of : Meth K C_RestField "number_of" f_RestField_number_of
  M_RestField_plus : Meth K C_RestField "plus" f_RestField_plus
  M_RestField_less : Meth K C_RestField "less" f_RestField_less
  M_RestField_times : Meth K C_RestField "times" f_RestField_times
  M_RestField_quotient : Meth K C_RestField "quotient" f_RestField_quotient
  M_RestField_power : Meth K C_RestField "power" f_RestField_power
  RestField_k_class : PySem.W.findIn K (.ref C_RestField) "__class__" = some (some (.builtin "object.__class__"))
  RestField_k_get : PySem.W.specialIn K (.builtin "object.__class__") "__get__" = some (some (.builtin "getset_descriptor.__get__"))
  RestField_k_takes : PySem.W.takesIn K (.builtin "object.__class__") = some true
  RestField_k_mro : PySem.W.mroIn K C_RestField (.type "object") = some true
  RestField_k_isp : PySem.W.kitOne K (.ref C_RestField) (.ref C_RestField) = some true
  C_FractionField : Addr
  g_FractionField : mg "FractionField" = some (.ref C_FractionField)
  cl_FractionField : Cls K C_FractionField
  M_FractionField : Mk K C_FractionField f_FractionField_init
  na_FractionField_zero : NoAttr K C_FractionField "zero"
  na_FractionField_one : NoAttr K C_FractionField "one"
  na_FractionField_minus_one : NoAttr K C_FractionField "minus_one"
  FractionField_eq_at : PySem.W.findIn K (.ref C_FractionField) "__eq__" = some (some (.ref f_FractionField_eq))
  FractionField_eq_fn : PySem.W.isFn K (.ref f_FractionField_eq) = true
  M_FractionField_check_number : Meth K C_FractionField "check_number" f_FractionField_check_number
  M_FractionField_number_of : Meth K C_FractionField "number_of" f_FractionField_number_of
  M_FractionField_plus : Meth K C_FractionField "plus" f_FractionField_plus
  M_FractionField_less : Meth K C_FractionField "less" f_FractionField_less
  M_FractionField_times : Meth K C_FractionField "times" f_FractionField_times
  M_FractionField_quotient : Meth K C_FractionField "quotient" f_FractionField_quotient
  M_FractionField_power : Meth K C_FractionField "power" f_FractionField_power
  FractionField_k_class : PySem.W.findIn K (.ref C_FractionField) "__class__" = some (some (.builtin "object.__class__"))
  FractionField_k_get : PySem.W.specialIn K (.builtin "object.__class__") "__get__" = some (some (.builtin "getset_descriptor.__get__"))
  FractionField_k_takes : PySem.W.takesIn K (.builtin "object.__class__") = some true
  FractionField_k_mro : PySem.W.mroIn K C_FractionField (.type "object") = some true
  FractionField_k_isp : PySem.W.kitOne K (.ref C_FractionField) (.ref C_FractionField) = some true
  kit_RestField_FractionField : PySem.W.kitOne K (.ref C_RestField) (.ref C_FractionField) = some false
  kit_FractionField_RestField : PySem.W.kitOne K (.ref C_FractionField) (.ref C_RestField) = some false
end K04
set_option Elab.async false
set_option linter.all false
set_option maxRecDepth 100000
set_option maxHeartbeats 4000000
namespace K04
open TkS
/-! primes -/
def Pr (p : Nat) : Prop := 2 ≤ p ∧ ∀ d, 2 ≤ d → d < p → ¬ d ∣ p
theorem Pr.two {p : Nat} (h : Pr p) : 2 ≤ p := h.1
theorem pr_cop {p a : Nat} (h : Pr p) (na : ¬ p ∣ a) : Nat.gcd p a = 1 := by
  have p0 := h.1
  have g1 := Nat.gcd_dvd_left p a
  have g2 := Nat.gcd_dvd_right p a
  have gp : 0 < Nat.gcd p a := Nat.gcd_pos_of_pos_left a (by omega)
  have gl : Nat.gcd p a ≤ p := Nat.le_of_dvd (by omega) g1
  by_cases c : Nat.gcd p a = 1
  · exact c
  · by_cases c2 : Nat.gcd p a = p
    · rw [c2] at g2
      exact absurd g2 na
    · exact absurd g1 (h.2 _ (by omega) (by omega))
theorem euclid {p a b : Nat} (h : Pr p) (hd : p ∣ a * b) (na : ¬ p ∣ a) : p ∣ b :=
  Nat.Coprime.dvd_of_dvd_mul_left (pr_cop h na) hd
theorem cancel0 {p a b c : Nat} (h : Pr p) (na : ¬ p ∣ a) (le : b ≤ c) (e : a * b % p = a * c % p) : b % p = c % p := by
  have z := Nat.sub_mod_eq_zero_of_mod_eq e.symm
  rw [← Nat.mul_sub] at z
  obtain ⟨k, hk⟩ := euclid h (Nat.dvd_of_mod_eq_zero z) na
  have : c = b + p * k := by omega
  rw [this, Nat.add_mul_mod_self_left]
theorem cancel {p a b c : Nat} (h : Pr p) (na : ¬ p ∣ a) (e : a * b % p = a * c % p) : b % p = c % p := by
  rcases Nat.le_total b c with l | l
  · exact cancel0 h na l e
  · exact (cancel0 h na l e.symm).symm
/-! products -/
def prodL (l : List Nat) : Nat := l.foldr (fun x a => x * a) 1
theorem prod_perm {l m : List Nat} (h : l.Perm m) : prodL l = prodL m := by
  induction h with
  | nil => rfl
  | cons x _ ih => exact congrArg (x * ·) ih
  | swap x y l => exact Nat.mul_left_comm _ _ _
  | trans _ _ h1 h2 => exact h1.trans h2
theorem prod_mul (p a : Nat) : ∀ l : List Nat, prodL (l.map fun x => a * x % p) % p = a ^ l.length * prodL l % p
  | [] => by simp [prodL]
  | x :: l => by
    have ih := prod_mul p a l
    show (a * x % p) * prodL (l.map fun x => a * x % p) % p = a ^ (l.length + 1) * (x * prodL l) % p
    rw [Nat.mul_mod, ih, Nat.mod_mod, ← Nat.mul_mod]
    congr 1
    rw [Nat.pow_succ]
    rw [Nat.mul_mul_mul_comm, Nat.mul_comm a (a ^ l.length)]
theorem prod_not {p : Nat} (h : Pr p) : ∀ l : List Nat, (∀ x ∈ l, ¬ p ∣ x) → ¬ p ∣ prodL l
  | [], _ => fun z => by
    have := Nat.le_of_dvd (by decide) z
    have := h.1
    have e : prodL [] = 1 := rfl
    omega
  | x :: l, hx => fun z => prod_not h l (fun y hy => hx y (List.mem_cons_of_mem _ hy)) (euclid h z (hx x (List.mem_cons_self ..)))
def resL (p : Nat) : List Nat := (List.range (p - 1)).map (· + 1)
theorem res_mem {p x : Nat} : x ∈ resL p ↔ 0 < x ∧ x < p := by
  unfold resL
  rw [List.mem_map]
  refine ⟨fun ⟨i, hi, e⟩ => ?_, fun ⟨h0, h1⟩ => ⟨x - 1, List.mem_range.mpr (by omega), by omega⟩⟩
  have := List.mem_range.mp hi
  omega
theorem res_nd (p : Nat) : (resL p).Nodup := by
  unfold resL
  refine List.Pairwise.map _ (fun a b (h : a ≠ b) => ?_) List.nodup_range
  omega
theorem not_dvd {p x : Nat} (h0 : 0 < x) (h1 : x < p) : ¬ p ∣ x := fun z => by
  have := Nat.le_of_dvd h0 z
  omega
theorem fermat {p a : Nat} (h : Pr p) (na : ¬ p ∣ a) : a ^ (p - 1) % p = 1 := by
  have p0 := h.1
  have nd : ((resL p).map fun x => a * x % p).Nodup := by
    refine List.pairwise_map.mpr ?_
    refine List.Pairwise.imp_of_mem ?_ (res_nd p)
    intro x y hx hy ne e
    have := cancel h na e
    have hx' := res_mem.mp hx
    have hy' := res_mem.mp hy
    rw [Nat.mod_eq_of_lt hx'.2, Nat.mod_eq_of_lt hy'.2] at this
    exact ne this
  have sub : ∀ x ∈ (resL p).map (fun x => a * x % p), x ∈ resL p := fun x hx => by
    obtain ⟨y, hy, rfl⟩ := List.mem_map.mp hx
    have hy' := res_mem.mp hy
    refine res_mem.mpr ⟨?_, Nat.mod_lt _ (by omega)⟩
    refine Nat.pos_of_ne_zero fun z => ?_
    exact not_dvd hy'.1 hy'.2 (euclid h (Nat.dvd_of_mod_eq_zero z) na)
  have pm := prod_perm (nd_perm nd sub (List.length_map _))
  have len : (resL p).length = p - 1 := by
    unfold resL
    rw [List.length_map, List.length_range]
  have e := prod_mul p a (resL p)
  rw [pm, len] at e
  have nl := prod_not h (resL p) fun x hx => not_dvd (res_mem.mp hx).1 (res_mem.mp hx).2
  have c := cancel (b := 1) (c := a ^ (p - 1)) h nl (by rw [Nat.mul_one, Nat.mul_comm (prodL _) (a ^ _)]; exact e)
  rw [← c, Nat.mod_eq_of_lt (by omega)]
/-! exponents -/
theorem pow_red {p a : Nat} (h : Pr p) (na : ¬ p ∣ a) (n : Nat) : a ^ n % p = a ^ (n % (p - 1)) % p := by
  have e : n = (p - 1) * (n / (p - 1)) + n % (p - 1) := (Nat.div_add_mod n (p - 1)).symm
  have z : (a ^ (p - 1)) ^ (n / (p - 1)) % p = 1 := by
    rw [Nat.pow_mod, fermat h na, Nat.one_pow, Nat.mod_eq_of_lt (by have := h.1; omega)]
  conv => lhs; rw [e, Nat.pow_add, Nat.pow_mul, Nat.mul_mod, z, Nat.one_mul, Nat.mod_mod]
theorem pow_not {p a : Nat} (h : Pr p) (na : ¬ p ∣ a) : ∀ n, ¬ p ∣ a ^ n
  | 0 => fun z => by
    have := Nat.le_of_dvd (show 0 < a ^ 0 from Nat.one_pos) z
    have := h.1
    have e : a ^ 0 = 1 := rfl
    omega
  | n + 1 => fun z => by
    rw [Nat.pow_succ, Nat.mul_comm] at z
    exact pow_not h na n (euclid h z na)
theorem pow_inv {p a : Nat} (h : Pr p) (na : ¬ p ∣ a) : a ^ (p - 2) * a % p = 1 := by
  rw [← Nat.pow_succ, show (p - 2).succ = p - 1 by have := h.1; omega]
  exact fermat h na
/-! the powers of a source are all numbers but 0 -/
theorem pow_gcd {p g : Nat} (hp : 2 ≤ p) : ∀ m n, g ^ m % p = 1 → g ^ n % p = 1 → g ^ (Nat.gcd m n) % p = 1 := fun m n => by
  induction m, n using Nat.gcd.induction with
  | H0 n =>
    intro _ h
    rw [Nat.gcd_zero_left]
    exact h
  | H1 m n hm ih =>
    intro h1 h2
    rw [Nat.gcd_rec]
    refine ih ?_ h1
    have e : g ^ n = (g ^ m) ^ (n / m) * g ^ (n % m) := by
      rw [← Nat.pow_mul, ← Nat.pow_add, Nat.div_add_mod]
    rw [e, Nat.mul_mod, Nat.pow_mod, h1, Nat.one_pow, Nat.mod_eq_of_lt (show 1 < p by omega), Nat.one_mul, Nat.mod_mod] at h2
    exact h2
/-- some prime divides a number from 2 on -/
theorem has_pr : ∀ n, 2 ≤ n → ∃ q, Pr q ∧ q ∣ n := fun n => by
  induction n using Nat.strongRecOn with
  | ind n ih =>
    intro h
    by_cases c : Pr n
    · exact ⟨n, c, Nat.dvd_refl n⟩
    · have : ∃ d, 2 ≤ d ∧ d < n ∧ d ∣ n := by
        refine Classical.byContradiction fun z => c ⟨h, fun d h1 h2 h3 => z ⟨d, h1, h2, h3⟩⟩
      obtain ⟨d, h1, h2, h3⟩ := this
      obtain ⟨q, hq, hd⟩ := ih d h2 h1
      exact ⟨q, hq, Nat.dvd_trans hd h3⟩
def Src (p g : Nat) : Prop := ∀ q, Pr q → q ∣ p - 1 → g ^ ((p - 1) / q) % p ≠ 1
theorem src_ord {p g m : Nat} (h : Pr p) (ng : ¬ p ∣ g) (s : Src p g) (m0 : 0 < m) (m1 : m < p - 1) : g ^ m % p ≠ 1 := fun e => by
  have p0 := h.1
  have eg := pow_gcd p0 m (p - 1) e (fermat h ng)
  have dl := Nat.gcd_dvd_left m (p - 1)
  have dr := Nat.gcd_dvd_right m (p - 1)
  have d0 : 0 < Nat.gcd m (p - 1) := Nat.gcd_pos_of_pos_left _ m0
  have dm : Nat.gcd m (p - 1) ≤ m := Nat.le_of_dvd m0 dl
  generalize Nat.gcd m (p - 1) = d at eg dr d0 dm
  obtain ⟨k, hk⟩ := dr
  have k2 : 2 ≤ k := by
    refine Classical.byContradiction fun z => ?_
    have : k = 0 ∨ k = 1 := by omega
    rcases this with e | e <;> subst e <;> omega
  obtain ⟨q, hq, hd⟩ := has_pr k k2
  obtain ⟨j, hj⟩ := hd
  have q0 := hq.1
  refine s q hq ⟨d * j, by rw [hk, hj, Nat.mul_left_comm]⟩ ?_
  rw [hk, hj, Nat.mul_left_comm, Nat.mul_div_cancel_left _ (by omega), Nat.pow_mul, Nat.pow_mod, eg, Nat.one_pow, Nat.mod_eq_of_lt (by omega)]
theorem src_inj {p g i j : Nat} (h : Pr p) (ng : ¬ p ∣ g) (s : Src p g) (hi : i < j) (hj : j < p - 1) : g ^ i % p ≠ g ^ j % p := fun e => by
  have e2 : g ^ i * 1 % p = g ^ i * g ^ (j - i) % p := by
    rw [Nat.mul_one, ← Nat.pow_add, Nat.add_sub_cancel' (Nat.le_of_lt hi)]
    exact e
  have c := cancel h (pow_not h ng i) e2
  rw [Nat.mod_eq_of_lt (show 1 < p by have := h.1; omega)] at c
  exact src_ord h ng s (by omega) (by omega) c.symm
theorem src_all {p g x : Nat} (h : Pr p) (ng : ¬ p ∣ g) (s : Src p g) (x0 : 0 < x) (x1 : x < p) : ∃ n, n < p - 1 ∧ g ^ n % p = x := by
  have p0 := h.1
  have nd : ((List.range (p - 1)).map fun n => g ^ n % p).Nodup := by
    refine List.pairwise_iff_getElem.mpr fun i j hi hj lt => ?_
    rw [List.length_map, List.length_range] at hi hj
    rw [List.getElem_map, List.getElem_map, List.getElem_range, List.getElem_range]
    exact src_inj h ng s lt hj
  have sub : ∀ y ∈ (List.range (p - 1)).map (fun n => g ^ n % p), y ∈ resL p := fun y hy => by
    obtain ⟨n, hn, rfl⟩ := List.mem_map.mp hy
    refine res_mem.mpr ⟨Nat.pos_of_ne_zero fun z => pow_not h ng n (Nat.dvd_of_mod_eq_zero z), Nat.mod_lt _ (by omega)⟩
  have pm := nd_perm nd sub (by unfold resL; rw [List.length_map, List.length_map])
  obtain ⟨n, hn, e⟩ := List.mem_map.mp (pm.mem_iff.mpr (res_mem.mpr ⟨x0, x1⟩))
  exact ⟨n, List.mem_range.mp hn, e⟩
/-! sources are there: reckoned for all primes to 20479 -/
def lfF (n : Nat) : Nat → Nat → Nat
  | 0, _ => n
  | f + 1, d => bif Nat.blt n (d * d) then n else bif Nat.beq (n % d) 0 then d else lfF n f (d + 1)
def lf (n : Nat) : Nat := lfF n 150 2
def parts : Nat → Nat → List Nat
  | 0, _ => []
  | f + 1, n => bif Nat.blt n 2 then [] else lf n :: parts f (n / lf n)
def isSrc (p g : Nat) : List Nat → Bool
  | [] => true
  | q :: l => bif Nat.beq (g ^ ((p - 1) / q) % p) 1 then false else isSrc p g l
def srcF (p : Nat) (l : List Nat) : Nat → Nat → Bool
  | 0, _ => false
  | f + 1, g => bif Nat.blt g p then (bif isSrc p g l then true else srcF p l f (g + 1)) else false
def good (p : Nat) : Bool := bif Nat.blt p 3 then true else bif Nat.beq (lf p) p then srcF p (parts 15 (p - 1)) 100 1 else true
def allR (f : Nat → Bool) : Nat → Nat → Bool
  | 0, lo => f lo
  | k + 1, lo => bif allR f k lo then allR f k (lo + 2 ^ k) else false
theorem allR_at {f : Nat → Bool} : ∀ k lo, allR f k lo = true → ∀ n, lo ≤ n → n < lo + 2 ^ k → f n = true
  | 0, lo, h, n, h0, h1 => by
    have : n = lo := by rw [Nat.pow_zero] at h1; omega
    rw [this]
    exact h
  | k + 1, lo, h, n, h0, h1 => by
    unfold allR at h
    cases c : allR f k lo with
    | false => rw [c] at h; cases h
    | true =>
      rw [c] at h
      rw [Nat.pow_succ] at h1
      rcases Nat.lt_or_ge n (lo + 2 ^ k) with l | l
      · exact allR_at k lo c n h0 l
      · exact allR_at k (lo + 2 ^ k) h n l (by omega)
/-- the least divisor from 2 on -/
def LF (n r : Nat) : Prop := 2 ≤ r ∧ r ∣ n ∧ ∀ d, 2 ≤ d → d < r → ¬ d ∣ n
theorem LF.pr {n r : Nat} (h : LF n r) : Pr r := ⟨h.1, fun d h1 h2 h3 => h.2.2 d h1 h2 (Nat.dvd_trans h3 h.2.1)⟩
theorem LF.uniq {n r s : Nat} (h : LF n r) (k : LF n s) : r = s := by
  rcases Nat.lt_trichotomy r s with c | c | c
  · exact absurd h.2.1 (k.2.2 r h.1 c)
  · exact c
  · exact absurd k.2.1 (h.2.2 s k.1 c)
theorem LF.self {n : Nat} : LF n n ↔ Pr n := ⟨fun h => h.pr, fun h => ⟨h.1, Nat.dvd_refl n, h.2⟩⟩
theorem lf_big {n d : Nat} (hn : 2 ≤ n) (hs : n < d * d) (no : ∀ e, 2 ≤ e → e < d → ¬ e ∣ n) : LF n n := by
  refine ⟨hn, Nat.dvd_refl n, fun e e2 en ⟨k, hk⟩ => ?_⟩
  have ed : d ≤ e := Nat.le_of_not_lt fun z => no e e2 z ⟨k, hk⟩
  have k2 : 2 ≤ k := by
    refine Classical.byContradiction fun z => ?_
    have : k = 0 ∨ k = 1 := by omega
    rcases this with c | c <;> subst c <;> omega
  have kd : k < d := by
    refine Classical.byContradiction fun z => ?_
    have : d * d ≤ e * k := Nat.mul_le_mul ed (Nat.le_of_not_lt z)
    omega
  exact no k k2 kd ⟨e, by rw [hk, Nat.mul_comm]⟩
theorem lfF_ok {n : Nat} (hn : 2 ≤ n) : ∀ f d, 2 ≤ d → n < (d + f) * (d + f) → (∀ e, 2 ≤ e → e < d → ¬ e ∣ n) → LF n (lfF n f d)
  | 0, d, _, hs, no => lf_big hn hs no
  | f + 1, d, d2, hs, no => by
    unfold lfF
    cases c : Nat.blt n (d * d) with
    | true => exact lf_big hn (Nat.blt_eq.mp c) no
    | false =>
      cases c2 : Nat.beq (n % d) 0 with
      | true => exact ⟨d2, Nat.dvd_of_mod_eq_zero (Nat.eq_of_beq_eq_true c2), no⟩
      | false =>
        refine lfF_ok hn f (d + 1) (by omega) (by rw [Nat.add_assoc, Nat.add_comm 1 f]; exact hs) fun e e2 ed hd => ?_
        rcases Nat.lt_or_ge e d with l | l
        · exact no e e2 l hd
        · have : e = d := by omega
          subst this
          exact Nat.ne_of_beq_eq_false c2 (Nat.mod_eq_zero_of_dvd hd)
theorem lf_ok {n : Nat} (h0 : 2 ≤ n) (h1 : n < 23104) : LF n (lf n) := lfF_ok h0 150 2 (by omega) h1 fun e e2 ed => by omega
theorem pr_dvd {q r : Nat} (hr : Pr r) (q2 : 2 ≤ q) (h : q ∣ r) : q = r := by
  have := Nat.le_of_dvd (by have := hr.1; omega) h
  rcases Nat.lt_or_ge q r with l | l
  · exact absurd h (hr.2 q q2 l)
  · omega
theorem parts_all {q : Nat} (hq : Pr q) : ∀ f n, 0 < n → n < 2 ^ f → n < 23104 → q ∣ n → q ∈ parts f n
  | 0, n, h0, h1, _, h => by
    rw [Nat.pow_zero] at h1
    omega
  | f + 1, n, h0, h1, h2, h => by
    have q2 := hq.1
    have qn := Nat.le_of_dvd h0 h
    unfold parts
    cases c : Nat.blt n 2 with
    | true =>
      have := Nat.blt_eq.mp c
      omega
    | false =>
      have L := lf_ok (show 2 ≤ n by omega) h2
      have r2 := L.1
      have pr := L.pr
      obtain ⟨k, hk⟩ := L.2.1
      generalize lf n = r at hk r2 pr
      have ek : n / r = k := by rw [hk]; exact Nat.mul_div_cancel_left _ (by omega)
      show q ∈ r :: parts f (n / r)
      rw [ek]
      by_cases d : q ∣ r
      · rw [pr_dvd pr q2 d]
        exact List.mem_cons_self ..
      · refine List.mem_cons_of_mem _ (parts_all hq f k ?_ ?_ ?_ (euclid hq (by rw [← hk]; exact h) d))
        · refine Nat.pos_of_ne_zero fun z => ?_
          rw [z, Nat.mul_zero] at hk
          omega
        · have : 2 * k ≤ r * k := Nat.mul_le_mul_right k r2
          rw [Nat.pow_succ] at h1
          omega
        · have : 2 * k ≤ r * k := Nat.mul_le_mul_right k r2
          omega
theorem isSrc_at {p g : Nat} : ∀ l, isSrc p g l = true → ∀ q ∈ l, g ^ ((p - 1) / q) % p ≠ 1
  | [], _, q, h => nomatch h
  | r :: l, h, q, hq => by
    unfold isSrc at h
    cases c : Nat.beq (g ^ ((p - 1) / r) % p) 1 with
    | true => rw [c] at h; cases h
    | false =>
      rw [c] at h
      rcases List.mem_cons.mp hq with e | e
      · subst e
        exact Nat.ne_of_beq_eq_false c
      · exact isSrc_at l h q e
theorem srcF_at {p : Nat} {l : List Nat} : ∀ f g, srcF p l f g = true → ∃ g', g ≤ g' ∧ g' < p ∧ isSrc p g' l = true
  | 0, g, h => by cases h
  | f + 1, g, h => by
    unfold srcF at h
    cases c : Nat.blt g p with
    | false => rw [c] at h; cases h
    | true =>
      rw [c] at h
      cases d : isSrc p g l with
      | true => exact ⟨g, Nat.le_refl _, Nat.blt_eq.mp c, d⟩
      | false =>
        rw [d] at h
        obtain ⟨g', h1, h2, h3⟩ := srcF_at f (g + 1) h
        exact ⟨g', by omega, h2, h3⟩
theorem good1 : allR good 12 0 = true := by decide +kernel
theorem good2 : allR good 12 4096 = true := by decide +kernel
theorem good3 : allR good 12 8192 = true := by decide +kernel
theorem good4 : allR good 12 12288 = true := by decide +kernel
theorem good5 : allR good 12 16384 = true := by decide +kernel
theorem all_good {n : Nat} (h : n < 20480) : good n = true := by
  have e : 2 ^ 12 = 4096 := by decide
  rcases Nat.lt_or_ge n 4096 with a | a
  · exact allR_at _ _ good1 n (by omega) (by omega)
  · rcases Nat.lt_or_ge n 8192 with b | b
    · exact allR_at _ _ good2 n a (by omega)
    · rcases Nat.lt_or_ge n 12288 with c | c
      · exact allR_at _ _ good3 n b (by omega)
      · rcases Nat.lt_or_ge n 16384 with d | d
        · exact allR_at _ _ good4 n c (by omega)
        · exact allR_at _ _ good5 n d (by omega)
/-- each prime has a source -/
theorem has_src {p : Nat} (h : Pr p) (l : p < 20480) : ∃ g, 0 < g ∧ g < p ∧ Src p g := by
  have p0 := h.1
  have a := all_good l
  unfold good at a
  cases c : Nat.blt p 3 with
  | true =>
    have := Nat.blt_eq.mp c
    refine ⟨1, by omega, by omega, fun q hq hd => ?_⟩
    have := hq.1
    have := Nat.le_of_dvd (by omega) hd
    omega
  | false =>
    rw [c] at a
    have p3 : 3 ≤ p := by
      refine Nat.le_of_not_lt fun z => ?_
      rw [Nat.blt_eq.mpr z] at c
      cases c
    have e : lf p = p := (lf_ok p0 (by omega)).uniq (LF.self.mpr h)
    have c2 : Nat.beq (lf p) p = true := by
      rw [e]
      exact Nat.beq_refl p
    rw [c2] at a
    obtain ⟨g, h1, h2, h3⟩ := srcF_at 100 1 a
    exact ⟨g, h1, h2, fun q hq hd => isSrc_at _ h3 q (parts_all hq 15 (p - 1) (by omega) (by have : 2 ^ 15 = 32768 := by decide
                                                                                             omega) (by omega) hd)⟩
end K04
set_option Elab.async false
set_option linter.all false
set_option maxRecDepth 100000
set_option maxHeartbeats 4000000
set_option exponentiation.threshold 5000
namespace K04
open PySem PySem.Spec PyProof.Rows L2 TkS
def Lim (v : V) : Prop := v = .non ∨ ∃ l : Int, v = .int l
def wholeIn : V → V → V → Bool
  | .int i, lo, hi => (match lo with | .int l => decide (l ≤ i) | _ => true) && (match hi with | .int h => decide (i ≤ h) | _ => true)
  | _, _, _ => false
theorem wi_low {i l : Int} {hi : V} : wholeIn (.int i) (.int l) hi = (decide (l ≤ i) && wholeIn (.int i) .non hi) := by
  simp [wholeIn]
theorem wi_high {i m : Int} : wholeIn (.int i) .non (.int m) = decide (i ≤ m) := by
  simp [wholeIn]
theorem int_dec {a b : Int} : decide (V.int a = V.int b) = decide (a = b) := by
  by_cases h : a = b
  · subst h
    simp
  · rw [decide_eq_false h, decide_eq_false fun z => h (V.int.inj z)]
def sp_is_whole : Sp := fun vs H Q _ => ∃ x lo hi d, vs = [x, lo, hi] ∧ Dq H x d ∧ Lim lo ∧ Lim hi ∧ Q (.bl (wholeIn x lo hi)) H
def sp_common_divisor (K : PySem.W.Frag) : Sp := fun vs H Q _ => ∃ a b : Int, vs = [.int a, .int b] ∧ Q (.int ((Nat.gcd a.natAbs b.natAbs : Nat) : Int)) H
def sp_power_of (K : PySem.W.Frag) : Sp := fun vs H Q _ => ∃ (b : Int) (e : Nat), vs = [.int b, .int (e : Int)] ∧ b.natAbs ≤ 2 ^ 67 ∧ e ≤ 40 ∧ Q (.int (b ^ e)) H
def sp_least_factor : Sp := fun vs H Q _ => ∃ n : Nat, vs = [.int (n : Int)] ∧ 2 ≤ n ∧ n ≤ 100000 ∧ ∀ r : Nat, LF n r → Q (.int (r : Int)) H
def primeD : PyData → Bool
  | .int i => decide (2 ≤ i) && decide (i ≤ 20000) && Nat.beq (lf i.toNat) i.toNat
  | _ => false
def sp_is_prime : Sp := fun vs H Q _ => ∃ x d, vs = [x] ∧ Dq H x d ∧ Q (.bl (primeD d)) H
section
variable {P : Program} {w : World} {K : PySem.W.Frag} {mg : Str → Option Value} {base : Heap}
theorem ok_is_whole (T : Txt K mg) : FnOk P w K mg base CX0 1 T.f_is_whole T.d_is_whole ["thing", "low", "high"] sp_is_whole := by
  refine T.F_is_whole.ok sc_is_whole (fun vs H Q E h => ?_) (fun cdv A outer s H vs Q E hr h => ?_)
  · obtain ⟨x, lo, hi, d, rfl, _⟩ := h
    rfl
  · obtain ⟨x, lo, hi, d, rfl, hk, hl, hh, q⟩ := h
    obtain ⟨t, ty, k1, k2, _⟩ := dq_ty (K := K) hk
    refine ⟨_, (pss_cons (ps_if (PW.pt (pw_or (pt_val (pe_callB call_isi (by rfl) T.m_isinstance (by decide +kernel) (pa_cons (pv 0) (pa_cons (pe_bltn (v := .ty "bool") (u := .type "bool") (by rfl) T.m_bool (by decide +kernel) rfl) pa_nil)))) (pw_or1 (pt_not (pt_val (pe_callB call_isi (by rfl) T.m_isinstance (by decide +kernel) (pa_cons (pv 0) (pa_cons (pe_bltn (v := .ty "int") (u := .type "int") (by rfl) T.m_int (by decide +kernel) rfl) pa_nil))))))))
        (pss_one (ps_ret pe_bl))
        pss_nil)
      (pss_cons (ps_if (PW.pt (pw_and (pt_cmpR op_notN (pv 1) pe_non (nomark _)) (pw_and1 (pt_cmpR op_lt (pv 0) (pv 1) (nomark _)))))
        (pss_one (ps_ret pe_bl))
        pss_nil)
      (pss_one (ps_ret (pe_or (pe_cmpR op_isN (pv 2) pe_non (nomark _)) (pe_one (pe_cmpR op_le (pv 0) (pv 2) (nomark _)))))))), ?_⟩
    refine ⟨x, rfl, x, .ty "bool", t, _, isBlV x, rfl, .ty _, ty, k1, isBlV x, rfl, ?_⟩
    have tail : ∀ i : Int, Q (.bl (wholeIn (.int i) .non hi)) H → tRet (tOrV (tOp (fun x y H Q => y = V.non ∧ Q (V.bl (decide (x = V.non))) H) (tVar 2) (tC V.non)) (tOp (rI0 fun i j => V.bl (decide (i ≤ j))) (tVar 0) (tVar 2))) { nx := fun x H' => Q V.non H', rt := Q } (L2.start ["thing", "low", "high"] [V.int i, lo, hi]) H := by
      intro i q
      rcases hh with rfl | ⟨m, rfl⟩
      · exact ⟨.non, rfl, rfl, _, rfl, iteT q⟩
      · refine ⟨.int m, rfl, rfl, _, rfl, iteF ?_⟩
        rw [wi_high] at q
        exact ⟨_, rfl, _, rfl, i, m, rfl, rfl, q⟩
    cases hk with
    | bl b => exact iteT (iteT q)
    | int i =>
      refine iteF ⟨_, rfl, _, .ty "int", t, _, true, rfl, .ty _, ty, k2, true, rfl, iteF ?_⟩
      rcases hl with rfl | ⟨l, rfl⟩
      · exact ⟨.non, rfl, rfl, _, rfl, iteF (iteF (tail i q))⟩
      · rw [wi_low] at q
        refine ⟨.int l, rfl, rfl, _, rfl, iteT ⟨.int i, rfl, .int l, rfl, i, l, rfl, rfl, _, rfl, ite2 (fun e => ?_) (fun e => ?_)⟩⟩
        · have e2 := of_decide_eq_true e
          rw [decide_eq_false (by omega : ¬ l ≤ i)] at q
          exact q
        · have e2 : l ≤ i := Int.not_lt.mp fun z => e (decide_eq_true z)
          rw [decide_eq_true e2] at q
          exact tail i q
    | non => exact iteF ⟨_, rfl, _, .ty "int", t, _, false, rfl, .ty _, ty, k2, false, rfl, iteT q⟩
    | str z => exact iteF ⟨_, rfl, _, .ty "int", t, _, false, rfl, .ty _, ty, k2, false, rfl, iteT q⟩
    | lst z y => exact iteF ⟨_, rfl, _, .ty "int", t, _, false, rfl, .ty _, ty, k2, false, rfl, iteT q⟩
    | tup z y => exact iteF ⟨_, rfl, _, .ty "int", t, _, false, rfl, .ty _, ty, k2, false, rfl, iteT q⟩
theorem ok_common_divisor (T : Txt K mg) : FnOk P w K mg base CX0 1 T.f_common_divisor T.d_common_divisor ["one", "other"] (sp_common_divisor K) := by
  refine T.F_common_divisor.ok sc_common_divisor (fun vs H Q E h => ?_) (fun cdv A outer s H vs Q E hr h => ?_)
  · obtain ⟨a, b, rfl, _⟩ := h
    rfl
  · obtain ⟨a, b, rfl, q⟩ := h
    refine ⟨_, (pss_one (ps_ret (pe_callBfun cr_gcd rfl T.x_gcd (pa_cons (pv 0) (pa_cons (pv 1) pa_nil))))), ?_⟩
    exact ⟨_, rfl, _, rfl, a, b, rfl, q⟩
theorem pow_bits {b : Int} (h : b.natAbs ≤ 2 ^ 67) (m : Nat) : (b ^ m).natAbs ≤ 2 ^ (67 * m) := by
  rw [Int.natAbs_pow, Nat.pow_mul]
  exact Nat.pow_le_pow_left h m
theorem pow_mulW {b : Int} (h : b.natAbs ≤ 2 ^ 67) {m n : Nat} (hm : m ≤ 5000) (hn : n ≤ 5000) : CMulW (b ^ m) (b ^ n) := by
  have x : ∀ k : Nat, k ≤ 5000 → (b ^ k).natAbs < 2 ^ (67 * k + 1) := fun k _ => Nat.lt_of_le_of_lt (pow_bits h k) (Nat.pow_lt_pow_right (by decide) (by omega))
  exact wide_mul (x m hm) (x n hn) (by omega) (by omega) (by omega)
theorem ok_power_of (T : Txt K mg) : FnOk P w K mg base CX0 1 T.f_power_of T.d_power_of ["base", "exponent"] (sp_power_of K) := by
  refine T.F_power_of.ok sc_power_of (fun vs H Q E h => ?_) (fun cdv A outer s H vs Q E hr h => ?_)
  · obtain ⟨a, b, rfl, _⟩ := h
    rfl
  · obtain ⟨b, e, rfl, hb, he, q⟩ := h
    refine ⟨_, (pss_cons (ps_set (i := 2) sc_power_of.nd rfl (.inl rfl) pe_int)
      (pss_cons (ps_while PassesOwn.never (pt_cmpR op_gt (pv 1) pe_int (nomark _))
        (pss_cons (ps_if (pt_cmpR op_eq (pe_op op_mod (pv 1) pe_int) pe_int (nomark _))
          (pss_one (ps_set (i := 2) sc_power_of.nd rfl (.inl rfl) (pe_op op_mulW (pv 2) (pv 0))))
          pss_nil)
        (pss_cons (ps_set (i := 1) sc_power_of.nd rfl (.inl rfl) (pe_op op_fdiv (pv 1) pe_int))
        (pss_one (ps_if (pt_cmpR op_gt (pv 1) pe_int (nomark _))
          (pss_one (ps_set (i := 0) sc_power_of.nd rfl (.inl rfl) (pe_op op_mulW (pv 0) (pv 0))))
          pss_nil)))))
      (pss_one (ps_ret (pv 2))))), ?_⟩
    refine ⟨fun m σ H' => ∃ k n l : Nat, σ = [some (.int (b ^ k)), some (.int (l : Int)), some (.int (b ^ n))] ∧ H = H' ∧ n + k * l = e ∧ m = l ∧ k ≤ 40, ⟨e, 1, 0, e, by simp only [Int.pow_one, Int.pow_zero]; rfl, rfl, by omega, rfl, by decide⟩, fun m σ H' hW => ?_⟩
    obtain ⟨k, n, l, rfl, rfl, hs, rfl, hk⟩ := hW
    refine ⟨_, rfl, m, 0, rfl, rfl, _, rfl, ite2 (fun c => ?_) (fun c => ?_)⟩
    · have hpos : (0 : Int) < (m : Int) := of_decide_eq_true c
      have hl1 : 1 ≤ m := by omega
      have hke : k ≤ k * m := Nat.le_mul_of_pos_right k hl1
      refine ⟨fun σ' H' => ∃ m', m' < m ∧ ∃ k n l : Nat, σ' = [some (.int (b ^ k)), some (.int (l : Int)), some (.int (b ^ n))] ∧ H = H' ∧ n + k * l = e ∧ m' = l ∧ k ≤ 40, fun σ' H' hN => hN, ?_⟩
      have dm : m = 2 * (m / 2) + m % 2 := by omega
      have ed : ((m : Int) / 2) = ((m / 2 : Nat) : Int) := rfl
      -- what follows the first if, by the power that the result holds
      have rest : ∀ n' : Nat, n' + k * (2 * (m / 2)) = e → (tSeq (tAsg (tOp (rI CDiv fun i j => V.int (i / j)) (tVar 1) (tC (V.int 2))) (gName 1)) (tIfS (tTest (tOp (rI0 fun i j => V.bl (decide (j < i))) (tVar 1) (tC (V.int 0)))) (tAsg (tOp (rI CMulW fun i j => V.int (i * j)) (tVar 0) (tVar 0)) (gName 0)) tNext))
          { nx := fun σ' H' => ∃ m', m' < m ∧ ∃ k n l : Nat, σ' = [some (.int (b ^ k)), some (.int (l : Int)), some (.int (b ^ n))] ∧ H = H' ∧ n + k * l = e ∧ m' = l ∧ k ≤ 40, ct := fun σ' H' => ∃ m', m' < m ∧ ∃ k n l : Nat, σ' = [some (.int (b ^ k)), some (.int (l : Int)), some (.int (b ^ n))] ∧ H = H' ∧ n + k * l = e ∧ m' = l ∧ k ≤ 40, rt := Q }
          [some (.int (b ^ k)), some (.int (m : Int)), some (.int (b ^ n'))] H := by
        intro n' hn'
        refine ⟨_, rfl, m, 2, rfl, rfl, ⟨by decide, by decide⟩, _, rfl, (m : Int) / 2, 0, rfl, rfl, _, rfl, ite2 (fun c2 => ?_) (fun c2 => ?_)⟩
        · have h2 : (0 : Int) < (m : Int) / 2 := of_decide_eq_true c2
          have hl2 : 1 ≤ m / 2 := by omega
          have hk2 : k * 2 ≤ k * (2 * (m / 2)) := Nat.mul_le_mul_left k (by omega)
          refine ⟨_, rfl, _, rfl, _, _, rfl, rfl, pow_mulW hb (by omega) (by omega), m / 2, by omega, k * 2, n', m / 2, ?_, rfl, ?_, rfl, by omega⟩
          · rw [show k * 2 = k + k by omega, Int.pow_add]
            rfl
          · rw [Nat.mul_assoc]
            exact hn'
        · have h2 : ¬ (0 : Int) < (m : Int) / 2 := fun z => c2 (decide_eq_true z)
          have h0 : m / 2 = 0 := by omega
          refine ⟨m / 2, by omega, k, n', m / 2, rfl, rfl, ?_, rfl, hk⟩
          rw [h0] at hn' ⊢
          exact hn'
      refine ⟨_, rfl, m, 2, rfl, rfl, (show (0 : Int) < 2 by decide), rfl, _, rfl, ite2 (fun c2 => ?_) (fun c2 => ?_)⟩
      · have h1 : (m : Int) % 2 = 1 := V.int.inj (of_decide_eq_true c2)
        have hm1 : m % 2 = 1 := by omega
        have hn1 : n + k + k * (2 * (m / 2)) = e := by
          rw [← hs]
          have e1 : k * m = k * (2 * (m / 2)) + k := by
            conv => lhs; rw [dm, hm1]
            rw [Nat.mul_add, Nat.mul_one]
          omega
        refine ⟨_, rfl, _, rfl, _, _, rfl, rfl, pow_mulW hb (by omega) (by omega), ?_⟩
        have r := rest (n + k) hn1
        rw [Int.pow_add] at r
        exact r
      · have h1 : ¬ (m : Int) % 2 = 1 := fun z => c2 (decide_eq_true (congrArg V.int z))
        have hm0 : m % 2 = 0 := by omega
        refine rest n ?_
        rw [show 2 * (m / 2) = m by omega]
        exact hs
    · have h0 : ¬ (0 : Int) < (m : Int) := fun z => c (decide_eq_true z)
      have hm : m = 0 := by omega
      subst hm
      rw [Nat.mul_zero, Nat.add_zero] at hs
      subst hs
      exact ⟨_, rfl, q⟩
theorem ok_least_factor (T : Txt K mg) : FnOk P w K mg base CX0 1 T.f_least_factor T.d_least_factor ["number"] sp_least_factor := by
  refine T.F_least_factor.ok sc_least_factor (fun vs H Q E h => ?_) (fun cdv A outer s H vs Q E hr h => ?_)
  · obtain ⟨n, rfl, _⟩ := h
    rfl
  · obtain ⟨n, rfl, n2, nb, q⟩ := h
    refine ⟨_, (pss_cons (ps_set (i := 1) sc_least_factor.nd rfl (.inl rfl) pe_int)
      (pss_cons (ps_while PassesOwn.never (pt_cmpR op_le (pe_op op_mulW (pv 1) (pv 1)) (pv 0) (nomark _))
        (pss_cons (ps_if (pt_cmpR op_eq (pe_op op_mod (pv 0) (pv 1)) pe_int (nomark _))
          (pss_one (ps_ret (pv 1)))
          pss_nil)
        (pss_one (ps_set (i := 1) sc_least_factor.nd rfl (.inl rfl) (pe_op op_add (pv 1) pe_int)))))
      (pss_one (ps_ret (pv 0))))), ?_⟩
    refine ⟨fun m σ H' => ∃ f : Nat, σ = [some (.int (n : Int)), some (.int (f : Int))] ∧ H = H' ∧ 2 ≤ f ∧ f ≤ n + 1 ∧ (∀ e, 2 ≤ e → e < f → ¬ e ∣ n) ∧ m = n + 2 - f, ⟨n, 2, rfl, rfl, by omega, by omega, fun e e2 ed => by omega, rfl⟩, fun m σ H' hW => ?_⟩
    obtain ⟨f, rfl, rfl, f2, fn, no, rfl⟩ := hW
    have sq : f * f = f * f := rfl
    refine ⟨_, rfl, _, rfl, f, f, rfl, rfl, wide_mul (a := 40) (b := 40) (by omega) (by omega) (by decide) (by decide) (by decide), _, rfl, _, _, rfl, rfl, _, rfl, ite2 (fun c => ?_) (fun c => ?_)⟩
    · have c' : (f : Int) * f ≤ n := of_decide_eq_true c
      have c2 : f * f ≤ n := by exact_mod_cast c'
      have fl : f ≤ n := Nat.le_trans (Nat.le_mul_of_pos_right f (by omega)) c2
      refine ⟨fun σ' H' => ∃ m', m' < n + 2 - f ∧ ∃ f : Nat, σ' = [some (.int (n : Int)), some (.int (f : Int))] ∧ H = H' ∧ 2 ≤ f ∧ f ≤ n + 1 ∧ (∀ e, 2 ≤ e → e < f → ¬ e ∣ n) ∧ m' = n + 2 - f, fun _ _ z => z, ?_⟩
      refine ⟨_, rfl, _, rfl, n, f, rfl, rfl, (show (0 : Int) < f by omega), rfl, _, rfl, ite2 (fun d => ?_) (fun d => ?_)⟩
      · have d' : (n : Int) % f = 0 := V.int.inj (of_decide_eq_true d)
        have d2 : n % f = 0 := by omega
        exact ⟨_, rfl, q f ⟨f2, Nat.dvd_of_mod_eq_zero d2, no⟩⟩
      · refine ⟨_, rfl, _, _, rfl, rfl, n + 2 - (f + 1), by omega, f + 1, rfl, rfl, by omega, by omega, fun e e2 ef hd => ?_, rfl⟩
        rcases Nat.lt_or_ge e f with l | l
        · exact no e e2 l hd
        · have : e = f := by omega
          subst this
          refine d (decide_eq_true (congrArg V.int ?_))
          have := Nat.mod_eq_zero_of_dvd hd
          omega
    · have c' : ¬ (f : Int) * f ≤ n := fun z => c (decide_eq_true z)
      have c2 : n < f * f := by
        refine Nat.lt_of_not_le fun z => c' ?_
        exact_mod_cast z
      exact ⟨_, rfl, q n (lf_big n2 c2 no)⟩
theorem ok_is_prime (T : Txt K mg) : FnOk P w K mg base CX0 2 T.f_is_prime T.d_is_prime ["number"] sp_is_prime := by
  refine T.F_is_prime.ok sc_is_prime (fun vs H Q E h => ?_) (fun cdv A outer s H vs Q E hr h => ?_)
  · obtain ⟨x, d, rfl, _⟩ := h
    rfl
  · obtain ⟨x, d, rfl, hk, q⟩ := h
    refine ⟨_, (pss_one (ps_ret (pe_and (pe_call (ok_is_whole T) (hr.mono (by decide)) (by rfl) T.g_is_whole T.F_is_whole.kp T.b_is_whole .nil pass0 (pa_cons (pv 0) (pa_cons pe_int (pa_cons (pe_glob (v := .int 20000) rfl T.c_MOST_PRIME ⟨_, rfl⟩) pa_nil)))) (pe_one (pe_cmpR op_eq (pe_call (ok_least_factor T) (hr.mono (by decide)) (by rfl) T.g_least_factor T.F_least_factor.kp T.b_least_factor .nil pass0 (pa_cons (pv 0) pa_nil)) (pv 0) (nomark _)))))), ?_⟩
    refine ⟨_, rfl, x, .int 2, .int 20000, d, rfl, hk, .inr ⟨_, rfl⟩, .inr ⟨_, rfl⟩, _, rfl, ?_⟩
    cases hk with
    | int i =>
      have q' : Q (.bl (decide (2 ≤ i) && decide (i ≤ 20000) && Nat.beq (lf i.toNat) i.toNat)) H := q
      show (if (decide (2 ≤ i) && decide (i ≤ 20000)) = true then _ else _)
      cases c : decide (2 ≤ i) && decide (i ≤ 20000) with
      | false =>
        rw [c, Bool.false_and] at q'
        exact iteF q'
      | true =>
        rw [c, Bool.true_and] at q'
        obtain ⟨c1, c2⟩ := Bool.and_eq_true_iff.mp c
        have i2 := of_decide_eq_true c1
        have i3 := of_decide_eq_true c2
        obtain ⟨n, rfl⟩ : ∃ n : Nat, i = n := ⟨i.toNat, by omega⟩
        rw [Int.toNat_natCast] at q'
        refine iteT ⟨_, rfl, n, rfl, by omega, by omega, fun r hr' => ⟨_, rfl, rfl, ?_⟩⟩
        have er : r = lf n := hr'.uniq (lf_ok (by omega) (by omega))
        subst er
        rw [int_dec]
        have e : decide (((lf n : Nat) : Int) = (n : Int)) = Nat.beq (lf n) n := by
          by_cases z : lf n = n
          · rw [decide_eq_true (by rw [z]), z, Nat.beq_refl]
          · rw [decide_eq_false (fun y => z (by omega))]
            cases b : Nat.beq (lf n) n with
            | false => rfl
            | true => exact absurd (Nat.eq_of_beq_eq_true b) z
        rw [e]
        exact q'
    | _ => exact iteF q
end
end K04
set_option Elab.async false
set_option linter.all false
set_option maxRecDepth 100000
set_option maxHeartbeats 4000000
set_option exponentiation.threshold 5000
namespace K04
open PySem PySem.Spec PyProof.Rows L2 TkS
/-- a field of rests -/
structure RF (C : Addr) (H : Hp) (a : Addr) (p : Nat) : Prop where
  at_ : ∃ dx : Addr, H a = some (.ins C dx [("prime", .int (p : Int)), ("zero", .int 0), ("one", .int 1), ("minus_one", .int ((p : Int) - 1))])
  pr : Pr p
  le : p ≤ 20000
theorem RF.same {C : Addr} {H H' : Hp} {a : Addr} {p : Nat} (h : RF C H a p) (s : Same H H') : RF C H' a p := by
  obtain ⟨⟨dx, e⟩, h2, h3⟩ := h
  exact ⟨⟨dx, s _ _ e⟩, h2, h3⟩
def Med (z : Int) : Prop := z.natAbs < 2 ^ 120
def sp_rest (C : Addr) (op : Int → Int → Int) : Sp := fun vs H Q _ => ∃ (a : Addr) (p : Nat) (x y : Int), vs = [.ref a, .int x, .int y] ∧ RF C H a p ∧ Med x ∧ Med y ∧ Q (.int (op x y % (p : Int))) H
def sp_rest_of (C : Addr) : Sp := fun vs H Q _ => ∃ (a : Addr) (p : Nat) (x : Int), vs = [.ref a, .int x] ∧ RF C H a p ∧ Q (.int (x % (p : Int))) H
/-- x to the e in the field of rests; none: what is nothing's power below 0 -/
def rpw (p : Nat) (x e : Int) : Option Int := if e = 0 then some 1 else if x = 0 then (if e < 0 then none else some 0) else some (((x.toNat ^ (e % ((p : Int) - 1)).toNat % p : Nat) : Int))
def sp_rest_check (C CN : Addr) : Sp := fun vs H Q E => ∃ (a : Addr) (p : Nat) (x : V) (d : PyData), vs = [.ref a, x] ∧ RF C H a p ∧ Dq H x d ∧ (wholeIn x (.int 0) (.int ((p : Int) - 1)) = false → ∀ H', Same H H' → E (.ref CN) none H') ∧ (wholeIn x (.int 0) (.int ((p : Int) - 1)) = true → Q x H)
def sp_rest_power (C CZ : Addr) : Sp := fun vs H Q E => ∃ (a : Addr) (p : Nat) (x e : Int), vs = [.ref a, .int x, .int e] ∧ RF C H a p ∧ 0 ≤ x ∧ x < p ∧ (rpw p x e = none → ∀ H', Same H H' → E (.ref CZ) none H') ∧ (∀ r, rpw p x e = some r → Q (.int r) H)
def sp_rest_quotient (C CZ : Addr) : Sp := fun vs H Q E => ∃ (a : Addr) (p : Nat) (x y : Int), vs = [.ref a, .int x, .int y] ∧ RF C H a p ∧ 0 ≤ x ∧ x < p ∧ 0 ≤ y ∧ y < p ∧ (y = 0 → ∀ H', Same H H' → E (.ref CZ) none H') ∧ (∀ r, rpw p y (-1) = some r → Q (.int (x * r % (p : Int))) H)
section
variable {P : Program} {w : World} {K : PySem.W.Frag} {mg : Str → Option Value} {base : Heap}
theorem ok_RestField_number_of (T : Txt K mg) : FnOk P w K mg base CX0 1 T.f_RestField_number_of T.d_RestField_number_of ["self", "whole"] (sp_rest_of T.C_RestField) := by
  refine T.F_RestField_number_of.ok sc_RestField_number_of (fun vs H Q E h => ?_) (fun cdv A outer s H vs Q E hr h => ?_)
  · obtain ⟨a, p, x, rfl, _⟩ := h
    rfl
  · obtain ⟨a, p, x, rfl, hf, q⟩ := h
    refine ⟨_, (pss_one (ps_ret (pe_op op_mod (pv 1) (pe_fld (pv 0) rfl)))), ?_⟩
    obtain ⟨⟨dx, ha⟩, pr, _⟩ := hf
    have p2 := pr.1
    exact ⟨_, rfl, _, rfl, a, T.C_RestField, dx, _, _, rfl, ha, T.cl_RestField, T.na_RestField_prime, rfl, x, p, rfl, rfl, (show (0 : Int) < p by omega), q⟩
theorem ok_RestField_plus (T : Txt K mg) : FnOk P w K mg base CX0 1 T.f_RestField_plus T.d_RestField_plus ["self", "one", "other"] (sp_rest T.C_RestField (· + ·)) := by
  refine T.F_RestField_plus.ok sc_RestField_plus (fun vs H Q E h => ?_) (fun cdv A outer s H vs Q E hr h => ?_)
  · obtain ⟨a, p, x, y, rfl, _⟩ := h
    rfl
  · obtain ⟨a, p, x, y, rfl, hf, mx, my, q⟩ := h
    refine ⟨_, (pss_one (ps_ret (pe_op op_mod (pe_op op_add (pv 1) (pv 2)) (pe_fld (pv 0) rfl)))), ?_⟩
    obtain ⟨⟨dx, ha⟩, pr, _⟩ := hf
    have p2 := pr.1
    exact ⟨_, rfl, _, rfl, x, y, rfl, rfl, _, rfl, a, T.C_RestField, dx, _, _, rfl, ha, T.cl_RestField, T.na_RestField_prime, rfl, x + y, p, rfl, rfl, (show (0 : Int) < p by omega), q⟩
theorem ok_RestField_less (T : Txt K mg) : FnOk P w K mg base CX0 1 T.f_RestField_less T.d_RestField_less ["self", "one", "other"] (sp_rest T.C_RestField (· - ·)) := by
  refine T.F_RestField_less.ok sc_RestField_less (fun vs H Q E h => ?_) (fun cdv A outer s H vs Q E hr h => ?_)
  · obtain ⟨a, p, x, y, rfl, _⟩ := h
    rfl
  · obtain ⟨a, p, x, y, rfl, hf, mx, my, q⟩ := h
    refine ⟨_, (pss_one (ps_ret (pe_op op_mod (pe_op op_sub (pv 1) (pv 2)) (pe_fld (pv 0) rfl)))), ?_⟩
    obtain ⟨⟨dx, ha⟩, pr, _⟩ := hf
    have p2 := pr.1
    exact ⟨_, rfl, _, rfl, x, y, rfl, rfl, _, rfl, a, T.C_RestField, dx, _, _, rfl, ha, T.cl_RestField, T.na_RestField_prime, rfl, x - y, p, rfl, rfl, (show (0 : Int) < p by omega), q⟩
theorem ok_RestField_times (T : Txt K mg) : FnOk P w K mg base CX0 1 T.f_RestField_times T.d_RestField_times ["self", "one", "other"] (sp_rest T.C_RestField (· * ·)) := by
  refine T.F_RestField_times.ok sc_RestField_times (fun vs H Q E h => ?_) (fun cdv A outer s H vs Q E hr h => ?_)
  · obtain ⟨a, p, x, y, rfl, _⟩ := h
    rfl
  · obtain ⟨a, p, x, y, rfl, hf, mx, my, q⟩ := h
    refine ⟨_, (pss_one (ps_ret (pe_op op_mod (pe_op op_mulW (pv 1) (pv 2)) (pe_fld (pv 0) rfl)))), ?_⟩
    obtain ⟨⟨dx, ha⟩, pr, _⟩ := hf
    have p2 := pr.1
    exact ⟨_, rfl, _, rfl, x, y, rfl, rfl, wide_mul mx my (by decide) (by decide) (by decide), _, rfl, a, T.C_RestField, dx, _, _, rfl, ha, T.cl_RestField, T.na_RestField_prime, rfl, x * y, p, rfl, rfl, (show (0 : Int) < p by omega), q⟩
theorem ok_RestField_check_number (T : Txt K mg) : FnOk P w K mg base (L2.CX P w) 2 T.f_RestField_check_number T.d_RestField_check_number ["self", "number"] (sp_rest_check T.C_RestField T.C_BadNumber) := by
  refine T.F_RestField_check_number.okX sc_RestField_check_number (fun vs H Q E h => ?_) (fun cdv A outer s H vs Q E hr h => ?_)
  · obtain ⟨a, p, x, d, rfl, _⟩ := h
    rfl
  · obtain ⟨a, p, x, d, rfl, hf, kx, hE, q⟩ := h
    refine ⟨_, (pss_cons (ps_if (pt_not (pt_val (pe_call (ok_is_whole T) (hr.mono (by decide)) (by rfl) T.g_is_whole T.F_is_whole.kp T.b_is_whole .nil pass0 (pa_cons (pv 1) (pa_cons pe_int (pa_cons (pe_op op_sub (pe_fld (pv 0) rfl) pe_int) pa_nil))))))
        (pss_one (ps_raise (W := fun cls d _ H => E cls d H) rfl (takes_of rfl rfl rfl rfl) (pmk_own0 PySem.F.excBase_ValueError T.q_BadNumber T.g_BadNumber T.k_BadNumber (raises_own T.b_BadNumber T.ty_BadNumber) (by rfl))))
        pss_nil)
      (pss_one (ps_ret (pv 1)))), ?_⟩
    obtain ⟨⟨dx, ha⟩, pr, _⟩ := hf
    refine ⟨_, rfl, _, rfl, a, T.C_RestField, dx, _, _, rfl, ha, T.cl_RestField, T.na_RestField_prime, rfl, p, 1, rfl, rfl, x, .int 0, .int ((p : Int) - 1), d, rfl, kx, .inr ⟨_, rfl⟩, .inr ⟨_, rfl⟩, _, rfl, ?_⟩
    cases c : wholeIn x (.int 0) (.int ((p : Int) - 1)) with
    | false => exact iteT (hE c H fun _ _ z => z)
    | true => exact iteF ⟨_, rfl, q c⟩
end
end K04
set_option Elab.async false
set_option linter.all false
set_option maxRecDepth 100000
set_option maxHeartbeats 4000000
set_option exponentiation.threshold 5000
namespace K04
open PySem PySem.Spec PyProof.Rows L2 TkS
theorem med_nat {n p : Nat} (h : n < p) (l : p ≤ 20000) : Med (n : Int) := by
  unfold Med
  rw [Int.natAbs_natCast]
  exact Nat.lt_of_lt_of_le h (Nat.le_trans l (by decide +kernel))
theorem sq_mod (r y p k : Nat) : r * (y * y % p) ^ k % p = r * y ^ (2 * k) % p := by
  rw [Nat.mul_mod, ← Nat.pow_mod, ← Nat.mul_mod, Nat.pow_mul, Nat.pow_two]
section
variable {P : Program} {w : World} {K : PySem.W.Frag} {mg : Str → Option Value} {base : Heap}
theorem ok_RestField_power (T : Txt K mg) : FnOk P w K mg base (L2.CX P w) 5 T.f_RestField_power T.d_RestField_power ["self", "number", "exponent"] (sp_rest_power T.C_RestField T.C_ByZero) := by
  refine T.F_RestField_power.okX sc_RestField_power (fun vs H Q E h => ?_) (fun cdv A outer s H vs Q E hr h => ?_)
  · obtain ⟨a, p, x, e, rfl, _⟩ := h
    rfl
  · obtain ⟨a, p, x, e, rfl, hf, x0, x1, hE, q⟩ := h
    refine ⟨_, (pss_cons (ps_if (pt_cmpR op_eq (pv 2) pe_int (nomark _))
        (pss_one (ps_ret (pe_fld (pv 0) rfl)))
        pss_nil)
      (pss_cons (ps_if (pt_cmpR op_eq (pv 1) (pe_fld (pv 0) rfl) (nomark _))
        (pss_cons (ps_if (pt_cmpR op_lt (pv 2) pe_int (nomark _))
          (pss_one (ps_raise (W := fun cls d _ H => E cls d H) rfl (takes_of rfl rfl rfl rfl) (pmk_own0 PySem.F.excBase_ValueError T.q_ByZero T.g_ByZero T.k_ByZero (raises_own T.b_ByZero T.ty_ByZero) (by rfl))))
          pss_nil)
        (pss_one (ps_ret (pe_fld (pv 0) rfl))))
        pss_nil)
      (pss_cons (ps_set (i := 3) sc_RestField_power.nd rfl (.inl rfl) (pe_op op_mod (pv 2) (pe_op op_sub (pe_fld (pv 0) rfl) pe_int)))
      (pss_cons (ps_set (i := 4) sc_RestField_power.nd rfl (.inl rfl) (pe_fld (pv 0) rfl))
      (pss_cons (ps_while (by exact passes_of rfl) (pt_cmpR op_gt (pv 3) pe_int (nomark _))
        (Evl.pss_cut (ps_if (pt_cmpR op_eq (pe_op op_mod (pv 3) pe_int) pe_int (nomark _))
          (pss_one (ps_set (i := 4) sc_RestField_power.nd rfl (.inl rfl) (pe_meth (pv 0) T.cl_RestField T.M_RestField_times (ok_RestField_times T) (hr.mono (by decide)) T.b_RestField_times .nil pass0 (pa_cons (pv 4) (pa_cons (pv 1) pa_nil)))))
          pss_nil)
        (pss_cons (ps_set (i := 1) sc_RestField_power.nd rfl (.inl rfl) (pe_meth (pv 0) T.cl_RestField T.M_RestField_times (ok_RestField_times T) (hr.mono (by decide)) T.b_RestField_times .nil pass0 (pa_cons (pv 1) (pa_cons (pv 1) pa_nil))))
        (pss_one (ps_set (i := 3) sc_RestField_power.nd rfl (.inl rfl) (pe_op op_fdiv (pv 3) pe_int))))))
      (pss_one (ps_ret (pv 4)))))))), ?_⟩
    obtain ⟨⟨dx, ha⟩, pr, le⟩ := id hf
    have p2 := pr.1
    refine ⟨_, rfl, rfl, _, rfl, ?_⟩
    rw [int_dec]
    by_cases e0 : e = 0
    · rw [decide_eq_true e0]
      exact iteT ⟨_, rfl, a, T.C_RestField, dx, _, _, rfl, ha, T.cl_RestField, T.na_RestField_one, rfl, q 1 (by unfold rpw; rw [if_pos e0])⟩
    rw [decide_eq_false e0]
    refine iteF ⟨_, rfl, _, rfl, a, T.C_RestField, dx, _, _, rfl, ha, T.cl_RestField, T.na_RestField_zero, rfl, rfl, _, rfl, ?_⟩
    rw [int_dec]
    by_cases x00 : x = 0
    · rw [decide_eq_true x00]
      refine iteT ⟨_, rfl, _, _, rfl, rfl, _, rfl, ite2 (fun c => ?_) (fun c => ?_)⟩
      · have c' : e < 0 := of_decide_eq_true c
        exact hE (by unfold rpw; rw [if_neg e0, if_pos x00, if_pos c']) H fun _ _ z => z
      · have c' : ¬ e < 0 := fun z => c (decide_eq_true z)
        exact ⟨_, rfl, a, T.C_RestField, dx, _, _, rfl, ha, T.cl_RestField, T.na_RestField_zero, rfl, q 0 (by unfold rpw; rw [if_neg e0, if_pos x00, if_neg c'])⟩
    rw [decide_eq_false x00]
    refine iteF ?_
    obtain ⟨X, rfl⟩ : ∃ n : Nat, x = n := ⟨x.toNat, by omega⟩
    have Xp : X < p := by omega
    obtain ⟨L, hL⟩ : ∃ n : Nat, e % ((p : Int) - 1) = n := ⟨(e % ((p : Int) - 1)).toNat, by have := Int.emod_nonneg e (show (p : Int) - 1 ≠ 0 by omega); omega⟩
    have qL := q ((X ^ L % p : Nat) : Int) (by unfold rpw; rw [if_neg e0, if_neg x00, hL]; rfl)
    refine ⟨_, rfl, _, rfl, a, T.C_RestField, dx, _, _, rfl, ha, T.cl_RestField, T.na_RestField_prime, rfl, p, 1, rfl, rfl, e, (p : Int) - 1, rfl, rfl, (show (0 : Int) < (p : Int) - 1 by omega), ?_⟩
    dsimp only
    rw [hL]
    refine ⟨_, rfl, a, T.C_RestField, dx, _, _, rfl, ha, T.cl_RestField, T.na_RestField_one, rfl, ?_⟩
    refine ⟨fun m σ H' => ∃ y l r : Nat, σ = [some (.ref a), some (.int (y : Int)), some (.int e), some (.int (l : Int)), some (.int (r : Int))] ∧ H = H' ∧ y < p ∧ r < p ∧ r * y ^ l % p = X ^ L % p ∧ m = l, ⟨L, X, L, 1, rfl, rfl, Xp, by omega, by rw [Nat.one_mul], rfl⟩, fun m σ H' hW => ?_⟩
    obtain ⟨y, l, r, rfl, rfl, yp, rp, hyr, rfl⟩ := hW
    refine ⟨_, rfl, _, _, rfl, rfl, _, rfl, ite2 (fun c => ?_) (fun c => ?_)⟩
    · have c' : (0 : Int) < (m : Int) := of_decide_eq_true c
      refine ⟨fun σ' H' => ∃ m', m' < m ∧ ∃ y l r : Nat, σ' = [some (.ref a), some (.int (y : Int)), some (.int e), some (.int (l : Int)), some (.int (r : Int))] ∧ H = H' ∧ y < p ∧ r < p ∧ r * y ^ l % p = X ^ L % p ∧ m' = l, fun _ _ z => z, ?_⟩
      refine ⟨fun σ' H' => ∃ r' : Nat, σ' = [some (.ref a), some (.int (y : Int)), some (.int e), some (.int (m : Int)), some (.int (r' : Int))] ∧ H = H' ∧ r' < p ∧ r' * y ^ (2 * (m / 2)) % p = X ^ L % p, ?_, fun σ' H' hM => ?_⟩
      · refine ⟨_, rfl, m, 2, rfl, rfl, (show (0 : Int) < 2 by decide), rfl, _, rfl, ite2 (fun d => ?_) (fun d => ?_)⟩
        · have d' : (m : Int) % 2 = 1 := V.int.inj (of_decide_eq_true d)
          refine ⟨_, rfl, a, dx, _, rfl, ha, rfl, _, rfl, _, rfl, a, p, r, y, rfl, hf, med_nat rp le, med_nat yp le, ?_⟩
          refine ⟨r * y % p, ?_, rfl, Nat.mod_lt _ (by omega), ?_⟩
          · rw [show ((r : Int) * (y : Int)) % (p : Int) = ((r * y % p : Nat) : Int) by rw [Int.natCast_emod, Int.natCast_mul]]
            rfl
          · rw [Nat.mod_mul_mod, Nat.mul_assoc, ← Nat.pow_succ', show (2 * (m / 2)).succ = m by omega]
            exact hyr
        · have d' : ¬ (m : Int) % 2 = 1 := fun z => d (decide_eq_true (congrArg V.int z))
          exact ⟨r, rfl, rfl, rp, by rw [show 2 * (m / 2) = m by omega]; exact hyr⟩
      · obtain ⟨r', rfl, rfl, rp', hr'⟩ := hM
        refine ⟨_, rfl, a, dx, _, rfl, ha, rfl, _, rfl, _, rfl, a, p, y, y, rfl, hf, med_nat yp le, med_nat yp le, ?_⟩
        refine ⟨_, rfl, m, 2, rfl, rfl, ⟨by decide, by decide⟩, m / 2, by omega, y * y % p, m / 2, r', ?_, rfl, Nat.mod_lt _ (by omega), rp', by rw [sq_mod]; exact hr', rfl⟩
        rw [show ((y : Int) * (y : Int)) % (p : Int) = ((y * y % p : Nat) : Int) by rw [Int.natCast_emod, Int.natCast_mul]]
        rfl
    · have c' : m = 0 := by
        have : ¬ (0 : Int) < (m : Int) := fun z => c (decide_eq_true z)
        omega
      subst c'
      rw [Nat.pow_zero, Nat.mul_one, Nat.mod_eq_of_lt rp] at hyr
      subst hyr
      exact ⟨_, rfl, qL⟩
end
end K04
set_option Elab.async false
set_option linter.all false
set_option maxRecDepth 100000
set_option maxHeartbeats 4000000
set_option exponentiation.threshold 5000
namespace K04
open PySem PySem.Spec PyProof.Rows L2 TkS
theorem rpw_inv {p : Nat} {y : Int} (h : Pr p) (y0 : 0 ≤ y) (y1 : y < p) (n0 : y ≠ 0) : ∃ r : Nat, rpw p y (-1) = some (r : Int) ∧ r < p ∧ (r : Int) * y % p = 1 := by
  have p2 := h.1
  obtain ⟨Y, rfl⟩ : ∃ n : Nat, y = n := ⟨y.toNat, by omega⟩
  refine ⟨Y ^ ((-1 : Int) % ((p : Int) - 1)).toNat % p, ?_, Nat.mod_lt _ (by omega), ?_⟩
  · unfold rpw
    rw [if_neg (by decide), if_neg n0]
    rfl
  · have nd : ¬ p ∣ Y := not_dvd (by omega) (by omega)
    have e : ((-1 : Int) % ((p : Int) - 1)).toNat = (p - 2) % (p - 1) := by
      by_cases c : p = 2
      · subst c
        rfl
      · rw [Nat.mod_eq_of_lt (by omega)]
        have : (-1 : Int) % ((p : Int) - 1) = (p : Int) - 2 := by
          rw [← Int.add_emod_right (a := -1) (b := (p : Int) - 1), Int.emod_eq_of_lt (by omega) (by omega)]
          omega
        omega
    rw [e, ← pow_red h nd]
    have := pow_inv h nd
    rw [← Int.natCast_mul, ← Int.natCast_emod, Nat.mod_mul_mod, this]
    rfl
section
variable {P : Program} {w : World} {K : PySem.W.Frag} {mg : Str → Option Value} {base : Heap}
theorem ok_RestField_quotient (T : Txt K mg) : FnOk P w K mg base (L2.CX P w) 7 T.f_RestField_quotient T.d_RestField_quotient ["self", "one", "other"] (sp_rest_quotient T.C_RestField T.C_ByZero) := by
  refine T.F_RestField_quotient.okX sc_RestField_quotient (fun vs H Q E h => ?_) (fun cdv A outer s H vs Q E hr h => ?_)
  · obtain ⟨a, p, x, y, rfl, _⟩ := h
    rfl
  · obtain ⟨a, p, x, y, rfl, hf, x0, x1, y0, y1, hE, q⟩ := h
    refine ⟨_, (pss_one (ps_ret (pe_meth (pv 0) T.cl_RestField T.M_RestField_times (ok_RestField_times T) (hr.mono (by decide)) T.b_RestField_times .nil pass0 (pa_cons (pv 1) (pa_cons (pe_meth (pv 0) T.cl_RestField T.M_RestField_power (ok_RestField_power T) (hr.mono (by decide)) T.b_RestField_power .nil (passes_call (W := fun cls d _ H => E cls d H) (takes_of rfl rfl rfl rfl) (fun _ _ _ _ h => h)) (pa_cons (pv 2) (pa_cons (pe_un un_neg pe_int) pa_nil))) pa_nil))))), ?_⟩
    obtain ⟨⟨dx, ha⟩, pr, le⟩ := id hf
    have p2 := pr.1
    refine ⟨_, rfl, a, dx, _, rfl, ha, rfl, _, rfl, _, rfl, a, dx, _, rfl, ha, rfl, _, rfl, 1, rfl, a, p, y, -1, rfl, hf, y0, y1, fun e H' s => ?_, fun r e => ?_⟩
    · by_cases c : y = 0
      · exact hE c H' s
      · obtain ⟨r, e2, _⟩ := rpw_inv pr y0 y1 c
        rw [e2] at e
        cases e
    · by_cases c : y = 0
      · subst c
        cases e
      · obtain ⟨r', e2, rp, _⟩ := rpw_inv pr y0 y1 c
        have e3 := q r e
        rw [e2] at e
        cases e
        obtain ⟨X, rfl⟩ : ∃ n : Nat, x = n := ⟨x.toNat, by omega⟩
        exact ⟨a, p, _, _, rfl, hf, med_nat (by omega) le, med_nat rp le, e3⟩
end
end K04
set_option Elab.async false
set_option linter.all false
set_option maxRecDepth 100000
set_option maxHeartbeats 4000000
set_option exponentiation.threshold 5000
namespace K04
open PySem PySem.Spec PyProof.Rows L2 TkS
def KeepA (a : Addr) (H H' : Hp) : Prop := ∀ b o, H b = some o → b ≠ a → H' b = some o
theorem KeepA.same {a : Addr} {H H1 H2 : Hp} (k : KeepA a H H1) (s : Same H1 H2) : KeepA a H H2 := fun b o e n => s _ _ (k b o e n)
theorem KeepA.put {a : Addr} {H H1 : Hp} {o : HO} (k : KeepA a H H1) : KeepA a H (upd H1 a o) := fun b x e n => by
  rw [upd_ne n]
  exact k b x e n
def prV (H : Hp) : V → Int × Int
  | .ref t => match H t with
    | some (.tup [.int a, .int b]) => (a, b)
    | _ => (0, 0)
  | _ => (0, 0)

theorem prime_of {d : PyData} (h : primeD d = true) : ∃ p : Nat, d = .int (p : Int) ∧ Pr p ∧ p ≤ 20000 := by
  cases d with
  | int i =>
    unfold primeD at h
    obtain ⟨h1, h2⟩ := Bool.and_eq_true_iff.mp h
    obtain ⟨h3, h4⟩ := Bool.and_eq_true_iff.mp h1
    have i2 := of_decide_eq_true h3
    have i3 := of_decide_eq_true h4
    obtain ⟨n, rfl⟩ : ∃ n : Nat, i = n := ⟨i.toNat, by omega⟩
    rw [Int.toNat_natCast] at h2
    have e := Nat.eq_of_beq_eq_true h2
    have L := lf_ok (n := n) (by omega) (by omega)
    rw [e] at L
    exact ⟨n, rfl, L.pr, by omega⟩
  | _ => cases h
theorem prime_is {p : Nat} (h : Pr p) (l : p ≤ 20000) : primeD (.int (p : Int)) = true := by
  have p2 := h.1
  show (decide (2 ≤ (p : Int)) && decide ((p : Int) ≤ 20000) && Nat.beq (lf (p : Int).toNat) (p : Int).toNat) = true
  rw [Int.toNat_natCast, decide_eq_true (by omega), decide_eq_true (by omega), (lf_ok (n := p) p2 (by omega)).uniq (LF.self.mpr h), Nat.beq_refl]
  rfl
def sp_RestField_init (C CB : Addr) : Sp := fun vs H Q E => ∃ (a dx : Addr) (x : V) (d : PyData), vs = [.ref a, x] ∧ H a = some (.ins C dx []) ∧ Dq H x d ∧ (primeD d = false → ∀ H', KeepA a H H' → E (.ref CB) none H') ∧
  (∀ p : Nat, d = .int (p : Int) → Pr p → p ≤ 20000 → ∀ H', KeepA a H H' → RF C H' a p → Q .non H')
/-- a new field of rests, as the caller of the class sees it -/
theorem mk_rest {C CB : Addr} {H1 : Hp} {R : Addr → Hp → Prop} {E : XK} {x : V} {d : PyData} (k : Dq H1 x d) (hE : primeD d = false → ∀ H', Same H1 H' → E (.ref CB) none H')
    (hQ : ∀ p : Nat, d = .int (p : Int) → Pr p → p ≤ 20000 → ∀ H' y, Same H1 H' → H1 y = none → RF C H' y p → R y H') :
    ∀ y dx, H1 y = none → H1 dx = none → dx ≠ y → sp_RestField_init C CB (.ref y :: ([x] ++ [])) (upd (upd H1 dx (.own y)) y (.ins C dx [])) (fun v H2 => v = .non ∧ R y H2) E := fun y dx nx nd ne => by
  have s0 : Same H1 (upd (upd H1 dx (.own y)) y (.ins C dx [])) := Same.made nx nd fun b o e _ => e
  have sm : ∀ H', KeepA y (upd (upd H1 dx (.own y)) y (.ins C dx [])) H' → Same H1 H' := fun H' k => Same.made nx nd k
  exact ⟨y, dx, x, d, rfl, upd_same, k.same s0, fun e H' k => hE e H' (sm H' k), fun p e h l H' k hf => ⟨rfl, hQ p e h l H' y (sm H' k) nx hf⟩⟩
section
variable {P : Program} {w : World} {K : PySem.W.Frag} {mg : Str → Option Value} {base : Heap}
theorem ok_RestField_init (T : Txt K mg) : FnOk P w K mg base (L2.CX P w) 3 T.f_RestField_init T.d_RestField_init ["self", "prime"] (sp_RestField_init T.C_RestField T.C_BadPrime) := by
  refine T.F_RestField_init.okX sc_RestField_init (fun vs H Q E h => ?_) (fun cdv A outer s H vs Q E hr h => ?_)
  · obtain ⟨a, dx, x, d, rfl, _⟩ := h
    rfl
  · obtain ⟨a, dx, x, d, rfl, ha, kx, hE, hQ⟩ := h
    refine ⟨_, (pss_cons (ps_if (pt_not (pt_val (pe_call (ok_is_prime T) (hr.mono (by decide)) (by rfl) T.g_is_prime T.F_is_prime.kp T.b_is_prime .nil pass0 (pa_cons (pv 1) pa_nil))))
        (pss_one (ps_raise (W := fun cls d _ H => E cls d H) rfl (takes_of rfl rfl rfl rfl) (pmk_own0 PySem.F.excBase_ValueError T.q_BadPrime T.g_BadPrime T.k_BadPrime (raises_own T.b_BadPrime T.ty_BadPrime) (by rfl))))
        pss_nil)
      (pss_cons (ps_fld (pv 0) (pv 1) rfl)
      (pss_cons (ps_fld (pv 0) pe_int rfl)
      (pss_cons (ps_fld (pv 0) pe_int rfl)
      (pss_one (ps_fld (pv 0) (pe_op op_sub (pv 1) pe_int) rfl)))))), ?_⟩
    refine ⟨_, rfl, x, d, rfl, kx, _, rfl, ?_⟩
    cases c : primeD d with
    | false => exact iteT (hE c H fun b o e _ => e)
    | true =>
      obtain ⟨p, rfl, pr, le⟩ := prime_of c
      cases kx
      refine iteF ?_
      refine ⟨_, rfl, _, rfl, a, T.C_RestField, dx, [], rfl, ha, T.cl_RestField, T.na_RestField_prime, by decide, ?_⟩
      refine ⟨_, rfl, a, T.C_RestField, dx, _, rfl, upd_same, T.cl_RestField, T.na_RestField_zero, (by show 1 < 1000; decide), ?_⟩
      refine ⟨_, rfl, a, T.C_RestField, dx, _, rfl, upd_same, T.cl_RestField, T.na_RestField_one, (by show 2 < 1000; decide), ?_⟩
      refine ⟨_, rfl, p, 1, rfl, rfl, _, rfl, a, T.C_RestField, dx, _, rfl, upd_same, T.cl_RestField, T.na_RestField_minus_one, (by show 3 < 1000; decide), ?_⟩
      refine hQ p rfl pr le _ (KeepA.put (KeepA.put (KeepA.put (KeepA.put fun b o e _ => e)))) ⟨⟨dx, ?_⟩, pr, le⟩
      rw [upd_same]
      rfl
end
end K04
set_option Elab.async false
set_option linter.all false
set_option maxRecDepth 100000
set_option maxHeartbeats 4000000
namespace K04
open TkS
/-! fractions in lowest terms -/
def gS (t b : Int) : Int := if b < 0 then -((Int.gcd t b : Nat) : Int) else ((Int.gcd t b : Nat) : Int)
def low (t b : Int) : Int × Int := (t.fdiv (gS t b), b.fdiv (gS t b))
def Lowest (q : Int × Int) : Prop := 0 < q.2 ∧ Int.gcd q.1 q.2 = 1
theorem gS_ne {t b : Int} (hb : b ≠ 0) : gS t b ≠ 0 := by
  have : 0 < Int.gcd t b := Int.gcd_pos_of_ne_zero_right _ hb
  unfold gS
  split <;> omega
theorem low_ok {t b : Int} (hb : b ≠ 0) : Lowest (low t b) ∧ t * (low t b).2 = (low t b).1 * b := by
  have g0 : 0 < Int.gcd t b := Int.gcd_pos_of_ne_zero_right _ hb
  obtain ⟨t1, ht⟩ := Int.gcd_dvd_left (a := t) (b := b)
  obtain ⟨b1, hb1⟩ := Int.gcd_dvd_right (a := t) (b := b)
  have gc : Int.gcd t1 b1 = 1 := by
    have e : Int.gcd t b = Int.gcd t b * Int.gcd t1 b1 := by
      obtain ⟨g, hg⟩ : ∃ g, Int.gcd t b = g := ⟨_, rfl⟩
      rw [hg] at ht hb1 ⊢
      rw [ht, hb1, Int.gcd_mul_left, Int.natAbs_natCast] at hg
      exact hg.symm
    have e2 : Int.gcd t b * 1 = Int.gcd t b * Int.gcd t1 b1 := by rw [Nat.mul_one]; exact e
    exact (Nat.eq_of_mul_eq_mul_left g0 e2).symm
  unfold low gS
  generalize Int.gcd t b = g at g0 ht hb1
  by_cases c : b < 0
  · rw [if_pos c]
    have e1 : t.fdiv (-(g : Int)) = -t1 := by
      rw [ht, show (g : Int) * t1 = (-(g : Int)) * (-t1) by rw [Int.neg_mul_neg], Int.mul_fdiv_cancel_left _ (by omega)]
    have e2 : b.fdiv (-(g : Int)) = -b1 := by
      rw [hb1, show (g : Int) * b1 = (-(g : Int)) * (-b1) by rw [Int.neg_mul_neg], Int.mul_fdiv_cancel_left _ (by omega)]
    rw [e1, e2]
    refine ⟨⟨?_, by rw [Int.gcd_neg, Int.neg_gcd]; exact gc⟩, ?_⟩
    · show 0 < -b1
      refine Classical.byContradiction fun z => ?_
      have : 0 ≤ (g : Int) * b1 := Int.mul_nonneg (by omega) (by omega)
      omega
    · show t * -b1 = -t1 * b
      rw [Int.mul_neg, Int.neg_mul, ht, hb1, Int.mul_assoc, Int.mul_left_comm]
  · rw [if_neg c]
    have e1 : t.fdiv (g : Int) = t1 := by rw [ht, Int.mul_fdiv_cancel_left _ (by omega)]
    have e2 : b.fdiv (g : Int) = b1 := by rw [hb1, Int.mul_fdiv_cancel_left _ (by omega)]
    rw [e1, e2]
    refine ⟨⟨?_, gc⟩, ?_⟩
    · show 0 < b1
      refine Classical.byContradiction fun z => ?_
      have : (g : Int) * b1 ≤ 0 := Int.mul_nonpos_of_nonneg_of_nonpos (by omega) (by omega)
      omega
    · show t * b1 = t1 * b
      rw [ht, hb1, Int.mul_assoc, Int.mul_left_comm]
theorem low_uniq {q r : Int × Int} (hq : Lowest q) (hr : Lowest r) (e : q.1 * r.2 = r.1 * q.2) : q = r := by
  obtain ⟨a, b⟩ := q
  obtain ⟨c, d⟩ := r
  obtain ⟨b0, gq⟩ := hq
  obtain ⟨d0, gr⟩ := hr
  change a * d = c * b at e
  change 0 < b at b0
  change 0 < d at d0
  have en : a.natAbs * d.natAbs = c.natAbs * b.natAbs := by rw [← Int.natAbs_mul, ← Int.natAbs_mul, e]
  have h1 : b.natAbs ∣ d.natAbs := Nat.Coprime.dvd_of_dvd_mul_left (show Nat.gcd b.natAbs a.natAbs = 1 by rw [Nat.gcd_comm]; exact gq) ⟨c.natAbs, by rw [en, Nat.mul_comm]⟩
  have h2 : d.natAbs ∣ b.natAbs := Nat.Coprime.dvd_of_dvd_mul_left (show Nat.gcd d.natAbs c.natAbs = 1 by rw [Nat.gcd_comm]; exact gr) ⟨a.natAbs, by rw [← en, Nat.mul_comm]⟩
  have bd : b = d := by
    have := Nat.dvd_antisymm h1 h2
    omega
  subst bd
  have : a = c := Int.eq_of_mul_eq_mul_right (by omega) e
  rw [this]
theorem low_is {t b : Int} {q : Int × Int} (hb : b ≠ 0) (hq : Lowest q) (e : t * q.2 = q.1 * b) : low t b = q := by
  obtain ⟨l1, l2⟩ := low_ok (t := t) hb
  refine low_uniq l1 hq ?_
  have h : b * ((low t b).1 * q.2) = b * (q.1 * (low t b).2) := by
    calc b * ((low t b).1 * q.2) = ((low t b).1 * b) * q.2 := by rw [← Int.mul_assoc, Int.mul_comm b]
      _ = (t * (low t b).2) * q.2 := by rw [l2]
      _ = (t * q.2) * (low t b).2 := by rw [Int.mul_right_comm]
      _ = (q.1 * b) * (low t b).2 := by rw [e]
      _ = b * (q.1 * (low t b).2) := by rw [Int.mul_comm q.1 b, Int.mul_assoc]
  exact Int.eq_of_mul_eq_mul_left hb h
/-- a quotient, times what it was divided by -/
theorem low_quot {a b : Int × Int} (ha : Lowest a) (hb : Lowest b) (b0 : b.1 ≠ 0) : low ((low (a.1 * b.2) (a.2 * b.1)).1 * b.1) ((low (a.1 * b.2) (a.2 * b.1)).2 * b.2) = a := by
  have n0 : a.2 * b.1 ≠ 0 := fun z => by
    rcases Int.mul_eq_zero.mp z with h | h
    · have := ha.1
      omega
    · exact b0 h
  obtain ⟨l1, l2⟩ := low_ok (t := a.1 * b.2) n0
  generalize low (a.1 * b.2) (a.2 * b.1) = q at l1 l2
  have q2 := l1.1
  have b2 := hb.1
  refine low_is (fun z => by
    rcases Int.mul_eq_zero.mp z with h | h <;> omega) ha ?_
  calc q.1 * b.1 * a.2 = q.1 * (a.2 * b.1) := by rw [Int.mul_assoc, Int.mul_comm b.1]
    _ = a.1 * b.2 * q.2 := l2.symm
    _ = a.1 * (q.2 * b.2) := by rw [Int.mul_assoc, Int.mul_comm b.2]
theorem lowest_pow {q : Int × Int} (h : Lowest q) (n : Nat) : Lowest (q.1 ^ n, q.2 ^ n) := by
  refine ⟨Int.pow_pos h.1, ?_⟩
  show Nat.gcd (q.1 ^ n).natAbs (q.2 ^ n).natAbs = 1
  rw [Int.natAbs_pow, Int.natAbs_pow]
  exact Nat.Coprime.pow _ _ h.2
theorem low_times_pow {q : Int × Int} (h : Lowest q) (m n : Nat) : low (q.1 ^ m * q.1 ^ n) (q.2 ^ m * q.2 ^ n) = (q.1 ^ (m + n), q.2 ^ (m + n)) := by
  rw [← Int.pow_add, ← Int.pow_add]
  have l := lowest_pow h (m + n)
  refine low_is (fun z => ?_) l rfl
  have := l.1
  change 0 < q.2 ^ (m + n) at this
  omega
end K04
set_option Elab.async false
set_option linter.all false
set_option maxRecDepth 100000
set_option maxHeartbeats 4000000
set_option exponentiation.threshold 5000
namespace TkS
open PySem PySem.Spec PyProof.Rows L2
/-- // by a divisor of any sign -/
def CDivA (_ j : Int) : Prop := j ≠ 0 ∧ j.natAbs.log2 < 9000
theorem op_fdivA {X : Cx} : OpR X (binaryOp .FloorDiv) (rI CDivA fun i j => .int (i.fdiv j)) := opI fun _ _ _ _ _ _ _ hc q => floordiv_int hc.1 q (.inl (PyProof.noPylong_of_log2 hc.2))
end TkS
namespace K04
open PySem PySem.Spec PyProof.Rows L2 TkS
/-- the field of fractions -/
structure FF (C : Addr) (H : Hp) (a : Addr) : Prop where
  at_ : ∃ dx z o m : Addr, H a = some (.ins C dx [("zero", .ref z), ("one", .ref o), ("minus_one", .ref m)]) ∧ H z = some (.tup [.int 0, .int 1]) ∧ H o = some (.tup [.int 1, .int 1]) ∧ H m = some (.tup [.int (-1), .int 1])
theorem FF.same {C : Addr} {H H' : Hp} {a : Addr} (h : FF C H a) (s : Same H H') : FF C H' a := by
  obtain ⟨dx, z, o, m, e1, e2, e3, e4⟩ := h.at_
  exact ⟨⟨dx, z, o, m, s _ _ e1, s _ _ e2, s _ _ e3, s _ _ e4⟩⟩
def frD (q : Int × Int) : PyData := .tuple [.int q.1, .int q.2]
theorem fr_at {H : Hp} {v : V} {q : Int × Int} (k : Dq H v (frD q)) : ∃ l, v = .ref l ∧ H l = some (.tup [.int q.1, .int q.2]) := by
  cases k with
  | tup e t =>
    cases t with
    | cons a t =>
      cases t with
      | cons b t =>
        cases t
        cases a
        cases b
        exact ⟨_, rfl, e⟩
theorem fr_dq {H : Hp} {l : Addr} {q : Int × Int} (e : H l = some (.tup [.int q.1, .int q.2])) : Dq H (.ref l) (frD q) := .tup e (.cons (.int _) (.cons (.int _) .nil))
/-- a size that the reckoning keeps -/
def Fin (n : Nat) (z : Int) : Prop := z.natAbs < 2 ^ n
theorem Fin.mul {m n : Nat} {x y : Int} (hx : Fin m x) (hy : Fin n y) : Fin (m + n) (x * y) := by
  unfold Fin at *
  rw [Int.natAbs_mul, Nat.pow_add]
  exact Nat.mul_lt_mul'' hx hy
theorem Fin.mulW {m n : Nat} {x y : Int} (hx : Fin m x) (hy : Fin n y) (m0 : 0 < m) (n0 : 0 < n) (h : m + n ≤ 1000000) : CMulW x y := wide_mul hx hy m0 n0 h
theorem gS_fin {n : Nat} {t b : Int} (hb : b ≠ 0) (h : Fin n b) : Fin n (gS t b) := by
  unfold Fin at *
  have l : Int.gcd t b ≤ b.natAbs := Nat.le_of_dvd (by omega) (Nat.gcd_dvd_right t.natAbs b.natAbs)
  unfold gS
  split <;> omega
theorem fin_log {n : Nat} {z : Int} (h : Fin n z) (n0 : 0 < n) (l : n ≤ 9000) : z.natAbs.log2 < 9000 := Nat.lt_of_lt_of_le (PySem.Flt.log2_lt_of n0 h) l
def sp_fraction : Sp := fun vs H Q _ => ∃ t b : Int, vs = [.int t, .int b] ∧ b ≠ 0 ∧ Fin 8000 b ∧ ∀ l H', Same H H' → Dq H' (.ref l) (frD (low t b)) → Q (.ref l) H'
section
variable {P : Program} {w : World} {K : PySem.W.Frag} {mg : Str → Option Value} {base : Heap}
theorem ok_fraction (T : Txt K mg) : FnOk P w K mg base CX0 2 T.f_fraction T.d_fraction ["top", "bottom"] sp_fraction := by
  refine T.F_fraction.ok sc_fraction (fun vs H Q E h => ?_) (fun cdv A outer s H vs Q E hr h => ?_)
  · obtain ⟨t, b, rfl, _⟩ := h
    rfl
  · obtain ⟨t, b, rfl, b0, fb, q⟩ := h
    refine ⟨_, (pss_cons (ps_set (i := 2) sc_fraction.nd rfl (.inl rfl) (pe_call (ok_common_divisor T) (hr.mono (by decide)) (by rfl) T.g_common_divisor T.F_common_divisor.kp T.b_common_divisor .nil pass0 (pa_cons (pv 0) (pa_cons (pv 1) pa_nil))))
      (Evl.pss_cut (ps_if (pt_cmpR op_lt (pv 1) pe_int (nomark _))
        (pss_one (ps_set (i := 2) sc_fraction.nd rfl (.inl rfl) (pe_un un_neg (pv 2))))
        pss_nil)
      (pss_one (ps_ret (pe_tup (pa_cons (pe_op op_fdivA (pv 0) (pv 2)) (pa_cons (pe_op op_fdivA (pv 1) (pv 2)) pa_nil))))))), ?_⟩
    refine ⟨_, rfl, _, rfl, t, b, rfl, ?_⟩
    refine ⟨fun σ H' => σ = [some (.int t), some (.int b), some (.int (gS t b))] ∧ H = H', ?_, fun σ H' hM => ?_⟩
    · refine ⟨_, rfl, _, _, rfl, rfl, _, rfl, ite2 (fun c => ?_) (fun c => ?_)⟩
      · have c' : b < 0 := of_decide_eq_true c
        refine ⟨_, rfl, _, rfl, ?_, rfl⟩
        unfold gS
        rw [if_pos c']
        rfl
      · have c' : ¬ b < 0 := fun z => c (decide_eq_true z)
        refine ⟨?_, rfl⟩
        unfold gS
        rw [if_neg c']
        rfl
    · obtain ⟨rfl, rfl⟩ := hM
      have g0 := gS_ne (t := t) b0
      have gl := fin_log (gS_fin (t := t) b0 fb) (by decide) (by decide)
      refine ⟨_, rfl, _, rfl, t, _, rfl, rfl, ⟨g0, gl⟩, _, rfl, _, rfl, b, _, rfl, rfl, ⟨g0, gl⟩, (by show 2 ≤ sizeLine; decide), fun l nl => ?_⟩
      exact q l _ (same_new nl) (fr_dq (q := low t b) upd_same)
end
end K04
set_option Elab.async false
set_option linter.all false
set_option maxRecDepth 100000
set_option maxHeartbeats 4000000
set_option exponentiation.threshold 5000
namespace K04
open PySem PySem.Spec PyProof.Rows L2 TkS
def plusF (q r : Int × Int) : Int × Int := low (q.1 * r.2 + r.1 * q.2) (q.2 * r.2)
def lessF (q r : Int × Int) : Int × Int := low (q.1 * r.2 - r.1 * q.2) (q.2 * r.2)
def timesF (q r : Int × Int) : Int × Int := low (q.1 * r.1) (q.2 * r.2)
def quotF (q r : Int × Int) : Int × Int := low (q.1 * r.2) (q.2 * r.1)
/-- a fraction in lowest terms, of no great size -/
structure Fr (q : Int × Int) : Prop where
  low : Lowest q
  ft : Fin 1000 q.1
  fb : Fin 1000 q.2
def sp_fr2 (C : Addr) (op : Int × Int → Int × Int → Int × Int) : Sp := fun vs H Q _ => ∃ (a : Addr) (x y : V) (q r : Int × Int), vs = [.ref a, x, y] ∧ FF C H a ∧ Dq H x (frD q) ∧ Dq H y (frD r) ∧ Fr q ∧ Fr r ∧ ∀ l H', Same H H' → Dq H' (.ref l) (frD (op q r)) → Q (.ref l) H'
def sp_fr_of (C : Addr) : Sp := fun vs H Q _ => ∃ (a : Addr) (z : Int), vs = [.ref a, .int z] ∧ FF C H a ∧ ∀ l H', Same H H' → Dq H' (.ref l) (frD (z, 1)) → Q (.ref l) H'
def sp_fr_quot (C CZ : Addr) : Sp := fun vs H Q E => ∃ (a : Addr) (x y : V) (q r : Int × Int), vs = [.ref a, x, y] ∧ FF C H a ∧ Dq H x (frD q) ∧ Dq H y (frD r) ∧ Fr q ∧ Fr r ∧ (r = (0, 1) → ∀ H', Same H H' → E (.ref CZ) none H') ∧ (r ≠ (0, 1) → ∀ l H', Same H H' → Dq H' (.ref l) (frD (quotF q r)) → Q (.ref l) H')
theorem Fr.b0 {q : Int × Int} (h : Fr q) : q.2 ≠ 0 := by
  have := h.low.1
  omega
theorem fin_up {m n : Nat} {z : Int} (h : Fin m z) (l : m ≤ n) : Fin n z := Nat.lt_of_lt_of_le h (Nat.pow_le_pow_right (by decide) l)
theorem lowest_zero {r : Int × Int} (h : Lowest r) (z : r.1 = 0) : r = (0, 1) := by
  obtain ⟨c, d⟩ := r
  obtain ⟨d0, g⟩ := h
  change c = 0 at z
  subst z
  change Nat.gcd 0 d.natAbs = 1 at g
  rw [Nat.gcd_zero_left] at g
  change 0 < d at d0
  have : d = 1 := by omega
  rw [this]
theorem shp_fr (q : Int × Int) : SeqAt.shaped (frD q) = true := by
  simp [frD, SeqAt.shaped, PyData.canLay0, PyData.depth, PyData.canLayAll0, PyData.depthAll]
theorem eqv_fr (q r : Int × Int) : PyData.eqv (frD q) (frD r) = decide (q = r) := by
  obtain ⟨a, b⟩ := q
  obtain ⟨c, d⟩ := r
  have h : PyData.eqv (frD (a, b)) (frD (c, d)) = (decide (a = c) && decide (b = d)) := by
    simp [frD, PyData.eqv, PyData.eqvAll, Bool.beq_eq_decide_eq]
  rw [h]
  by_cases e : a = c <;> by_cases f : b = d <;> simp [e, f]
section
variable {P : Program} {w : World} {K : PySem.W.Frag} {mg : Str → Option Value} {base : Heap}
theorem ok_FractionField_number_of (T : Txt K mg) : FnOk P w K mg base CX0 1 T.f_FractionField_number_of T.d_FractionField_number_of ["self", "whole"] (sp_fr_of T.C_FractionField) := by
  refine T.F_FractionField_number_of.ok sc_FractionField_number_of (fun vs H Q E h => ?_) (fun cdv A outer s H vs Q E hr h => ?_)
  · obtain ⟨a, z, rfl, _⟩ := h
    rfl
  · obtain ⟨a, z, rfl, hf, q⟩ := h
    refine ⟨_, (pss_one (ps_ret (pe_tup (pa_cons (pv 1) (pa_cons pe_int pa_nil))))), ?_⟩
    exact ⟨_, rfl, (by show 2 ≤ sizeLine; decide), fun l nl => q l _ (same_new nl) (fr_dq (q := (z, 1)) upd_same)⟩
theorem ok_FractionField_plus (T : Txt K mg) : FnOk P w K mg base CX0 3 T.f_FractionField_plus T.d_FractionField_plus ["self", "one", "other"] (sp_fr2 T.C_FractionField plusF) := by
  refine T.F_FractionField_plus.ok sc_FractionField_plus (fun vs H Q E h => ?_) (fun cdv A outer s H vs Q E hr h => ?_)
  · obtain ⟨a, x, y, q, r, rfl, _⟩ := h
    rfl
  · obtain ⟨a, x, y, q, r, rfl, hf, kx, ky, fq, fr, hQ⟩ := h
    refine ⟨_, (pss_one (ps_ret (pe_call (ok_fraction T) (hr.mono (by decide)) (by rfl) T.g_fraction T.F_fraction.kp T.b_fraction .nil pass0 (pa_cons (pe_op op_add (pe_op op_mulW (pe_ix ix_tup (pv 1) pe_int (fun _ _ => rfl)) (pe_ix ix_tup (pv 2) pe_int (fun _ _ => rfl))) (pe_op op_mulW (pe_ix ix_tup (pv 2) pe_int (fun _ _ => rfl)) (pe_ix ix_tup (pv 1) pe_int (fun _ _ => rfl)))) (pa_cons (pe_op op_mulW (pe_ix ix_tup (pv 1) pe_int (fun _ _ => rfl)) (pe_ix ix_tup (pv 2) pe_int (fun _ _ => rfl))) pa_nil))))), ?_⟩
    obtain ⟨l1, rfl, h1⟩ := fr_at kx
    obtain ⟨l2, rfl, h2⟩ := fr_at ky
    have w1 := Fin.mulW fq.ft fr.fb (by decide) (by decide) (by decide)
    have w2 := Fin.mulW fr.ft fq.fb (by decide) (by decide) (by decide)
    have w3 := Fin.mulW fq.fb fr.fb (by decide) (by decide) (by decide)
    refine ⟨_, rfl, l1, _, 0, _, rfl, rfl, SqT.of h1, at_of (j := 0) rfl rfl, _, rfl, l2, _, 1, _, rfl, rfl, SqT.of h2, at_of (j := 1) rfl rfl, _, _, rfl, rfl, w1, _, rfl, l2, _, 0, _, rfl, rfl, SqT.of h2, at_of (j := 0) rfl rfl, _, rfl, l1, _, 1, _, rfl, rfl, SqT.of h1, at_of (j := 1) rfl rfl, _, _, rfl, rfl, w2, _, _, rfl, rfl, _, rfl, l1, _, 1, _, rfl, rfl, SqT.of h1, at_of (j := 1) rfl rfl, _, rfl, l2, _, 1, _, rfl, rfl, SqT.of h2, at_of (j := 1) rfl rfl, _, _, rfl, rfl, w3, _, _, rfl, fun z => ?_, fin_up (Fin.mul fq.fb fr.fb) (by decide), fun l H' s k => hQ l H' s k⟩
    rcases Int.mul_eq_zero.mp z with e | e
    · exact fq.b0 e
    · exact fr.b0 e
theorem ok_FractionField_less (T : Txt K mg) : FnOk P w K mg base CX0 3 T.f_FractionField_less T.d_FractionField_less ["self", "one", "other"] (sp_fr2 T.C_FractionField lessF) := by
  refine T.F_FractionField_less.ok sc_FractionField_less (fun vs H Q E h => ?_) (fun cdv A outer s H vs Q E hr h => ?_)
  · obtain ⟨a, x, y, q, r, rfl, _⟩ := h
    rfl
  · obtain ⟨a, x, y, q, r, rfl, hf, kx, ky, fq, fr, hQ⟩ := h
    refine ⟨_, (pss_one (ps_ret (pe_call (ok_fraction T) (hr.mono (by decide)) (by rfl) T.g_fraction T.F_fraction.kp T.b_fraction .nil pass0 (pa_cons (pe_op op_sub (pe_op op_mulW (pe_ix ix_tup (pv 1) pe_int (fun _ _ => rfl)) (pe_ix ix_tup (pv 2) pe_int (fun _ _ => rfl))) (pe_op op_mulW (pe_ix ix_tup (pv 2) pe_int (fun _ _ => rfl)) (pe_ix ix_tup (pv 1) pe_int (fun _ _ => rfl)))) (pa_cons (pe_op op_mulW (pe_ix ix_tup (pv 1) pe_int (fun _ _ => rfl)) (pe_ix ix_tup (pv 2) pe_int (fun _ _ => rfl))) pa_nil))))), ?_⟩
    obtain ⟨l1, rfl, h1⟩ := fr_at kx
    obtain ⟨l2, rfl, h2⟩ := fr_at ky
    have w1 := Fin.mulW fq.ft fr.fb (by decide) (by decide) (by decide)
    have w2 := Fin.mulW fr.ft fq.fb (by decide) (by decide) (by decide)
    have w3 := Fin.mulW fq.fb fr.fb (by decide) (by decide) (by decide)
    refine ⟨_, rfl, l1, _, 0, _, rfl, rfl, SqT.of h1, at_of (j := 0) rfl rfl, _, rfl, l2, _, 1, _, rfl, rfl, SqT.of h2, at_of (j := 1) rfl rfl, _, _, rfl, rfl, w1, _, rfl, l2, _, 0, _, rfl, rfl, SqT.of h2, at_of (j := 0) rfl rfl, _, rfl, l1, _, 1, _, rfl, rfl, SqT.of h1, at_of (j := 1) rfl rfl, _, _, rfl, rfl, w2, _, _, rfl, rfl, _, rfl, l1, _, 1, _, rfl, rfl, SqT.of h1, at_of (j := 1) rfl rfl, _, rfl, l2, _, 1, _, rfl, rfl, SqT.of h2, at_of (j := 1) rfl rfl, _, _, rfl, rfl, w3, _, _, rfl, fun z => ?_, fin_up (Fin.mul fq.fb fr.fb) (by decide), fun l H' s k => hQ l H' s k⟩
    rcases Int.mul_eq_zero.mp z with e | e
    · exact fq.b0 e
    · exact fr.b0 e
theorem ok_FractionField_times (T : Txt K mg) : FnOk P w K mg base CX0 3 T.f_FractionField_times T.d_FractionField_times ["self", "one", "other"] (sp_fr2 T.C_FractionField timesF) := by
  refine T.F_FractionField_times.ok sc_FractionField_times (fun vs H Q E h => ?_) (fun cdv A outer s H vs Q E hr h => ?_)
  · obtain ⟨a, x, y, q, r, rfl, _⟩ := h
    rfl
  · obtain ⟨a, x, y, q, r, rfl, hf, kx, ky, fq, fr, hQ⟩ := h
    refine ⟨_, (pss_one (ps_ret (pe_call (ok_fraction T) (hr.mono (by decide)) (by rfl) T.g_fraction T.F_fraction.kp T.b_fraction .nil pass0 (pa_cons (pe_op op_mulW (pe_ix ix_tup (pv 1) pe_int (fun _ _ => rfl)) (pe_ix ix_tup (pv 2) pe_int (fun _ _ => rfl))) (pa_cons (pe_op op_mulW (pe_ix ix_tup (pv 1) pe_int (fun _ _ => rfl)) (pe_ix ix_tup (pv 2) pe_int (fun _ _ => rfl))) pa_nil))))), ?_⟩
    obtain ⟨l1, rfl, h1⟩ := fr_at kx
    obtain ⟨l2, rfl, h2⟩ := fr_at ky
    have w1 := Fin.mulW fq.ft fr.ft (by decide) (by decide) (by decide)
    have w3 := Fin.mulW fq.fb fr.fb (by decide) (by decide) (by decide)
    refine ⟨_, rfl, l1, _, 0, _, rfl, rfl, SqT.of h1, at_of (j := 0) rfl rfl, _, rfl, l2, _, 0, _, rfl, rfl, SqT.of h2, at_of (j := 0) rfl rfl, _, _, rfl, rfl, w1, _, rfl, l1, _, 1, _, rfl, rfl, SqT.of h1, at_of (j := 1) rfl rfl, _, rfl, l2, _, 1, _, rfl, rfl, SqT.of h2, at_of (j := 1) rfl rfl, _, _, rfl, rfl, w3, _, _, rfl, fun z => ?_, fin_up (Fin.mul fq.fb fr.fb) (by decide), fun l H' s k => hQ l H' s k⟩
    rcases Int.mul_eq_zero.mp z with e | e
    · exact fq.b0 e
    · exact fr.b0 e
theorem ok_FractionField_quotient (T : Txt K mg) : FnOk P w K mg base (L2.CX P w) 3 T.f_FractionField_quotient T.d_FractionField_quotient ["self", "one", "other"] (sp_fr_quot T.C_FractionField T.C_ByZero) := by
  refine T.F_FractionField_quotient.okX sc_FractionField_quotient (fun vs H Q E h => ?_) (fun cdv A outer s H vs Q E hr h => ?_)
  · obtain ⟨a, x, y, q, r, rfl, _⟩ := h
    rfl
  · obtain ⟨a, x, y, q, r, rfl, hf, kx, ky, fq, fr, hE, hQ⟩ := h
    refine ⟨_, (pss_cons (ps_if (pt_cmpR (op_eqD hr.units) (pv 2) (pe_fld (pv 0) rfl) (nomark _))
        (pss_one (ps_raise (W := fun cls d _ H => E cls d H) rfl (takes_of rfl rfl rfl rfl) (pmk_own0 PySem.F.excBase_ValueError T.q_ByZero T.g_ByZero T.k_ByZero (raises_own T.b_ByZero T.ty_ByZero) (by rfl))))
        pss_nil)
      (pss_one (ps_ret (pe_call (ok_fraction T) (hr.mono (by decide)) (by rfl) T.g_fraction T.F_fraction.kp T.b_fraction .nil pass0 (pa_cons (pe_op op_mulW (pe_ix ix_tup (pv 1) pe_int (fun _ _ => rfl)) (pe_ix ix_tup (pv 2) pe_int (fun _ _ => rfl))) (pa_cons (pe_op op_mulW (pe_ix ix_tup (pv 1) pe_int (fun _ _ => rfl)) (pe_ix ix_tup (pv 2) pe_int (fun _ _ => rfl))) pa_nil)))))), ?_⟩
    obtain ⟨l1, rfl, h1⟩ := fr_at kx
    obtain ⟨l2, rfl, h2⟩ := fr_at ky
    obtain ⟨dx, z, o, m, ea, ez, _, _⟩ := hf.at_
    refine ⟨_, rfl, _, rfl, a, T.C_FractionField, dx, _, _, rfl, ea, T.cl_FractionField, T.na_FractionField_zero, rfl, frD r, frD (0, 1), ky.dp, (fr_dq (q := (0, 1)) ez).dp, shp_fr _, shp_fr _, _, rfl, ?_⟩
    rw [eqv_fr]
    by_cases c : r = (0, 1)
    · rw [decide_eq_true c]
      exact iteT (hE c H fun _ _ z => z)
    · rw [decide_eq_false c]
      have r0 : r.1 ≠ 0 := fun z => c (lowest_zero fr.low z)
      have w1 := Fin.mulW fq.ft fr.fb (by decide) (by decide) (by decide)
      have w3 := Fin.mulW fq.fb fr.ft (by decide) (by decide) (by decide)
      refine iteF ⟨_, rfl, l1, _, 0, _, rfl, rfl, SqT.of h1, at_of (j := 0) rfl rfl, _, rfl, l2, _, 1, _, rfl, rfl, SqT.of h2, at_of (j := 1) rfl rfl, _, _, rfl, rfl, w1, _, rfl, l1, _, 1, _, rfl, rfl, SqT.of h1, at_of (j := 1) rfl rfl, _, rfl, l2, _, 0, _, rfl, rfl, SqT.of h2, at_of (j := 0) rfl rfl, _, _, rfl, rfl, w3, _, _, rfl, fun z => ?_, fin_up (Fin.mul fq.fb fr.ft) (by decide), fun l H' s k => hQ c l H' s k⟩
      rcases Int.mul_eq_zero.mp z with e | e
      · exact fq.b0 e
      · exact r0 e
end
end K04
set_option Elab.async false
set_option linter.all false
set_option maxRecDepth 100000
set_option maxHeartbeats 4000000
set_option exponentiation.threshold 5000
namespace K04
open PySem PySem.Spec PyProof.Rows L2 TkS
def powF (q : Int × Int) (e : Int) : Option (Int × Int) := if e < 0 then (if q = (0, 1) then none else some ((quotF (1, 1) q).1 ^ (-e).toNat, (quotF (1, 1) q).2 ^ (-e).toNat)) else some (q.1 ^ e.toNat, q.2 ^ e.toNat)
theorem inv_eq {q : Int × Int} (h : Lowest q) (n : q.1 ≠ 0) : quotF (1, 1) q = if q.1 < 0 then (-q.2, -q.1) else (q.2, q.1) := by
  obtain ⟨a, b⟩ := q
  obtain ⟨b0, g⟩ := h
  change 0 < b at b0
  change Nat.gcd a.natAbs b.natAbs = 1 at g
  change a ≠ 0 at n
  have g2 : Nat.gcd b.natAbs a.natAbs = 1 := by rw [Nat.gcd_comm]; exact g
  show low (1 * b) (1 * a) = if a < 0 then (-b, -a) else (b, a)
  rw [Int.one_mul, Int.one_mul]
  by_cases c : a < 0
  · rw [if_pos c]
    refine low_is n ⟨by show 0 < -a; omega, ?_⟩ ?_
    · show Nat.gcd (-b).natAbs (-a).natAbs = 1
      rw [Int.natAbs_neg, Int.natAbs_neg]
      exact g2
    · show b * -a = -b * a
      rw [Int.mul_neg, Int.neg_mul]
  · rw [if_neg c]
    exact low_is n ⟨by show 0 < a; omega, g2⟩ rfl
def sp_fr_power (C CZ : Addr) : Sp := fun vs H Q E => ∃ (a : Addr) (x : V) (q : Int × Int) (e : Int), vs = [.ref a, x, .int e] ∧ FF C H a ∧ Dq H x (frD q) ∧ Lowest q ∧ q.1.natAbs ≤ 2 ^ 67 ∧ q.2.natAbs ≤ 2 ^ 67 ∧ -40 ≤ e ∧ e ≤ 40 ∧
  (powF q e = none → ∀ H', Same H H' → E (.ref CZ) none H') ∧ (∀ r, powF q e = some r → ∀ l H', Same H H' → Dq H' (.ref l) (frD r) → Q (.ref l) H')
theorem le_fin {z : Int} (h : z.natAbs ≤ 2 ^ 67) : Fin 1000 z := Nat.lt_of_le_of_lt h (by decide +kernel)
theorem fr_one : Fr (1, 1) := ⟨⟨by decide, rfl⟩, by unfold Fin; decide +kernel, by unfold Fin; decide +kernel⟩
section
variable {P : Program} {w : World} {K : PySem.W.Frag} {mg : Str → Option Value} {base : Heap}
theorem ok_FractionField_power (T : Txt K mg) : FnOk P w K mg base (L2.CX P w) 5 T.f_FractionField_power T.d_FractionField_power ["self", "number", "exponent"] (sp_fr_power T.C_FractionField T.C_ByZero) := by
  refine T.F_FractionField_power.okX sc_FractionField_power (fun vs H Q E h => ?_) (fun cdv A outer s H vs Q E hr h => ?_)
  · obtain ⟨a, x, q, e, rfl, _⟩ := h
    rfl
  · obtain ⟨a, x, q, e, rfl, hf, kx, lq, s1, s2, e0, e1, hE, hQ⟩ := h
    refine ⟨_, (Evl.pss_cut (ps_if (pt_cmpR op_lt (pv 2) pe_int (nomark _))
        (pss_cons (ps_set (i := 1) sc_FractionField_power.nd rfl (.inl rfl) (pe_meth (pv 0) T.cl_FractionField T.M_FractionField_quotient (ok_FractionField_quotient T) (hr.mono (by decide)) T.b_FractionField_quotient .nil (passes_call (W := fun cls d _ H => E cls d H) (takes_of rfl rfl rfl rfl) (fun _ _ _ _ h => h)) (pa_cons (pe_fld (pv 0) rfl) (pa_cons (pv 1) pa_nil))))
        (pss_one (ps_set (i := 2) sc_FractionField_power.nd rfl (.inl rfl) (pe_un un_neg (pv 2)))))
        pss_nil)
      (pss_cons (ps_asg (pv 1) (pg_tup rfl (pgs_cons (pg_name (i := 3) sc_FractionField_power.nd rfl (.inl rfl)) (pgs_cons (pg_name (i := 4) sc_FractionField_power.nd rfl (.inl rfl)) pgs_nil))))
      (pss_one (ps_ret (pe_tup (pa_cons (pe_call (ok_power_of T) (hr.mono (by decide)) (by rfl) T.g_power_of T.F_power_of.kp T.b_power_of .nil pass0 (pa_cons (pv 3) (pa_cons (pv 2) pa_nil))) (pa_cons (pe_call (ok_power_of T) (hr.mono (by decide)) (by rfl) T.g_power_of T.F_power_of.kp T.b_power_of .nil pass0 (pa_cons (pv 4) (pa_cons (pv 2) pa_nil))) pa_nil))))))), ?_⟩
    refine ⟨fun σ H' => ∃ (v : V) (r : Int × Int) (n : Nat), σ = [some (.ref a), some v, some (.int (n : Int)), none, none] ∧ Same H H' ∧ Dq H' v (frD r) ∧ powF q e = some (r.1 ^ n, r.2 ^ n) ∧ r.1.natAbs ≤ 2 ^ 67 ∧ r.2.natAbs ≤ 2 ^ 67 ∧ n ≤ 40, ?_, fun σ H' hM => ?_⟩
    · refine ⟨_, rfl, _, _, rfl, rfl, _, rfl, ite2 (fun c => ?_) (fun c => ?_)⟩
      · have c' : e < 0 := of_decide_eq_true c
        obtain ⟨dx, z, o, m, ea, ez, eo, _⟩ := hf.at_
        refine ⟨_, rfl, a, dx, _, rfl, ea, rfl, _, rfl, a, T.C_FractionField, dx, _, _, rfl, ea, T.cl_FractionField, T.na_FractionField_one, rfl, _, rfl, a, .ref o, x, (1, 1), q, rfl, hf, fr_dq (q := (1, 1)) eo, kx, fr_one, ⟨lq, le_fin s1, le_fin s2⟩, fun ez' H' s => ?_, fun nz l H' s k => ?_⟩
        · exact hE (by unfold powF; rw [if_pos c', if_pos ez']) H' s
        · have q0 : q.1 ≠ 0 := fun y => nz (lowest_zero lq y)
          have ie := inv_eq lq q0
          refine ⟨_, rfl, e, rfl, _, quotF (1, 1) q, (-e).toNat, ?_, s, k, by unfold powF; rw [if_pos c', if_neg nz], ?_, ?_, by omega⟩
          · rw [show (((-e).toNat : Nat) : Int) = -e by omega]
            rfl
          · rw [ie]
            split
            · show (-q.2).natAbs ≤ 2 ^ 67
              rw [Int.natAbs_neg]
              exact s2
            · exact s2
          · rw [ie]
            split
            · show (-q.1).natAbs ≤ 2 ^ 67
              rw [Int.natAbs_neg]
              exact s1
            · exact s1
      · have c' : ¬ e < 0 := fun z => c (decide_eq_true z)
        refine ⟨x, q, e.toNat, ?_, fun _ _ z => z, kx, by unfold powF; rw [if_neg c'], s1, s2, by omega⟩
        rw [show ((e.toNat : Nat) : Int) = e by omega]
        rfl
    · obtain ⟨v, r, n, rfl, s, k, ep, b1, b2, n40⟩ := hM
      obtain ⟨l, rfl, hl⟩ := fr_at k
      refine ⟨_, rfl, l, _, rfl, SqT.of hl, rfl, _, _, rfl, _, _, rfl, rfl, ?_⟩
      refine ⟨_, rfl, _, rfl, r.1, n, rfl, b1, n40, _, rfl, _, rfl, r.2, n, rfl, b2, n40, (by show 2 ≤ sizeLine; decide), fun l2 nl => ?_⟩
      exact hQ _ ep l2 _ (s.trans (same_new nl)) (fr_dq (q := (r.1 ^ n, r.2 ^ n)) upd_same)
end
end K04
set_option Elab.async false
set_option linter.all false
set_option maxRecDepth 100000
set_option maxHeartbeats 4000000
set_option exponentiation.threshold 5000
namespace K04
open PySem PySem.Spec PyProof.Rows L2 TkS
def sp_FractionField_init (C : Addr) : Sp := fun vs H Q _ => ∃ (a dx : Addr), vs = [.ref a] ∧ H a = some (.ins C dx []) ∧ ∀ H', KeepA a H H' → FF C H' a → Q .non H'
theorem mk_frac {C : Addr} {H1 : Hp} {R : Addr → Hp → Prop} {E : XK} (hQ : ∀ H' y, Same H1 H' → H1 y = none → FF C H' y → R y H') :
    ∀ y dx, H1 y = none → H1 dx = none → dx ≠ y → sp_FractionField_init C (.ref y :: ([] ++ [])) (upd (upd H1 dx (.own y)) y (.ins C dx [])) (fun v H2 => v = .non ∧ R y H2) E := fun y dx nx nd ne => by
  have sm : ∀ H', KeepA y (upd (upd H1 dx (.own y)) y (.ins C dx [])) H' → Same H1 H' := fun H' k => Same.made nx nd k
  exact ⟨y, dx, rfl, upd_same, fun H' k hf => ⟨rfl, hQ H' y (sm H' k) nx hf⟩⟩
section
variable {P : Program} {w : World} {K : PySem.W.Frag} {mg : Str → Option Value} {base : Heap}
theorem ok_FractionField_init (T : Txt K mg) : FnOk P w K mg base CX0 1 T.f_FractionField_init T.d_FractionField_init ["self"] (sp_FractionField_init T.C_FractionField) := by
  refine T.F_FractionField_init.ok sc_FractionField_init (fun vs H Q E h => ?_) (fun cdv A outer s H vs Q E hr h => ?_)
  · obtain ⟨a, dx, rfl, _⟩ := h
    rfl
  · obtain ⟨a, dx, rfl, ha, hQ⟩ := h
    refine ⟨_, (pss_cons (ps_fld (pv 0) (pe_tup (pa_cons pe_int (pa_cons pe_int pa_nil))) rfl)
      (pss_cons (ps_fld (pv 0) (pe_tup (pa_cons pe_int (pa_cons pe_int pa_nil))) rfl)
      (pss_one (ps_fld (pv 0) (pe_tup (pa_cons (pe_un un_neg pe_int) (pa_cons pe_int pa_nil))) rfl)))), ?_⟩
    have two : 2 ≤ sizeLine := by decide
    refine ⟨two, fun z nz => ⟨_, rfl, a, T.C_FractionField, dx, [], rfl, (same_new nz) _ _ ha, T.cl_FractionField, T.na_FractionField_zero, by decide, ?_⟩⟩
    have za : z ≠ a := (ne_of_none ha nz).symm
    generalize eH1 : upd (upd H z (.tup [.int 0, .int 1])) a (.ins T.C_FractionField dx (putF "zero" (.ref z) [])) = H1
    have a1 : H1 a = some (.ins T.C_FractionField dx [("zero", .ref z)]) := by rw [← eH1, upd_same]; rfl
    have z1 : H1 z = some (.tup [.int 0, .int 1]) := by rw [← eH1, upd_ne za, upd_same]
    have k1 : KeepA a H H1 := by
      rw [← eH1]
      exact KeepA.put fun b o e _ => (same_new nz) _ _ e
    refine ⟨two, fun o no => ⟨_, rfl, a, T.C_FractionField, dx, _, rfl, (same_new no) _ _ a1, T.cl_FractionField, T.na_FractionField_one, (by show 1 < 1000; decide), ?_⟩⟩
    have oa : o ≠ a := (ne_of_none a1 no).symm
    have oz : o ≠ z := (ne_of_none z1 no).symm
    generalize eH2 : upd (upd H1 o (.tup [.int 1, .int 1])) a (.ins T.C_FractionField dx (putF "one" (.ref o) [("zero", .ref z)])) = H2
    have a2 : H2 a = some (.ins T.C_FractionField dx [("zero", .ref z), ("one", .ref o)]) := by rw [← eH2, upd_same]; rfl
    have z2 : H2 z = some (.tup [.int 0, .int 1]) := by rw [← eH2, upd_ne za, upd_ne oz.symm]; exact z1
    have o2 : H2 o = some (.tup [.int 1, .int 1]) := by rw [← eH2, upd_ne oa, upd_same]
    have k2 : KeepA a H H2 := by
      rw [← eH2]
      exact (k1.same (same_new no)).put
    refine ⟨_, rfl, two, fun m nm => ⟨_, rfl, a, T.C_FractionField, dx, _, rfl, (same_new nm) _ _ a2, T.cl_FractionField, T.na_FractionField_minus_one, (by show 2 < 1000; decide), ?_⟩⟩
    have ma : m ≠ a := (ne_of_none a2 nm).symm
    have mz : m ≠ z := (ne_of_none z2 nm).symm
    have mo : m ≠ o := (ne_of_none o2 nm).symm
    refine hQ _ ((k2.same (same_new nm)).put) ⟨⟨dx, z, o, m, ?_, ?_, ?_, ?_⟩⟩
    · rw [upd_same]
      rfl
    · rw [upd_ne za, upd_ne mz.symm]
      exact z2
    · rw [upd_ne oa, upd_ne mo.symm]
      exact o2
    · rw [upd_ne ma, upd_same]
end
end K04
set_option Elab.async false
set_option linter.all false
set_option maxRecDepth 100000
set_option maxHeartbeats 4000000
set_option exponentiation.threshold 5000
namespace K04
open PySem PySem.Spec PyProof.Rows L2 TkS
def isIntD : PyData → Bool
  | .int _ => true
  | _ => false
theorem wi_any {x : V} {H : Hp} {d : PyData} (k : Dq H x d) : wholeIn x .non .non = isIntD d := by cases k <;> rfl
/-- a fraction in lowest terms -/
def frOk : PyData → Bool
  | .tuple [.int t, .int b] => decide (1 ≤ b) && Nat.beq (Int.gcd t b) 1
  | _ => false
theorem frOk_of {d : PyData} (h : frOk d = true) : ∃ q, d = frD q ∧ Lowest q := by
  match d, h with
  | .tuple [.int t, .int b], h =>
    obtain ⟨h1, h2⟩ := Bool.and_eq_true_iff.mp h
    have b1 := of_decide_eq_true h1
    exact ⟨(t, b), rfl, ⟨by show 0 < b; omega, Nat.eq_of_beq_eq_true h2⟩⟩
theorem frOk_is {q : Int × Int} (h : Lowest q) : frOk (frD q) = true := by
  obtain ⟨t, b⟩ := q
  obtain ⟨b0, g⟩ := h
  change 0 < b at b0
  change Int.gcd t b = 1 at g
  show (decide (1 ≤ b) && Nat.beq (Int.gcd t b) 1) = true
  rw [g, decide_eq_true (by omega)]
  rfl
def sp_fr_check (CN : Addr) : Sp := fun vs H Q E => ∃ (a : Addr) (x : V) (d : PyData), vs = [.ref a, x] ∧ Dq H x d ∧ (frOk d = false → ∀ H', Same H H' → E (.ref CN) none H') ∧ (frOk d = true → Q x H)
theorem frOk_len {ds : List PyData} (h : ds.length ≠ 2) : frOk (.tuple ds) = false := by
  match ds, h with
  | [], _ => rfl
  | [x], _ => cases x <;> rfl
  | [_, _], h => exact absurd rfl h
  | a :: b :: c :: r, _ => cases a <;> first | rfl | (cases b <;> rfl)
theorem frOk_top {d e : PyData} (h : isIntD d = false) : frOk (.tuple [d, e]) = false := by
  cases d <;> first | rfl | cases h
theorem frOk_bot {H : Hp} {y : V} {t : Int} {e : PyData} (k : Dq H y e) (h : wholeIn y (.int 1) .non = false) : frOk (.tuple [.int t, e]) = false := by
  cases k with
  | int i =>
    have h' : (decide (1 ≤ i) && true) = false := h
    rw [Bool.and_true] at h'
    show (decide (1 ≤ i) && Nat.beq (Int.gcd t i) 1) = false
    rw [h']
    rfl
  | _ => rfl
theorem dq_tup {H : Hp} {v : V} {ds : List PyData} (k : Dq H v (.tuple ds)) : ∃ p zs, v = .ref p ∧ H p = some (.tup zs) ∧ DqAll H zs ds := by
  cases k with
  | tup e t => exact ⟨_, _, rfl, e, t⟩
section
variable {P : Program} {w : World} {K : PySem.W.Frag} {mg : Str → Option Value} {base : Heap}
theorem ok_FractionField_check_number (T : Txt K mg) : FnOk P w K mg base (L2.CX P w) 2 T.f_FractionField_check_number T.d_FractionField_check_number ["self", "number"] (sp_fr_check T.C_BadNumber) := by
  refine T.F_FractionField_check_number.okX sc_FractionField_check_number (fun vs H Q E h => ?_) (fun cdv A outer s H vs Q E hr h => ?_)
  · obtain ⟨a, x, d, rfl, _⟩ := h
    rfl
  · obtain ⟨a, x, d, rfl, kx, hE, hQ⟩ := h
    refine ⟨_, (pss_cons (ps_if (PW.pt (pw_or (pt_not (pt_val (pe_callB call_isi (by rfl) T.m_isinstance (by decide +kernel) (pa_cons (pv 1) (pa_cons (pe_bltn (v := .ty "tuple") (u := .type "tuple") (by rfl) T.m_tuple (by decide +kernel) rfl) pa_nil))))) (pw_or1 (pt_cmpR op_ne (pe_callB call_len_seq (by rfl) T.m_len (by decide +kernel) (pa_cons (pv 1) pa_nil)) pe_int (nomark _)))))
        (pss_one (ps_raise (W := fun cls d _ H => E cls d H) rfl (takes_of rfl rfl rfl rfl) (pmk_own0 PySem.F.excBase_ValueError T.q_BadNumber T.g_BadNumber T.k_BadNumber (raises_own T.b_BadNumber T.ty_BadNumber) (by rfl))))
        pss_nil)
      (pss_cons (ps_asg (pv 1) (pg_tup rfl (pgs_cons (pg_name (i := 2) sc_FractionField_check_number.nd rfl (.inl rfl)) (pgs_cons (pg_name (i := 3) sc_FractionField_check_number.nd rfl (.inl rfl)) pgs_nil))))
      (pss_cons (ps_if (PW.pt (pw_or (pt_not (pt_val (pe_call (ok_is_whole T) (hr.mono (by decide)) (by rfl) T.g_is_whole T.F_is_whole.kp T.b2_is_whole (dvs := [.non, .non]) (.cons rfl (.cons rfl .nil)) pass0 (pa_cons (pv 2) pa_nil)))) (pw_or (pt_not (pt_val (pe_call (ok_is_whole T) (hr.mono (by decide)) (by rfl) T.g_is_whole T.F_is_whole.kp T.b1_is_whole (dvs := [.non]) (.cons rfl .nil) pass0 (pa_cons (pv 3) (pa_cons pe_int pa_nil))))) (pw_or1 (pt_cmpR op_ne (pe_call (ok_common_divisor T) (hr.mono (by decide)) (by rfl) T.g_common_divisor T.F_common_divisor.kp T.b_common_divisor .nil pass0 (pa_cons (pv 2) (pa_cons (pv 3) pa_nil))) pe_int (nomark _))))))
        (pss_one (ps_raise (W := fun cls d _ H => E cls d H) rfl (takes_of rfl rfl rfl rfl) (pmk_own0 PySem.F.excBase_ValueError T.q_BadNumber T.g_BadNumber T.k_BadNumber (raises_own T.b_BadNumber T.ty_BadNumber) (by rfl))))
        pss_nil)
      (pss_one (ps_ret (pv 1)))))), ?_⟩
    have refl : Same H H := fun _ _ z => z
    obtain ⟨t, ty, _, _, _, k4⟩ := dq_ty (K := K) kx
    refine ⟨x, rfl, x, .ty "tuple", t, _, _, rfl, .ty _, ty, k4, _, rfl, ?_⟩
    cases d with
    | tuple ds =>
      obtain ⟨l, xs, rfl, e, td⟩ := dq_tup kx
      have lx := td.len
      refine iteF ⟨_, rfl, l, xs, rfl, .inr (SqT.of e), rfl, _, rfl, ?_⟩
      rw [int_dec]
      by_cases c : ds.length = 2
      · rw [decide_eq_true (show (xs.length : Int) = 2 by omega)]
        match ds, c, xs, td, e with
        | [d1, d2], _, [x1, x2], .cons k1 (.cons k2 .nil), e =>
          refine iteF ⟨_, rfl, l, _, rfl, SqT.of e, rfl, _, _, rfl, _, _, rfl, rfl, ?_⟩
          refine ⟨_, rfl, x1, .non, .non, d1, rfl, k1, .inl rfl, .inl rfl, _, rfl, ?_⟩
          rw [wi_any k1]
          cases c1 : isIntD d1 with
          | false => exact iteT (iteT (hE (frOk_top c1) H refl))
          | true =>
            cases k1 with
            | int i1 =>
              refine iteF ⟨_, rfl, x2, .int 1, .non, d2, rfl, k2, .inr ⟨_, rfl⟩, .inl rfl, _, rfl, ?_⟩
              cases c2 : wholeIn x2 (.int 1) .non with
              | false => exact iteT (iteT (hE (frOk_bot k2 c2) H refl))
              | true =>
                cases k2 with
                | int i2 =>
                  have b1 : 1 ≤ i2 := by
                    have h' : (decide (1 ≤ i2) && true) = true := c2
                    rw [Bool.and_true] at h'
                    exact of_decide_eq_true h'
                  have eo : frOk (.tuple [.int i1, .int i2]) = Nat.beq (Int.gcd i1 i2) 1 := by
                    show (decide (1 ≤ i2) && Nat.beq (Int.gcd i1 i2) 1) = _
                    rw [decide_eq_true b1]
                    rfl
                  refine iteF ⟨_, rfl, _, rfl, i1, i2, rfl, rfl, _, rfl, ?_⟩
                  rw [int_dec]
                  by_cases g : Int.gcd i1 i2 = 1
                  · rw [decide_eq_true (show ((Nat.gcd i1.natAbs i2.natAbs : Nat) : Int) = 1 by exact congrArg (fun n : Nat => (n : Int)) g)]
                    exact iteF ⟨_, rfl, hQ (by rw [eo, g]; rfl)⟩
                  · rw [decide_eq_false (show ¬ ((Nat.gcd i1.natAbs i2.natAbs : Nat) : Int) = 1 from fun z => g (by show Nat.gcd i1.natAbs i2.natAbs = 1; omega))]
                    refine iteT (hE ?_ H refl)
                    rw [eo]
                    cases z : Nat.beq (Int.gcd i1 i2) 1 with
                    | false => rfl
                    | true => exact absurd (Nat.eq_of_beq_eq_true z) g
                | _ => cases c2
            | _ => cases c1
      · rw [decide_eq_false (show ¬ (xs.length : Int) = 2 by omega)]
        exact iteT (hE (frOk_len c) H refl)
    | _ => exact iteT (hE rfl H refl)
end
end K04
set_option Elab.async false
set_option linter.all false
set_option maxRecDepth 100000
set_option maxHeartbeats 4000000
set_option exponentiation.threshold 5000
namespace K04
open PySem PySem.Spec PyProof.Rows L2 TkS
structure Hand (H : Hp) (h : Addr) : Prop where
  ex : ∃ (c : Addr) (cells : List Int) (p r t : Int), H h = some (.lst [.ref c, .int p, .int r, .int t]) ∧ H c = some (.lst (cells.map V.int)) ∧ c ≠ h ∧ 0 ≤ p ∧ 0 ≤ r ∧ ∀ z ∈ cells, (0 : Int) ≤ z
structure Keep (h : Addr) (H H' : Hp) : Prop where
  kp : ∀ b o, b ≠ h → H b = some o → H' b = some o
  cc : ∀ (c : Addr) (p r t : Int), H h = some (.lst [.ref c, .int p, .int r, .int t]) → ∃ p' r' t' : Int, H' h = some (.lst [.ref c, .int p', .int r', .int t'])
instance {h : Addr} {H H' : Hp} : CoeFun (Keep h H H') (fun _ => ∀ b o, b ≠ h → H b = some o → H' b = some o) := ⟨Keep.kp⟩
theorem Keep.trans {h : Addr} {H H1 H2 : Hp} (a : Keep h H H1) (b : Keep h H1 H2) : Keep h H H2 := ⟨fun c o n e => b c o n (a c o n e), fun c p r t e => by
  obtain ⟨p', r', t', e'⟩ := a.cc c p r t e
  exact b.cc c p' r' t' e'⟩
theorem Keep.refl {h : Addr} {H : Hp} : Keep h H H := ⟨fun _ _ _ e => e, fun c p r t e => ⟨p, r, t, e⟩⟩
theorem Keep.of {h : Addr} {H H' : Hp} (s : Same H H') : Keep h H H' := ⟨fun b o _ e => s b o e, fun c p r t e => ⟨p, r, t, s _ _ e⟩⟩
theorem keep_put {h : Addr} {H : Hp} {c : Addr} {p r t p' r' t' : Int} (e : H h = some (.lst [.ref c, .int p, .int r, .int t])) : Keep h H (upd H h (.lst [.ref c, .int p', .int r', .int t'])) :=
  ⟨fun b u n e => by rw [upd_ne n]; exact e, fun c2 p2 r2 t2 e2 => by
    rw [e] at e2
    cases e2
    exact ⟨p', r', t', upd_same⟩⟩
theorem Hand.same {H H' : Hp} {h : Addr} (e : Same H H') (x : Hand H h) : Hand H' h := by
  obtain ⟨c, cells, p, r, t, h1, h2, q⟩ := x.ex
  exact ⟨c, cells, p, r, t, e _ _ h1, e _ _ h2, q⟩
def sp_law_hand (K : PySem.W.Frag) : Sp := fun vs H Q _ => ∃ (a : Addr) (ns : List Int), vs = [.ref a] ∧ SqL K H a (ns.map V.int) ∧ ns.length ≤ 63 ∧ ∀ H' h, Same H H' → H h = none → Hand H' h → Q (.ref h) H'
def sp_law_mixed (K : PySem.W.Frag) : Sp := fun vs H Q _ => ∃ a b : Int, vs = [.int a, .int b] ∧ ∀ r : Int, 0 ≤ r → Q (.int r) H
def sp_law_draw (K : PySem.W.Frag) : Sp := fun vs H Q _ => ∃ (h : Addr) (m : Int), vs = [.ref h, .int m] ∧ Hand H h ∧ 0 < m ∧ m.natAbs < 2 ^ 128 ∧ ∀ H' r, Keep h H H' → Hand H' h → 0 ≤ r → r < m → Q (.int r) H'
theorem lst_lc {wi : TI} {g : TG} {tt : TT} {te : TE} {vs : List Nat} {ts : TA} {D : Ends} {σ : L2.St} {H : Hp} (h : tLc wi g tt te vs σ H fun v H1 => ts σ H1 fun xs H2 => (v :: xs).length ≤ sizeLine ∧ ∀ l, H2 l = none → D.rt (.ref l) (upd H2 l (.lst (v :: xs)))) : tRet (tLst (tCons (tLc wi g tt te vs) ts)) D σ H := h
section
variable {P : Program} {w : World} {K : PySem.W.Frag} {mg : Str → Option Value} {base : Heap}
theorem ok_law_mixed (T : Txt K mg) : FnOk P w K mg base CX0 1 T.f_law_mixed T.d_law_mixed ["_law_number_here", "_law_turn"] (sp_law_mixed K) := by
  refine T.F_law_mixed.ok sc_law_mixed (fun vs H Q E h => ?_) (fun cdv A outer s H vs Q E hr h => ?_)
  · obtain ⟨a, b, rfl, _⟩ := h
    rfl
  · obtain ⟨a, b, rfl, q⟩ := h
    refine ⟨_, (pss_cons (ps_set (i := 2) sc_law_mixed.nd rfl (.inl rfl) (pe_op op_mod (pe_callTy call_int1 (by rfl) T.m_int (by decide +kernel) (pa_cons (pe_op op_add (pe_op op_add (pe_op op_mul (pv 0) pe_int) (pe_op op_mul (pv 1) pe_int)) pe_int) pa_nil)) pe_int))
      (pss_cons (ps_set (i := 3) sc_law_mixed.nd rfl (.inl rfl) (pe_op op_mod (pe_callTy call_int1 (by rfl) T.m_int (by decide +kernel) (pa_cons (pe_op op_add (pe_op op_add (pe_op op_mul (pv 2) (pv 2)) (pe_op op_mul (pv 1) pe_int)) (pe_op op_fdiv (pv 2) pe_int)) pa_nil)) pe_int))
      (pss_one (ps_ret (pe_op op_fdiv (pe_op op_mod (pe_callTy call_int1 (by rfl) T.m_int (by decide +kernel) (pa_cons (pe_op op_add (pe_op op_mul (pv 3) pe_int) (pe_op op_fdiv (pv 2) pe_int)) pa_nil)) pe_int) pe_int))))), ?_⟩
    refine ⟨_, rfl, a, 48611, rfl, rfl, .inr (by decide), _, rfl, b, 30323, rfl, rfl, .inr (by decide), _, _, rfl, rfl, _, _, rfl, rfl, .inl ⟨_, rfl, _, _, rfl, rfl, (by show (0 : Int) < _; decide), ?_⟩⟩
    generalize (a * 48611 + b * 30323 + 577 : Int) = z
    have z0 : (0 : Int) ≤ z % 2147483587 := Int.emod_nonneg _ (by decide)
    have z1 : z % 2147483587 < 2147483587 := Int.emod_lt_of_pos _ (by decide)
    refine ⟨_, rfl, _, rfl, z % 2147483587, z % 2147483587, rfl, rfl, .inl ⟨by omega, by omega⟩, _, rfl, b, 22543, rfl, rfl, .inr (by decide), _, _, rfl, rfl, _, rfl, z % 2147483587, 307, rfl, rfl, ⟨by decide, by decide⟩, _, _, rfl, rfl, .inl ⟨_, rfl, _, _, rfl, rfl, (by show (0 : Int) < _; decide), ?_⟩⟩
    generalize (z % 2147483587 * (z % 2147483587) + b * 22543 + z % 2147483587 / 307 : Int) = y
    have y0 : (0 : Int) ≤ y % 2147483563 := Int.emod_nonneg _ (by decide)
    have y1 : y % 2147483563 < 2147483563 := Int.emod_lt_of_pos _ (by decide)
    refine ⟨_, rfl, y % 2147483563, 62089, rfl, rfl, .inl ⟨by omega, by omega⟩, _, rfl, z % 2147483587, 761, rfl, rfl, ⟨by decide, by decide⟩, _, _, rfl, rfl, .inl ⟨_, rfl, _, _, rfl, rfl, (by show (0 : Int) < _; decide), _, _, rfl, rfl, ⟨by decide, by decide⟩, q _ ?_⟩⟩
    have x0 : (0 : Int) ≤ (y % 2147483563 * 62089 + z % 2147483587 / 761) % 2147483629 := Int.emod_nonneg _ (by decide)
    exact Int.ediv_nonneg x0 (by decide)
theorem ok_law_hand (T : Txt K mg) : FnOk P w K mg base CX0 1 T.f_law_hand T.d_law_hand ["_law_script"] (sp_law_hand K) := by
  refine T.F_law_hand.ok sc_law_hand (fun vs H Q E h => ?_) (fun cdv A outer s H vs Q E hr h => ?_)
  · obtain ⟨a, b, rfl, _⟩ := h
    rfl
  · obtain ⟨a, ns, rfl, hS, hlen, q⟩ := h
    refine ⟨_, (pss_cons (ps_set (i := 1) sc_law_hand.nd rfl (.inl rfl) pe_int)
      (pss_cons (ps_for PassesOwn.never rfl (pi_enumS (by rfl) T.m_enumerate (pa_cons (pv 0) pa_nil)) (pg_tup rfl (pgs_cons (pg_name (i := 2) sc_law_hand.nd rfl (.inl rfl)) (pgs_cons (pg_name (i := 3) sc_law_hand.nd rfl (.inl rfl)) pgs_nil)))
        (pss_one (ps_set (i := 1) sc_law_hand.nd rfl (.inl rfl) (pe_op op_mod (pe_callTy call_int1 (by rfl) T.m_int (by decide +kernel) (pa_cons (pe_op op_add (pe_op op_add (pe_op op_mul (pv 1) pe_int) (pe_op op_mul (pe_callTy call_int1 (by rfl) T.m_int (by decide +kernel) (pa_cons (pv 3) pa_nil)) (pe_op op_add (pe_op op_mul pe_int (pv 2)) pe_int))) pe_int) pa_nil)) pe_int))))
      (pss_one (ps_ret (pe_lst (pa_cons (pe_lc rfl sc_law_hand.nd (pi_seq (pv 0)) (blkOk_by (own := [("_law_cell", 3)]) (N := ["_law_script", "_law_state", "_law_place", "_law_cell"]) (sc := defScope s_law_hand) (by decide +kernel)) (fun _ _ _ _ _ => (pg_name (i := 3) sc_law_hand.nd rfl (.inl rfl))) (fun _ _ _ _ _ => pts_nil) (fun _ _ _ _ _ => (pe_callB call_abs (by rfl) T.m_abs (by decide +kernel) (pa_cons (pe_callTy call_int1 (by rfl) T.m_int (by decide +kernel) (pa_cons (pv 3) pa_nil)) pa_nil)))) (pa_cons pe_int (pa_cons pe_int (pa_cons (pv 1) pa_nil))))))))), ?_⟩
    have map_at' : ∀ {i : Nat} {x : V}, (ns.map V.int)[i]? = some x → ∃ n, ns[i]? = some n ∧ V.int n = x := fun hx => by
      rw [List.getElem?_map] at hx
      exact Option.map_eq_some_iff.mp hx
    refine for_enumS (a := a) (xs := ns.map V.int) (fun i σ H' => ∃ (t : Int) (y2 y3 : Option V), σ = [some (.ref a), some (.int t), y2, y3] ∧ Same H H') (fun Q h => ⟨_, rfl, h⟩) (.inl hS) ⟨_, _, _, rfl, fun _ _ z => z⟩ (fun i σ H' hP => by obtain ⟨_, _, _, _, sm⟩ := hP; exact sm) (fun i x Z σ H' hx hP nZ => ?_) (fun σ H' hP => ?_)
    · obtain ⟨t, y2, y3, rfl, sm⟩ := hP
      obtain ⟨n, hn, rfl⟩ := map_at' hx
      have hi : i < ns.length := (List.getElem?_eq_some_iff.mp hn).1
      refine ⟨Z, _, rfl, SqT.of upd_same, rfl, _, _, rfl, _, _, rfl, rfl, ?_⟩
      refine ⟨_, rfl, t, 41, rfl, rfl, .inr (by decide), _, rfl, .inl ⟨_, rfl, _, rfl, 2, (i : Int), rfl, rfl, .inl (by decide), _, _, rfl, rfl, n, _, rfl, rfl, .inr ⟨by omega, by omega⟩, _, _, rfl, rfl, _, _, rfl, rfl, .inl ⟨_, rfl, _, _, rfl, rfl, (by show (0 : Int) < _; decide), ?_⟩⟩⟩
      exact ⟨_, _, _, rfl, sm.trans (same_new nZ)⟩
    · obtain ⟨t, y2, y3, rfl, sm⟩ := hP
      refine lst_lc (lc_seqV (a := a) (xs := ns.map V.int) (fun _ => true) (fun i => V.int (if ns.getD i 0 < 0 then -(ns.getD i 0) else ns.getD i 0)) (fun Q h => ⟨_, rfl, h⟩) (.inl (sm.seq hS)) (by rw [List.length_map]; omega) (fun i x H2 R N hx s yes no => ?_) (fun D H2 nD s2 hD => ?_))
      · obtain ⟨n, hn, rfl⟩ := map_at' hx
        have e : ns.getD i 0 = n := by
          rw [List.getD_eq_getElem?_getD, hn]
          rfl
        have := yes rfl H2 fun _ _ z => z
        rw [e] at this
        exact ⟨rfl, _, rfl, .inl ⟨_, rfl, _, rfl, this⟩⟩
      · rw [range_all, List.length_map] at hD
        have ec : H2 D = some (.lst (((List.range ns.length).map fun i => if ns.getD i 0 < 0 then -(ns.getD i 0) else ns.getD i 0).map V.int)) := by
          rw [List.map_map]
          exact hD
        refine ⟨_, rfl, (by show 4 ≤ sizeLine; decide), fun h nh => ?_⟩
        have nch : D ≠ h := ne_of_none ec nh
        have sU := sm.trans s2
        refine q _ h (sU.trans (same_new nh)) (sU.free nh) ⟨D, _, 0, 0, t, upd_same, by rw [upd_ne nch]; exact ec, nch, Int.le_refl _, Int.le_refl _, fun z hz => ?_⟩
        obtain ⟨i, _, rfl⟩ := List.mem_map.mp hz
        split <;> omega
theorem cells_at {cells : List Int} {p : Int} (h0 : 0 ≤ p) (h : p < ((cells.map V.int).length : Int)) : ∃ z, z ∈ cells ∧ atI (cells.map V.int) p = some (.int z) := by
  rw [List.length_map] at h
  have hp : p.toNat < cells.length := by omega
  refine ⟨cells[p.toNat], List.getElem_mem hp, at_of (j := p.toNat) (by omega) ?_⟩
  rw [List.getElem?_map, List.getElem?_eq_getElem hp]
  rfl
theorem ok_law_draw (T : Txt K mg) : FnOk P w K mg base CX0 2 T.f_law_draw T.d_law_draw ["_law_hand_here", "_law_many"] (sp_law_draw K) := by
  refine T.F_law_draw.ok sc_law_draw (fun vs H Q E h => ?_) (fun cdv A outer s H vs Q E hr h => ?_)
  · obtain ⟨a, b, rfl, _⟩ := h
    rfl
  · obtain ⟨h, m, rfl, ⟨c, cells, p, r, t, hh, hc, nch, hp, hr0, hz⟩, hm, hmb, q⟩ := h
    refine ⟨_, (Evl.pss_cut (ps_if (PW.pt (pw_and (pt_cmpR op_eq (pe_ix ix_list (pv 0) pe_int (fun _ _ => rfl)) pe_int (nomark _)) (pw_and1 (pt_cmpR op_lt (pe_ix ix_list (pv 0) pe_int (fun _ _ => rfl)) (pe_callB call_len_seq (by rfl) T.m_len (by decide +kernel) (pa_cons (pe_ix ix_list (pv 0) pe_int (fun _ _ => rfl)) pa_nil)) (nomark _)))))
        (pss_cons (ps_set (i := 2) sc_law_draw.nd rfl (.inl rfl) (pe_ix ix_list (pe_ix ix_list (pv 0) pe_int (fun _ _ => rfl)) (pe_ix ix_list (pv 0) pe_int (fun _ _ => rfl)) (fun _ _ => rfl)))
        (pss_cons (ps_asg (pe_op op_add (pe_ix ix_list (pv 0) pe_int (fun _ _ => rfl)) pe_int) (pg_sub (pv 0) pe_int set_list))
        (pss_cons (ps_if (pt_cmpR op_lt (pv 2) (pe_op op_pow pe_int pe_int) (nomark _))
          (pss_one (ps_ret (pe_op op_mod (pe_callTy call_int1 (by rfl) T.m_int (by decide +kernel) (pa_cons (pe_call (ok_law_mixed T) (hr.mono (by decide)) (by rfl) T.g_law_mixed T.F_law_mixed.kp T.b_law_mixed .nil pass0 (pa_cons (pv 2) (pa_cons (pe_ix ix_list (pv 0) pe_int (fun _ _ => rfl)) pa_nil))) pa_nil)) (pv 1))))
          pss_nil)
        (pss_one (ps_asg (pv 2) (pg_sub (pv 0) pe_int set_list))))))
        pss_nil)
      (pss_cons (ps_if (pt_cmpR op_gt (pe_ix ix_list (pv 0) pe_int (fun _ _ => rfl)) pe_int (nomark _))
        (pss_cons (ps_set (i := 3) sc_law_draw.nd rfl (.inl rfl) (pe_ix ix_list (pv 0) pe_int (fun _ _ => rfl)))
        (pss_cons (ps_asg (pe_op op_fdivW (pv 3) (pv 1)) (pg_sub (pv 0) pe_int set_list))
        (pss_one (ps_ret (pe_op op_mod (pe_callTy call_int1 (by rfl) T.m_int (by decide +kernel) (pa_cons (pv 3) pa_nil)) (pv 1))))))
        pss_nil)
      (pss_cons (ps_asg (pe_op op_mod (pe_callTy call_int1 (by rfl) T.m_int (by decide +kernel) (pa_cons (pe_op op_add (pe_ix ix_list (pv 0) pe_int (fun _ _ => rfl)) pe_int) pa_nil)) pe_int) (pg_sub (pv 0) pe_int set_list))
      (pss_one (ps_ret (pe_op op_mod (pe_callTy call_int1 (by rfl) T.m_int (by decide +kernel) (pa_cons (pe_call (ok_law_mixed T) (hr.mono (by decide)) (by rfl) T.g_law_mixed T.F_law_mixed.kp T.b_law_mixed .nil pass0 (pa_cons (pe_ix ix_list (pv 0) pe_int (fun _ _ => rfl)) (pa_cons (pe_ix ix_list (pv 0) pe_int (fun _ _ => rfl)) pa_nil))) pa_nil)) (pv 1))))))), ?_⟩
    refine ⟨fun σ' H' => ∃ (y : Option V) (p r t : Int), σ' = [some (.ref h), some (.int m), y, none] ∧ Keep h H H' ∧ H' h = some (.lst [.ref c, .int p, .int r, .int t]) ∧ 0 ≤ p ∧ 0 ≤ r, ?_, fun σ' H' hM => ?_⟩
    · -- the first if
      refine ⟨_, rfl, h, _, 2, .int r, rfl, rfl, SqL.of hh, rfl, rfl, _, rfl, ite2 (fun c1 => ?_) (fun c1 => ?_)⟩
      · refine ⟨_, rfl, h, _, 1, .int p, rfl, rfl, SqL.of hh, rfl, _, rfl, h, _, 0, .ref c, rfl, rfl, SqL.of hh, rfl, c, _, rfl, .inl (SqL.of hc), p, _, rfl, rfl, _, rfl, ite2 (fun c2 => ?_) (fun c2 => ?_)⟩
        · obtain ⟨z, hzm, hza⟩ := cells_at hp (of_decide_eq_true c2)
          refine ⟨_, rfl, h, _, 0, .ref c, rfl, rfl, SqL.of hh, rfl, _, rfl, h, _, 1, .int p, rfl, rfl, SqL.of hh, rfl, c, _, p, .int z, rfl, rfl, SqL.of hc, hza, ?_⟩
          refine ⟨_, rfl, h, _, 1, .int p, rfl, rfl, SqL.of hh, rfl, p, 1, rfl, rfl, _, rfl, h, _, 1, 1, rfl, rfl, hh, rfl, ?_⟩
          have e1 : (upd H h (.lst ([V.ref c, .int p, .int r, .int t].set 1 (.int (p + 1))))) h = some (.lst [.ref c, .int (p + 1), .int r, .int t]) := upd_same
          refine ⟨_, rfl, 10, 18, rfl, rfl, ⟨by decide, by decide, by decide⟩, _, _, rfl, rfl, _, rfl, ite2 (fun c3 => ?_) (fun c3 => ?_)⟩
          · refine ⟨_, rfl, _, rfl, h, _, 1, .int (p + 1), rfl, rfl, SqL.of e1, rfl, _, _, rfl, fun x hx => .inl ⟨x, rfl, _, rfl, x, m, rfl, rfl, hm, ?_⟩⟩
            refine q _ _ (keep_put hh) ⟨c, cells, p + 1, r, t, e1, ?_, nch, by omega, hr0, hz⟩ (Int.emod_nonneg _ (by omega)) (Int.emod_lt_of_pos _ hm)
            rw [upd_ne nch]
            exact hc
          · refine ⟨_, rfl, _, rfl, h, _, 2, 2, rfl, rfl, e1, rfl, some (.int z), p + 1, z, t, rfl, ?_, upd_same, by omega, hz z hzm⟩
            rw [upd_upd]
            exact (keep_put hh)
        · exact ⟨none, p, r, t, rfl, Keep.refl, hh, hp, hr0⟩
      · exact ⟨none, p, r, t, rfl, Keep.refl, hh, hp, hr0⟩
    · -- what follows it
      obtain ⟨y, p, r, t, rfl, kp, hh, hp, hr0⟩ := hM
      have hc' : H' c = some (.lst (cells.map V.int)) := kp _ _ nch hc
      have hcu : ∀ o, (upd H' h o) c = some (.lst (cells.map V.int)) := fun o => by
        rw [upd_ne nch]
        exact hc'
      refine ⟨_, rfl, h, _, 2, .int r, rfl, rfl, SqL.of hh, rfl, r, 0, rfl, rfl, _, rfl, ite2 (fun c1 => ?_) (fun c1 => ?_)⟩
      · have hrp : 0 < r := of_decide_eq_true c1
        refine ⟨_, rfl, h, _, 2, .int r, rfl, rfl, SqL.of hh, rfl, ?_⟩
        refine ⟨_, rfl, _, rfl, r, m, rfl, rfl, wide_div hm hmb (by decide) (by decide), _, rfl, h, _, 2, 2, rfl, rfl, hh, rfl, ?_⟩
        refine ⟨_, rfl, .inl ⟨_, rfl, _, rfl, r, m, rfl, rfl, hm, ?_⟩⟩
        exact q _ _ (kp.trans (keep_put hh)) ⟨c, cells, p, r / m, t, upd_same, hcu _, nch, hp, Int.ediv_nonneg hr0 (by omega), hz⟩ (Int.emod_nonneg _ (by omega)) (Int.emod_lt_of_pos _ hm)
      · refine ⟨_, rfl, h, _, 3, .int t, rfl, rfl, SqL.of hh, rfl, t, 1, rfl, rfl, .inl ⟨_, rfl, _, _, rfl, rfl, (by show (0 : Int) < _; decide), _, rfl, h, _, 3, 3, rfl, rfl, hh, rfl, ?_⟩⟩
        have e1 : (upd H' h (.lst ([V.ref c, .int p, .int r, .int t].set 3 (.int ((t + 1) % 2147483587))))) h = some (.lst [.ref c, .int p, .int r, .int ((t + 1) % 2147483587)]) := upd_same
        refine ⟨_, rfl, h, _, 3, _, rfl, rfl, SqL.of e1, rfl, _, rfl, h, _, 1, _, rfl, rfl, SqL.of e1, rfl, _, _, rfl, fun x hx => .inl ⟨x, rfl, _, rfl, x, m, rfl, rfl, hm, ?_⟩⟩
        exact q _ _ (kp.trans (keep_put hh)) ⟨c, cells, p, r, _, e1, hcu _, nch, hp, hr0, hz⟩ (Int.emod_nonneg _ (by omega)) (Int.emod_lt_of_pos _ hm)
end
end K04
set_option Elab.async false
set_option linter.all false
set_option maxRecDepth 100000
set_option maxHeartbeats 4000000
set_option exponentiation.threshold 5000
namespace K04
open PySem PySem.Spec PyProof.Rows L2 TkS
/-- the least source -/
def LeastSrc (p g : Nat) : Prop := 1 ≤ g ∧ g < p ∧ Src p g ∧ ∀ m, 1 ≤ m → m < g → ¬ Src p m
theorem LeastSrc.uniq {p g h : Nat} (a : LeastSrc p g) (b : LeastSrc p h) : g = h := by
  rcases Nat.lt_trichotomy g h with c | c | c
  · exact absurd a.2.2.1 (b.2.2.2 g a.1 c)
  · exact c
  · exact absurd b.2.2.1 (a.2.2.2 h b.1 c)
def sp_source_of (C : Addr) : Sp := fun vs H Q _ => ∃ (a : Addr) (p : Nat), vs = [.ref a] ∧ RF C H a p ∧ ∀ g H', LeastSrc p g → Same H H' → Q (.int (g : Nat)) H'
theorem any_lc {r : List V → Hp → VK → Prop} {wi : TI} {g : TG} {tt : TT} {te : TE} {vs : List Nat} {σ : L2.St} {H : Hp} {Q : Bool → Hp → Prop} (h : tLc wi g tt te vs σ H fun v H1 => r [v] H1 fun x H2 => ∃ b, x = .bl b ∧ Q b H2) : tB (tCB r (tCons (tLc wi g tt te vs) tNil)) σ H Q := h
theorem same_put {H0 H : Hp} {p : Addr} {o : HO} (s : Same H0 H) (f : H0 p = none) : Same H0 (upd H p o) := fun b x e => by
  rw [upd_ne (ne_of_none e f)]
  exact s _ _ e
section
variable {P : Program} {w : World} {K : PySem.W.Frag} {mg : Str → Option Value} {base : Heap}
theorem ok_source_of (T : Txt K mg) : FnOk P w K mg base CX0 7 T.f_source_of T.d_source_of ["field"] (sp_source_of T.C_RestField) := by
  refine T.F_source_of.ok sc_source_of (fun vs H Q E h => ?_) (fun cdv A outer s H vs Q E hr h => ?_)
  · obtain ⟨a, p, rfl, _⟩ := h
    rfl
  · obtain ⟨a, p, rfl, hf, q⟩ := h
    refine ⟨_, (pss_cons (ps_set (i := 1) sc_source_of.nd rfl (.inl rfl) (pe_op op_sub (pe_fld (pv 0) rfl) pe_int))
      (pss_cons (ps_set (i := 2) sc_source_of.nd rfl (.inl rfl) (pe_lst pa_nil))
      (pss_cons (ps_set (i := 3) sc_source_of.nd rfl (.inl rfl) (pv 1))
      (pss_cons (ps_while PassesOwn.never (pt_cmpR op_gt (pv 3) pe_int (nomark _))
        (pss_cons (ps_set (i := 4) sc_source_of.nd rfl (.inl rfl) (pe_call (ok_least_factor T) (hr.mono (by decide)) (by rfl) T.g_least_factor T.F_least_factor.kp T.b_least_factor .nil pass0 (pa_cons (pv 3) pa_nil)))
        (pss_cons (ps_expr (pe_bm PySem.F.plainAttrs_list PySem.F.slot_list_append PySem.F.type_list_append mt_append (pv 2) (pa_cons (pe_op op_fdiv (pv 1) (pv 4)) pa_nil)))
        (pss_one (ps_set (i := 3) sc_source_of.nd rfl (.inl rfl) (pe_op op_fdiv (pv 3) (pv 4)))))))
      (pss_cons (ps_set (i := 5) sc_source_of.nd rfl (.inr rfl) pe_int)
      (pss_cons (ps_while PassesOwn.never (pt_val (pe_callB (cr_any rfl) (by rfl) T.m_any (by decide +kernel) (pa_cons (pe_lc rfl sc_source_of.nd (pi_seq (pv 2)) (blkOk_by (own := [("exponent", 6)]) (N := ["field", "steps", "shorter", "left", "factor", "number", "exponent"]) (sc := defScope s_source_of) (by decide +kernel)) (fun _ _ _ _ _ => (pg_name (i := 6) sc_source_of.nd rfl (.inl rfl))) (fun _ _ _ _ _ => pts_nil) (fun _ _ _ _ _ => (pe_cmpR op_eq (pe_meth (pv 0) T.cl_RestField T.M_RestField_power (ok_RestField_power T) (hr.mono (by decide)) T.b_RestField_power .nil passL (pa_cons (pv 5) (pa_cons (pv 6) pa_nil))) (show PE _ _ (tFld K (tVar 0) "one") from pe_fld (pv 0) rfl) (nomark _)))) pa_nil)))
        (pss_one (ps_set (i := 5) sc_source_of.nd rfl (.inr rfl) (pe_op op_add (pv 5) pe_int))))
      (pss_one (ps_ret (pv 5))))))))), ?_⟩
    obtain ⟨⟨dx, ha⟩, pr, le⟩ := id hf
    have p2 := pr.1
    obtain ⟨M, hM⟩ : ∃ M : Nat, M = p - 1 := ⟨_, rfl⟩
    have eM : (p : Int) - 1 = (M : Int) := by omega
    refine ⟨_, rfl, a, T.C_RestField, dx, _, _, rfl, ha, T.cl_RestField, T.na_RestField_prime, rfl, p, 1, rfl, rfl, ?_⟩
    dsimp only
    rw [eM]
    refine ⟨Nat.zero_le _, fun D nD => ⟨_, rfl, ?_⟩⟩
    refine ⟨fun m σ H' => ∃ (left : Nat) (y4 : Option V) (qs : List Nat), σ = [some (.ref a), some (.int (M : Int)), some (.ref D), some (.int (left : Int)), y4, none, none] ∧ Same H H' ∧ H' D = some (.lst (qs.map fun q => V.int ((M / q : Nat) : Int))) ∧ 1 ≤ left ∧ (∀ q ∈ qs, Pr q ∧ q ∣ M) ∧ left ∣ M ∧ (∀ q, Pr q → q ∣ M → q ∈ qs ∨ q ∣ left) ∧ left * 2 ^ qs.length ≤ M ∧ m = left,
      ⟨M, M, none, [], rfl, same_new nD, upd_same, by omega, (fun q h => nomatch h), Nat.dvd_refl M, fun q _ h => .inr h, by simp, rfl⟩, fun m σ H' hW => ?_⟩
    obtain ⟨left, y4, qs, rfl, sm, eD, l1, hq, ld, all, len, rfl⟩ := hW
    refine ⟨_, rfl, _, _, rfl, rfl, _, rfl, ite2 (fun c => ?_) (fun c => ?_)⟩
    · have c' : (1 : Int) < (m : Int) := of_decide_eq_true c
      have l2 : 2 ≤ m := by omega
      refine ⟨fun σ' H' => ∃ m', m' < m ∧ ∃ (left : Nat) (y4 : Option V) (qs : List Nat), σ' = [some (.ref a), some (.int (M : Int)), some (.ref D), some (.int (left : Int)), y4, none, none] ∧ Same H H' ∧ H' D = some (.lst (qs.map fun q => V.int ((M / q : Nat) : Int))) ∧ 1 ≤ left ∧ (∀ q ∈ qs, Pr q ∧ q ∣ M) ∧ left ∣ M ∧ (∀ q, Pr q → q ∣ M → q ∈ qs ∨ q ∣ left) ∧ left * 2 ^ qs.length ≤ M ∧ m' = left, fun _ _ z => z, ?_⟩
      have mM : m ≤ M := Nat.le_of_dvd (by omega) ld
      have len2 : 2 ^ qs.length ≤ M := Nat.le_trans (Nat.le_mul_of_pos_left _ (by omega)) len
      have lq : qs.length < 15 := by
        refine Classical.byContradiction fun z => ?_
        have : 2 ^ 15 ≤ 2 ^ qs.length := Nat.pow_le_pow_right (by decide) (by omega)
        have e15 : 2 ^ 15 = 32768 := by decide
        omega
      refine ⟨_, rfl, m, rfl, l2, by omega, fun r hr' => ?_⟩
      have r2 := hr'.1
      obtain ⟨k, hk⟩ := hr'.2.1
      have rm : r ≤ m := Nat.le_of_dvd (by omega) hr'.2.1
      have k1 : 1 ≤ k := by
        refine Nat.pos_of_ne_zero fun z => ?_
        rw [z, Nat.mul_zero] at hk
        omega
      have ek : m / r = k := by rw [hk]; exact Nat.mul_div_cancel_left _ (by omega)
      have km : 2 * k ≤ m := by
        rw [hk]
        exact Nat.mul_le_mul_right k r2
      refine ⟨_, rfl, .inl ⟨rfl, _, SqL.of eD⟩, _, rfl, _, rfl, M, r, rfl, rfl, ⟨by omega, by omega⟩, D, _, _, rfl, rfl, eD, small1000 (by rw [List.length_map]; omega), ?_⟩
      refine ⟨_, rfl, _, rfl, m, r, rfl, rfl, ⟨by omega, by omega⟩, k, by omega, k, some (.int (r : Int)), qs ++ [r], ?_, same_put sm nD, ?_, k1, fun q hq' => ?_, ?_, fun q pq qM => ?_, ?_, rfl⟩
      · have ez : ((m : Int) / (r : Int)) = (k : Int) := by
          rw [← ek]
          rfl
        show ([some (.ref a), some (.int (M : Int)), some (.ref D), some (.int ((m : Int) / (r : Int))), some (.int (r : Int)), none, none] : L2.St) = _
        rw [ez]
      · rw [upd_same, List.map_append]
        rfl
      · rcases List.mem_append.mp hq' with e | e
        · exact hq q e
        · rw [List.mem_singleton.mp e]
          exact ⟨hr'.pr, Nat.dvd_trans hr'.2.1 ld⟩
      · exact Nat.dvd_trans ⟨r, by rw [hk, Nat.mul_comm]⟩ ld
      · rcases all q pq qM with e | e
        · exact .inl (List.mem_append.mpr (.inl e))
        · rw [hk] at e
          by_cases d : q ∣ r
          · rw [pr_dvd hr'.pr pq.1 d]
            exact .inl (List.mem_append.mpr (.inr (List.mem_singleton.mpr rfl)))
          · exact .inr (euclid pq e d)
      · rw [List.length_append, List.length_singleton, Nat.pow_succ, Nat.mul_comm (2 ^ qs.length) 2, ← Nat.mul_assoc]
        exact Nat.le_trans (Nat.mul_le_mul_right _ (by omega)) len
    · have c' : m = 1 := by
        have : ¬ (1 : Int) < (m : Int) := fun z => c (decide_eq_true z)
        omega
      subst c'
      have M1 : 1 ≤ M := by omega
      have allq : ∀ q, Pr q → q ∣ M → q ∈ qs := fun q pq qM => (all q pq qM).elim id fun e => by
        have := Nat.le_of_dvd (by decide) e
        have := pq.1
        omega
      have lq : qs.length < 15 := by
        rw [Nat.one_mul] at len
        refine Classical.byContradiction fun z => ?_
        have : 2 ^ 15 ≤ 2 ^ qs.length := Nat.pow_le_pow_right (by decide) (by omega)
        have e15 : 2 ^ 15 = 32768 := by decide
        omega
      obtain ⟨g0, g01, g0p, g0s⟩ := has_src pr (by omega)
      have srcq : ∀ n, Src p n ↔ ∀ q ∈ qs, n ^ (M / q) % p ≠ 1 := fun n => ⟨fun s q hq' => by
        rw [hM]
        exact s q (hq q hq').1 (by rw [← hM]; exact (hq q hq').2), fun s q pq qM => by
        rw [← hM] at qM ⊢
        exact s q (allq q pq qM)⟩
      refine ⟨fun m σ H2 => ∃ n : Nat, σ = [some (.ref a), some (.int (M : Int)), some (.ref D), some (.int ((1 : Nat) : Int)), y4, some (.int (n : Int)), none] ∧ Same H' H2 ∧ 1 ≤ n ∧ n < p ∧ (∀ m, 1 ≤ m → m < n → ¬ Src p m) ∧ m = p - n, ⟨p - 1, 1, rfl, fun _ _ z => z, by omega, by omega, fun m m1 m2 => by omega, rfl⟩, fun m σ H2 hW => ?_⟩
      obtain ⟨n, rfl, s2, n1, np, no, rfl⟩ := hW
      have eD2 := s2 _ _ eD
      have ha2 := s2 _ _ (sm _ _ ha)
      refine any_lc (lc_seqV (a := D) (xs := qs.map fun q => V.int ((M / q : Nat) : Int)) (fun _ => true) (fun i => V.bl (decide (n ^ (M / qs.getD i 0) % p = 1))) (fun Q h => ⟨_, rfl, h⟩) (.inl (SqL.of eD2)) (by rw [List.length_map]; omega) (fun i x H3 R N hx s3 yes no' => ?_) (fun D2 H3 nD2 s3 hD2 => ?_))
      · rw [List.getElem?_map] at hx
        obtain ⟨q', hq', rfl⟩ := Option.map_eq_some_iff.mp hx
        obtain ⟨pq, qM⟩ := hq q' (List.mem_of_getElem? hq')
        have q2 := pq.1
        have qle := Nat.le_of_dvd M1 qM
        have e1 : 1 ≤ M / q' := Nat.div_pos qle (by omega)
        have e2 : M / q' < M := Nat.div_lt_self M1 q2
        have ha3 := s3 _ _ ha2
        have y := yes rfl H3 fun _ _ z => z
        rw [show qs.getD i 0 = q' by rw [List.getD_eq_getElem?_getD, hq']; rfl] at y
        have er : rpw p (n : Int) ((M / q' : Nat) : Int) = some ((n ^ (M / q') % p : Nat) : Int) := by
          unfold rpw
          rw [if_neg (by omega), if_neg (by omega), eM, ← Int.natCast_emod, Nat.mod_eq_of_lt e2]
          rfl
        refine ⟨rfl, _, rfl, a, dx, _, rfl, ha3, rfl, _, rfl, _, rfl, a, p, (n : Int), ((M / q' : Nat) : Int), rfl, ⟨⟨dx, ha3⟩, pr, le⟩, by omega, by omega, fun e => (by rw [er] at e; cases e), fun r hr2 => ?_⟩
        rw [er] at hr2
        cases hr2
        refine ⟨_, rfl, a, T.C_RestField, dx, _, _, rfl, ha3, T.cl_RestField, T.na_RestField_one, rfl, rfl, ?_⟩
        rw [int_dec]
        have ed : decide (((n ^ (M / q') % p : Nat) : Int) = 1) = decide (n ^ (M / q') % p = 1) := decide_eq_decide.mpr ⟨fun z => by omega, fun z => by omega⟩
        rw [ed]
        exact y
      · rw [range_all, List.length_map] at hD2
        have eB : H3 D2 = some (.lst (((List.range qs.length).map fun i => decide (n ^ (M / qs.getD i 0) % p = 1)).map V.bl)) := by
          rw [List.map_map]
          exact hD2
        have s23 := s2.trans s3
        refine ⟨D2, _, rfl, SqL.of eB, _, rfl, ?_⟩
        cases cB : (((List.range qs.length).map fun i => decide (n ^ (M / qs.getD i 0) % p = 1)).any id) with
        | true =>
          obtain ⟨b, hb, eb⟩ := List.any_eq_true.mp cB
          obtain ⟨i, hi, rfl⟩ := List.mem_map.mp hb
          have hi' := List.mem_range.mp hi
          have bad : ¬ Src p n := fun s => by
            have z := (srcq n).mp s (qs.getD i 0) (by rw [List.getD_eq_getElem?_getD, List.getElem?_eq_getElem hi']; exact List.getElem_mem hi')
            exact z (of_decide_eq_true eb)
          have lt : n < g0 := by
            refine Nat.lt_of_not_le fun z => ?_
            rcases Nat.lt_or_ge g0 n with l | l
            · exact no g0 g01 l g0s
            · have : g0 = n := by omega
              rw [this] at g0s
              exact bad g0s
          refine iteT ⟨fun σ' H4 => ∃ m', m' < p - n ∧ ∃ n : Nat, σ' = [some (.ref a), some (.int (M : Int)), some (.ref D), some (.int ((1 : Nat) : Int)), y4, some (.int (n : Int)), none] ∧ Same H' H4 ∧ 1 ≤ n ∧ n < p ∧ (∀ m, 1 ≤ m → m < n → ¬ Src p m) ∧ m' = p - n, fun _ _ z => z, ?_⟩
          refine ⟨_, rfl, _, _, rfl, rfl, p - (n + 1), by omega, n + 1, rfl, s23, by omega, by omega, fun m m1 m2 => ?_, rfl⟩
          rcases Nat.lt_or_ge m n with l | l
          · exact no m m1 l
          · have : m = n := by omega
            rw [this]
            exact bad
        | false =>
          refine iteF ⟨_, rfl, q n _ ⟨n1, np, (srcq n).mpr fun q' hq' e => ?_, no⟩ (sm.trans s23)⟩
          obtain ⟨i, hi, eq⟩ := List.getElem_of_mem hq'
          have z := List.any_eq_false.mp cB (decide (n ^ (M / qs.getD i 0) % p = 1)) (List.mem_map.mpr ⟨i, List.mem_range.mpr hi, rfl⟩)
          rw [show qs.getD i 0 = q' by rw [List.getD_eq_getElem?_getD, List.getElem?_eq_getElem hi]; exact eq, decide_eq_true e] at z
          exact z rfl
end
end K04
set_option Elab.async false
set_option linter.all false
set_option maxRecDepth 100000
set_option maxHeartbeats 4000000
set_option exponentiation.threshold 5000
namespace K04
open PySem PySem.Spec PyProof.Rows L2 TkS
theorem least_ex {p : Nat} (h : Pr p) (l : p < 20480) : ∃ g, LeastSrc p g := by
  obtain ⟨g, g0, g1, gs⟩ := has_src h l
  have : ∀ n, n ≤ g → (∀ m, 1 ≤ m → m < n → ¬ Src p m) ∨ ∃ g, LeastSrc p g := fun n => by
    induction n with
    | zero => exact fun _ => .inl fun m m1 m2 => by omega
    | succ n ih =>
      intro hn
      rcases ih (by omega) with a | a
      · by_cases c : 1 ≤ n ∧ Src p n
        · exact .inr ⟨n, c.1, by omega, c.2, a⟩
        · refine .inl fun m m1 m2 s => ?_
          rcases Nat.lt_or_ge m n with e | e
          · exact a m m1 e s
          · have : m = n := by omega
            rw [this] at m1 s
            exact c ⟨m1, s⟩
      · exact .inr a
  rcases this g (Nat.le_refl g) with a | a
  · exact ⟨g, g0, g1, gs, a⟩
  · exact a
def sp_steps_of (C CN : Addr) : Sp := fun vs H Q E => ∃ (a : Addr) (p : Nat) (x : V) (d : PyData), vs = [.ref a, x] ∧ RF C H a p ∧ Dq H x d ∧ (wholeIn x (.int 0) (.int ((p : Int) - 1)) = false → ∀ H', Same H H' → E (.ref CN) none H') ∧ (d = .int 0 → ∀ H', Same H H' → E (.ref CN) none H') ∧
  (∀ (y n g : Nat), d = .int (y : Int) → 0 < y → y < p → LeastSrc p g → n < p - 1 → g ^ n % p = y → ∀ H', Same H H' → Q (.int (n : Int)) H')
section
variable {P : Program} {w : World} {K : PySem.W.Frag} {mg : Str → Option Value} {base : Heap}
theorem ok_steps_of (T : Txt K mg) : FnOk P w K mg base (L2.CX P w) 8 T.f_steps_of T.d_steps_of ["field", "number"] (sp_steps_of T.C_RestField T.C_BadNumber) := by
  refine T.F_steps_of.okX sc_steps_of (fun vs H Q E h => ?_) (fun cdv A outer s H vs Q E hr h => ?_)
  · obtain ⟨a, p, x, d, rfl, _⟩ := h
    rfl
  · obtain ⟨a, p, x, d, rfl, hf, kx, hE1, hE2, hQ⟩ := h
    refine ⟨_, (pss_cons (ps_if (pt_cmpR op_eq (pe_meth (pv 0) T.cl_RestField T.M_RestField_check_number (ok_RestField_check_number T) (hr.mono (by decide)) T.b_RestField_check_number .nil (passes_call (W := fun cls d _ H => E cls d H) (takes_of rfl rfl rfl rfl) (fun _ _ _ _ h => h)) (pa_cons (pv 1) pa_nil)) (pe_fld (pv 0) rfl) (nomark _))
        (pss_one (ps_raise (W := fun cls d _ H => E cls d H) rfl (takes_of rfl rfl rfl rfl) (pmk_own0 PySem.F.excBase_ValueError T.q_BadNumber T.g_BadNumber T.k_BadNumber (raises_own T.b_BadNumber T.ty_BadNumber) (by rfl))))
        pss_nil)
      (pss_cons (ps_set (i := 2) sc_steps_of.nd rfl (.inl rfl) (pe_call (ok_source_of T) (hr.mono (by decide)) (by rfl) T.g_source_of T.F_source_of.kp T.b_source_of .nil pass0 (pa_cons (pv 0) pa_nil)))
      (pss_cons (ps_set (i := 3) sc_steps_of.nd rfl (.inl rfl) pe_int)
      (pss_cons (ps_set (i := 4) sc_steps_of.nd rfl (.inl rfl) (pe_fld (pv 0) rfl))
      (pss_cons (ps_while (by exact passes_of rfl) (pt_cmpR op_ne (pv 4) (pv 1) (nomark _))
        (pss_cons (ps_set (i := 4) sc_steps_of.nd rfl (.inl rfl) (pe_meth (pv 0) T.cl_RestField T.M_RestField_times (ok_RestField_times T) (hr.mono (by decide)) T.b_RestField_times .nil pass0 (pa_cons (pv 4) (pa_cons (pv 2) pa_nil))))
        (pss_one (ps_set (i := 3) sc_steps_of.nd rfl (.inl rfl) (pe_op op_add (pv 3) pe_int)))))
      (pss_one (ps_ret (pv 3)))))))), ?_⟩
    obtain ⟨⟨dx, ha⟩, pr, le⟩ := id hf
    have p2 := pr.1
    refine ⟨_, rfl, a, dx, _, rfl, ha, rfl, _, rfl, a, p, x, d, rfl, hf, kx, hE1, fun wi => ?_⟩
    obtain ⟨y, rfl, rfl, yp⟩ : ∃ y : Nat, x = .int (y : Int) ∧ d = .int (y : Int) ∧ y < p := by
      cases kx with
      | int i =>
        have h' : (decide (0 ≤ i) && decide (i ≤ (p : Int) - 1)) = true := wi
        obtain ⟨h1, h2⟩ := Bool.and_eq_true_iff.mp h'
        have i0 := of_decide_eq_true h1
        have i1 := of_decide_eq_true h2
        exact ⟨i.toNat, by rw [show ((i.toNat : Nat) : Int) = i by omega], by rw [show ((i.toNat : Nat) : Int) = i by omega], by omega⟩
      | _ => cases wi
    refine ⟨_, rfl, a, T.C_RestField, dx, _, _, rfl, ha, T.cl_RestField, T.na_RestField_zero, rfl, rfl, _, rfl, ?_⟩
    rw [int_dec]
    by_cases y0 : y = 0
    · subst y0
      rw [decide_eq_true (show ((0 : Nat) : Int) = 0 from rfl)]
      exact iteT (hE2 rfl H fun _ _ z => z)
    rw [decide_eq_false (show ¬ (y : Int) = 0 by omega)]
    refine iteF ⟨_, rfl, a, p, rfl, hf, fun g H1 hg s1 => ?_⟩
    have ng : ¬ p ∣ g := not_dvd (by have := hg.1; omega) hg.2.1
    obtain ⟨n, np, en⟩ := src_all pr ng hg.2.2.1 (show 0 < y by omega) yp
    have qn := hQ y n g rfl (by omega) yp hg np en
    have ha1 := s1 _ _ ha
    refine ⟨_, rfl, a, T.C_RestField, dx, _, _, rfl, ha1, T.cl_RestField, T.na_RestField_one, rfl, ?_⟩
    refine ⟨fun m σ H' => ∃ k : Nat, σ = [some (.ref a), some (.int (y : Int)), some (.int (g : Int)), some (.int (k : Int)), some (.int ((g ^ k % p : Nat) : Int))] ∧ H1 = H' ∧ k ≤ n ∧ m = n - k, ⟨n, 0, ?_, rfl, by omega, rfl⟩, fun m σ H' hW => ?_⟩
    · rw [Nat.pow_zero, Nat.mod_eq_of_lt (show 1 < p by omega)]
      rfl
    obtain ⟨k, rfl, rfl, kn, rfl⟩ := hW
    refine ⟨_, rfl, _, rfl, rfl, _, rfl, ?_⟩
    rw [int_dec]
    by_cases c : g ^ k % p = y
    · rw [decide_eq_true (show ((g ^ k % p : Nat) : Int) = (y : Int) by rw [c])]
      have ek : k = n := by
        rcases Nat.lt_or_ge k n with l | l
        · exact absurd (c.trans en.symm) (src_inj pr ng hg.2.2.1 l np)
        · omega
      subst ek
      exact iteF ⟨_, rfl, qn _ s1⟩
    · rw [decide_eq_false (show ¬ ((g ^ k % p : Nat) : Int) = (y : Int) by omega)]
      have kl : k < n := by
        rcases Nat.lt_or_ge k n with l | l
        · exact l
        · have : k = n := by omega
          rw [this] at c
          exact absurd en c
      refine iteT ⟨fun σ' H' => ∃ m', m' < n - k ∧ ∃ k : Nat, σ' = [some (.ref a), some (.int (y : Int)), some (.int (g : Int)), some (.int (k : Int)), some (.int ((g ^ k % p : Nat) : Int))] ∧ H1 = H' ∧ k ≤ n ∧ m' = n - k, fun _ _ z => z, ?_⟩
      refine ⟨_, rfl, a, dx, _, rfl, ha1, rfl, _, rfl, _, rfl, a, p, _, _, rfl, hf.same s1, med_nat (Nat.mod_lt _ (by omega)) le, med_nat hg.2.1 le, ?_⟩
      refine ⟨_, rfl, _, _, rfl, rfl, n - (k + 1), by omega, k + 1, ?_, rfl, by omega, rfl⟩
      have e : ((g ^ k % p : Nat) : Int) * (g : Int) % (p : Int) = ((g ^ (k + 1) % p : Nat) : Int) := by
        rw [← Int.natCast_mul, ← Int.natCast_emod, Nat.mod_mul_mod, Nat.pow_succ]
      show ([some (.ref a), some (.int (y : Int)), some (.int (g : Int)), some (.int ((k : Int) + 1)), some (.int (((g ^ k % p : Nat) : Int) * (g : Int) % (p : Int)))] : L2.St) = _
      rw [e]
      rfl
end
end K04
set_option Elab.async false
set_option linter.all false
set_option maxRecDepth 100000
set_option maxHeartbeats 4000000
set_option exponentiation.threshold 5000
namespace K04
open PySem PySem.Spec PyProof.Rows L2 TkS
def sp_rest_eq (C CF : Addr) : Sp := fun vs H Q _ => ∃ (a b : Addr) (p : Nat), vs = [.ref a, .ref b] ∧ RF C H a p ∧ ((∃ p', RF C H b p' ∧ Q (.bl (decide (p = p'))) H) ∨ (FF CF H b ∧ Q (.bl false) H))
def sp_fr_eq (C CR : Addr) : Sp := fun vs H Q _ => ∃ (a b : Addr), vs = [.ref a, .ref b] ∧ FF C H a ∧ ((FF C H b ∧ Q (.bl true) H) ∨ (∃ p, RF CR H b p ∧ Q (.bl false) H))
section
variable {P : Program} {w : World} {K : PySem.W.Frag} {mg : Str → Option Value} {base : Heap}
theorem ok_RestField_eq (T : Txt K mg) : FnOk P w K mg base CX0 1 T.f_RestField_eq T.d_RestField_eq ["self", "other"] (sp_rest_eq T.C_RestField T.C_FractionField) := by
  refine T.F_RestField_eq.ok sc_RestField_eq (fun vs H Q E h => ?_) (fun cdv A outer s H vs Q E hr h => ?_)
  · obtain ⟨a, b, p, rfl, _⟩ := h
    rfl
  · obtain ⟨a, b, p, rfl, hf, hq⟩ := h
    refine ⟨_, (pss_one (ps_ret (pe_and (pe_callB call_isi (by rfl) T.m_isinstance (by decide +kernel) (pa_cons (pv 1) (pa_cons (pe_glob (v := .ref T.C_RestField) rfl T.g_RestField rfl) pa_nil))) (pe_one (pe_cmpR op_eq (pe_fld (pv 0) rfl) (pe_fld (pv 1) rfl) (nomark _)))))), ?_⟩
    obtain ⟨dx, ha⟩ := hf.at_
    rcases hq with ⟨p', hb, q⟩ | ⟨hb, q⟩
    · obtain ⟨dy, eb⟩ := hb.at_
      refine ⟨_, rfl, .ref b, .ref T.C_RestField, .ref T.C_RestField, .ref T.C_RestField, true, rfl, .own _, .base (.ins eb T.cl_RestField T.RestField_k_class T.RestField_k_get T.RestField_k_takes T.RestField_k_mro), T.RestField_k_isp, true, rfl, iteT ?_⟩
      refine ⟨_, rfl, a, T.C_RestField, dx, _, _, rfl, ha, T.cl_RestField, T.na_RestField_prime, rfl, _, rfl, b, T.C_RestField, dy, _, _, rfl, eb, T.cl_RestField, T.na_RestField_prime, rfl, rfl, ?_⟩
      rw [int_dec]
      have e : decide ((p : Int) = (p' : Int)) = decide (p = p') := decide_eq_decide.mpr ⟨fun z => by omega, fun z => by omega⟩
      rw [e]
      exact q
    · obtain ⟨dy, z, o, m, eb, _⟩ := hb.at_
      exact ⟨_, rfl, .ref b, .ref T.C_RestField, .ref T.C_FractionField, .ref T.C_RestField, false, rfl, .own _, .base (.ins eb T.cl_FractionField T.FractionField_k_class T.FractionField_k_get T.FractionField_k_takes T.FractionField_k_mro), T.kit_FractionField_RestField, false, rfl, iteF q⟩
theorem ok_FractionField_eq (T : Txt K mg) : FnOk P w K mg base CX0 1 T.f_FractionField_eq T.d_FractionField_eq ["self", "other"] (sp_fr_eq T.C_FractionField T.C_RestField) := by
  refine T.F_FractionField_eq.ok sc_FractionField_eq (fun vs H Q E h => ?_) (fun cdv A outer s H vs Q E hr h => ?_)
  · obtain ⟨a, b, rfl, _⟩ := h
    rfl
  · obtain ⟨a, b, rfl, hf, hq⟩ := h
    refine ⟨_, (pss_one (ps_ret (pe_callB call_isi (by rfl) T.m_isinstance (by decide +kernel) (pa_cons (pv 1) (pa_cons (pe_glob (v := .ref T.C_FractionField) rfl T.g_FractionField rfl) pa_nil))))), ?_⟩
    rcases hq with ⟨hb, q⟩ | ⟨p, hb, q⟩
    · obtain ⟨dy, z, o, m, eb, _⟩ := hb.at_
      exact ⟨_, rfl, .ref b, .ref T.C_FractionField, .ref T.C_FractionField, .ref T.C_FractionField, true, rfl, .own _, .base (.ins eb T.cl_FractionField T.FractionField_k_class T.FractionField_k_get T.FractionField_k_takes T.FractionField_k_mro), T.FractionField_k_isp, q⟩
    · obtain ⟨dy, eb⟩ := hb.at_
      exact ⟨_, rfl, .ref b, .ref T.C_FractionField, .ref T.C_RestField, .ref T.C_FractionField, false, rfl, .own _, .base (.ins eb T.cl_RestField T.RestField_k_class T.RestField_k_get T.RestField_k_takes T.RestField_k_mro), T.kit_RestField_FractionField, q⟩
end
end K04
set_option Elab.async false
set_option linter.all false
set_option maxRecDepth 100000
set_option maxHeartbeats 4000000
set_option exponentiation.threshold 5000
namespace K04
open PySem PySem.Spec PyProof.Rows L2 TkS
/-! Euclid's steps -/
def EuI (n a b i x y : Nat) : Prop := Nat.gcd x y = Nat.gcd a b ∧ (i = 0 → y < 2 ^ n) ∧ (0 < i → y < x ∧ x * y * 2 ^ i < 2 ^ (2 * n + 1))
theorem eu_0 {n a b : Nat} (h : b < 2 ^ n) : EuI n a b 0 a b := ⟨rfl, fun _ => h, fun z => absurd z (by decide)⟩
theorem eu_s {n a b i x y : Nat} (h : EuI n a b i x y) (y0 : 0 < y) : EuI n a b (i + 1) y (x % y) := by
  obtain ⟨g, h0, h1⟩ := h
  have r := Nat.mod_lt x y0
  refine ⟨?_, fun z => absurd z (by omega), fun _ => ⟨r, ?_⟩⟩
  · rw [← g, Nat.gcd_comm x y, Nat.gcd_rec y x, Nat.gcd_comm]
  · rcases Nat.eq_zero_or_pos i with rfl | ip
    · have l := h0 rfl
      have e : y * (x % y) < 2 ^ n * 2 ^ n := Nat.mul_lt_mul'' l (Nat.lt_trans r l)
      rw [← Nat.pow_add] at e
      rw [Nat.zero_add, Nat.pow_one, Nat.pow_succ, Nat.two_mul]
      exact Nat.mul_lt_mul_of_pos_right e (by decide)
    · obtain ⟨l, m⟩ := h1 ip
      have q1 : 1 ≤ x / y := Nat.div_pos (Nat.le_of_lt l) y0
      have e := Nat.div_add_mod x y
      have e2 : y * 1 ≤ y * (x / y) := Nat.mul_le_mul_left y q1
      have k : 2 * (x % y) ≤ x := by omega
      refine Nat.lt_of_le_of_lt ?_ m
      rw [Nat.pow_succ, show y * (x % y) * (2 ^ i * 2) = (y * (2 * (x % y))) * 2 ^ i by
        rw [Nat.mul_comm (2 ^ i) 2, ← Nat.mul_assoc, ← Nat.mul_assoc, Nat.mul_right_comm y 2, Nat.mul_assoc y]]
      refine Nat.mul_le_mul_right _ ?_
      rw [Nat.mul_comm x y]
      exact Nat.mul_le_mul_left y k
theorem eu_e {n a b i x y : Nat} (h : EuI n a b i x y) (hi : 2 * n + 1 ≤ i) : x = Nat.gcd a b := by
  obtain ⟨g, h0, h1⟩ := h
  obtain ⟨l, m⟩ := h1 (by omega)
  have y0 : y = 0 := by
    refine Classical.byContradiction fun c => ?_
    have : 1 * 2 ^ (2 * n + 1) ≤ x * y * 2 ^ i := Nat.mul_le_mul (Nat.mul_pos (by omega) (by omega)) (Nat.pow_le_pow_right (by decide) hi)
    omega
  subst y0
  rw [← g, Nat.gcd_zero_right]
theorem eu_b {n a b i x : Nat} (h : EuI n a b i x 0) : x = Nat.gcd a b := by rw [← h.1, Nat.gcd_zero_right]
theorem abs_nat (a : Int) : (if a < 0 then -a else a) = (a.natAbs : Int) := by split <;> omega
/-! promises -/
def isNumV : V → Bool
  | .int _ => true
  | _ => false
def sp_law_whole : Sp := fun vs H Q _ => ∃ x d, vs = [x] ∧ Dq H x d ∧ Q (.bl (isNumV x)) H
def sp_law_divisor : Sp := fun vs H Q _ => ∃ a b : Int, vs = [.int a, .int b] ∧ Fin 4000 b ∧ Q (.int ((Int.gcd a b : Nat) : Int)) H
def sp_law_lowest : Sp := fun vs H Q _ => ∃ t b : Int, vs = [.int t, .int b] ∧ b ≠ 0 ∧ Fin 4000 b ∧ ∀ l H', Same H H' → Dq H' (.ref l) (frD (low t b)) → Q (.ref l) H'
def sp_law_prime : Sp := fun vs H Q _ => ∃ z : Int, vs = [.int z] ∧ z ≤ 30000 ∧ ∀ r : Bool, (r = true ↔ ∃ p : Nat, z = (p : Int) ∧ Pr p) → Q (.bl r) H
def sp_law_next_prime : Sp := fun vs H Q _ => ∃ n : Nat, vs = [.int (n : Int)] ∧ 2 ≤ n ∧ n ≤ 19997 ∧ ∀ p : Nat, Pr p → p ≤ 19997 → Q (.int (p : Int)) H
def Fp (p : Nat) : Prop := p = 0 ∨ (Pr p ∧ p ≤ 20000)
def sp_law_field : Sp := fun vs H Q _ => ∃ h : Addr, vs = [.ref h] ∧ Hand H h ∧ ∀ (p : Nat) H', Keep h H H' → Hand H' h → Fp p → Q (.int (p : Int)) H'
structure Fld (CR CF : Addr) (H : Hp) (a : Addr) (p : Nat) : Prop where
  fp : Fp p
  fr : p = 0 → FF CF H a
  rs : p ≠ 0 → RF CR H a p
theorem Fld.same {CR CF : Addr} {H H' : Hp} {a : Addr} {p : Nat} (h : Fld CR CF H a p) (s : Same H H') : Fld CR CF H' a p := ⟨h.fp, fun e => (h.fr e).same s, fun e => (h.rs e).same s⟩
def sp_law_made_field (CR CF : Addr) : Sp := fun vs H Q _ => ∃ p : Nat, vs = [.int (p : Int)] ∧ Fp p ∧ ∀ y H', Same H H' → Fld CR CF H' y p → Q (.ref y) H'
/-! numbers of a field -/
def oneD (p : Nat) : PyData := if p = 0 then frD (1, 1) else .int 1
def minusD (p : Nat) : PyData := if p = 0 then frD (-1, 1) else .int ((p : Int) - 1)
def sp_law_const (f : Nat → PyData) : Sp := fun vs H Q _ => ∃ p : Nat, vs = [.int (p : Int)] ∧ ∀ v H', Same H H' → Dq H' v (f p) → Q v H'
theorem pr_19997 : Pr 19997 := (LF.self).mp (by
  have e : lf 19997 = 19997 := by decide +kernel
  have := lf_ok (n := 19997) (by decide) (by decide)
  rw [e] at this
  exact this)
theorem pr_small {n : Nat} (h : lf n = n) (h2 : 2 ≤ n) (l : n < 23104) : Pr n := (LF.self).mp (by
  have := lf_ok (n := n) h2 l
  rw [h] at this
  exact this)
section
variable {P : Program} {w : World} {K : PySem.W.Frag} {mg : Str → Option Value} {base : Heap}
theorem ok_law_whole (T : Txt K mg) : FnOk P w K mg base CX0 1 T.f_law_whole T.d_law_whole ["_law_thing"] sp_law_whole := by
  refine T.F_law_whole.ok sc_law_whole (fun vs H Q E h => ?_) (fun cdv A outer s H vs Q E hr h => ?_)
  · obtain ⟨x, d, rfl, _⟩ := h
    rfl
  · obtain ⟨x, d, rfl, hk, q⟩ := h
    obtain ⟨t, ty, k1, k2, _⟩ := dq_ty (K := K) hk
    refine ⟨_, (pss_one (ps_ret (pe_and (pe_callB call_isi (by rfl) T.m_isinstance (by decide +kernel) (pa_cons (pv 0) (pa_cons (pe_bltn (v := .ty "int") (u := .type "int") (by rfl) T.m_int (by decide +kernel) rfl) pa_nil))) (pe_one (pe_not (pe_callB call_isi (by rfl) T.m_isinstance (by decide +kernel) (pa_cons (pv 0) (pa_cons (pe_bltn (v := .ty "bool") (u := .type "bool") (by rfl) T.m_bool (by decide +kernel) rfl) pa_nil)))))))), ?_⟩
    have two : ∀ r : Bool, Q (.bl (!isBlV x)) H → tNotV (tCB (rIsi K) (tCons (tVar 0) (tCons (tC (.ty "bool")) tNil))) (L2.start ["_law_thing"] [x]) H Q := fun _ z => ⟨x, rfl, x, .ty "bool", t, _, isBlV x, rfl, .ty _, ty, k1, _, rfl, z⟩
    cases hk with
    | non => exact ⟨_, rfl, _, .ty "int", t, _, false, rfl, .ty _, ty, k2, _, rfl, iteF q⟩
    | bl b => exact ⟨_, rfl, _, .ty "int", t, _, true, rfl, .ty _, ty, k2, _, rfl, iteT (two true q)⟩
    | int i => exact ⟨_, rfl, _, .ty "int", t, _, true, rfl, .ty _, ty, k2, _, rfl, iteT (two true q)⟩
    | str z => exact ⟨_, rfl, _, .ty "int", t, _, false, rfl, .ty _, ty, k2, _, rfl, iteF q⟩
    | lst z y => exact ⟨_, rfl, _, .ty "int", t, _, false, rfl, .ty _, ty, k2, _, rfl, iteF q⟩
    | tup z y => exact ⟨_, rfl, _, .ty "int", t, _, false, rfl, .ty _, ty, k2, _, rfl, iteF q⟩
theorem ok_law_divisor (T : Txt K mg) : FnOk P w K mg base CX0 1 T.f_law_divisor T.d_law_divisor ["_law_one_here", "_law_other"] sp_law_divisor := by
  refine T.F_law_divisor.ok sc_law_divisor (fun vs H Q E h => ?_) (fun cdv A outer s H vs Q E hr h => ?_)
  · obtain ⟨a, b, rfl, _⟩ := h
    rfl
  · obtain ⟨a, b, rfl, fb, q⟩ := h
    refine ⟨_, (pss_cons (ps_set (i := 2) sc_law_divisor.nd rfl (.inl rfl) (pe_callB call_abs (by rfl) T.m_abs (by decide +kernel) (pa_cons (pv 0) pa_nil)))
      (pss_cons (ps_set (i := 3) sc_law_divisor.nd rfl (.inl rfl) (pe_callB call_abs (by rfl) T.m_abs (by decide +kernel) (pa_cons (pv 1) pa_nil)))
      (pss_cons (ps_for PassesOwn.never rfl (pi_range1 (by rfl) T.m_range (pa_cons pe_int pa_nil)) (pg_name (i := 4) sc_law_divisor.nd rfl (.inl rfl))
        (pss_cons (ps_if (pt_cmpR op_eq (pv 3) pe_int (nomark _))
          (pss_one ps_break)
          pss_nil)
        (pss_one (ps_par (i := 2) (j := 3) (by rfl) sc_law_divisor.nd rfl rfl (by decide) rfl rfl (pa_cons (pv 3) (pa_cons (pe_op op_mod (pe_callTy call_int1 (by rfl) T.m_int (by decide +kernel) (pa_cons (pv 2) pa_nil)) (pv 3)) pa_nil)) (by rfl)))))
      (pss_one (ps_ret (pv 2)))))), ?_⟩
    refine ⟨_, rfl, a, rfl, _, rfl, b, rfl, ?_⟩
    dsimp only
    rw [abs_nat, abs_nat]
    have e9 : ((9000 : Int)).toNat = 9000 := rfl
    refine ⟨9000, rfl, by decide, by decide, for_range (lo := 0) (n := 9000) (fun i σ H' => ∃ (x y : Nat) (y4 : Option V), σ = [some (.int a), some (.int b), some (.int (x : Int)), some (.int (y : Int)), y4] ∧ H = H' ∧ EuI 4000 a.natAbs b.natAbs i x y) ⟨_, _, none, rfl, rfl, eu_0 fb⟩ (fun i σ H' hi hP => ?_) (fun σ H' hP => ?_)⟩
    · obtain ⟨x, y, y4, rfl, rfl, I⟩ := hP
      refine ⟨_, rfl, rfl, _, rfl, ite2 (fun c => ?_) (fun c => ?_)⟩
      · have c' : (y : Int) = 0 := V.int.inj (of_decide_eq_true c)
        have y0 : y = 0 := by omega
        subst y0
        refine ⟨_, rfl, ?_⟩
        rw [eu_b I]
        exact q
      · have y0 : 0 < y := Nat.pos_of_ne_zero fun z => c (decide_eq_true (by rw [z]; rfl))
        refine ⟨_, rfl, _, rfl, .inl ⟨_, rfl, _, rfl, x, y, rfl, rfl, (show (0 : Int) < y by omega), _, _, rfl, ?_⟩⟩
        exact ⟨y, x % y, _, rfl, rfl, eu_s I y0⟩
    · obtain ⟨x, y, y4, rfl, rfl, I⟩ := hP
      refine ⟨_, rfl, ?_⟩
      rw [eu_e I (by decide)]
      exact q
theorem ok_law_lowest (T : Txt K mg) : FnOk P w K mg base CX0 2 T.f_law_lowest T.d_law_lowest ["_law_top", "_law_bottom"] sp_law_lowest := by
  refine T.F_law_lowest.ok sc_law_lowest (fun vs H Q E h => ?_) (fun cdv A outer s H vs Q E hr h => ?_)
  · obtain ⟨t, b, rfl, _⟩ := h
    rfl
  · obtain ⟨t, b, rfl, b0, fb, q⟩ := h
    refine ⟨_, (pss_cons (ps_set (i := 2) sc_law_lowest.nd rfl (.inl rfl) (pe_call (ok_law_divisor T) (hr.mono (by decide)) (by rfl) T.g_law_divisor T.F_law_divisor.kp T.b_law_divisor .nil pass0 (pa_cons (pv 0) (pa_cons (pv 1) pa_nil))))
      (Evl.pss_cut (ps_if (pt_cmpR op_lt (pv 1) pe_int (nomark _))
        (pss_one (ps_set (i := 2) sc_law_lowest.nd rfl (.inl rfl) (pe_op op_sub pe_int (pv 2))))
        pss_nil)
      (pss_one (ps_ret (pe_tup (pa_cons (pe_op op_fdivA (pv 0) (pv 2)) (pa_cons (pe_op op_fdivA (pv 1) (pv 2)) pa_nil))))))), ?_⟩
    refine ⟨_, rfl, _, rfl, t, b, rfl, fb, ?_⟩
    refine ⟨fun σ H' => σ = [some (.int t), some (.int b), some (.int (gS t b))] ∧ H = H', ?_, fun σ H' hM => ?_⟩
    · refine ⟨_, rfl, _, _, rfl, rfl, _, rfl, ite2 (fun c => ?_) (fun c => ?_)⟩
      · have c' : b < 0 := of_decide_eq_true c
        refine ⟨_, rfl, _, _, rfl, rfl, ?_, rfl⟩
        unfold gS
        rw [if_pos c', ← Int.zero_sub]
        rfl
      · have c' : ¬ b < 0 := fun z => c (decide_eq_true z)
        refine ⟨?_, rfl⟩
        unfold gS
        rw [if_neg c']
        rfl
    · obtain ⟨rfl, rfl⟩ := hM
      have g0 := gS_ne (t := t) b0
      have gl := fin_log (gS_fin (t := t) b0 fb) (by decide) (by decide)
      refine ⟨_, rfl, _, rfl, t, _, rfl, rfl, ⟨g0, gl⟩, _, rfl, _, rfl, b, _, rfl, rfl, ⟨g0, gl⟩, (by show 2 ≤ sizeLine; decide), fun l nl => ?_⟩
      exact q l _ (same_new nl) (fr_dq (q := low t b) upd_same)
theorem ok_law_prime (T : Txt K mg) : FnOk P w K mg base CX0 1 T.f_law_prime T.d_law_prime ["_law_number_here"] sp_law_prime := by
  refine T.F_law_prime.ok sc_law_prime (fun vs H Q E h => ?_) (fun cdv A outer s H vs Q E hr h => ?_)
  · obtain ⟨z, rfl, _⟩ := h
    rfl
  · obtain ⟨z, rfl, zb, q⟩ := h
    refine ⟨_, (pss_cons (ps_if (pt_cmpR op_lt (pv 0) pe_int (nomark _))
        (pss_one (ps_ret pe_bl))
        pss_nil)
      (pss_cons (ps_for PassesOwn.never rfl (pi_range2 (by rfl) T.m_range (pa_cons pe_int (pa_cons pe_int pa_nil))) (pg_name (i := 1) sc_law_prime.nd rfl (.inl rfl))
        (pss_cons (ps_if (pt_cmpR op_gt (pe_op op_mul (pv 1) (pv 1)) (pv 0) (nomark _))
          (pss_one (ps_ret pe_bl))
          pss_nil)
        (pss_one (ps_if (pt_cmpR op_eq (pe_op op_mod (pe_callTy call_int1 (by rfl) T.m_int (by decide +kernel) (pa_cons (pv 0) pa_nil)) (pv 1)) pe_int (nomark _))
          (pss_one (ps_ret pe_bl))
          pss_nil))))
      (pss_one (ps_ret pe_bl)))), ?_⟩
    refine ⟨_, rfl, z, 2, rfl, rfl, _, rfl, ite2 (fun c => ?_) (fun c => ?_)⟩
    · have c' : z < 2 := of_decide_eq_true c
      refine q false ⟨fun h => (nomatch h), fun ⟨p, e, pr⟩ => ?_⟩
      have := pr.1
      omega
    · have c' : ¬ z < 2 := fun y => c (decide_eq_true y)
      obtain ⟨n, rfl⟩ : ∃ n : Nat, z = (n : Int) := ⟨z.toNat, by omega⟩
      have n2 : 2 ≤ n := by omega
      refine ⟨2, 200, rfl, ⟨by decide, by decide, by decide, by decide⟩, for_range (lo := 2) (n := 198) (fun i σ H' => ∃ (y1 : Option V), σ = [some (.int (n : Int)), y1] ∧ H = H' ∧ ∀ e, 2 ≤ e → e < 2 + i → ¬ e ∣ n) ⟨none, rfl, rfl, fun e e2 ed => by omega⟩ (fun i σ H' hi hP => ?_) (fun σ H' hP => ?_)⟩
      · obtain ⟨y1, rfl, rfl, no⟩ := hP
        have ed : (2 : Int) + (i : Int) = ((2 + i : Nat) : Int) := by omega
        have sq : ((2 + i : Nat) : Int) * ((2 + i : Nat) : Int) = (((2 + i) * (2 + i) : Nat) : Int) := by rw [Int.natCast_mul]
        rw [ed]
        refine ⟨_, rfl, _, rfl, _, _, rfl, rfl, .inl ⟨by omega, by omega⟩, _, rfl, _, _, rfl, rfl, _, rfl, ite2 (fun c1 => ?_) (fun c1 => ?_)⟩
        · have c2 := of_decide_eq_true c1
          rw [sq] at c2
          have pr : Pr n := (LF.self).mp (lf_big n2 (by omega) no)
          exact q true ⟨fun _ => ⟨n, rfl, pr⟩, fun _ => rfl⟩
        · have c2 : ¬ (n : Int) < ((2 + i : Nat) : Int) * ((2 + i : Nat) : Int) := fun y => c1 (decide_eq_true y)
          rw [sq] at c2
          have c3 : (2 + i) * (2 + i) ≤ n := by omega
          have ln : 2 + i < n := by
            have h2 : 2 * (2 + i) ≤ (2 + i) * (2 + i) := Nat.mul_le_mul_right _ (by omega)
            omega
          refine ⟨_, rfl, .inl ⟨_, rfl, _, rfl, n, _, rfl, rfl, (show (0 : Int) < ((2 + i : Nat) : Int) by omega), rfl, _, rfl, ite2 (fun d => ?_) (fun d => ?_)⟩⟩
          · have d' : (n : Int) % ((2 + i : Nat) : Int) = 0 := V.int.inj (of_decide_eq_true d)
            have d2 : n % (2 + i) = 0 := by omega
            refine q false ⟨fun h => (nomatch h), fun ⟨p, e, pr⟩ => ?_⟩
            have : p = n := by omega
            subst this
            exact absurd (Nat.dvd_of_mod_eq_zero d2) (pr.2 _ (by omega) ln)
          · refine ⟨_, rfl, rfl, fun e e2 ef hd => ?_⟩
            rcases Nat.lt_or_ge e (2 + i) with l | l
            · exact no e e2 l hd
            · have : e = 2 + i := by omega
              subst this
              refine d (decide_eq_true (congrArg V.int ?_))
              have := Nat.mod_eq_zero_of_dvd hd
              omega
      · obtain ⟨y1, rfl, rfl, no⟩ := hP
        have pr : Pr n := (LF.self).mp (lf_big (d := 200) n2 (by omega) no)
        exact q true ⟨fun _ => ⟨n, rfl, pr⟩, fun _ => rfl⟩
theorem ok_law_next_prime (T : Txt K mg) : FnOk P w K mg base CX0 2 T.f_law_next_prime T.d_law_next_prime ["_law_number_here"] sp_law_next_prime := by
  refine T.F_law_next_prime.ok sc_law_next_prime (fun vs H Q E h => ?_) (fun cdv A outer s H vs Q E hr h => ?_)
  · obtain ⟨n, rfl, _⟩ := h
    rfl
  · obtain ⟨n, rfl, n2, nb, q⟩ := h
    refine ⟨_, (pss_cons (ps_for PassesOwn.never rfl (pi_range2 (by rfl) T.m_range (pa_cons (pv 0) (pa_cons pe_int pa_nil))) (pg_name (i := 1) sc_law_next_prime.nd rfl (.inl rfl))
        (pss_one (ps_if (pt_val (pe_call (ok_law_prime T) (hr.mono (by decide)) (by rfl) T.g_law_prime T.F_law_prime.kp T.b_law_prime .nil pass0 (pa_cons (pv 1) pa_nil)))
          (pss_one (ps_ret (pv 1)))
          pss_nil)))
      (pss_one (ps_ret pe_int))), ?_⟩
    refine ⟨_, rfl, (n : Int), 20012, rfl, ⟨by omega, by omega, by omega, by omega⟩, for_range (lo := (n : Int)) (n := ((20012 : Int) - (n : Int)).toNat) (fun i σ H' => ∃ (y1 : Option V), σ = [some (.int (n : Int)), y1] ∧ H = H' ∧ n + i ≤ 19997) ⟨none, rfl, rfl, by omega⟩ (fun i σ H' hi hP => ?_) (fun σ H' hP => ?_)⟩
    · obtain ⟨y1, rfl, rfl, le⟩ := hP
      have ed : (n : Int) + (i : Int) = ((n + i : Nat) : Int) := by omega
      rw [ed]
      refine ⟨_, rfl, _, rfl, by omega, fun r hr' => ?_⟩
      cases r with
      | true =>
        obtain ⟨p, e, pr⟩ := hr'.mp rfl
        have : n + i = p := by omega
        subst this
        exact ⟨_, rfl, iteT ⟨_, rfl, q _ pr le⟩⟩
      | false =>
        refine ⟨_, rfl, iteF ⟨_, rfl, rfl, ?_⟩⟩
        refine Classical.byContradiction fun z => ?_
        have : n + i = 19997 := by omega
        have y := hr'.mpr ⟨19997, by omega, pr_19997⟩
        cases y
    · obtain ⟨y1, rfl, rfl, le⟩ := hP
      exact q 2 (pr_small (by decide +kernel) (by decide) (by decide)) (by decide)
theorem ok_law_field (T : Txt K mg) : FnOk P w K mg base CX0 3 T.f_law_field T.d_law_field ["_law_hand_here"] sp_law_field := by
  refine T.F_law_field.ok sc_law_field (fun vs H Q E h => ?_) (fun cdv A outer s H vs Q E hr h => ?_)
  · obtain ⟨h, rfl, _⟩ := h
    rfl
  · obtain ⟨h, rfl, hd, q⟩ := h
    refine ⟨_, (pss_cons (ps_set (i := 1) sc_law_field.nd rfl (.inl rfl) (pe_call (ok_law_draw T) (hr.mono (by decide)) (by rfl) T.g_law_draw T.F_law_draw.kp T.b_law_draw .nil pass0 (pa_cons (pv 0) (pa_cons pe_int pa_nil))))
      (pss_cons (ps_if (pt_cmpR op_lt (pv 1) pe_int (nomark _))
        (pss_one (ps_ret (pe_ix ix_tup (pe_tup (pa_cons pe_int (pa_cons pe_int (pa_cons pe_int (pa_cons pe_int (pa_cons pe_int (pa_cons pe_int pa_nil))))))) (pv 1) (fun _ _ => rfl))))
        pss_nil)
      (pss_cons (ps_if (pt_cmpR op_lt (pv 1) pe_int (nomark _))
        (pss_one (ps_ret (pe_call (ok_law_next_prime T) (hr.mono (by decide)) (by rfl) T.g_law_next_prime T.F_law_next_prime.kp T.b_law_next_prime .nil pass0 (pa_cons (pe_op op_add pe_int (pe_call (ok_law_draw T) (hr.mono (by decide)) (by rfl) T.g_law_draw T.F_law_draw.kp T.b_law_draw .nil pass0 (pa_cons (pv 0) (pa_cons pe_int pa_nil)))) pa_nil))))
        pss_nil)
      (pss_one (ps_ret pe_int))))), ?_⟩
    refine ⟨_, rfl, h, 12, rfl, hd, by decide, by decide, fun H1 r k1 h1 r0 r1 => ?_⟩
    refine ⟨_, rfl, r, 6, rfl, rfl, _, rfl, ite2 (fun c => ?_) (fun c => ?_)⟩
    · have c' : r < 6 := of_decide_eq_true c
      refine ⟨(by show 6 ≤ sizeLine; decide), fun l nl => ?_⟩
      have fin : ∀ p : Nat, Pr p → p ≤ 20000 → Q (.int (p : Int)) (upd H1 l (.tup [.int 2, .int 3, .int 5, .int 7, .int 11, .int 13])) := fun p pr le => q p _ (k1.trans (Keep.of (same_new nl))) (Hand.same (same_new nl) h1) (.inr ⟨pr, le⟩)
      have cases6 : r = 0 ∨ r = 1 ∨ r = 2 ∨ r = 3 ∨ r = 4 ∨ r = 5 := by omega
      rcases cases6 with rfl | rfl | rfl | rfl | rfl | rfl
      · exact ⟨_, rfl, l, _, 0, _, rfl, rfl, SqT.of upd_same, at_of (j := 0) rfl rfl, fin 2 (pr_small (by decide +kernel) (by decide) (by decide)) (by decide)⟩
      · exact ⟨_, rfl, l, _, 1, _, rfl, rfl, SqT.of upd_same, at_of (j := 1) rfl rfl, fin 3 (pr_small (by decide +kernel) (by decide) (by decide)) (by decide)⟩
      · exact ⟨_, rfl, l, _, 2, _, rfl, rfl, SqT.of upd_same, at_of (j := 2) rfl rfl, fin 5 (pr_small (by decide +kernel) (by decide) (by decide)) (by decide)⟩
      · exact ⟨_, rfl, l, _, 3, _, rfl, rfl, SqT.of upd_same, at_of (j := 3) rfl rfl, fin 7 (pr_small (by decide +kernel) (by decide) (by decide)) (by decide)⟩
      · exact ⟨_, rfl, l, _, 4, _, rfl, rfl, SqT.of upd_same, at_of (j := 4) rfl rfl, fin 11 (pr_small (by decide +kernel) (by decide) (by decide)) (by decide)⟩
      · exact ⟨_, rfl, l, _, 5, _, rfl, rfl, SqT.of upd_same, at_of (j := 5) rfl rfl, fin 13 (pr_small (by decide +kernel) (by decide) (by decide)) (by decide)⟩
    · refine ⟨_, rfl, r, 9, rfl, rfl, _, rfl, ite2 (fun c => ?_) (fun c => ?_)⟩
      · refine ⟨_, rfl, h, 19996, rfl, h1, by decide, by decide, fun H2 r' k2 h2 r0' r1' => ?_⟩
        obtain ⟨n, rfl⟩ : ∃ n : Nat, r' = (n : Int) := ⟨r'.toNat, by omega⟩
        have e : (2 : Int) + (n : Int) = ((2 + n : Nat) : Int) := by omega
        refine ⟨_, _, rfl, rfl, 2 + n, ?_, by omega, by omega, fun p pr le => q p _ (k1.trans k2) h2 (.inr ⟨pr, by omega⟩)⟩
        show [V.int ((2 : Int) + (n : Int))] = [V.int ((2 + n : Nat) : Int)]
        rw [e]
      · exact q 0 _ k1 h1 (.inl rfl)
theorem ok_law_made_field (T : Txt K mg) : FnOk P w K mg base CX0 5 T.f_law_made_field T.d_law_made_field ["_law_prime_here"] (sp_law_made_field T.C_RestField T.C_FractionField) := by
  refine T.F_law_made_field.ok sc_law_made_field (fun vs H Q E h => ?_) (fun cdv A outer s H vs Q E hr h => ?_)
  · obtain ⟨p, rfl, _⟩ := h
    rfl
  · obtain ⟨p, rfl, fp, q⟩ := h
    refine ⟨_, (pss_cons (ps_if (pt_cmpR op_eq (pv 0) pe_int (nomark _))
        (pss_one (ps_ret (pe_make0 T.M_FractionField (ok_FractionField_init T) (hr.mono (by decide)) (by rfl) T.g_FractionField T.b_FractionField_init .nil pass0)))
        pss_nil)
      (pss_one (ps_ret (pe_make T.M_RestField (ok_RestField_init T) (hr.mono (by decide)) (by rfl) T.g_RestField T.b_RestField_init .nil passL (pa_cons (pv 0) pa_nil))))), ?_⟩
    refine ⟨_, rfl, rfl, _, rfl, ite2 (fun c => ?_) (fun c => ?_)⟩
    · have c' : (p : Int) = 0 := V.int.inj (of_decide_eq_true c)
      have p0 : p = 0 := by omega
      subst p0
      exact mk_frac fun H' y s n f => q y H' s ⟨.inl rfl, fun _ => f, fun z => absurd rfl z⟩
    · have p0 : p ≠ 0 := fun z => c (decide_eq_true (by rw [z]; rfl))
      obtain ⟨pr, le⟩ : Pr p ∧ p ≤ 20000 := fp.resolve_left p0
      refine ⟨_, rfl, mk_rest (.int _) (fun e => ?_) fun p' e pr' le' H' y s n f => ?_⟩
      · rw [prime_is pr le] at e
        cases e
      · have : p = p' := by
          have := PyData.int.inj e
          omega
        subst this
        exact q y H' s ⟨fp, fun z => absurd z p0, fun _ => f⟩
theorem ok_law_one (T : Txt K mg) : FnOk P w K mg base CX0 1 T.f_law_one T.d_law_one ["_law_prime_here"] (sp_law_const oneD) := by
  refine T.F_law_one.ok sc_law_one (fun vs H Q E h => ?_) (fun cdv A outer s H vs Q E hr h => ?_)
  · obtain ⟨p, rfl, _⟩ := h
    rfl
  · obtain ⟨p, rfl, q⟩ := h
    refine ⟨_, (pss_one (ps_ret (pe_ifExp (pt_cmpR op_eq (pv 0) pe_int (nomark _)) (pe_tup (pa_cons pe_int (pa_cons pe_int pa_nil))) pe_int))), ?_⟩
    unfold oneD at q
    refine ⟨_, rfl, rfl, _, rfl, ite2 (fun c => ?_) (fun c => ?_)⟩
    · have c' : (p : Int) = 0 := V.int.inj (of_decide_eq_true c)
      rw [if_pos (by omega)] at q
      exact ⟨(by show 2 ≤ sizeLine; decide), fun l nl => q _ _ (same_new nl) (fr_dq (q := (1, 1)) upd_same)⟩
    · rw [if_neg (fun z => c (decide_eq_true (by rw [z]; rfl)))] at q
      exact q _ _ (fun _ _ z => z) (.int _)
theorem ok_law_minus (T : Txt K mg) : FnOk P w K mg base CX0 1 T.f_law_minus T.d_law_minus ["_law_prime_here"] (sp_law_const minusD) := by
  refine T.F_law_minus.ok sc_law_minus (fun vs H Q E h => ?_) (fun cdv A outer s H vs Q E hr h => ?_)
  · obtain ⟨p, rfl, _⟩ := h
    rfl
  · obtain ⟨p, rfl, q⟩ := h
    refine ⟨_, (pss_one (ps_ret (pe_ifExp (pt_cmpR op_eq (pv 0) pe_int (nomark _)) (pe_tup (pa_cons (pe_op op_sub pe_int pe_int) (pa_cons pe_int pa_nil))) (pe_op op_sub (pv 0) pe_int)))), ?_⟩
    unfold minusD at q
    refine ⟨_, rfl, rfl, _, rfl, ite2 (fun c => ?_) (fun c => ?_)⟩
    · have c' : (p : Int) = 0 := V.int.inj (of_decide_eq_true c)
      rw [if_pos (by omega)] at q
      exact ⟨0, 1, rfl, rfl, (by show 2 ≤ sizeLine; decide), fun l nl => q _ _ (same_new nl) (fr_dq (q := (-1, 1)) upd_same)⟩
    · rw [if_neg (fun z => c (decide_eq_true (by rw [z]; rfl)))] at q
      exact ⟨_, rfl, _, _, rfl, rfl, q _ _ (fun _ _ z => z) (.int _)⟩
end
end K04
set_option Elab.async false
set_option linter.all false
set_option maxRecDepth 100000
set_option maxHeartbeats 4000000
set_option exponentiation.threshold 5000
namespace K04
open PySem PySem.Spec PyProof.Rows L2 TkS
theorem low_szA {t b u v : Int} (hb : b ≠ 0) (g : Int.gcd u v = 1) (e : t * v = u * b) (v0 : 0 < v) : u.natAbs ≤ t.natAbs ∧ v.natAbs ≤ b.natAbs := by
  have en : t.natAbs * v.natAbs = u.natAbs * b.natAbs := by rw [← Int.natAbs_mul, ← Int.natAbs_mul, e]
  have g' : Nat.gcd u.natAbs v.natAbs = 1 := g
  constructor
  · rcases Nat.eq_zero_or_pos t.natAbs with z | z
    · rw [z, Nat.zero_mul] at en
      rcases Nat.mul_eq_zero.mp en.symm with h | h <;> omega
    · exact Nat.le_of_dvd z (Nat.Coprime.dvd_of_dvd_mul_right g' ⟨b.natAbs, en⟩)
  · exact Nat.le_of_dvd (by omega) (Nat.Coprime.dvd_of_dvd_mul_left (show Nat.gcd v.natAbs u.natAbs = 1 by rw [Nat.gcd_comm]; exact g') ⟨t.natAbs, by rw [← en, Nat.mul_comm]⟩)
theorem low_fin {t b : Int} {m n : Nat} (hb : b ≠ 0) (ht : Fin m t) (hn : Fin n b) : Fin m (low t b).1 ∧ Fin n (low t b).2 := by
  obtain ⟨l1, l2⟩ := low_ok (t := t) hb
  obtain ⟨h1, h2⟩ := low_szA hb l1.2 l2 l1.1
  exact ⟨Nat.lt_of_le_of_lt h1 ht, Nat.lt_of_le_of_lt h2 hn⟩
/-! numbers of a field, as data -/
inductive Nb : Nat → Nat → PyData → Prop
  | fr {k : Nat} {q : Int × Int} : Lowest q → Fin k q.1 → Fin k q.2 → Nb 0 k (frD q)
  | rs {p k x : Nat} : p ≠ 0 → x < p → Nb p k (.int (x : Int))
theorem Nb.up {p k m : Nat} {d : PyData} (h : Nb p k d) (l : k ≤ m) : Nb p m d := by
  cases h with
  | fr a b c => exact .fr a (fin_up b l) (fin_up c l)
  | rs a b => exact .rs a b
def zeroD (p : Nat) : PyData := if p = 0 then frD (0, 1) else .int 0
def frOf : PyData → Int × Int
  | .tuple [.int a, .int b] => (a, b)
  | _ => (0, 1)
def intOf : PyData → Int
  | .int a => a
  | _ => 0
def timesD (p : Nat) (a b : PyData) : PyData := if p = 0 then frD (timesF (frOf a) (frOf b)) else .int (intOf a * intOf b % (p : Int))
def plusD (p : Nat) (a b : PyData) : PyData := if p = 0 then frD (plusF (frOf a) (frOf b)) else .int ((intOf a + intOf b) % (p : Int))
def lessD (p : Nat) (a b : PyData) : PyData := if p = 0 then frD (lessF (frOf a) (frOf b)) else .int ((intOf a - intOf b) % (p : Int))
def sp_law_op (f : Nat → PyData → PyData → PyData) : Sp := fun vs H Q _ => ∃ (p : Nat) (x y : V) (a b : PyData), vs = [.int (p : Int), x, y] ∧ Dq H x a ∧ Dq H y b ∧ Nb p 2000 a ∧ Nb p 2000 b ∧ p ≤ 20000 ∧ ∀ v H', Same H H' → Dq H' v (f p a b) → Q v H'
theorem low_b {b : Int} (h : 0 < b) : b ≠ 0 := by omega
theorem mul_ne {x y : Int} (hx : 0 < x) (hy : 0 < y) : x * y ≠ 0 := fun z => by
  rcases Int.mul_eq_zero.mp z with h | h <;> omega
theorem med_lt {x p : Nat} (h : x < p) (l : p ≤ 20000) : Fin 20 (x : Int) := by
  unfold Fin
  rw [Int.natAbs_natCast]
  exact Nat.lt_of_lt_of_le h (Nat.le_trans l (by decide))
/-- the powers of a number, as the law's squarings reckon them -/
structure Pw0 (p : Nat) (a : PyData) (E : Nat) (B : Nat → PyData) : Prop where
  z : B 0 = oneD p
  one : B 1 = a
  m : ∀ m n, m + n ≤ E → timesD p (B m) (B n) = B (m + n)
  nb : ∀ n, n ≤ E → Nb p 2000 (B n)
def sp_law_power0 : Sp := fun vs H Q _ => ∃ (p : Nat) (x : V) (a : PyData) (E : Nat) (B : Nat → PyData), vs = [.int (p : Int), x, .int (E : Int)] ∧ Dq H x a ∧ Pw0 p a E B ∧ p ≤ 20000 ∧ E < 2 ^ 200 ∧ ∀ v H', Same H H' → Dq H' v (B E) → Q v H'
def sp_law_power : Sp := fun vs H Q _ => ∃ (p : Nat) (x : V) (a a' : PyData) (e : Int) (B : Nat → PyData), vs = [.int (p : Int), x, .int e] ∧ Dq H x a ∧ Pw0 p a' e.natAbs B ∧ p ≤ 20000 ∧ e.natAbs < 2 ^ 200 ∧
  (0 ≤ e → a' = a) ∧ (e < 0 → p = 0 → ∃ q, a = frD q ∧ q.1 ≠ 0 ∧ Fin 4000 q.1 ∧ a' = frD (low q.2 q.1)) ∧ (e < 0 → p ≠ 0 → 2 ≤ p ∧ ∃ A, Pw0 p a (p - 2) A ∧ A (p - 2) = a') ∧ ∀ v H', Same H H' → Dq H' v (B e.natAbs) → Q v H'
theorem bits_lt (n : Nat) : n < 2 ^ (Builtin.Int.intBits (n : Int)) := by
  unfold Builtin.Int.intBits
  rw [Int.natAbs_natCast]
  by_cases h : n = 0
  · subst h
    decide
  · have : ((n : Int) == 0) = false := by
      rw [beq_eq_false_iff_ne]
      omega
    rw [this]
    exact Nat.lt_log2_self
theorem bits_le {n m : Nat} (h : n < 2 ^ m) : Builtin.Int.intBits (n : Int) ≤ m := by
  unfold Builtin.Int.intBits
  rw [Int.natAbs_natCast]
  by_cases c : n = 0
  · subst c
    exact Nat.zero_le _
  · have : ((n : Int) == 0) = false := by
      rw [beq_eq_false_iff_ne]
      omega
    rw [this]
    have := (Nat.log2_lt c).mpr h
    exact this
theorem nope {P : Program} {w : World} {K : PySem.W.Frag} {mg : Str → Option Value} {base : Heap} {CX : CXT} {k : Nat} {f : Addr} {fd : FuncData} {ps : List Str} : FnOk P w K mg base CX k f fd ps (fun _ _ _ _ => False) :=
  ⟨fun _ _ _ _ h => h.elim, fun _ _ _ _ _ _ _ _ _ _ _ _ _ h => h.elim⟩
section
variable {P : Program} {w : World} {K : PySem.W.Frag} {mg : Str → Option Value} {base : Heap}
theorem ok_law_times (T : Txt K mg) : FnOk P w K mg base CX0 3 T.f_law_times T.d_law_times ["_law_prime_here", "_law_a", "_law_b"] (sp_law_op timesD) := by
  refine T.F_law_times.ok sc_law_times (fun vs H Q E h => ?_) (fun cdv A outer s H vs Q E hr h => ?_)
  · obtain ⟨p, x, y, a, b, rfl, _⟩ := h
    rfl
  · obtain ⟨p, x, y, a, b, rfl, ka, kb, na, nb, le, q⟩ := h
    refine ⟨_, (pss_cons (ps_if (pt_cmpR op_eq (pv 0) pe_int (nomark _))
        (pss_one (ps_ret (pe_call (ok_law_lowest T) (hr.mono (by decide)) (by rfl) T.g_law_lowest T.F_law_lowest.kp T.b_law_lowest .nil pass0 (pa_cons (pe_op op_mulW (pe_ix ix_tup (pv 1) pe_int (fun _ _ => rfl)) (pe_ix ix_tup (pv 2) pe_int (fun _ _ => rfl))) (pa_cons (pe_op op_mulW (pe_ix ix_tup (pv 1) pe_int (fun _ _ => rfl)) (pe_ix ix_tup (pv 2) pe_int (fun _ _ => rfl))) pa_nil)))))
        pss_nil)
      (pss_one (ps_ret (pe_op op_mod (pe_callTy call_int1 (by rfl) T.m_int (by decide +kernel) (pa_cons (pe_op op_mulW (pv 1) (pv 2)) pa_nil)) (pv 0))))), ?_⟩
    unfold timesD at q
    cases na with
    | @fr k r a1 a2 a3 =>
      cases nb with
      | @fr k t b1 b2 b3 =>
        rw [if_pos rfl] at q
        obtain ⟨l1, rfl, h1⟩ := fr_at ka
        obtain ⟨l2, rfl, h2⟩ := fr_at kb
        have w1 := Fin.mulW a2 b2 (by decide) (by decide) (by decide)
        have w2 := Fin.mulW a3 b3 (by decide) (by decide) (by decide)
        refine ⟨_, rfl, rfl, _, rfl, iteT ⟨_, rfl, l1, _, 0, _, rfl, rfl, SqT.of h1, at_of (j := 0) rfl rfl, _, rfl, l2, _, 0, _, rfl, rfl, SqT.of h2, at_of (j := 0) rfl rfl, _, _, rfl, rfl, w1, _, rfl, l1, _, 1, _, rfl, rfl, SqT.of h1, at_of (j := 1) rfl rfl, _, rfl, l2, _, 1, _, rfl, rfl, SqT.of h2, at_of (j := 1) rfl rfl, _, _, rfl, rfl, w2, _, _, rfl, mul_ne a1.1 b1.1, Fin.mul a3 b3, fun l H' s k => q _ H' s k⟩⟩
      | rs n _ => exact absurd rfl n
    | @rs p k x n a1 =>
      cases nb with
      | fr _ _ _ => exact absurd rfl n
      | @rs p k y n2 b1 =>
        rw [if_neg n] at q
        cases ka
        cases kb
        refine ⟨_, rfl, rfl, _, rfl, ite2 (fun c => absurd (V.int.inj (of_decide_eq_true c)) (by omega)) (fun _ => ⟨_, rfl, _, rfl, _, _, rfl, rfl, Fin.mulW (med_lt a1 le) (med_lt b1 le) (by decide) (by decide) (by decide), .inl ⟨_, rfl, _, rfl, _, _, rfl, rfl, (show (0 : Int) < p by omega), q _ _ (fun _ _ z => z) (.int _)⟩⟩)⟩
theorem ok_law_plus (T : Txt K mg) : FnOk P w K mg base CX0 3 T.f_law_plus T.d_law_plus ["_law_prime_here", "_law_a", "_law_b"] (sp_law_op plusD) := by
  refine T.F_law_plus.ok sc_law_plus (fun vs H Q E h => ?_) (fun cdv A outer s H vs Q E hr h => ?_)
  · obtain ⟨p, x, y, a, b, rfl, _⟩ := h
    rfl
  · obtain ⟨p, x, y, a, b, rfl, ka, kb, na, nb, le, q⟩ := h
    refine ⟨_, (pss_cons (ps_if (pt_cmpR op_eq (pv 0) pe_int (nomark _))
        (pss_one (ps_ret (pe_call (ok_law_lowest T) (hr.mono (by decide)) (by rfl) T.g_law_lowest T.F_law_lowest.kp T.b_law_lowest .nil pass0 (pa_cons (pe_op op_add (pe_op op_mulW (pe_ix ix_tup (pv 1) pe_int (fun _ _ => rfl)) (pe_ix ix_tup (pv 2) pe_int (fun _ _ => rfl))) (pe_op op_mulW (pe_ix ix_tup (pv 2) pe_int (fun _ _ => rfl)) (pe_ix ix_tup (pv 1) pe_int (fun _ _ => rfl)))) (pa_cons (pe_op op_mulW (pe_ix ix_tup (pv 1) pe_int (fun _ _ => rfl)) (pe_ix ix_tup (pv 2) pe_int (fun _ _ => rfl))) pa_nil)))))
        pss_nil)
      (pss_one (ps_ret (pe_op op_mod (pe_callTy call_int1 (by rfl) T.m_int (by decide +kernel) (pa_cons (pe_op op_add (pv 1) (pv 2)) pa_nil)) (pv 0))))), ?_⟩
    unfold plusD at q
    cases na with
    | @fr k r a1 a2 a3 =>
      cases nb with
      | @fr k t b1 b2 b3 =>
        rw [if_pos rfl] at q
        obtain ⟨l1, rfl, h1⟩ := fr_at ka
        obtain ⟨l2, rfl, h2⟩ := fr_at kb
        have w1 := Fin.mulW a2 b3 (by decide) (by decide) (by decide)
        have w2 := Fin.mulW b2 a3 (by decide) (by decide) (by decide)
        have w3 := Fin.mulW a3 b3 (by decide) (by decide) (by decide)
        refine ⟨_, rfl, rfl, _, rfl, iteT ⟨_, rfl, l1, _, 0, _, rfl, rfl, SqT.of h1, at_of (j := 0) rfl rfl, _, rfl, l2, _, 1, _, rfl, rfl, SqT.of h2, at_of (j := 1) rfl rfl, _, _, rfl, rfl, w1, _, rfl, l2, _, 0, _, rfl, rfl, SqT.of h2, at_of (j := 0) rfl rfl, _, rfl, l1, _, 1, _, rfl, rfl, SqT.of h1, at_of (j := 1) rfl rfl, _, _, rfl, rfl, w2, _, _, rfl, rfl, _, rfl, l1, _, 1, _, rfl, rfl, SqT.of h1, at_of (j := 1) rfl rfl, _, rfl, l2, _, 1, _, rfl, rfl, SqT.of h2, at_of (j := 1) rfl rfl, _, _, rfl, rfl, w3, _, _, rfl, mul_ne a1.1 b1.1, Fin.mul a3 b3, fun l H' s k => q _ H' s k⟩⟩
      | rs n _ => exact absurd rfl n
    | @rs p k x n a1 =>
      cases nb with
      | fr _ _ _ => exact absurd rfl n
      | @rs p k y n2 b1 =>
        rw [if_neg n] at q
        cases ka
        cases kb
        refine ⟨_, rfl, rfl, _, rfl, ite2 (fun c => absurd (V.int.inj (of_decide_eq_true c)) (by omega)) (fun _ => ⟨_, rfl, _, rfl, _, _, rfl, rfl, .inl ⟨_, rfl, _, rfl, _, _, rfl, rfl, (show (0 : Int) < p by omega), q _ _ (fun _ _ z => z) (.int _)⟩⟩)⟩
theorem ok_law_less (T : Txt K mg) : FnOk P w K mg base CX0 3 T.f_law_less T.d_law_less ["_law_prime_here", "_law_a", "_law_b"] (sp_law_op lessD) := by
  refine T.F_law_less.ok sc_law_less (fun vs H Q E h => ?_) (fun cdv A outer s H vs Q E hr h => ?_)
  · obtain ⟨p, x, y, a, b, rfl, _⟩ := h
    rfl
  · obtain ⟨p, x, y, a, b, rfl, ka, kb, na, nb, le, q⟩ := h
    refine ⟨_, (pss_cons (ps_if (pt_cmpR op_eq (pv 0) pe_int (nomark _))
        (pss_one (ps_ret (pe_call (ok_law_lowest T) (hr.mono (by decide)) (by rfl) T.g_law_lowest T.F_law_lowest.kp T.b_law_lowest .nil pass0 (pa_cons (pe_op op_sub (pe_op op_mulW (pe_ix ix_tup (pv 1) pe_int (fun _ _ => rfl)) (pe_ix ix_tup (pv 2) pe_int (fun _ _ => rfl))) (pe_op op_mulW (pe_ix ix_tup (pv 2) pe_int (fun _ _ => rfl)) (pe_ix ix_tup (pv 1) pe_int (fun _ _ => rfl)))) (pa_cons (pe_op op_mulW (pe_ix ix_tup (pv 1) pe_int (fun _ _ => rfl)) (pe_ix ix_tup (pv 2) pe_int (fun _ _ => rfl))) pa_nil)))))
        pss_nil)
      (pss_one (ps_ret (pe_op op_mod (pe_callTy call_int1 (by rfl) T.m_int (by decide +kernel) (pa_cons (pe_op op_sub (pv 1) (pv 2)) pa_nil)) (pv 0))))), ?_⟩
    unfold lessD at q
    cases na with
    | @fr k r a1 a2 a3 =>
      cases nb with
      | @fr k t b1 b2 b3 =>
        rw [if_pos rfl] at q
        obtain ⟨l1, rfl, h1⟩ := fr_at ka
        obtain ⟨l2, rfl, h2⟩ := fr_at kb
        have w1 := Fin.mulW a2 b3 (by decide) (by decide) (by decide)
        have w2 := Fin.mulW b2 a3 (by decide) (by decide) (by decide)
        have w3 := Fin.mulW a3 b3 (by decide) (by decide) (by decide)
        refine ⟨_, rfl, rfl, _, rfl, iteT ⟨_, rfl, l1, _, 0, _, rfl, rfl, SqT.of h1, at_of (j := 0) rfl rfl, _, rfl, l2, _, 1, _, rfl, rfl, SqT.of h2, at_of (j := 1) rfl rfl, _, _, rfl, rfl, w1, _, rfl, l2, _, 0, _, rfl, rfl, SqT.of h2, at_of (j := 0) rfl rfl, _, rfl, l1, _, 1, _, rfl, rfl, SqT.of h1, at_of (j := 1) rfl rfl, _, _, rfl, rfl, w2, _, _, rfl, rfl, _, rfl, l1, _, 1, _, rfl, rfl, SqT.of h1, at_of (j := 1) rfl rfl, _, rfl, l2, _, 1, _, rfl, rfl, SqT.of h2, at_of (j := 1) rfl rfl, _, _, rfl, rfl, w3, _, _, rfl, mul_ne a1.1 b1.1, Fin.mul a3 b3, fun l H' s k => q _ H' s k⟩⟩
      | rs n _ => exact absurd rfl n
    | @rs p k x n a1 =>
      cases nb with
      | fr _ _ _ => exact absurd rfl n
      | @rs p k y n2 b1 =>
        rw [if_neg n] at q
        cases ka
        cases kb
        refine ⟨_, rfl, rfl, _, rfl, ite2 (fun c => absurd (V.int.inj (of_decide_eq_true c)) (by omega)) (fun _ => ⟨_, rfl, _, rfl, _, _, rfl, rfl, .inl ⟨_, rfl, _, rfl, _, _, rfl, rfl, (show (0 : Int) < p by omega), q _ _ (fun _ _ z => z) (.int _)⟩⟩)⟩
/-- the law's power, over any promise of its call of itself -/
theorem ok_law_power_of (T : Txt K mg) {k : Nat} {spR : Sp} {bad : Int → Nat → Prop} (k4 : 3 ≤ k) (F : FnOk P w K mg base CX0 k T.f_law_power T.d_law_power ["_law_prime_here", "_law_a", "_law_exponent_here"] spR)
    (hR : ∀ (p : Nat) (e : Int) (x : V) (a : PyData) (A : Nat → PyData) (H : Hp) (Q : VK) (E : XK), ¬ bad e p → e < 0 → 2 ≤ p → p ≤ 20000 → Dq H x a → Pw0 p a (p - 2) A → (∀ v H', Same H H' → Dq H' v (A (p - 2)) → Q v H') → spR [.int (p : Int), x, .int ((p : Int) - 2)] H Q E) :
    FnOk P w K mg base CX0 (k + 1) T.f_law_power T.d_law_power ["_law_prime_here", "_law_a", "_law_exponent_here"] (fun vs H Q E => sp_law_power vs H Q E ∧ ∀ (p : Nat) (x : V) (e : Int), vs = [.int (p : Int), x, .int e] → ¬ bad e p) := by
  refine T.F_law_power.ok sc_law_power (fun vs H Q E h => ?_) (fun cdv A outer s H vs Q E hr h => ?_)
  · obtain ⟨⟨p, x, a, a', e, B, rfl, _⟩, _⟩ := h
    rfl
  · obtain ⟨⟨p, x, a, a', e, B, rfl, ka, pw, le, eb, g0, g1, g2, q⟩, nb⟩ := h
    have nbad := nb p x e rfl
    refine ⟨_, (pss_cons (ps_set (i := 3) sc_law_power.nd rfl (.inl rfl) (pv 1))
      (pss_cons (ps_set (i := 4) sc_law_power.nd rfl (.inl rfl) (pe_callB call_abs (by rfl) T.m_abs (by decide +kernel) (pa_cons (pv 2) pa_nil)))
      (Evl.pss_cut (ps_if (PW.pt (pw_and (pt_cmpR op_eq (pv 0) pe_int (nomark _)) (pw_and1 (pt_cmpR op_lt (pv 2) pe_int (nomark _)))))
        (pss_one (ps_set (i := 3) sc_law_power.nd rfl (.inl rfl) (pe_call (ok_law_lowest T) (hr.mono (by omega)) (by rfl) T.g_law_lowest T.F_law_lowest.kp T.b_law_lowest .nil pass0 (pa_cons (pe_ix ix_tup (pv 1) pe_int (fun _ _ => rfl)) (pa_cons (pe_ix ix_tup (pv 1) pe_int (fun _ _ => rfl)) pa_nil)))))
        pss_nil)
      (Evl.pss_cut (ps_if (PW.pt (pw_and (pt_cmpR op_gt (pv 0) pe_int (nomark _)) (pw_and1 (pt_cmpR op_lt (pv 2) pe_int (nomark _)))))
        (pss_one (ps_set (i := 3) sc_law_power.nd rfl (.inl rfl) (pe_call F hr (by rfl) T.g_law_power T.F_law_power.kp T.b_law_power .nil pass0 (pa_cons (pv 0) (pa_cons (pv 1) (pa_cons (pe_op op_sub (pv 0) pe_int) pa_nil))))))
        pss_nil)
      (pss_cons (ps_set (i := 5) sc_law_power.nd rfl (.inl rfl) (pe_call (ok_law_one T) (hr.mono (by omega)) (by rfl) T.g_law_one T.F_law_one.kp T.b_law_one .nil pass0 (pa_cons (pv 0) pa_nil)))
      (pss_cons (ps_for PassesOwn.never rfl (pi_range1 (by rfl) T.m_range (pa_cons (pe_bits (pv 4)) pa_nil)) (pg_name (i := 6) sc_law_power.nd rfl (.inl rfl))
        (Evl.pss_cut (ps_if (pt_cmpR op_eq (pe_op op_mod (pe_callTy call_int1 (by rfl) T.m_int (by decide +kernel) (pa_cons (pv 4) pa_nil)) pe_int) pe_int (nomark _))
          (pss_one (ps_set (i := 5) sc_law_power.nd rfl (.inl rfl) (pe_call (ok_law_times T) (hr.mono (by omega)) (by rfl) T.g_law_times T.F_law_times.kp T.b_law_times .nil pass0 (pa_cons (pv 0) (pa_cons (pv 5) (pa_cons (pv 3) pa_nil))))))
          pss_nil)
        (pss_cons (ps_set (i := 4) sc_law_power.nd rfl (.inl rfl) (pe_op op_fdiv (pv 4) pe_int))
        (pss_one (ps_if (pt_cmpR op_gt (pv 4) pe_int (nomark _))
          (pss_one (ps_set (i := 3) sc_law_power.nd rfl (.inl rfl) (pe_call (ok_law_times T) (hr.mono (by omega)) (by rfl) T.g_law_times T.F_law_times.kp T.b_law_times .nil pass0 (pa_cons (pv 0) (pa_cons (pv 3) (pa_cons (pv 3) pa_nil))))))
          pss_nil)))))
      (pss_one (ps_ret (pv 5))))))))), ?_⟩
    refine ⟨x, rfl, _, rfl, e, rfl, ?_⟩
    dsimp only
    rw [abs_nat]
    refine ⟨fun σ H' => ∃ v3, σ = [some (.int (p : Int)), some x, some (.int e), some v3, some (.int (e.natAbs : Int)), none, none] ∧ Same H H' ∧ (p = 0 → Dq H' v3 a') ∧ (p ≠ 0 → v3 = x), ?_, fun σ H' hM => ?_⟩
    · refine ⟨_, rfl, rfl, _, rfl, ite2 (fun c1 => ?_) (fun c1 => ?_)⟩
      · have p0 : p = 0 := by
          have := V.int.inj (of_decide_eq_true c1)
          omega
        refine ⟨_, rfl, e, 0, rfl, rfl, _, rfl, ite2 (fun c2 => ?_) (fun c2 => ?_)⟩
        · have e0 : e < 0 := of_decide_eq_true c2
          obtain ⟨r, rfl, r0, rf, rfl⟩ := g1 e0 p0
          obtain ⟨l, rfl, h1⟩ := fr_at ka
          refine ⟨_, rfl, l, _, 1, _, rfl, rfl, SqT.of h1, at_of (j := 1) rfl rfl, _, rfl, l, _, 0, _, rfl, rfl, SqT.of h1, at_of (j := 0) rfl rfl, _, _, rfl, r0, rf, fun l2 H2 s2 k2 => ⟨_, rfl, s2, fun _ => k2, fun z => absurd p0 z⟩⟩
        · have e0 : 0 ≤ e := Int.not_lt.mp fun z => c2 (decide_eq_true z)
          exact ⟨x, rfl, fun _ _ z => z, fun _ => by rw [g0 e0]; exact ka, fun _ => rfl⟩
      · have p0 : p ≠ 0 := fun z => c1 (decide_eq_true (by rw [z]; rfl))
        exact ⟨x, rfl, fun _ _ z => z, fun z => absurd z p0, fun _ => rfl⟩
    · obtain ⟨v3, rfl, s1, m0, m1⟩ := hM
      refine ⟨fun σ H' => ∃ v3, σ = [some (.int (p : Int)), some x, some (.int e), some v3, some (.int (e.natAbs : Int)), none, none] ∧ Same H H' ∧ Dq H' v3 a', ?_, fun σ H' hM => ?_⟩
      · refine ⟨_, rfl, (p : Int), 0, rfl, rfl, _, rfl, ite2 (fun c1 => ?_) (fun c1 => ?_)⟩
        · have p1 : (0 : Int) < (p : Int) := of_decide_eq_true c1
          have p0 : p ≠ 0 := by omega
          obtain rfl := m1 p0
          refine ⟨_, rfl, e, 0, rfl, rfl, _, rfl, ite2 (fun c2 => ?_) (fun c2 => ?_)⟩
          · have e0 : e < 0 := of_decide_eq_true c2
            obtain ⟨p2, A, pA, eA⟩ := g2 e0 p0
            refine ⟨_, rfl, _, rfl, _, rfl, (p : Int), 2, rfl, rfl, hR p e v3 a A _ _ _ nbad e0 p2 le (ka.same s1) pA fun v H2 s2 k2 => ⟨v, rfl, s1.trans s2, ?_⟩⟩
            rw [← eA]
            exact k2
          · have e0 : 0 ≤ e := Int.not_lt.mp fun z => c2 (decide_eq_true z)
            exact ⟨v3, rfl, s1, by rw [g0 e0]; exact ka.same s1⟩
        · have p0 : p = 0 := by
            have : ¬ (0 : Int) < (p : Int) := fun z => c1 (decide_eq_true z)
            omega
          exact ⟨v3, rfl, s1, m0 p0⟩
      · obtain ⟨v3, rfl, s1, k3⟩ := hM
        generalize e.natAbs = E at *
        have hn := bits_lt E
        have hnb := bits_le eb
        refine ⟨_, rfl, p, rfl, fun v5 H1 s2 k5 => ?_⟩
        have n0 : ((Builtin.Int.intBits (E : Int) : Nat) : Int).toNat = Builtin.Int.intBits (E : Int) := Int.toNat_natCast _
        refine ⟨_, rfl, (E : Int), rfl, ?_⟩
        generalize Builtin.Int.intBits (E : Int) = n at hn hnb n0 ⊢
        refine ⟨(n : Int), rfl, by omega, by omega, ?_⟩
        rw [n0]
        refine for_range (lo := 0) (n := n) (fun i σ H' => ∃ (v3 v5 : V) (o b l : Nat) (y6 : Option V), σ = [some (.int (p : Int)), some x, some (.int e), some v3, some (.int (l : Int)), some v5, y6] ∧ Same H H' ∧ Dq H' v5 (B o) ∧ Dq H' v3 (B b) ∧ o + b * l = E ∧ l < 2 ^ (n - i))
          ⟨v3, v5, 0, 1, E, none, rfl, s1.trans s2, by rw [pw.z]; exact k5, by rw [pw.one]; exact k3.same s2, by omega, hn⟩ (fun i σ H2 hi hP => ?_) (fun σ H2 hP => ?_)
        · obtain ⟨v3, v5, o, b, l, y6, rfl, s3, k5, k3, hs, hl⟩ := hP
          refine ⟨fun σ H' => ∃ (v5 : V) (o : Nat), σ = [some (.int (p : Int)), some x, some (.int e), some v3, some (.int (l : Int)), some v5, some (.int (0 + (i : Int)))] ∧ Same H H' ∧ Dq H' v5 (B o) ∧ Dq H' v3 (B b) ∧ o + b * (2 * (l / 2)) = E, ?_, fun σ H' hM => ?_⟩
          · refine ⟨_, rfl, .inl ⟨_, rfl, (l : Int), 2, rfl, rfl, (show (0 : Int) < 2 by decide), rfl, _, rfl, ite2 (fun c => ?_) (fun c => ?_)⟩⟩
            · have c' : (l : Int) % 2 = 1 := V.int.inj (of_decide_eq_true c)
              have dm : l = 2 * (l / 2) + 1 := by omega
              have e1 : b * l = b * (2 * (l / 2)) + b := by
                conv => lhs; rw [dm]
                rw [Nat.mul_add, Nat.mul_one]
              have h1 : o + b ≤ E := by omega
              refine ⟨_, rfl, _, rfl, _, rfl, p, v5, v3, B o, B b, rfl, k5, k3, pw.nb o (by omega), pw.nb b (by omega), le, fun v H' s k => ⟨v, o + b, rfl, s3.trans s, ?_, k3.same s, by omega⟩⟩
              rw [← pw.m o b h1]
              exact k
            · have c' : ¬ (l : Int) % 2 = 1 := fun z => c (decide_eq_true (congrArg V.int z))
              exact ⟨v5, o, rfl, s3, k5, k3, by rw [show 2 * (l / 2) = l by omega]; exact hs⟩
          · obtain ⟨v5, o, rfl, s4, k5, k3, hs⟩ := hM
            have pe : 2 ^ (n - i) = 2 * 2 ^ (n - (i + 1)) := by
              rw [← Nat.pow_succ', show n - i = (n - (i + 1)).succ by omega]
            have hl2 : l / 2 < 2 ^ (n - (i + 1)) := by omega
            refine ⟨_, rfl, (l : Int), 2, rfl, rfl, ⟨by decide, by decide⟩, _, rfl, (l : Int) / 2, 0, rfl, rfl, _, rfl, ite2 (fun c => ?_) (fun c => ?_)⟩
            · have c' : (0 : Int) < (l : Int) / 2 := of_decide_eq_true c
              have l2 : 1 ≤ l / 2 := by omega
              have h2 : b * 2 ≤ b * (2 * (l / 2)) := Nat.mul_le_mul_left b (by omega)
              refine ⟨_, rfl, _, rfl, _, rfl, p, v3, v3, B b, B b, rfl, k3, k3, pw.nb b (by omega), pw.nb b (by omega), le, fun v H' s k => ⟨v, v5, o, b + b, l / 2, _, rfl, s4.trans s, k5.same s, ?_, ?_, hl2⟩⟩
              · rw [← pw.m b b (by omega)]
                exact k
              · rw [← hs, ← Nat.mul_two, Nat.mul_assoc]
            · have c' : ¬ (0 : Int) < (l : Int) / 2 := fun z => c (decide_eq_true z)
              have l0 : l / 2 = 0 := by omega
              rw [l0] at hs
              exact ⟨v3, v5, o, b, l / 2, _, rfl, s4, k5, k3, by rw [l0]; exact hs, hl2⟩
        · obtain ⟨v3, v5, o, b, l, y6, rfl, s3, k5, k3, hs, hl⟩ := hP
          rw [Nat.sub_self, Nat.pow_zero] at hl
          have l0 : l = 0 := by omega
          subst l0
          rw [Nat.mul_zero, Nat.add_zero] at hs
          subst hs
          exact ⟨v5, rfl, q v5 H2 s3 k5⟩
theorem ok_law_power0 (T : Txt K mg) : FnOk P w K mg base CX0 4 T.f_law_power T.d_law_power ["_law_prime_here", "_law_a", "_law_exponent_here"] sp_law_power0 :=
  (ok_law_power_of T (k := 3) (bad := fun e _ => e < 0) (Nat.le_refl 3) nope fun p e x a A H Q E nb e0 => absurd e0 nb).imp fun vs H Q E h => by
    obtain ⟨p, x, a, n, B, rfl, ka, pw, le, eb, q⟩ := h
    refine ⟨⟨p, x, a, a, (n : Int), B, rfl, ka, (by rw [Int.natAbs_natCast]; exact pw), le, (by rw [Int.natAbs_natCast]; exact eb), fun _ => rfl, fun z => absurd z (by omega), fun z => absurd z (by omega), (by rw [Int.natAbs_natCast]; exact q)⟩, fun p' x' e' e => ?_⟩
    cases e
    omega
theorem ok_law_power (T : Txt K mg) : FnOk P w K mg base CX0 5 T.f_law_power T.d_law_power ["_law_prime_here", "_law_a", "_law_exponent_here"] sp_law_power :=
  (ok_law_power_of T (k := 4) (bad := fun _ _ => False) (by decide) (ok_law_power0 T) fun p e x a A H Q E nb e0 p2 le ka pA q => ⟨p, x, a, p - 2, A, (by rw [show ((p - 2 : Nat) : Int) = (p : Int) - 2 by omega]), ka, pA, le, Nat.lt_of_le_of_lt (show p - 2 ≤ 20000 by omega) (by decide), q⟩).imp fun vs H Q E h => ⟨h, fun _ _ _ _ z => z⟩
end
end K04
set_option Elab.async false
set_option linter.all false
set_option maxRecDepth 100000
set_option maxHeartbeats 4000000
set_option exponentiation.threshold 5000
namespace K04
open PySem PySem.Spec PyProof.Rows L2 TkS
theorem dq_kp {H H' : Hp} {h : Addr} {v : V} {d : PyData} (hd : Hand H h) (k : Keep h H H') (n : noHd d = true) (q : Dq H v d) : Dq H' v d := by
  obtain ⟨c, cells, p, r, t, e, ec, _⟩ := hd.ex
  exact dq_hd e ec k.kp _ n q
theorem dqs_kp {H H' : Hp} {h : Addr} {v : List V} {d : List PyData} (hd : Hand H h) (k : Keep h H H') (n : noHds d = true) (q : DqAll H v d) : DqAll H' v d := by
  obtain ⟨c, cells, p, r, t, e, ec, _⟩ := hd.ex
  exact dqs_hd e ec k.kp _ n q
theorem hand_ne {H : Hp} {h D : Addr} (hd : Hand H h) (nD : H D = none) : D ≠ h := fun z => by
  obtain ⟨c, cells, p, r, t, e1, _⟩ := hd.ex
  rw [z, e1] at nD
  cases nD
theorem atP {xs : List V} {ds : List PyData} {H : Hp} {r : Int} (k : DqAll H xs ds) (r0 : 0 ≤ r) (r1 : r < (ds.length : Int)) : ∃ v d, atI xs r = some v ∧ d ∈ ds ∧ ds[r.toNat]? = some d ∧ Dq H v d := by
  have lx := k.len
  have hr : r.toNat < xs.length := by omega
  obtain ⟨d, h1, h2⟩ := k.get (List.getElem?_eq_getElem hr)
  exact ⟨_, d, at_of (j := r.toNat) (by omega) (List.getElem?_eq_getElem hr), List.mem_of_getElem? h1, h1, h2⟩
theorem nb_hd {p k : Nat} {d : PyData} (h : Nb p k d) : noHd d = true := by
  cases h <;> rfl
theorem nb_kp {H H' : Hp} {h : Addr} {v : V} {d : PyData} {p k : Nat} (hd : Hand H h) (kp : Keep h H H') (n : Nb p k d) (q : Dq H v d) : Dq H' v d := dq_kp hd kp (nb_hd n) q
theorem nb_shp {p k : Nat} {d : PyData} (h : Nb p k d) : SeqAt.shaped d = true := by
  cases h with
  | fr _ _ _ => exact shp_fr _
  | rs _ _ => rfl
theorem zero_shp (p : Nat) : SeqAt.shaped (zeroD p) = true := by
  unfold zeroD
  split
  · exact shp_fr _
  · rfl
theorem eqv_int (a b : Int) : PyData.eqv (.int a) (.int b) = decide (a = b) := by
  simp [PyData.eqv, Bool.beq_eq_decide_eq]
theorem nb_self {p k : Nat} {d : PyData} (h : Nb p k d) : PyData.eqv d d = true := by
  cases h with
  | fr _ _ _ => rw [eqv_fr, decide_eq_true rfl]
  | rs _ _ => rw [eqv_int, decide_eq_true rfl]
theorem nb_ne {p k m : Nat} {d e : PyData} (h : Nb p k d) (g : Nb p m e) (n : d ≠ e) : PyData.eqv d e = false := by
  cases h with
  | @fr k q _ _ _ =>
    cases g with
    | @fr m r _ _ _ =>
      rw [eqv_fr, decide_eq_false fun c => n (by rw [c])]
    | rs n5 _ => exact absurd rfl n5
  | @rs p k x n0 l0 =>
    cases g with
    | fr _ _ _ => exact absurd rfl n0
    | @rs p m y n1 l1 =>
      rw [eqv_int, decide_eq_false fun c => n (by rw [c])]
theorem fin_small {k : Nat} {z : Int} (h : z.natAbs < 2) (hk : 1 ≤ k) : Fin k z := Nat.lt_of_lt_of_le h (Nat.le_trans (by decide : 2 ≤ 2 ^ 1) (Nat.pow_le_pow_right (by decide) hk))
theorem Fp.cases {p : Nat} (h : Fp p) (h0 : p ≠ 0) : 2 ≤ p := (h.resolve_left h0).1.1
theorem nb_zero {p k : Nat} (h : Fp p) (hk : 1 ≤ k) : Nb p k (zeroD p) := by
  unfold zeroD
  by_cases c : p = 0
  · subst c
    rw [if_pos rfl]
    exact .fr ⟨by decide, rfl⟩ (fin_small (by decide) hk) (fin_small (by decide) hk)
  · rw [if_neg c]
    exact .rs (x := 0) c (by have := h.cases c; omega)
theorem nb_one {p k : Nat} (h : Fp p) (hk : 1 ≤ k) : Nb p k (oneD p) := by
  unfold oneD
  by_cases c : p = 0
  · subst c
    rw [if_pos rfl]
    exact .fr ⟨by decide, rfl⟩ (fin_small (by decide) hk) (fin_small (by decide) hk)
  · rw [if_neg c]
    exact .rs (x := 1) c (by have := h.cases c; omega)
theorem nb_minus {p k : Nat} (h : Fp p) (hk : 1 ≤ k) : Nb p k (minusD p) := by
  unfold minusD
  by_cases c : p = 0
  · subst c
    rw [if_pos rfl]
    exact .fr ⟨by decide, rfl⟩ (fin_small (by decide) hk) (fin_small (by decide) hk)
  · rw [if_neg c]
    have := h.cases c
    have e : (p : Int) - 1 = ((p - 1 : Nat) : Int) := by omega
    rw [e]
    exact .rs c (by omega)
theorem one_nz {p : Nat} : oneD p ≠ zeroD p := by
  unfold oneD zeroD
  split <;> intro z <;> cases z
theorem minus_nz {p : Nat} (h : Fp p) : minusD p ≠ zeroD p := by
  unfold minusD zeroD
  by_cases c : p = 0
  · rw [if_pos c, if_pos c]
    intro z
    cases z
  · rw [if_neg c, if_neg c]
    intro z
    have := PyData.int.inj z
    have := h.cases c
    omega
theorem fr_nz {q : Int × Int} (h : q.1 ≠ 0) : frD q ≠ zeroD 0 := fun z => by
  obtain ⟨a, b⟩ := q
  cases z
  exact h rfl
theorem fr_zero {q : Int × Int} (l : Lowest q) (h : frD q ≠ zeroD 0) : q.1 ≠ 0 := fun z => h (by rw [lowest_zero l z]; rfl)
def sp_law_number (nz : Bool) : Sp := fun vs H Q _ => ∃ (h : Addr) (p : Nat), vs = [.ref h, .int (p : Int)] ∧ Hand H h ∧ Fp p ∧ ∀ v H' d, Keep h H H' → Hand H' h → Dq H' v d → Nb p 40 d → (nz = true → d ≠ zeroD p) → Q v H'
def sp_law_exponent : Sp := fun vs H Q _ => ∃ (h : Addr) (p : Nat), vs = [.ref h, .int (p : Int)] ∧ Hand H h ∧ Fp p ∧ ∀ (e : Int) H', Keep h H H' → Hand H' h → (p = 0 → -8 ≤ e ∧ e ≤ 8) → e.natAbs < 2 ^ 128 → Q (.int e) H'
def sp_law_is_number : Sp := fun vs H Q _ => ∃ (p : Nat) (x : V) (d : PyData), vs = [.int (p : Int), x] ∧ Dq H x d ∧ Nb p 3000 d ∧ Q (.bl true) H
def sp_law_same : Sp := fun vs H Q _ => ∃ (p : Nat) (x y : V) (d : PyData), vs = [.int (p : Int), x, y] ∧ Dq H x d ∧ Dq H y d ∧ Nb p 3000 d ∧ Q (.bl true) H
theorem low_nz {t b : Int} (hb : b ≠ 0) (ht : t ≠ 0) : (low t b).1 ≠ 0 := fun z => by
  obtain ⟨l1, l2⟩ := low_ok (t := t) hb
  rw [z, Int.zero_mul] at l2
  have := l1.1
  rcases Int.mul_eq_zero.mp l2 with h | h
  · exact ht h
  · omega
section
variable {P : Program} {w : World} {K : PySem.W.Frag} {mg : Str → Option Value} {base : Heap}
theorem ok_law_number (T : Txt K mg) : FnOk P w K mg base CX0 3 T.f_law_number T.d_law_number ["_law_hand_here", "_law_prime_here"] (sp_law_number true) := by
  refine T.F_law_number.ok sc_law_number (fun vs H Q E h => ?_) (fun cdv A outer s H vs Q E hr h => ?_)
  · obtain ⟨h, p, rfl, _⟩ := h
    rfl
  · obtain ⟨h, p, rfl, hd, fp, q⟩ := h
    refine ⟨_, (pss_cons (ps_set (i := 2) sc_law_number.nd rfl (.inl rfl) (pe_call (ok_law_draw T) (hr.mono (by decide)) (by rfl) T.g_law_draw T.F_law_draw.kp T.b_law_draw .nil pass0 (pa_cons (pv 0) (pa_cons pe_int pa_nil))))
      (pss_cons (ps_if (pt_cmpR op_eq (pv 2) pe_int (nomark _))
        (pss_one (ps_ret (pe_call (ok_law_one T) (hr.mono (by decide)) (by rfl) T.g_law_one T.F_law_one.kp T.b_law_one .nil pass0 (pa_cons (pv 1) pa_nil))))
        pss_nil)
      (pss_cons (ps_if (pt_cmpR op_eq (pv 2) pe_int (nomark _))
        (pss_one (ps_ret (pe_call (ok_law_minus T) (hr.mono (by decide)) (by rfl) T.g_law_minus T.F_law_minus.kp T.b_law_minus .nil pass0 (pa_cons (pv 1) pa_nil))))
        pss_nil)
      (pss_cons (ps_if (pt_cmpR op_gt (pv 1) pe_int (nomark _))
        (pss_one (ps_ret (pe_op op_add pe_int (pe_call (ok_law_draw T) (hr.mono (by decide)) (by rfl) T.g_law_draw T.F_law_draw.kp T.b_law_draw .nil pass0 (pa_cons (pv 0) (pa_cons (pe_op op_sub (pv 1) pe_int) pa_nil))))))
        pss_nil)
      (pss_cons (ps_set (i := 3) sc_law_number.nd rfl (.inl rfl) (pe_op op_add pe_int (pe_call (ok_law_draw T) (hr.mono (by decide)) (by rfl) T.g_law_draw T.F_law_draw.kp T.b_law_draw .nil pass0 (pa_cons (pv 0) (pa_cons pe_int pa_nil)))))
      (pss_cons (ps_set (i := 4) sc_law_number.nd rfl (.inl rfl) (pe_op op_add pe_int (pe_call (ok_law_draw T) (hr.mono (by decide)) (by rfl) T.g_law_draw T.F_law_draw.kp T.b_law_draw .nil pass0 (pa_cons (pv 0) (pa_cons pe_int pa_nil)))))
      (Evl.pss_cut (ps_if (pt_cmpR op_eq (pe_call (ok_law_draw T) (hr.mono (by decide)) (by rfl) T.g_law_draw T.F_law_draw.kp T.b_law_draw .nil pass0 (pa_cons (pv 0) (pa_cons pe_int pa_nil))) pe_int (nomark _))
        (pss_one (ps_set (i := 3) sc_law_number.nd rfl (.inl rfl) (pe_op op_sub pe_int (pv 3))))
        pss_nil)
      (pss_one (ps_ret (pe_call (ok_law_lowest T) (hr.mono (by decide)) (by rfl) T.g_law_lowest T.F_law_lowest.kp T.b_law_lowest .nil pass0 (pa_cons (pv 3) (pa_cons (pv 4) pa_nil)))))))))))), ?_⟩
    refine ⟨_, rfl, h, 8, rfl, hd, by decide, by decide, fun H1 r k1 h1 r0 r1 => ?_⟩
    refine ⟨_, rfl, rfl, _, rfl, ite2 (fun c => ?_) (fun c => ?_)⟩
    · exact ⟨_, rfl, p, rfl, fun v H2 s2 k2 => q v H2 _ (k1.trans (Keep.of s2)) (h1.same s2) k2 (nb_one fp (by decide)) fun _ => one_nz⟩
    · refine ⟨_, rfl, rfl, _, rfl, ite2 (fun c => ?_) (fun c => ?_)⟩
      · exact ⟨_, rfl, p, rfl, fun v H2 s2 k2 => q v H2 _ (k1.trans (Keep.of s2)) (h1.same s2) k2 (nb_minus fp (by decide)) fun _ => minus_nz fp⟩
      · refine ⟨_, rfl, (p : Int), 0, rfl, rfl, _, rfl, ite2 (fun c => ?_) (fun c => ?_)⟩
        · have c' : (0 : Int) < (p : Int) := of_decide_eq_true c
          have p0 : p ≠ 0 := by omega
          have p2 := fp.cases p0
          have le := (fp.resolve_left p0).2
          refine ⟨_, rfl, _, rfl, (p : Int), 1, rfl, rfl, h, (p : Int) - 1, rfl, h1, by omega, by omega, fun H2 r2 k2 h2 r20 r21 => ?_⟩
          obtain ⟨n, rfl⟩ : ∃ n : Nat, r2 = (n : Int) := ⟨r2.toNat, by omega⟩
          refine ⟨_, _, rfl, rfl, ?_⟩
          show Q (.int ((1 : Int) + (n : Int))) H2
          rw [show (1 : Int) + (n : Int) = ((1 + n : Nat) : Int) by omega]
          refine q _ H2 (.int _) (k1.trans k2) h2 (.int _) (.rs p0 (by omega)) fun _ z => ?_
          unfold zeroD at z
          rw [if_neg p0] at z
          have := PyData.int.inj z
          omega
        · have p0 : p = 0 := by
            have : ¬ (0 : Int) < (p : Int) := fun z => c (decide_eq_true z)
            omega
          subst p0
          refine ⟨_, rfl, h, 12, rfl, h1, by decide, by decide, fun H2 r2 k2 h2 r20 r21 => ⟨_, _, rfl, rfl, ?_⟩⟩
          refine ⟨_, rfl, h, 12, rfl, h2, by decide, by decide, fun H3 r3 k3 h3 r30 r31 => ⟨_, _, rfl, rfl, ?_⟩⟩
          refine ⟨fun σ H' => ∃ t : Int, σ = [some (.ref h), some (.int ((0 : Nat) : Int)), some (.int r), some (.int t), some (.int (1 + r3))] ∧ Keep h H H' ∧ Hand H' h ∧ t ≠ 0 ∧ t.natAbs < 20, ?_, fun σ H' hM => ?_⟩
          · refine ⟨_, rfl, h, 3, rfl, h3, by decide, by decide, fun H4 r4 k4 h4 r40 r41 => ⟨rfl, _, rfl, ite2 (fun c => ?_) (fun c => ?_)⟩⟩
            · exact ⟨_, rfl, _, _, rfl, rfl, 0 - (1 + r2), rfl, ((k1.trans k2).trans k3).trans k4, h4, by omega, by omega⟩
            · exact ⟨1 + r2, rfl, ((k1.trans k2).trans k3).trans k4, h4, by omega, by omega⟩
          · obtain ⟨t, rfl, k4, h4, t0, t1⟩ := hM
            have b0 : 1 + r3 ≠ 0 := by omega
            have ft : Fin 40 t := Nat.lt_trans t1 (by decide)
            have fb : Fin 40 (1 + r3) := by
              unfold Fin
              omega
            obtain ⟨f1, f2⟩ := low_fin b0 ft fb
            refine ⟨_, rfl, _, rfl, t, 1 + r3, rfl, b0, fin_up fb (by decide), fun l H5 s5 k5 => ?_⟩
            exact q _ H5 _ (k4.trans (Keep.of s5)) (h4.same s5) k5 (.fr (low_ok b0).1 f1 f2) fun _ => fr_nz (low_nz b0 t0)
theorem ok_law_is_number (T : Txt K mg) : FnOk P w K mg base CX0 2 T.f_law_is_number T.d_law_is_number ["_law_prime_here", "_law_thing"] sp_law_is_number := by
  refine T.F_law_is_number.ok sc_law_is_number (fun vs H Q E h => ?_) (fun cdv A outer s H vs Q E hr h => ?_)
  · obtain ⟨p, x, d, rfl, _⟩ := h
    rfl
  · obtain ⟨p, x, d, rfl, kx, nb, q⟩ := h
    refine ⟨_, (pss_cons (ps_if (pt_cmpR op_gt (pv 0) pe_int (nomark _))
        (pss_one (ps_ret (pe_and (pe_call (ok_law_whole T) (hr.mono (by decide)) (by rfl) T.g_law_whole T.F_law_whole.kp T.b_law_whole .nil pass0 (pa_cons (pv 1) pa_nil)) (pe_one (pe_chain op_le op_lt pe_int (pv 1) (pv 0))))))
        pss_nil)
      (pss_cons (ps_if (PW.pt (pw_or (pt_not (pt_val (pe_callB call_isi (by rfl) T.m_isinstance (by decide +kernel) (pa_cons (pv 1) (pa_cons (pe_bltn (v := .ty "tuple") (u := .type "tuple") (by rfl) T.m_tuple (by decide +kernel) rfl) pa_nil))))) (pw_or (pt_cmpR op_ne (pe_callB call_len_seq (by rfl) T.m_len (by decide +kernel) (pa_cons (pv 1) pa_nil)) pe_int (nomark _)) (pw_or (pt_not (pt_val (pe_call (ok_law_whole T) (hr.mono (by decide)) (by rfl) T.g_law_whole T.F_law_whole.kp T.b_law_whole .nil pass0 (pa_cons (pe_ix ix_tup (pv 1) pe_int (fun _ _ => rfl)) pa_nil)))) (pw_or1 (pt_not (pt_val (pe_call (ok_law_whole T) (hr.mono (by decide)) (by rfl) T.g_law_whole T.F_law_whole.kp T.b_law_whole .nil pass0 (pa_cons (pe_ix ix_tup (pv 1) pe_int (fun _ _ => rfl)) pa_nil)))))))))
        (pss_one (ps_ret pe_bl))
        pss_nil)
      (pss_one (ps_ret (pe_and (pe_cmpR op_gt (pe_ix ix_tup (pv 1) pe_int (fun _ _ => rfl)) pe_int (nomark _)) (pe_one (pe_cmpR op_eq (pe_call (ok_law_divisor T) (hr.mono (by decide)) (by rfl) T.g_law_divisor T.F_law_divisor.kp T.b_law_divisor .nil pass0 (pa_cons (pe_ix ix_tup (pv 1) pe_int (fun _ _ => rfl)) (pa_cons (pe_ix ix_tup (pv 1) pe_int (fun _ _ => rfl)) pa_nil))) pe_int (nomark _)))))))), ?_⟩
    cases nb with
    | @fr k r l f1 f2 =>
      obtain ⟨l1, rfl, h1⟩ := fr_at kx
      obtain ⟨t, ty, k1, k2, k3⟩ := dq_ty (K := K) kx
      refine ⟨_, rfl, ((0 : Nat) : Int), 0, rfl, rfl, _, rfl, iteF ?_⟩
      refine ⟨_, rfl, _, .ty "tuple", t, _, true, rfl, .ty _, ty, k3.2, true, rfl, iteF ?_⟩
      refine ⟨_, rfl, l1, _, rfl, .inr (SqT.of h1), rfl, _, rfl, iteF ?_⟩
      refine ⟨_, rfl, l1, _, 0, _, rfl, rfl, SqT.of h1, at_of (j := 0) rfl rfl, .int r.1, .int r.1, rfl, .int _, true, rfl, iteF ?_⟩
      refine ⟨_, rfl, l1, _, 1, _, rfl, rfl, SqT.of h1, at_of (j := 1) rfl rfl, .int r.2, .int r.2, rfl, .int _, true, rfl, iteF ?_⟩
      refine ⟨_, rfl, l1, _, 1, _, rfl, rfl, SqT.of h1, at_of (j := 1) rfl rfl, r.2, 0, rfl, rfl, _, rfl, ite2 (fun c => ?_) (fun c => ?_)⟩
      · refine ⟨_, rfl, l1, _, 0, _, rfl, rfl, SqT.of h1, at_of (j := 0) rfl rfl, _, rfl, l1, _, 1, _, rfl, rfl, SqT.of h1, at_of (j := 1) rfl rfl, _, _, rfl, fin_up f2 (by decide), rfl, ?_⟩
        rw [l.2]
        exact q
      · exact absurd (decide_eq_true l.1) c
    | @rs p k n p0 l =>
      cases kx
      refine ⟨_, rfl, (p : Int), 0, rfl, rfl, _, rfl, ite2 (fun c => ?_) (fun c => ?_)⟩
      · refine ⟨_, rfl, .int (n : Int), .int (n : Int), rfl, .int _, true, rfl, iteT ?_⟩
        refine ⟨_, rfl, 0, (n : Int), rfl, rfl, _, rfl, ite2 (fun _ => ?_) (fun c => absurd (decide_eq_true (show (0 : Int) ≤ (n : Int) by omega)) c)⟩
        refine ⟨_, rfl, (n : Int), (p : Int), rfl, rfl, ?_⟩
        show Q (.bl (decide ((n : Int) < (p : Int)))) H
        rw [decide_eq_true (show (n : Int) < (p : Int) by omega)]
        exact q
      · exact absurd (decide_eq_true (show (0 : Int) < (p : Int) by omega)) c
theorem ok_law_same (T : Txt K mg) : FnOk P w K mg base CX0 3 T.f_law_same T.d_law_same ["_law_prime_here", "_law_thing", "_law_due"] sp_law_same := by
  refine T.F_law_same.ok sc_law_same (fun vs H Q E h => ?_) (fun cdv A outer s H vs Q E hr h => ?_)
  · obtain ⟨p, x, y, d, rfl, _⟩ := h
    rfl
  · obtain ⟨p, x, y, d, rfl, kx, ky, nb, q⟩ := h
    refine ⟨_, (pss_one (ps_ret (pe_and (pe_call (ok_law_is_number T) (hr.mono (by decide)) (by rfl) T.g_law_is_number T.F_law_is_number.kp T.b_law_is_number .nil pass0 (pa_cons (pv 0) (pa_cons (pv 1) pa_nil))) (pe_one (pe_cmpR (op_eqD hr.units) (pv 1) (pv 2) (nomark _)))))), ?_⟩
    refine ⟨_, rfl, _, rfl, p, x, d, rfl, kx, nb, _, rfl, iteT ⟨_, rfl, _, rfl, d, d, kx.dp, ky.dp, nb_shp nb, nb_shp nb, ?_⟩⟩
    rw [nb_self nb]
    exact q
theorem ok_law_any_number (T : Txt K mg) : FnOk P w K mg base CX0 4 T.f_law_any_number T.d_law_any_number ["_law_hand_here", "_law_prime_here"] (sp_law_number false) := by
  refine T.F_law_any_number.ok sc_law_any_number (fun vs H Q E h => ?_) (fun cdv A outer s H vs Q E hr h => ?_)
  · obtain ⟨h, p, rfl, _⟩ := h
    rfl
  · obtain ⟨h, p, rfl, hd, fp, q⟩ := h
    have q' : ∀ v H' d, Keep h H H' → Hand H' h → Dq H' v d → Nb p 40 d → Q v H' := fun v H' d a b c e => q v H' d a b c e fun z => nomatch z
    refine ⟨_, (pss_cons (ps_if (pt_cmpR op_eq (pe_call (ok_law_draw T) (hr.mono (by decide)) (by rfl) T.g_law_draw T.F_law_draw.kp T.b_law_draw .nil pass0 (pa_cons (pv 0) (pa_cons pe_int pa_nil))) pe_int (nomark _))
        (pss_one (ps_ret (pe_ifExp (pt_cmpR op_eq (pv 1) pe_int (nomark _)) (pe_tup (pa_cons pe_int (pa_cons pe_int pa_nil))) pe_int)))
        pss_nil)
      (pss_cons (ps_if (PW.pt (pw_or (pt_cmpR op_gt (pv 1) pe_int (nomark _)) (pw_or1 (pt_cmpR op_eq (pe_call (ok_law_draw T) (hr.mono (by decide)) (by rfl) T.g_law_draw T.F_law_draw.kp T.b_law_draw .nil pass0 (pa_cons (pv 0) (pa_cons pe_int pa_nil))) pe_int (nomark _)))))
        (pss_one (ps_ret (pe_call (ok_law_number T) (hr.mono (by decide)) (by rfl) T.g_law_number T.F_law_number.kp T.b_law_number .nil pass0 (pa_cons (pv 0) (pa_cons (pv 1) pa_nil)))))
        pss_nil)
      (pss_one (ps_ret (pe_call (ok_law_lowest T) (hr.mono (by decide)) (by rfl) T.g_law_lowest T.F_law_lowest.kp T.b_law_lowest .nil pass0 (pa_cons (pe_op op_sub (pe_call (ok_law_draw T) (hr.mono (by decide)) (by rfl) T.g_law_draw T.F_law_draw.kp T.b_law_draw .nil pass0 (pa_cons (pv 0) (pa_cons (pe_op op_add (pe_op op_mul pe_int (pe_op op_pow pe_int pe_int)) pe_int) pa_nil))) (pe_op op_pow pe_int pe_int)) (pa_cons (pe_op op_add pe_int (pe_call (ok_law_draw T) (hr.mono (by decide)) (by rfl) T.g_law_draw T.F_law_draw.kp T.b_law_draw .nil pass0 (pa_cons (pv 0) (pa_cons (pe_op op_pow pe_int pe_int) pa_nil)))) pa_nil))))))), ?_⟩
    refine ⟨_, rfl, h, 8, rfl, hd, by decide, by decide, fun H1 r k1 h1 r0 r1 => ⟨rfl, _, rfl, ite2 (fun c => ?_) (fun c => ?_)⟩⟩
    · refine ⟨_, rfl, rfl, _, rfl, ite2 (fun c => ?_) (fun c => ?_)⟩
      · have c' : (p : Int) = 0 := V.int.inj (of_decide_eq_true c)
        have p0 : p = 0 := by omega
        subst p0
        refine ⟨(by show 2 ≤ sizeLine; decide), fun l nl => q' _ _ (zeroD 0) (k1.trans (Keep.of (same_new nl))) (h1.same (same_new nl)) (fr_dq (q := (0, 1)) upd_same) (nb_zero fp (by decide))⟩
      · have p0 : p ≠ 0 := fun z => c (decide_eq_true (by rw [z]; rfl))
        have := nb_zero (k := 40) fp (by decide)
        have e : zeroD p = .int 0 := if_neg p0
        exact q' _ _ (zeroD p) k1 h1 (by rw [e]; exact .int 0) this
    · have num : ∀ H2, Keep h H H2 → Hand H2 h → tRet (tCall (sp_law_number true) [] (fun _ _ _ => False) (tCons (tVar 0) (tCons (tVar 1) tNil))) { nx := fun x H' => Q V.non H', rt := Q } (L2.start ["_law_hand_here", "_law_prime_here"] [.ref h, .int (p : Int)]) H2 := fun H2 k2 h2 => by
        exact ⟨_, rfl, _, rfl, h, p, rfl, h2, fp, fun v H' d k3 h3 kd nb _ => q' v H' d (k2.trans k3) h3 kd nb⟩
      refine ⟨_, rfl, (p : Int), 0, rfl, rfl, _, rfl, ite2 (fun c1 => ?_) (fun c1 => ?_)⟩
      · exact ⟨_, rfl, _, rfl, h, p, rfl, h1, fp, fun v H' d k3 h3 kd nb _ => q' v H' d (k1.trans k3) h3 kd nb⟩
      · have p0 : p = 0 := by
          have : ¬ (0 : Int) < (p : Int) := fun z => c1 (decide_eq_true z)
          omega
        subst p0
        refine ⟨_, rfl, h, 2, rfl, h1, by decide, by decide, fun H2 r2 k2 h2 r20 r21 => ⟨rfl, _, rfl, ite2 (fun c2 => ?_) (fun c2 => ?_)⟩⟩
        · exact ⟨_, rfl, _, rfl, h, 0, rfl, h2, fp, fun v H' d k3 h3 kd nb _ => q' v H' d ((k1.trans k2).trans k3) h3 kd nb⟩
        · refine ⟨_, rfl, 10, 9, rfl, rfl, ⟨by decide, by decide, by decide⟩, _, _, rfl, rfl, .inl ⟨by decide, by decide⟩, _, _, rfl, rfl, h, _, rfl, h2, (by decide), (by decide), fun H3 r3 k3 h3 r30 r31 => ?_⟩
          refine ⟨10, 9, rfl, rfl, ⟨by decide, by decide, by decide⟩, _, _, rfl, rfl, ?_⟩
          refine ⟨_, rfl, 10, 9, rfl, rfl, ⟨by decide, by decide, by decide⟩, h, _, rfl, h3, (by decide), (by decide), fun H4 r4 k4 h4 r40 r41 => ?_⟩
          have e9 : (10 : Int) ^ Int.toNat 9 = 1000000000 := by decide
          rw [e9] at r31 r41
          have b0 : 1 + r4 ≠ 0 := by omega
          have ft : Fin 40 (r3 - 1000000000) := by
            unfold Fin
            omega
          have fb : Fin 40 (1 + r4) := by
            unfold Fin
            omega
          obtain ⟨f1, f2⟩ := low_fin b0 ft fb
          refine ⟨_, _, rfl, rfl, r3 - 1000000000, 1 + r4, rfl, b0, fin_up fb (by decide), fun l H5 s5 k5 => ?_⟩
          exact q' _ H5 _ ((((k1.trans k2).trans k3).trans k4).trans (Keep.of s5)) (h4.same s5) k5 (.fr (low_ok b0).1 f1 f2)
theorem ok_law_exponent (T : Txt K mg) : FnOk P w K mg base CX0 3 T.f_law_exponent T.d_law_exponent ["_law_hand_here", "_law_prime_here"] sp_law_exponent := by
  refine T.F_law_exponent.ok sc_law_exponent (fun vs H Q E h => ?_) (fun cdv A outer s H vs Q E hr h => ?_)
  · obtain ⟨h, p, rfl, _⟩ := h
    rfl
  · obtain ⟨h, p, rfl, hd, fp, q⟩ := h
    refine ⟨_, (pss_cons (ps_set (i := 2) sc_law_exponent.nd rfl (.inl rfl) (pe_call (ok_law_draw T) (hr.mono (by decide)) (by rfl) T.g_law_draw T.F_law_draw.kp T.b_law_draw .nil pass0 (pa_cons (pv 0) (pa_cons pe_int pa_nil))))
      (pss_cons (ps_if (PW.pt (pw_or (pt_cmpR op_eq (pv 1) pe_int (nomark _)) (pw_or1 (pt_cmpR op_lt (pv 2) pe_int (nomark _)))))
        (pss_one (ps_ret (pe_op op_sub (pe_call (ok_law_draw T) (hr.mono (by decide)) (by rfl) T.g_law_draw T.F_law_draw.kp T.b_law_draw .nil pass0 (pa_cons (pv 0) (pa_cons pe_int pa_nil))) pe_int)))
        pss_nil)
      (pss_cons (ps_if (pt_cmpR op_eq (pv 2) pe_int (nomark _))
        (pss_one (ps_ret (pe_op op_sub (pe_op op_add (pe_op op_mulW (pe_op op_sub (pv 1) pe_int) (pe_op op_sub (pe_call (ok_law_draw T) (hr.mono (by decide)) (by rfl) T.g_law_draw T.F_law_draw.kp T.b_law_draw .nil pass0 (pa_cons (pv 0) (pa_cons pe_int pa_nil))) pe_int)) (pe_call (ok_law_draw T) (hr.mono (by decide)) (by rfl) T.g_law_draw T.F_law_draw.kp T.b_law_draw .nil pass0 (pa_cons (pv 0) (pa_cons pe_int pa_nil)))) pe_int)))
        pss_nil)
      (pss_one (ps_ret (pe_op op_sub (pe_call (ok_law_draw T) (hr.mono (by decide)) (by rfl) T.g_law_draw T.F_law_draw.kp T.b_law_draw .nil pass0 (pa_cons (pv 0) (pa_cons (pe_op op_add (pe_op op_mul pe_int (pe_op op_pow pe_int pe_int)) pe_int) pa_nil))) (pe_op op_pow pe_int pe_int))))))), ?_⟩
    refine ⟨_, rfl, h, 5, rfl, hd, by decide, by decide, fun H1 r k1 h1 r0 r1 => ?_⟩
    have small : tRet (tOp (rI0 fun i j => V.int (i - j)) (tCall (sp_law_draw K) [] E0 (tCons (tVar 0) (tCons (tC (V.int 17)) tNil))) (tC (V.int 8))) { nx := fun x H' => Q V.non H', rt := Q } [some (.ref h), some (.int (p : Int)), some (.int r)] H1 := by
      refine ⟨_, rfl, h, 17, rfl, h1, by decide, by decide, fun H2 r2 k2 h2 r20 r21 => ⟨_, _, rfl, rfl, ?_⟩⟩
      exact q _ _ (k1.trans k2) h2 (fun _ => ⟨by omega, by omega⟩) (by omega)
    refine ⟨_, rfl, rfl, _, rfl, ite2 (fun c => ?_) (fun c => ?_)⟩
    · exact small
    · have p0 : p ≠ 0 := fun z => c (decide_eq_true (by rw [z]; rfl))
      have le := (fp.resolve_left p0).2
      refine ⟨_, rfl, r, 2, rfl, rfl, _, rfl, ite2 (fun c1 => ?_) (fun c1 => ?_)⟩
      · exact small
      · refine ⟨_, rfl, rfl, _, rfl, ite2 (fun c2 => ?_) (fun c2 => ?_)⟩
        · refine ⟨_, rfl, (p : Int), 1, rfl, rfl, _, rfl, h, 5, rfl, h1, by decide, by decide, fun H2 r2 k2 h2 r20 r21 => ⟨_, _, rfl, rfl, ?_⟩⟩
          have f1 : Fin 20 ((p : Int) - 1) := by
            unfold Fin
            omega
          have f2 : Fin 20 (r2 - 2) := by
            unfold Fin
            omega
          have f3 : Fin 40 (((p : Int) - 1) * (r2 - 2)) := Fin.mul f1 f2
          refine ⟨_, _, rfl, rfl, Fin.mulW f1 f2 (by decide) (by decide) (by decide), ?_⟩
          refine ⟨_, rfl, h, 3, rfl, h2, by decide, by decide, fun H3 r3 k3 h3 r30 r31 => ⟨_, _, rfl, rfl, _, _, rfl, rfl, ?_⟩⟩
          unfold Fin at f3
          exact q _ _ ((k1.trans k2).trans k3) h3 (fun z => absurd z p0) (by omega)
        · refine ⟨_, rfl, 10, 30, rfl, rfl, ⟨by decide, by decide, by decide⟩, _, _, rfl, rfl, .inl ⟨by decide, by decide⟩, _, _, rfl, rfl, h, _, rfl, h1, (by decide), (by decide), fun H3 r3 k3 h3 r30 r31 => ?_⟩
          refine ⟨10, 30, rfl, rfl, ⟨by decide, by decide, by decide⟩, _, _, rfl, rfl, ?_⟩
          have e9 : (10 : Int) ^ Int.toNat 30 = 1000000000000000000000000000000 := by decide
          rw [e9] at r31
          exact q _ _ (k1.trans k3) h3 (fun z => absurd z p0) (by omega)
end
end K04
set_option Elab.async false
set_option linter.all false
set_option maxRecDepth 100000
set_option maxHeartbeats 4000000
set_option exponentiation.threshold 5000
namespace TkS
open PySem PySem.Spec PyProof.Rows L2
/-- two readings of one expression -/
theorem pe_or2 {X : Cx} {e : Expr} {t1 t2 : TE} (a : PE X e t1) (b : PE X e t2) : PE X e (fun σ H Q => t1 σ H Q ∨ t2 σ H Q) := ⟨fun pins s σ H Q I h => h.elim (a.run pins s σ H Q I) (b.run pins s σ H Q I)⟩
theorem tail_has {K : PySem.W.Frag} {bmB : List Value} {t : Value} (hb : bmB.contains t = true) : ∀ l : List Value, PySem.W.tailIn K bmB l = true → l.contains t = true
  | [], e => by
    rw [beq_iff_eq.mp e] at hb
    exact hb
  | v :: r, e => by
    unfold PySem.W.tailIn at e
    rcases Bool.or_eq_true_iff.mp e with q | q
    · rw [beq_iff_eq.mp q]
      exact hb
    · split at q
      · split at q
        · obtain ⟨_, q3⟩ := Bool.and_eq_true_iff.mp q
          have := tail_has hb r q3
          rw [List.contains_cons, this, Bool.or_true]
        · cases q
      · cases q
/-- an own error is one of the kit's classes over it -/
theorem kit_exc {K : PySem.W.Frag} {C : Addr} {bmB : List Value} {newId T : String} (q : PySem.W.excIn K C bmB newId = true) (hb : bmB.contains (.type T) = true) (hm : PySem.W.kitMeta T = true) : PySem.W.kitOne K (.ref C) (.type T) = some true := by
  unfold PySem.W.kitOne
  split
  · rfl
  · show (if PySem.W.kitMeta T = true then PySem.W.subIn K (.ref C) (.type T) else none) = some true
    rw [if_pos hm]
    show PySem.W.mroIn K C (.type T) = some true
    unfold PySem.W.excIn at q
    split at q
    · rename_i dd cd sl ho
      split at q
      · rename_i C' bm k0 k1 k2 k3 n k5 hm2 hs
        simp only [Bool.and_eq_true, beq_iff_eq, Bool.not_eq_true'] at q
        obtain ⟨⟨⟨⟨⟨rfl, rfl⟩, hdel⟩, ht⟩, hok⟩, hni⟩ := q
        unfold PySem.W.mroIn PySem.W.clsIn
        rw [ho]
        show (if cd.mro.isEmpty then none else some (cd.mro.contains (.type T))) = some true
        rw [hm2]
        show some _ = some true
        rw [List.contains_cons, tail_has hb _ ht, Bool.or_true]
      · cases q
    · cases q
end TkS
namespace K04
open PySem PySem.Spec PyProof.Rows L2 TkS
def oddsF : List PyData := [.tuple [.int 0, .int 1], .tuple [.int 2, .int 4], .list [.int 1, .int 1], .int 1, .tuple [.int 1, .int (-1)], .tuple [.int 1, .int 0], .none, .tuple [.bool true, .int 1], .tuple [.int 3], .tuple [.int 1, .int 2, .int 3], .tuple [.int 5, .bool true], .tuple [.int 0, .int 2]]
def oddsR (p : Nat) (z : Str) : List PyData := [.int 0, .int (p : Int), .int (-1), .none, .tuple [.int 1, .int 1], .bool true, .str z, .int ((p : Int) + 10 ^ 20)]
def RefuD (p : Nat) (d : PyData) : Prop := (p = 0 → frOk d = false) ∧ (p ≠ 0 → ∀ i, d = .int i → i < 0 ∨ (p : Int) ≤ i)
def OddD (p : Nat) (d : PyData) : Prop := SeqAt.shaped d = true ∧ noHd d = true ∧ (d = zeroD p ∨ RefuD p d)
theorem oddsF_are {d : PyData} (h : d ∈ oddsF) : OddD 0 d := by
  have all : ∀ d ∈ oddsF, SeqAt.shaped d = true ∧ noHd d = true ∧ (d = .tuple [.int 0, .int 1] ∨ frOk d = false) := by
    intro d h
    simp only [oddsF, List.mem_cons, List.not_mem_nil, or_false] at h
    rcases h with rfl | rfl | rfl | rfl | rfl | rfl | rfl | rfl | rfl | rfl | rfl | rfl
    · exact ⟨by decide +kernel, by decide, .inl rfl⟩
    all_goals exact ⟨by decide +kernel, by decide, .inr (by decide +kernel)⟩
  obtain ⟨a, b, c⟩ := all d h
  exact ⟨a, b, c.elim (fun e => .inl (by rw [e]; rfl)) fun e => .inr ⟨fun _ => e, fun z => absurd rfl z⟩⟩
theorem strOk_int (n : Int) : PyData.strOk (Str.ofString (toString n)) = true := by
  unfold PyData.strOk
  rw [← Array.all_toList, List.all_eq_true]
  intro c hc
  refine decide_eq_true (Nat.lt_of_not_le fun z => ?_)
  exact int_text_free' c ⟨by omega, .inr (by omega)⟩ n hc
theorem oddsR_are {p : Nat} {z : Str} {d : PyData} (p0 : p ≠ 0) (hz : PyData.strOk z = true) (h : d ∈ oddsR p z) : OddD p d := by
  have e0 : zeroD p = .int 0 := if_neg p0
  simp only [oddsR, List.mem_cons, List.not_mem_nil, or_false] at h
  rcases h with rfl | rfl | rfl | rfl | rfl | rfl | rfl | rfl
  · exact ⟨rfl, rfl, .inl e0.symm⟩
  · exact ⟨rfl, rfl, .inr ⟨fun z => absurd z p0, fun _ i e => by cases e; exact .inr (Int.le_refl _)⟩⟩
  · exact ⟨rfl, rfl, .inr ⟨fun z => absurd z p0, fun _ i e => by cases e; exact .inl (by decide)⟩⟩
  · exact ⟨rfl, rfl, .inr ⟨fun z => absurd z p0, (fun _ i e => nomatch e)⟩⟩
  · exact ⟨by decide +kernel, rfl, .inr ⟨fun z => absurd z p0, (fun _ i e => nomatch e)⟩⟩
  · exact ⟨rfl, rfl, .inr ⟨fun z => absurd z p0, (fun _ i e => nomatch e)⟩⟩
  · exact ⟨by simp [SeqAt.shaped, PyData.canLay0, PyData.depth, hz], rfl, .inr ⟨fun z => absurd z p0, (fun _ i e => nomatch e)⟩⟩
  · exact ⟨rfl, rfl, .inr ⟨fun z => absurd z p0, fun _ i e => by
      have := PyData.int.inj e
      omega⟩⟩
def sp_law_odd : Sp := fun vs H Q _ => ∃ (h : Addr) (p : Nat), vs = [.ref h, .int (p : Int)] ∧ Hand H h ∧ Fp p ∧ ∀ v H' d, Keep h H H' → Hand H' h → Dq H' v d → OddD p d → Q v H'
section
variable {P : Program} {w : World} {K : PySem.W.Frag} {mg : Str → Option Value} {base : Heap}
theorem ok_law_odd (T : Txt K mg) : FnOk P w K mg base CX0 3 T.f_law_odd T.d_law_odd ["_law_hand_here", "_law_prime_here"] sp_law_odd := by
  refine T.F_law_odd.ok sc_law_odd (fun vs H Q E h => ?_) (fun cdv A outer s H vs Q E hr h => ?_)
  · obtain ⟨h, p, rfl, _⟩ := h
    rfl
  · obtain ⟨h, p, rfl, hd, fp, q⟩ := h
    refine ⟨_, (pss_cons (ps_if (pt_cmpR op_gt (pv 1) pe_int (nomark _))
        (pss_one (ps_ret (pe_ix ix_tup (pe_tup (pa_cons pe_int (pa_cons (pv 1) (pa_cons (pe_op op_sub pe_int pe_int) (pa_cons pe_non (pa_cons (pe_tup (pa_cons pe_int (pa_cons pe_int pa_nil))) (pa_cons pe_bl (pa_cons (pe_callTy call_str_int (by rfl) T.m_str (by decide +kernel) (pa_cons (pe_op op_sub (pv 1) pe_int) pa_nil)) (pa_cons (pe_op op_add (pv 1) (pe_op op_pow pe_int pe_int)) pa_nil))))))))) (pe_call (ok_law_draw T) (hr.mono (by decide)) (by rfl) T.g_law_draw T.F_law_draw.kp T.b_law_draw .nil pass0 (pa_cons (pv 0) (pa_cons pe_int pa_nil))) (fun _ _ => rfl))))
        pss_nil)
      (pss_cons (ps_set (i := 2) sc_law_odd.nd rfl (.inl rfl) (pe_tup (pa_cons (pe_tup (pa_cons pe_int (pa_cons pe_int pa_nil))) (pa_cons (pe_tup (pa_cons pe_int (pa_cons pe_int pa_nil))) (pa_cons (pe_lst (pa_cons pe_int (pa_cons pe_int pa_nil))) (pa_cons pe_int (pa_cons (pe_tup (pa_cons pe_int (pa_cons (pe_op op_sub pe_int pe_int) pa_nil))) (pa_cons (pe_tup (pa_cons pe_int (pa_cons pe_int pa_nil))) (pa_cons pe_non (pa_cons (pe_tup (pa_cons pe_bl (pa_cons pe_int pa_nil))) (pa_cons (pe_tup (pa_cons pe_int pa_nil)) (pa_cons (pe_tup (pa_cons pe_int (pa_cons pe_int (pa_cons pe_int pa_nil)))) (pa_cons (pe_tup (pa_cons pe_int (pa_cons pe_bl pa_nil))) (pa_cons (pe_tup (pa_cons pe_int (pa_cons pe_int pa_nil))) pa_nil))))))))))))))
      (pss_one (ps_ret (pe_ix ix_tup (pv 2) (pe_call (ok_law_draw T) (hr.mono (by decide)) (by rfl) T.g_law_draw T.F_law_draw.kp T.b_law_draw .nil pass0 (pa_cons (pv 0) (pa_cons pe_int pa_nil))) (fun _ _ => rfl)))))), ?_⟩
    refine ⟨_, rfl, (p : Int), 0, rfl, rfl, _, rfl, ite2 (fun c => ?_) (fun c => ?_)⟩
    · have c' : (0 : Int) < (p : Int) := of_decide_eq_true c
      have p0 : p ≠ 0 := by omega
      have le := (fp.resolve_left p0).2
      have f1 : Fin 20 ((p : Int) - 1) := by
        unfold Fin
        omega
      refine ⟨_, rfl, 0, 1, rfl, rfl, (by show 2 ≤ sizeLine; decide), fun l1 n1 => ?_⟩
      refine ⟨_, rfl, (p : Int), 1, rfl, rfl, _, rfl, Nat.lt_of_lt_of_le (PySem.Flt.log2_lt_of (by decide) f1) (by decide), ?_⟩
      refine ⟨_, rfl, 10, 20, rfl, rfl, ⟨by decide, by decide, by decide⟩, _, _, rfl, rfl, (by show 8 ≤ sizeLine; decide), fun l2 n2 => ?_⟩
      have s1 := same_new (o := .tup [.int 1, .int 1]) n1
      have e1 : (upd H l1 (.tup [.int 1, .int 1])) l1 = some (.tup [.int 1, .int 1]) := upd_same
      generalize (upd H l1 (.tup [.int 1, .int 1])) = H1 at *
      have hz := strOk_int ((p : Int) - 1)
      dsimp only at n2 ⊢
      generalize Str.ofString (toString ((p : Int) - 1)) = z at *
      have s2 := same_new (o := .tup [.int 0, .int (p : Int), .int (0 - 1), .non, .ref l1, .bl true, .str z, .int ((p : Int) + 10 ^ Int.toNat 20)]) n2
      have e2 : (upd H1 l2 (.tup [.int 0, .int (p : Int), .int (0 - 1), .non, .ref l1, .bl true, .str z, .int ((p : Int) + 10 ^ Int.toNat 20)])) l2 = some _ := upd_same
      have l2h : l2 ≠ h := hand_ne (hd.same s1) n2
      have h2 := hd.same (s1.trans s2)
      generalize (upd H1 l2 (.tup [.int 0, .int (p : Int), .int (0 - 1), .non, .ref l1, .bl true, .str z, .int ((p : Int) + 10 ^ Int.toNat 20)])) = H2 at *
      have dl : DqAll H2 [.int 0, .int (p : Int), .int (0 - 1), .non, .ref l1, .bl true, .str z, .int ((p : Int) + 10 ^ Int.toNat 20)] (oddsR p z) :=
        .cons (.int _) (.cons (.int _) (.cons (.int _) (.cons .non (.cons (.tup (s2 _ _ e1) (.cons (.int _) (.cons (.int _) .nil))) (.cons (.bl _) (.cons (.str _) (.cons (.int _) .nil)))))))
      refine ⟨_, rfl, h, 8, rfl, h2, by decide, by decide, fun H3 r k3 h3 r0 r1 => ?_⟩
      obtain ⟨v, o, a3, a4, _, a5⟩ := atP (dqs_kp h2 k3 (by rfl) dl) r0 r1
      exact ⟨l2, _, r, v, rfl, rfl, SqT.of (k3 _ _ l2h e2), a3, q v H3 o ((Keep.of (s1.trans s2)).trans k3) h3 a5 (oddsR_are p0 hz a4)⟩
    · have p0 : p = 0 := by
        have : ¬ (0 : Int) < (p : Int) := fun z => c (decide_eq_true z)
        omega
      subst p0
      have z0 : Same H H := fun _ _ z => z
      generalize eH : H = H0 at *
      refine ⟨(by show 2 ≤ sizeLine; decide), fun l1 n1 => ?_⟩
      have s1 := same_new (o := (.tup [.int 0, .int 1])) n1
      have e1 : (upd H0 l1 (.tup [.int 0, .int 1])) l1 = some (.tup [.int 0, .int 1]) := upd_same
      generalize (upd H0 l1 (.tup [.int 0, .int 1])) = H1 at s1 e1 ⊢
      refine ⟨(by show 2 ≤ sizeLine; decide), fun l2 n2 => ?_⟩
      have s2 := same_new (o := (.tup [.int 2, .int 4])) n2
      have e2 : (upd H1 l2 (.tup [.int 2, .int 4])) l2 = some (.tup [.int 2, .int 4]) := upd_same
      generalize (upd H1 l2 (.tup [.int 2, .int 4])) = H2 at s2 e2 ⊢
      refine ⟨(by show 2 ≤ sizeLine; decide), fun l3 n3 => ?_⟩
      have s3 := same_new (o := (.lst [.int 1, .int 1])) n3
      have e3 : (upd H2 l3 (.lst [.int 1, .int 1])) l3 = some (.lst [.int 1, .int 1]) := upd_same
      generalize (upd H2 l3 (.lst [.int 1, .int 1])) = H3 at s3 e3 ⊢
      refine ⟨0, 1, rfl, rfl, (by show 2 ≤ sizeLine; decide), fun l4 n4 => ?_⟩
      dsimp only
      have s4 := same_new (o := (.tup [.int 1, .int (0 - 1)])) n4
      have e4 : (upd H3 l4 (.tup [.int 1, .int (0 - 1)])) l4 = some (.tup [.int 1, .int (0 - 1)]) := upd_same
      generalize (upd H3 l4 (.tup [.int 1, .int (0 - 1)])) = H4 at s4 e4 ⊢
      refine ⟨(by show 2 ≤ sizeLine; decide), fun l5 n5 => ?_⟩
      have s5 := same_new (o := (.tup [.int 1, .int 0])) n5
      have e5 : (upd H4 l5 (.tup [.int 1, .int 0])) l5 = some (.tup [.int 1, .int 0]) := upd_same
      generalize (upd H4 l5 (.tup [.int 1, .int 0])) = H5 at s5 e5 ⊢
      refine ⟨(by show 2 ≤ sizeLine; decide), fun l6 n6 => ?_⟩
      have s6 := same_new (o := (.tup [.bl true, .int 1])) n6
      have e6 : (upd H5 l6 (.tup [.bl true, .int 1])) l6 = some (.tup [.bl true, .int 1]) := upd_same
      generalize (upd H5 l6 (.tup [.bl true, .int 1])) = H6 at s6 e6 ⊢
      refine ⟨(by show 1 ≤ sizeLine; decide), fun l7 n7 => ?_⟩
      have s7 := same_new (o := (.tup [.int 3])) n7
      have e7 : (upd H6 l7 (.tup [.int 3])) l7 = some (.tup [.int 3]) := upd_same
      generalize (upd H6 l7 (.tup [.int 3])) = H7 at s7 e7 ⊢
      refine ⟨(by show 3 ≤ sizeLine; decide), fun l8 n8 => ?_⟩
      have s8 := same_new (o := (.tup [.int 1, .int 2, .int 3])) n8
      have e8 : (upd H7 l8 (.tup [.int 1, .int 2, .int 3])) l8 = some (.tup [.int 1, .int 2, .int 3]) := upd_same
      generalize (upd H7 l8 (.tup [.int 1, .int 2, .int 3])) = H8 at s8 e8 ⊢
      refine ⟨(by show 2 ≤ sizeLine; decide), fun l9 n9 => ?_⟩
      have s9 := same_new (o := (.tup [.int 5, .bl true])) n9
      have e9 : (upd H8 l9 (.tup [.int 5, .bl true])) l9 = some (.tup [.int 5, .bl true]) := upd_same
      generalize (upd H8 l9 (.tup [.int 5, .bl true])) = H9 at s9 e9 ⊢
      refine ⟨(by show 2 ≤ sizeLine; decide), fun l10 n10 => ?_⟩
      have s10 := same_new (o := (.tup [.int 0, .int 2])) n10
      have e10 : (upd H9 l10 (.tup [.int 0, .int 2])) l10 = some (.tup [.int 0, .int 2]) := upd_same
      generalize (upd H9 l10 (.tup [.int 0, .int 2])) = H10 at s10 e10 ⊢
      have z10 : Same H10 H10 := fun _ _ z => z
      have z9 : Same H9 H10 := s10.trans z10
      have z8 : Same H8 H10 := s9.trans z9
      have z7 : Same H7 H10 := s8.trans z8
      have z6 : Same H6 H10 := s7.trans z7
      have z5 : Same H5 H10 := s6.trans z6
      have z4 : Same H4 H10 := s5.trans z5
      have z3 : Same H3 H10 := s4.trans z4
      have z2 : Same H2 H10 := s3.trans z3
      have z1 : Same H1 H10 := s2.trans z2
      have dl : DqAll H10 [.ref l1, .ref l2, .ref l3, .int 1, .ref l4, .ref l5, .non, .ref l6, .ref l7, .ref l8, .ref l9, .ref l10] oddsF := (.cons (.tup (z1 _ _ e1) (.cons (.int _) (.cons (.int _) .nil))) (.cons (.tup (z2 _ _ e2) (.cons (.int _) (.cons (.int _) .nil))) (.cons (.lst (z3 _ _ e3) (.cons (.int _) (.cons (.int _) .nil))) (.cons (.int _) (.cons (.tup (z4 _ _ e4) (.cons (.int _) (.cons (.int _) .nil))) (.cons (.tup (z5 _ _ e5) (.cons (.int _) (.cons (.int _) .nil))) (.cons .non (.cons (.tup (z6 _ _ e6) (.cons (.bl _) (.cons (.int _) .nil))) (.cons (.tup (z7 _ _ e7) (.cons (.int _) .nil)) (.cons (.tup (z8 _ _ e8) (.cons (.int _) (.cons (.int _) (.cons (.int _) .nil)))) (.cons (.tup (z9 _ _ e9) (.cons (.int _) (.cons (.bl _) .nil))) (.cons (.tup (z10 _ _ e10) (.cons (.int _) (.cons (.int _) .nil))) .nil))))))))))))
      have s0 : Same H0 H10 := s1.trans z1
      refine ⟨(by show 12 ≤ sizeLine; decide), fun l n => ?_⟩
      have s11 := same_new (o := .tup [.ref l1, .ref l2, .ref l3, .int 1, .ref l4, .ref l5, .non, .ref l6, .ref l7, .ref l8, .ref l9, .ref l10]) n
      have e11 : (upd H10 l (.tup [.ref l1, .ref l2, .ref l3, .int 1, .ref l4, .ref l5, .non, .ref l6, .ref l7, .ref l8, .ref l9, .ref l10])) l = some _ := upd_same
      have dl := DqAll.same s11 _ dl
      have lh : l ≠ h := hand_ne (hd.same s0) n
      have h11 := hd.same (s0.trans s11)
      generalize (upd H10 l (.tup [.ref l1, .ref l2, .ref l3, .int 1, .ref l4, .ref l5, .non, .ref l6, .ref l7, .ref l8, .ref l9, .ref l10])) = H11 at *
      refine ⟨_, rfl, _, rfl, h, 12, rfl, h11, by decide, by decide, fun H3 r k3 h3 r0 r1 => ?_⟩
      obtain ⟨v, o, a3, a4, _, a5⟩ := atP (dqs_kp h11 k3 (by rfl) dl) r0 r1
      exact ⟨l, _, r, v, rfl, rfl, SqT.of (k3 _ _ lh e11), a3, q v H3 o ((Keep.of (s0.trans s11)).trans k3) h3 a5 (oddsF_are a4)⟩
end
end K04
set_option Elab.async false
set_option linter.all false
set_option maxRecDepth 100000
set_option maxHeartbeats 4000000
set_option exponentiation.threshold 5000
namespace K04
open PySem PySem.Spec PyProof.Rows L2 TkS
theorem call_isE2 {X : Cx} {a D : Addr} {oe : Obj} {cls : Value} {d : Option Addr} {pn : List (Addr × Obj)} (C : ExcC X.K D) (hz : Zc cls d oe) (hf : ∃ vs, oe.data = .fields vs) : CallR (X.suite a ((a, oe) :: pn)) (.builtin "isinstance") (fun xs H Q => cls = .ref D ∧ d = none ∧ rIsE X.K D a xs H Q) := by
  intro pins s σ H xs us Q I r h
  obtain ⟨rfl, rfl, h⟩ := h
  exact call_isE C hz hf pins s σ H xs us Q I r h
def madeD (d : PyData) : PyData := .list [.str "made", d]
def toldD (d : PyData) : PyData := .list [.str "told", d]
def badD : PyData := .list [.str "bad", .bool true]
def zerD : PyData := .list [.str "zero", .bool true]
def numOk (p : Nat) (d : PyData) : Bool := if p = 0 then frOk d else match d with
  | .int i => decide (0 ≤ i) && decide (i ≤ (p : Int) - 1)
  | _ => false
theorem numOk_rest {H : Hp} {x : V} {d : PyData} {p : Nat} (p0 : p ≠ 0) (k : Dq H x d) : numOk p d = wholeIn x (.int 0) (.int ((p : Int) - 1)) := by
  unfold numOk
  rw [if_neg p0]
  cases k <;> rfl
theorem numOk_nb {p k : Nat} {d : PyData} (h : Nb p k d) : numOk p d = true := by
  unfold numOk
  cases h with
  | fr l _ _ =>
    rw [if_pos rfl]
    exact frOk_is l
  | @rs p k x n l =>
    rw [if_neg n]
    show (decide (0 ≤ (x : Int)) && decide ((x : Int) ≤ (p : Int) - 1)) = true
    rw [decide_eq_true (by omega), decide_eq_true (by omega)]
    rfl
theorem numOk_refu {p : Nat} {d : PyData} (h : RefuD p d) : numOk p d = false := by
  unfold numOk
  by_cases p0 : p = 0
  · rw [if_pos p0]
    exact h.1 p0
  · rw [if_neg p0]
    cases d with
    | int i =>
      show (decide (0 ≤ i) && decide (i ≤ (p : Int) - 1)) = false
      rcases h.2 p0 i rfl with l | l
      · rw [decide_eq_false (by omega), Bool.false_and]
      · rw [decide_eq_false (p := i ≤ (p : Int) - 1) (by omega), Bool.and_false]
    | _ => rfl
def powD (p : Nat) (a : PyData) (e : Int) : Option PyData := if p = 0 then (powF (frOf a) e).map frD else (rpw p (intOf a) e).map PyData.int
def sp_law_field_told : Sp := fun vs H Q _ => ∃ x d, vs = [x] ∧ Dq H x d ∧ ∀ v H', Same H H' → Dq H' v (if primeD d = true then madeD d else badD) → Q v H'
def sp_law_number_told (CR CF : Addr) : Sp := fun vs H Q _ => ∃ (a : Addr) (p : Nat) (x : V) (d : PyData), vs = [.ref a, x] ∧ Fld CR CF H a p ∧ Dq H x d ∧ ∀ v H', Same H H' → Dq H' v (if numOk p d = true then toldD d else badD) → Q v H'
def sp_law_divided (CR CF : Addr) : Sp := fun vs H Q _ => ∃ (f : Addr) (p : Nat) (x y : V) (a b : PyData), vs = [.ref f, x, y] ∧ Fld CR CF H f p ∧ Dq H x a ∧ Dq H y b ∧ Nb p 40 a ∧ Nb p 40 b ∧
  (b = zeroD p → ∀ v H', Same H H' → Dq H' v zerD → Q v H') ∧ (b ≠ zeroD p → ∀ v H' c, Same H H' → Nb p 100 c → timesD p c b = a → Dq H' v (toldD c) → Q v H')
def sp_law_raised (CR CF : Addr) : Sp := fun vs H Q _ => ∃ (f : Addr) (p : Nat) (x : V) (a : PyData) (e : Int), vs = [.ref f, x, .int e] ∧ Fld CR CF H f p ∧ Dq H x a ∧ Nb p 40 a ∧ (p = 0 → -8 ≤ e ∧ e ≤ 8) ∧
  (powD p a e = none → ∀ v H', Same H H' → Dq H' v zerD → Q v H') ∧ (∀ c, powD p a e = some c → ∀ v H', Same H H' → Dq H' v (toldD c) → Q v H')
theorem two_lst {H : Hp} {l : Addr} {s : Str} {x : V} {d : PyData} (n : H l = none) (k : Dq H x d) : Dq (upd H l (.lst [.str s, x])) (.ref l) (.list [.str s, d]) := .lst upd_same (.cons (.str _) (.cons (k.same (same_new n)) .nil))
theorem fin67 {k : Nat} {z : Int} (h : Fin k z) (l : k ≤ 67) : z.natAbs ≤ 2 ^ 67 := Nat.le_of_lt (fin_up h l)
section
variable {P : Program} {w : World} {K : PySem.W.Frag} {mg : Str → Option Value} {base : Heap}
theorem ok_law_field_told (T : Txt K mg) : FnOk P w K mg base CX0 5 T.f_law_field_told T.d_law_field_told ["_law_number_here"] sp_law_field_told := by
  refine T.F_law_field_told.ok sc_law_field_told (fun vs H Q E h => ?_) (fun cdv A outer s H vs Q E hr h => ?_)
  · obtain ⟨x, d, rfl, _⟩ := h
    rfl
  · obtain ⟨x, d, rfl, kx, q⟩ := h
    refine' ⟨_, (pss_one ?tr), ?_⟩
    case tr =>
      refine' ps_try_asM (i := 1) (Wout := fun _ _ _ _ => False) rfl rfl sc_law_field_told.nd rfl rfl takes0 ?bd ?hd
      case bd => exact fun W pn xe tk _ => pss_one (ps_ret (pe_lst (pa_cons pe_str (pa_cons (show PE _ _ (tFld K (tMakeSD T.C_RestField (sp_RestField_init T.C_RestField T.C_BadPrime) [] (WE W) (tCons (tVar 0) tNil)) "prime") from pe_fld (pe_makeSD T.M_RestField (ok_RestField_init T) (hr.mono (by decide)) (by rfl) T.g_RestField T.b_RestField_init .nil (fun σ => passAt tk σ) (pa_cons (pv 0) pa_nil)) rfl) pa_nil))))
      case hd => exact (AsOk.cons ⟨rfl, by decide, Or.inl T.g_BadPrime⟩ (fun a oe cls d pn hz hf => pss_one (ps_ret (pe_lst (pa_cons pe_str (pa_cons (pe_and (pe_callB (call_isE2 T.e_BadPrime hz hf) (by rfl) T.m_isinstance (by decide +kernel) (pa_cons (pv 1) (pa_cons (pe_glob (v := .ref T.C_SheetError) rfl T.g_SheetError rfl) pa_nil))) (pe_and (pe_callB (call_isE2 T.e_BadPrime hz hf) (by rfl) T.m_isinstance (by decide +kernel) (pa_cons (pv 1) (pa_cons (pe_bltn (v := .ty "ValueError") (u := .type "ValueError") (by rfl) T.m_ValueError (by decide +kernel) rfl) pa_nil))) (pe_one (pe_not (pe_callB (call_isE2 T.e_BadPrime hz hf) (by rfl) T.m_isinstance (by decide +kernel) (pa_cons (pv 1) (pa_cons (pe_glob (v := .ref T.C_BadNumber) rfl T.g_BadNumber rfl) pa_nil))))))) pa_nil))))) AsOk.nil)
    have kv := kit_exc T.q_BadPrime (T := "ValueError") (by decide +kernel) (by decide +kernel)
    refine ⟨_, rfl, mk_rest kx (fun e => ?_) fun p e pr le H' y s n f => ?_⟩
    · intro H' s
      refine ⟨true, T.mm_BadPrime_BadPrime, fun _ a0 na => ?_, fun z => Bool.noConfusion z⟩
      refine ⟨_, rfl, rfl, rfl, _, _, true, rfl, fun u h => h, T.kit_BadPrime_SheetError, _, rfl, iteT ⟨_, rfl, rfl, rfl, _, _, true, rfl, fun u h => h, kv, _, rfl, iteT ⟨_, rfl, rfl, rfl, _, _, false, rfl, fun u h => h, T.kit_BadPrime_BadNumber, _, rfl, (by show 2 ≤ sizeLine; decide), fun l nl => ?_⟩⟩⟩
      refine q _ _ (s.trans (same_new nl)) ?_
      rw [if_neg (by rw [e]; exact Bool.noConfusion)]
      exact two_lst nl (.bl true)
    · subst e
      cases kx
      obtain ⟨⟨dx, ha⟩, _, _⟩ := f
      refine ⟨y, T.C_RestField, dx, _, _, rfl, ha, T.cl_RestField, T.na_RestField_prime, rfl, (by show 2 ≤ sizeLine; decide), fun l nl => ?_⟩
      refine q _ _ (s.trans (same_new nl)) ?_
      rw [if_pos (prime_is pr le)]
      exact two_lst nl (.int _)
theorem ok_law_number_told (T : Txt K mg) : FnOk P w K mg base CX0 4 T.f_law_number_told T.d_law_number_told ["_law_field_here", "_law_thing"] (sp_law_number_told T.C_RestField T.C_FractionField) := by
  refine T.F_law_number_told.ok sc_law_number_told (fun vs H Q E h => ?_) (fun cdv A outer s H vs Q E hr h => ?_)
  · obtain ⟨a, p, x, d, rfl, _⟩ := h
    rfl
  · obtain ⟨a, p, x, d, rfl, hf, kx, q⟩ := h
    refine' ⟨_, (pss_one ?tr), ?_⟩
    case tr =>
      refine' ps_try_asM (i := 2) (Wout := fun _ _ _ _ => False) rfl rfl sc_law_number_told.nd rfl rfl takes0 ?bd ?hd
      case bd => exact fun W pn xe tk _ => pss_one (ps_ret (pe_lst (pa_cons pe_str (pa_cons (pe_or2 (pe_methSD (pv 0) T.cl_RestField T.M_RestField_check_number (ok_RestField_check_number T) (hr.mono (by decide)) T.b_RestField_check_number .nil (fun σ => passAt tk σ) (pa_cons (pv 1) pa_nil)) (pe_methSD (pv 0) T.cl_FractionField T.M_FractionField_check_number (ok_FractionField_check_number T) (hr.mono (by decide)) T.b_FractionField_check_number .nil (fun σ => passAt tk σ) (pa_cons (pv 1) pa_nil))) pa_nil))))
      case hd => exact (AsOk.cons ⟨rfl, by decide, Or.inl T.g_BadNumber⟩ (fun a oe cls d pn hz hf => pss_one (ps_ret (pe_lst (pa_cons pe_str (pa_cons (pe_and (pe_callB (call_isE2 T.e_BadNumber hz hf) (by rfl) T.m_isinstance (by decide +kernel) (pa_cons (pv 2) (pa_cons (pe_glob (v := .ref T.C_SheetError) rfl T.g_SheetError rfl) pa_nil))) (pe_one (pe_not (pe_callB (call_isE2 T.e_BadNumber hz hf) (by rfl) T.m_isinstance (by decide +kernel) (pa_cons (pv 2) (pa_cons (pe_glob (v := .ref T.C_BadPrime) rfl T.g_BadPrime rfl) pa_nil)))))) pa_nil))))) AsOk.nil)
    by_cases p0 : p = 0
    · obtain ⟨dx, z, o, m, ea, _⟩ := (hf.fr p0).at_
      have en : numOk p d = frOk d := if_pos p0
      refine .inr ⟨_, rfl, a, dx, _, rfl, ea, rfl, _, rfl, a, x, d, rfl, kx, fun e H' s => ⟨true, T.mm_BadNumber_BadNumber, fun _ a0 na => ⟨_, rfl, rfl, rfl, _, _, true, rfl, fun u h => h, T.kit_BadNumber_SheetError, _, rfl, iteT ⟨_, rfl, rfl, rfl, _, _, false, rfl, fun u h => h, T.kit_BadNumber_BadPrime, _, rfl, (by show 2 ≤ sizeLine; decide), fun l nl => ?_⟩⟩, fun z => Bool.noConfusion z⟩, fun e => ⟨(by show 2 ≤ sizeLine; decide), fun l nl => ?_⟩⟩
      · refine q _ _ (s.trans (same_new nl)) ?_
        rw [en, e]
        exact two_lst nl (.bl true)
      · refine q _ _ (same_new nl) ?_
        rw [en, e]
        exact two_lst nl kx
    · obtain ⟨⟨dx, ha⟩, pr, _⟩ := id (hf.rs p0)
      have en := numOk_rest p0 kx
      refine .inl ⟨_, rfl, a, dx, _, rfl, ha, rfl, _, rfl, a, p, x, d, rfl, hf.rs p0, kx, fun e H' s => ⟨true, T.mm_BadNumber_BadNumber, fun _ a0 na => ⟨_, rfl, rfl, rfl, _, _, true, rfl, fun u h => h, T.kit_BadNumber_SheetError, _, rfl, iteT ⟨_, rfl, rfl, rfl, _, _, false, rfl, fun u h => h, T.kit_BadNumber_BadPrime, _, rfl, (by show 2 ≤ sizeLine; decide), fun l nl => ?_⟩⟩, fun z => Bool.noConfusion z⟩, fun e => ⟨(by show 2 ≤ sizeLine; decide), fun l nl => ?_⟩⟩
      · refine q _ _ (s.trans (same_new nl)) ?_
        rw [en, e]
        exact two_lst nl (.bl true)
      · refine q _ _ (same_new nl) ?_
        rw [en, e]
        exact two_lst nl kx
theorem ok_law_divided (T : Txt K mg) : FnOk P w K mg base CX0 9 T.f_law_divided T.d_law_divided ["_law_field_here", "_law_one_here", "_law_other"] (sp_law_divided T.C_RestField T.C_FractionField) := by
  refine T.F_law_divided.ok sc_law_divided (fun vs H Q E h => ?_) (fun cdv A outer s H vs Q E hr h => ?_)
  · obtain ⟨f, p, x, y, a, b, rfl, _⟩ := h
    rfl
  · obtain ⟨f, p, x, y, a, b, rfl, hf, kx, ky, na, nb, qz, q⟩ := h
    refine' ⟨_, (pss_one ?tr), ?_⟩
    case tr =>
      refine' ps_try_asM (i := 3) (Wout := fun _ _ _ _ => False) rfl rfl sc_law_divided.nd rfl rfl takes0 ?bd ?hd
      case bd => exact fun W pn xe tk _ => pss_one (ps_ret (pe_lst (pa_cons pe_str (pa_cons (pe_or2 (pe_methSD (pv 0) T.cl_RestField T.M_RestField_quotient (ok_RestField_quotient T) (hr.mono (by decide)) T.b_RestField_quotient .nil (fun σ => passAt tk σ) (pa_cons (pv 1) (pa_cons (pv 2) pa_nil))) (pe_methSD (pv 0) T.cl_FractionField T.M_FractionField_quotient (ok_FractionField_quotient T) (hr.mono (by decide)) T.b_FractionField_quotient .nil (fun σ => passAt tk σ) (pa_cons (pv 1) (pa_cons (pv 2) pa_nil)))) pa_nil))))
      case hd => exact (AsOk.cons ⟨rfl, by decide, Or.inl T.g_ByZero⟩ (fun a oe cls d pn hz hf => pss_one (ps_ret (pe_lst (pa_cons pe_str (pa_cons (pe_and (pe_callB (call_isE2 T.e_ByZero hz hf) (by rfl) T.m_isinstance (by decide +kernel) (pa_cons (pv 3) (pa_cons (pe_glob (v := .ref T.C_SheetError) rfl T.g_SheetError rfl) pa_nil))) (pe_one (pe_callB (call_isE2 T.e_ByZero hz hf) (by rfl) T.m_isinstance (by decide +kernel) (pa_cons (pv 3) (pa_cons (pe_bltn (v := .ty "ValueError") (u := .type "ValueError") (by rfl) T.m_ValueError (by decide +kernel) rfl) pa_nil))))) pa_nil))))) AsOk.nil)
    have kv := kit_exc T.q_ByZero (T := "ValueError") (by decide +kernel) (by decide +kernel)
    cases na with
    | @fr k r a1 a2 a3 =>
      cases nb with
      | @fr k t b1 b2 b3 =>
        obtain ⟨dx, z, o, m, ea, _⟩ := (hf.fr rfl).at_
        refine .inr ⟨_, rfl, f, dx, _, rfl, ea, rfl, _, rfl, _, rfl, f, x, y, r, t, rfl, hf.fr rfl, kx, ky, ⟨a1, fin_up a2 (by decide), fin_up a3 (by decide)⟩, ⟨b1, fin_up b2 (by decide), fin_up b3 (by decide)⟩, fun e H' s => ⟨true, T.mm_ByZero_ByZero, fun _ a0 na => ⟨_, rfl, rfl, rfl, _, _, true, rfl, fun u h => h, T.kit_ByZero_SheetError, _, rfl, iteT ⟨_, rfl, rfl, rfl, _, _, true, rfl, fun u h => h, kv, (by show 2 ≤ sizeLine; decide), fun l nl => qz (by rw [e]; rfl) _ _ (s.trans (same_new nl)) (two_lst nl (.bl true))⟩⟩, fun z => Bool.noConfusion z⟩, fun e l1 H' s k => ⟨(by show 2 ≤ sizeLine; decide), fun l nl => ?_⟩⟩
        have t0 : t.1 ≠ 0 := fun z => e (lowest_zero b1 z)
        have n0 : r.2 * t.1 ≠ 0 := fun z => by
          have := a1.1
          rcases Int.mul_eq_zero.mp z with h | h
          · omega
          · exact t0 h
        obtain ⟨f1, f2⟩ := low_fin n0 (Fin.mul a2 b3) (Fin.mul a3 b2)
        refine q (fun z => e (by
          obtain ⟨t1, t2⟩ := t
          cases z
          rfl)) _ _ (frD (quotF r t)) (s.trans (same_new nl)) (.fr (low_ok n0).1 (fin_up f1 (by decide)) (fin_up f2 (by decide))) ?_ (two_lst nl k)
        unfold timesD
        rw [if_pos rfl]
        show frD (low ((low (r.1 * t.2) (r.2 * t.1)).1 * t.1) ((low (r.1 * t.2) (r.2 * t.1)).2 * t.2)) = frD r
        rw [low_quot a1 b1 t0]
      | rs n _ => exact absurd rfl n
    | @rs p k xn n a1 =>
      cases nb with
      | fr _ _ _ => exact absurd rfl n
      | @rs p k yn n2 b1 =>
        cases kx
        cases ky
        obtain ⟨⟨dx, ha⟩, pr, le⟩ := id (hf.rs n)
        have ez : zeroD p = .int 0 := if_neg n
        refine .inl ⟨_, rfl, f, dx, _, rfl, ha, rfl, _, rfl, _, rfl, f, p, (xn : Int), (yn : Int), rfl, hf.rs n, by omega, by omega, by omega, by omega, fun e H' s => ⟨true, T.mm_ByZero_ByZero, fun _ a0 na => ⟨_, rfl, rfl, rfl, _, _, true, rfl, fun u h => h, T.kit_ByZero_SheetError, _, rfl, iteT ⟨_, rfl, rfl, rfl, _, _, true, rfl, fun u h => h, kv, (by show 2 ≤ sizeLine; decide), fun l nl => qz (by rw [e, ez]) _ _ (s.trans (same_new nl)) (two_lst nl (.bl true))⟩⟩, fun z => Bool.noConfusion z⟩, fun r er => ⟨(by show 2 ≤ sizeLine; decide), fun l nl => ?_⟩⟩
        have y0 : (yn : Int) ≠ 0 := fun z => by
          rw [z] at er
          simp [rpw] at er
        obtain ⟨r', e1, rl, ei⟩ := rpw_inv pr (by omega) (by omega) y0
        rw [e1] at er
        cases er
        have ec : (xn : Int) * (r' : Int) % (p : Int) = ((xn * r' % p : Nat) : Int) := by
          rw [Int.natCast_emod, Int.natCast_mul]
        rw [ec]
        refine q (fun z => y0 (by
          rw [ez] at z
          exact PyData.int.inj z)) _ _ (.int ((xn * r' % p : Nat) : Int)) (same_new nl) (.rs n (Nat.mod_lt _ (by omega))) ?_ (two_lst nl (.int _))
        unfold timesD
        rw [if_neg n]
        show PyData.int (((xn * r' % p : Nat) : Int) * (yn : Int) % (p : Int)) = .int (xn : Int)
        have ei' : r' * yn % p = 1 := by
          have : ((r' * yn % p : Nat) : Int) = ((1 : Nat) : Int) := by
            rw [Int.natCast_emod, Int.natCast_mul]
            exact ei
          exact Int.ofNat.inj this
        have e3 : xn * r' % p * yn % p = xn := by
          rw [Nat.mod_mul_mod, Nat.mul_assoc, Nat.mul_mod, ei', Nat.mul_one, Nat.mod_mod, Nat.mod_eq_of_lt a1]
        rw [← Int.natCast_mul, ← Int.natCast_emod, e3]
theorem ok_law_raised (T : Txt K mg) : FnOk P w K mg base CX0 11 T.f_law_raised T.d_law_raised ["_law_field_here", "_law_number_here", "_law_exponent_here"] (sp_law_raised T.C_RestField T.C_FractionField) := by
  refine T.F_law_raised.ok sc_law_raised (fun vs H Q E h => ?_) (fun cdv A outer s H vs Q E hr h => ?_)
  · obtain ⟨f, p, x, a, e, rfl, _⟩ := h
    rfl
  · obtain ⟨f, p, x, a, e, rfl, hf, kx, na, eb, qz, q⟩ := h
    refine' ⟨_, (pss_one ?tr), ?_⟩
    case tr =>
      refine' ps_try_asM (i := 3) (Wout := fun _ _ _ _ => False) rfl rfl sc_law_raised.nd rfl rfl takes0 ?bd ?hd
      case bd => exact fun W pn xe tk _ => pss_one (ps_ret (pe_lst (pa_cons pe_str (pa_cons (pe_or2 (pe_methSD (pv 0) T.cl_RestField T.M_RestField_power (ok_RestField_power T) (hr.mono (by decide)) T.b_RestField_power .nil (fun σ => passAt tk σ) (pa_cons (pv 1) (pa_cons (pv 2) pa_nil))) (pe_methSD (pv 0) T.cl_FractionField T.M_FractionField_power (ok_FractionField_power T) (hr.mono (by decide)) T.b_FractionField_power .nil (fun σ => passAt tk σ) (pa_cons (pv 1) (pa_cons (pv 2) pa_nil)))) pa_nil))))
      case hd => exact (AsOk.cons ⟨rfl, by decide, Or.inl T.g_ByZero⟩ (fun a oe cls d pn hz hf => pss_one (ps_ret (pe_lst (pa_cons pe_str (pa_cons (pe_not (pe_callB (call_isE2 T.e_ByZero hz hf) (by rfl) T.m_isinstance (by decide +kernel) (pa_cons (pv 3) (pa_cons (pe_glob (v := .ref T.C_BadNumber) rfl T.g_BadNumber rfl) pa_nil)))) pa_nil))))) AsOk.nil)
    unfold powD at qz q
    cases na with
    | @fr k r a1 a2 a3 =>
      rw [if_pos rfl] at qz q
      obtain ⟨e1, e2⟩ := eb rfl
      obtain ⟨dx, z, o, m, ea, _⟩ := (hf.fr rfl).at_
      refine .inr ⟨_, rfl, f, dx, _, rfl, ea, rfl, _, rfl, _, rfl, f, x, r, e, rfl, hf.fr rfl, kx, a1, fin67 a2 (by decide), fin67 a3 (by decide), by omega, by omega, fun z H' s => ⟨true, T.mm_ByZero_ByZero, fun _ a0 na => ⟨_, rfl, rfl, rfl, _, _, false, rfl, fun u h => h, T.kit_ByZero_BadNumber, _, rfl, (by show 2 ≤ sizeLine; decide), fun l nl => qz (by show (powF r e).map frD = none; rw [z]; rfl) _ _ (s.trans (same_new nl)) (two_lst nl (.bl true))⟩, fun z => Bool.noConfusion z⟩, fun c ec l1 H' s k => ⟨(by show 2 ≤ sizeLine; decide), fun l nl => ?_⟩⟩
      exact q (frD c) (by show (powF r e).map frD = some (frD c); rw [ec]; rfl) _ _ (s.trans (same_new nl)) (two_lst nl k)
    | @rs p k xn n a1 =>
      rw [if_neg n] at qz q
      cases kx
      obtain ⟨⟨dx, ha⟩, pr, le⟩ := id (hf.rs n)
      refine .inl ⟨_, rfl, f, dx, _, rfl, ha, rfl, _, rfl, _, rfl, f, p, (xn : Int), e, rfl, hf.rs n, by omega, by omega, fun z H' s => ⟨true, T.mm_ByZero_ByZero, fun _ a0 na => ⟨_, rfl, rfl, rfl, _, _, false, rfl, fun u h => h, T.kit_ByZero_BadNumber, _, rfl, (by show 2 ≤ sizeLine; decide), fun l nl => qz (by show (rpw p (xn : Int) e).map PyData.int = none; rw [z]; rfl) _ _ (s.trans (same_new nl)) (two_lst nl (.bl true))⟩, fun z => Bool.noConfusion z⟩, fun c ec => ⟨(by show 2 ≤ sizeLine; decide), fun l nl => ?_⟩⟩
      exact q (.int c) (by show (rpw p (xn : Int) e).map PyData.int = some (.int c); rw [ec]; rfl) _ _ (same_new nl) (two_lst nl (.int _))
end
end K04
set_option Elab.async false
set_option linter.all false
set_option maxRecDepth 100000
set_option maxHeartbeats 4000000
set_option exponentiation.threshold 5000
namespace K04
open PySem PySem.Spec PyProof.Rows L2 TkS
theorem fin_pow {k n : Nat} {x : Int} (h : Fin k x) : Fin (k * n + 1) (x ^ n) := by
  unfold Fin at *
  rw [Int.natAbs_pow, Nat.pow_succ, Nat.pow_mul]
  refine Nat.lt_of_le_of_lt (Nat.pow_le_pow_left (Nat.le_of_lt h) n) ?_
  have : 0 < (2 ^ k) ^ n := Nat.pow_pos (Nat.pow_pos (by decide))
  omega
theorem frD_inj {q r : Int × Int} (h : frD q = frD r) : q = r := by
  obtain ⟨a, b⟩ := q
  obtain ⟨c, d⟩ := r
  cases h
  rfl
theorem powD_e0 {p k : Nat} {a : PyData} (h : Nb p k a) : powD p a 0 = some (oneD p) := by
  unfold powD oneD
  cases h with
  | fr _ _ _ =>
    rw [if_pos rfl, if_pos rfl]
    unfold powF
    rw [if_neg (by decide)]
    show some (frD (_ ^ 0, _ ^ 0)) = _
    rw [Int.pow_zero, Int.pow_zero]
  | rs n _ =>
    rw [if_neg n, if_neg n]
    unfold rpw
    rw [if_pos rfl]
    rfl
theorem powD_pos0 {p : Nat} {e : Int} (h : 0 < e) : powD p (zeroD p) e = some (zeroD p) := by
  unfold powD zeroD
  by_cases c : p = 0
  · rw [if_pos c, if_pos c]
    show (powF (0, 1) e).map frD = _
    unfold powF
    rw [if_neg (by omega)]
    show some (frD (0 ^ e.toNat, 1 ^ e.toNat)) = _
    rw [Int.zero_pow (by omega), Int.one_pow]
  · rw [if_neg c, if_neg c]
    show (rpw p 0 e).map PyData.int = _
    unfold rpw
    rw [if_neg (by omega), if_pos rfl, if_neg (by omega)]
    rfl
theorem powD_neg0 {p : Nat} {e : Int} (h : e < 0) : powD p (zeroD p) e = none := by
  unfold powD zeroD
  by_cases c : p = 0
  · rw [if_pos c, if_pos c]
    show (powF (0, 1) e).map frD = _
    unfold powF
    rw [if_pos h, if_pos rfl]
    rfl
  · rw [if_neg c, if_neg c]
    show (rpw p 0 e).map PyData.int = _
    unfold rpw
    rw [if_neg (by omega), if_pos rfl, if_pos h]
    rfl
/-- the powers by the law's squarings, of a fraction -/
theorem pw_fr {q : Int × Int} {E : Nat} (l : Lowest q) (f1 : Fin 40 q.1) (f2 : Fin 40 q.2) (hE : E ≤ 40) : Pw0 0 (frD q) E (fun n => frD (q.1 ^ n, q.2 ^ n)) where
  z := by
    show frD (q.1 ^ 0, q.2 ^ 0) = frD (1, 1)
    rw [Int.pow_zero, Int.pow_zero]
  one := by
    show frD (q.1 ^ 1, q.2 ^ 1) = frD q
    rw [Int.pow_succ, Int.pow_succ, Int.pow_zero, Int.pow_zero, Int.one_mul, Int.one_mul]
  m := fun m n _ => by
    unfold timesD
    rw [if_pos rfl]
    show frD (low (q.1 ^ m * q.1 ^ n) (q.2 ^ m * q.2 ^ n)) = _
    rw [low_times_pow l]
  nb := fun n hn => by
    have hn40 : 40 * n + 1 ≤ 2000 := by omega
    exact .fr (lowest_pow l n) (fin_up (fin_pow f1) hn40) (fin_up (fin_pow f2) hn40)
/-- and of a rest -/
theorem pw_rs {p g E : Nat} (p2 : 2 ≤ p) (h : g < p) : Pw0 p (.int (g : Int)) E (fun n => .int ((g ^ n % p : Nat) : Int)) where
  z := by
    show PyData.int ((g ^ 0 % p : Nat) : Int) = oneD p
    unfold oneD
    rw [if_neg (by omega), Nat.pow_zero, Nat.mod_eq_of_lt (by omega)]
    rfl
  one := by
    show PyData.int ((g ^ 1 % p : Nat) : Int) = _
    rw [Nat.pow_one, Nat.mod_eq_of_lt h]
  m := fun m n _ => by
    unfold timesD
    rw [if_neg (by omega)]
    show PyData.int (((g ^ m % p : Nat) : Int) * ((g ^ n % p : Nat) : Int) % (p : Int)) = _
    rw [← Int.natCast_mul, ← Int.natCast_emod, ← Nat.mul_mod, ← Nat.pow_add]
  nb := fun n _ => .rs (by omega) (Nat.mod_lt _ (by omega))
theorem mul_pow_mod {p x y n : Nat} (h : x * y % p = 1 % p) : x ^ n * y ^ n % p = 1 % p := by
  rw [← Nat.mul_pow, Nat.pow_mod, h, ← Nat.pow_mod, Nat.one_pow]
/-- a negative power by the inverse -/
theorem pow_neg_mod {p x m n : Nat} (pr : Pr p) (nd : ¬ p ∣ x) (h : (m + n) % (p - 1) = 0) : (x ^ (p - 2) % p) ^ n % p = x ^ m % p := by
  have p2 := pr.1
  have h1 : x ^ (p - 2) * x % p = 1 % p := by rw [pow_inv pr nd, Nat.mod_eq_of_lt (by omega)]
  rw [← Nat.pow_mod]
  refine cancel pr (pow_not pr nd n) ?_
  rw [Nat.mul_comm, mul_pow_mod h1, ← Nat.pow_add, Nat.add_comm n m, pow_red pr nd, h, Nat.pow_zero]
theorem rest_nd {p x : Nat} (x0 : x ≠ 0) (l : x < p) : ¬ p ∣ x := not_dvd (by omega) l
/-- the law's power is the power that is due -/
theorem power_due {p : Nat} {a : PyData} {e : Int} (fp : Fp p) (na : Nb p 40 a) (nz : a ≠ zeroD p) (eb : p = 0 → -8 ≤ e ∧ e ≤ 8) : ∃ a' B, Pw0 p a' e.natAbs B ∧ (0 ≤ e → a' = a) ∧
    (e < 0 → p = 0 → ∃ q, a = frD q ∧ q.1 ≠ 0 ∧ Fin 4000 q.1 ∧ a' = frD (low q.2 q.1)) ∧ (e < 0 → p ≠ 0 → 2 ≤ p ∧ ∃ A, Pw0 p a (p - 2) A ∧ A (p - 2) = a') ∧ powD p a e = some (B e.natAbs) := by
  cases na with
  | @fr k q l f1 f2 =>
    obtain ⟨e1, e2⟩ := eb rfl
    have q1 := fr_zero l nz
    unfold powD
    rw [if_pos rfl]
    show ∃ a' B, Pw0 0 a' e.natAbs B ∧ (0 ≤ e → a' = frD q) ∧ _ ∧ _ ∧ (powF q e).map frD = some (B e.natAbs)
    by_cases c : e < 0
    · obtain ⟨g1, g2⟩ := low_fin q1 f2 f1
      refine ⟨_, _, pw_fr (low_ok (t := q.2) q1).1 g1 g2 (by omega), fun z => absurd c (by omega), fun _ _ => ⟨q, rfl, q1, fin_up f1 (by decide), rfl⟩, fun _ z => absurd rfl z, ?_⟩
      unfold powF
      have qn : q ≠ (0, 1) := fun z => q1 (by rw [z])
      have eq1 : quotF (1, 1) q = low q.2 q.1 := by
        show low (1 * q.2) (1 * q.1) = _
        rw [Int.one_mul, Int.one_mul]
      rw [if_pos c, if_neg qn, eq1, show (-e).toNat = e.natAbs by omega]
      rfl
    · refine ⟨_, _, pw_fr l f1 f2 (by omega), fun _ => rfl, fun z => absurd z c, fun z => absurd z c, ?_⟩
      unfold powF
      rw [if_neg c, show e.toNat = e.natAbs by omega]
      rfl
  | @rs p k x n lx =>
    have p2 := fp.cases n
    obtain ⟨pr, le⟩ := fp.resolve_left n
    have x0 : x ≠ 0 := fun z => nz (by
      unfold zeroD
      rw [if_neg n, z]
      rfl)
    have nd := rest_nd x0 lx
    unfold powD
    rw [if_neg n]
    show ∃ a' B, Pw0 p a' e.natAbs B ∧ (0 ≤ e → a' = .int (x : Int)) ∧ _ ∧ _ ∧ (rpw p (x : Int) e).map PyData.int = some (B e.natAbs)
    have xe : ¬ (x : Int) = 0 := by omega
    by_cases c : e < 0
    · refine ⟨_, _, pw_rs p2 (Nat.mod_lt (x ^ (p - 2)) (by omega)), fun z => absurd c (by omega), fun _ z => absurd z n, fun _ _ => ⟨p2, _, pw_rs p2 lx, rfl⟩, ?_⟩
      unfold rpw
      rw [if_neg (by omega), if_neg xe, Int.toNat_natCast]
      have h : ((e % ((p : Int) - 1)).toNat + e.natAbs) % (p - 1) = 0 := by
        have hp : ((p - 1 : Nat) : Int) = (p : Int) - 1 := by omega
        have h0 : 0 ≤ e % ((p : Int) - 1) := Int.emod_nonneg _ (by omega)
        have hd := Int.emod_add_mul_ediv e ((p : Int) - 1)
        refine Nat.mod_eq_zero_of_dvd (Int.ofNat_dvd.mp ⟨-(e / ((p : Int) - 1)), ?_⟩)
        rw [hp, Int.mul_neg, Int.natCast_add, Int.toNat_of_nonneg h0]
        omega
      rw [pow_neg_mod pr nd h]
      rfl
    · refine ⟨_, _, pw_rs p2 lx, fun _ => rfl, fun z => absurd z c, fun z => absurd z c, ?_⟩
      unfold rpw
      by_cases e0 : e = 0
      · subst e0
        rw [if_pos rfl]
        show some (PyData.int 1) = some (.int ((x ^ 0 % p : Nat) : Int))
        rw [Nat.pow_zero, Nat.mod_eq_of_lt (by omega)]
        rfl
      · rw [if_neg e0, if_neg xe, Int.toNat_natCast]
        have h : (e % ((p : Int) - 1)).toNat = e.natAbs % (p - 1) := by
          obtain ⟨n, rfl⟩ : ∃ n : Nat, e = (n : Int) := ⟨e.toNat, by omega⟩
          rw [Int.natAbs_natCast, show (p : Int) - 1 = ((p - 1 : Nat) : Int) by omega, ← Int.natCast_emod, Int.toNat_natCast]
        rw [h, ← pow_red pr nd]
        rfl
theorem powD_none {p : Nat} {a : PyData} {e : Int} (fp : Fp p) (na : Nb p 40 a) (eb : p = 0 → -8 ≤ e ∧ e ≤ 8) (h : powD p a e = none) : a = zeroD p ∧ e < 0 := by
  have az : a = zeroD p := Classical.byContradiction fun nz => by
    obtain ⟨_, _, _, _, _, _, z⟩ := power_due fp na nz eb
    rw [h] at z
    cases z
  refine ⟨az, Classical.byContradiction fun c => ?_⟩
  by_cases e0 : e = 0
  · rw [e0, powD_e0 na] at h
    cases h
  · rw [az, powD_pos0 (by omega)] at h
    cases h
theorem powD_nb {p : Nat} {a c : PyData} {e : Int} (fp : Fp p) (na : Nb p 40 a) (eb : p = 0 → -8 ≤ e ∧ e ≤ 8) (h : powD p a e = some c) : Nb p 2000 c := by
  by_cases nz : a = zeroD p
  · rcases Int.lt_trichotomy e 0 with l | l | l
    · rw [nz, powD_neg0 l] at h
      cases h
    · rw [l, powD_e0 na] at h
      cases h
      exact nb_one fp (by decide)
    · rw [nz, powD_pos0 l] at h
      cases h
      exact nb_zero fp (by decide)
  · obtain ⟨_, B, pw, _, _, _, z⟩ := power_due fp na nz eb
    rw [z] at h
    cases h
    exact pw.nb _ (Nat.le_refl _)
end K04
set_option Elab.async false
set_option linter.all false
set_option maxRecDepth 100000
set_option maxHeartbeats 4000000
set_option exponentiation.threshold 5000
namespace K04
open PySem PySem.Spec PyProof.Rows L2 TkS
def sp_law_powers_hold (CR CF : Addr) : Sp := fun vs H Q _ => ∃ (f : Addr) (p : Nat) (x z : V) (a : PyData) (e : Int), vs = [.ref f, .int (p : Int), x, .int e, z] ∧ Fld CR CF H f p ∧ Dq H x a ∧ Nb p 40 a ∧ Dq H z (zeroD p) ∧ (p = 0 → -8 ≤ e ∧ e ≤ 8) ∧ e.natAbs < 2 ^ 128 ∧ ∀ H', Same H H' → Q (.bl true) H'
theorem shp_told {c : PyData} (s : Str) (hs : PyData.strOk s = true) {p k : Nat} (h : Nb p k c) : SeqAt.shaped (.list [.str s, c]) = true := by
  cases h with
  | fr _ _ _ => simp [frD, SeqAt.shaped, PyData.canLay0, PyData.depth, PyData.canLayAll0, PyData.depthAll, hs]
  | rs _ _ => simp [SeqAt.shaped, PyData.canLay0, PyData.depth, PyData.canLayAll0, PyData.depthAll, hs]
theorem lst_at2 {H : Hp} {v : V} {s : Str} {c : PyData} (k : Dq H v (.list [.str s, c])) : ∃ (l : Addr) (x : V), v = .ref l ∧ H l = some (.lst [.str s, x]) ∧ Dq H x c := by
  cases k with
  | lst e t =>
    cases t with
    | cons a t =>
      cases t with
      | cons b t =>
        cases t
        cases a
        exact ⟨_, _, rfl, e, b⟩
section
variable {P : Program} {w : World} {K : PySem.W.Frag} {mg : Str → Option Value} {base : Heap}
theorem ok_law_powers_hold (T : Txt K mg) : FnOk P w K mg base CX0 12 T.f_law_powers_hold T.d_law_powers_hold ["_law_field_here", "_law_prime_here", "_law_a", "_law_exponent_here", "_law_zero"] (sp_law_powers_hold T.C_RestField T.C_FractionField) := by
  refine T.F_law_powers_hold.ok sc_law_powers_hold (fun vs H Q E h => ?_) (fun cdv A outer s H vs Q E hr h => ?_)
  · obtain ⟨f, p, x, z, a, e, rfl, _⟩ := h
    rfl
  · obtain ⟨f, p, x, z, a, e, rfl, hf, kx, na, kz, eb, el, q⟩ := h
    refine ⟨_, (pss_cons (ps_set (i := 5) sc_law_powers_hold.nd rfl (.inl rfl) (pe_call (ok_law_raised T) (hr.mono (by decide)) (by rfl) T.g_law_raised T.F_law_raised.kp T.b_law_raised .nil pass0 (pa_cons (pv 0) (pa_cons (pv 2) (pa_cons (pv 3) pa_nil)))))
      (pss_cons (ps_if (PW.pt (pw_and (pt_cmpR (op_eqD hr.units) (pv 2) (pv 4) (nomark _)) (pw_and1 (pt_cmpR op_lt (pv 3) pe_int (nomark _)))))
        (pss_one (ps_ret (pe_cmpR (op_eqD hr.units) (pv 5) (pe_lst (pa_cons pe_str (pa_cons pe_bl pa_nil))) (nomark _))))
        pss_nil)
      (pss_cons (ps_set (i := 6) sc_law_powers_hold.nd rfl (.inl rfl) (pv 4))
      (Evl.pss_cut (ps_if (pt_cmpR op_eq (pv 3) pe_int (nomark _))
        (pss_one (ps_set (i := 6) sc_law_powers_hold.nd rfl (.inl rfl) (pe_call (ok_law_one T) (hr.mono (by decide)) (by rfl) T.g_law_one T.F_law_one.kp T.b_law_one .nil pass0 (pa_cons (pv 1) pa_nil))))
        (pss_one (ps_if (pt_cmpR (op_neD hr.units) (pv 2) (pv 4) (nomark _))
          (pss_one (ps_set (i := 6) sc_law_powers_hold.nd rfl (.inl rfl) (pe_call (ok_law_power T) (hr.mono (by decide)) (by rfl) T.g_law_power T.F_law_power.kp T.b_law_power .nil pass0 (pa_cons (pv 1) (pa_cons (pv 2) (pa_cons (pv 3) pa_nil))))))
          pss_nil)))
      (pss_one (ps_ret (pe_and (pe_cmpR op_eq (pe_ix ix_list (pv 5) pe_int (fun _ _ => rfl)) pe_str (nomark _)) (pe_one (pe_call (ok_law_same T) (hr.mono (by decide)) (by rfl) T.g_law_same T.F_law_same.kp T.b_law_same .nil pass0 (pa_cons (pv 1) (pa_cons (pe_ix ix_list (pv 5) pe_int (fun _ _ => rfl)) (pa_cons (pv 6) pa_nil)))))))))))), ?_⟩
    have fp := hf.fp
    have nz : Nb p 40 (zeroD p) := nb_zero fp (by decide)
    have ple : p ≤ 20000 := by
      rcases fp with h | h
      · omega
      · exact h.2
    refine ⟨_, rfl, _, rfl, _, rfl, f, p, x, a, e, rfl, hf, kx, na, eb, fun en v H1 s1 k1 => ?_, fun c ec v H1 s1 k1 => ?_⟩
    · obtain ⟨rfl, e0⟩ := powD_none fp na eb en
      refine ⟨_, rfl, _, rfl, zeroD p, zeroD p, (kx.same s1).dp, (kz.same s1).dp, zero_shp p, zero_shp p, _, rfl, ?_⟩
      rw [nb_self na]
      refine iteT ⟨_, rfl, e, 0, rfl, rfl, _, rfl, ite2 (fun _ => ?_) (fun z => absurd (decide_eq_true e0) z)⟩
      refine ⟨_, rfl, (by show 2 ≤ sizeLine; decide), fun l nl => ⟨zerD, zerD, (k1.same (same_new nl)).dp, (two_lst nl (.bl true)).dp, by decide +kernel, by decide +kernel, ?_⟩⟩
      rw [show PyData.eqv zerD zerD = true by decide +kernel]
      exact q _ (s1.trans (same_new nl))
    · have nc := powD_nb fp na eb ec
      have go : (fun σ H' => (tSeq (tAsg (tVar 4) (gName 6)) (Evl.tCut (tIfS (tTest (tOp rEq (tVar 3) (tC (.int 0)))) (tAsg (tCall (sp_law_const oneD) [] E0 (tCons (tVar 1) tNil)) (gName 6)) (tIfS (tTest (tOp (rNeD K) (tVar 2) (tVar 4))) (tAsg (tCall sp_law_power [] E0 (tCons (tVar 1) (tCons (tVar 2) (tCons (tVar 3) tNil)))) (gName 6)) tNext))
          (tRet (tAndV (tOp rEq (tOp (L2.rIxL K) (tVar 5) (tC (.int 0))) (tC (.str "told"))) (tCall sp_law_same [] E0 (tCons (tVar 1) (tCons (tOp (L2.rIxL K) (tVar 5) (tC (.int 1))) (tCons (tVar 6) tNil)))))))) { nx := fun x H' => Q V.non H', rt := Q } σ H')
          [some (.ref f), some (.int (p : Int)), some x, some (.int e), some z, some v, none] H1 := by
        refine ⟨z, rfl, fun σ H' => ∃ v6, σ = [some (.ref f), some (.int (p : Int)), some x, some (.int e), some z, some v, some v6] ∧ Same H1 H' ∧ Dq H' v6 c, ?_, fun σ H' hM => ?_⟩
        · refine ⟨_, rfl, rfl, _, rfl, ite2 (fun c1 => ?_) (fun c1 => ?_)⟩
          · have e0 : e = 0 := V.int.inj (of_decide_eq_true c1)
            subst e0
            rw [powD_e0 na] at ec
            cases ec
            exact ⟨_, rfl, p, rfl, fun v6 H2 s2 k2 => ⟨v6, rfl, s2, k2⟩⟩
          · have e0 : e ≠ 0 := fun z => c1 (decide_eq_true (by rw [z]))
            refine ⟨_, rfl, _, rfl, a, zeroD p, (kx.same s1).dp, (kz.same s1).dp, nb_shp na, zero_shp p, _, rfl, ?_⟩
            by_cases az : a = zeroD p
            · subst az
              rw [nb_self nz]
              refine iteF ⟨z, rfl, fun _ _ z => z, ?_⟩
              rcases Int.lt_trichotomy e 0 with l | l | l
              · rw [powD_neg0 l] at ec
                cases ec
              · exact absurd l e0
              · rw [powD_pos0 l] at ec
                cases ec
                exact kz.same s1
            · rw [nb_ne na nz az]
              obtain ⟨a', B, pw, g0, g1, g2, eB⟩ := power_due fp na az eb
              rw [ec] at eB
              cases eB
              exact iteT ⟨_, rfl, _, rfl, _, rfl, p, x, a, a', e, B, rfl, kx.same s1, pw, ple, Nat.lt_trans el (by decide +kernel), g0, g1, g2, fun v6 H2 s2 k2 => ⟨v6, rfl, s2, k2⟩⟩
        · obtain ⟨v6, rfl, s2, k6⟩ := hM
          obtain ⟨l, xv, rfl, hl, kv⟩ := lst_at2 (k1.same s2)
          refine ⟨_, rfl, l, _, 0, _, rfl, rfl, SqL.of hl, at_of (j := 0) rfl rfl, rfl, _, rfl, iteT ?_⟩
          exact ⟨_, rfl, _, rfl, l, _, 1, _, rfl, rfl, SqL.of hl, at_of (j := 1) rfl rfl, _, rfl, p, xv, v6, c, rfl, kv, k6, nc.up (by decide), q _ (s1.trans s2)⟩
      refine ⟨_, rfl, _, rfl, a, zeroD p, (kx.same s1).dp, (kz.same s1).dp, nb_shp na, zero_shp p, _, rfl, ?_⟩
      by_cases az : a = zeroD p
      · subst az
        rw [nb_self nz]
        refine iteT ⟨_, rfl, e, 0, rfl, rfl, _, rfl, ite2 (fun c1 => ?_) (fun _ => go)⟩
        rw [powD_neg0 (of_decide_eq_true c1)] at ec
        cases ec
      · rw [nb_ne na nz az]
        exact iteF go
end
end K04
set_option Elab.async false
set_option linter.all false
set_option maxRecDepth 100000
set_option maxHeartbeats 4000000
set_option exponentiation.threshold 5000
namespace K04
open PySem PySem.Spec PyProof.Rows L2 TkS
def sp_law_primes_hold : Sp := fun vs H Q _ => ∃ h : Addr, vs = [.ref h] ∧ Hand H h ∧ ∀ H', Keep h H H' → Hand H' h → Q (.bl true) H'
def oddsP : List PyData := [.bool true, .none, .str "7", .tuple [.int 7], .list [.int 5], .int 0, .int (-7), .int (10 ^ 30 + 57), .bool false]
theorem oddsP_are {d : PyData} (h : d ∈ oddsP) : primeD d = false := by
  simp only [oddsP, List.mem_cons, List.not_mem_nil, or_false] at h
  rcases h with rfl | rfl | rfl | rfl | rfl | rfl | rfl | rfl | rfl
  all_goals decide +kernel
theorem shp_made (z : Int) : SeqAt.shaped (madeD (.int z)) = true := by
  have hs : PyData.strOk "made" = true := by decide +kernel
  simp [madeD, SeqAt.shaped, PyData.canLay0, PyData.depth, PyData.canLayAll0, PyData.depthAll, hs]
theorem eqv_made (z : Int) : PyData.eqv (madeD (.int z)) (madeD (.int z)) = true := by
  simp [madeD, PyData.eqv, PyData.eqvAll]
theorem bad_shp : SeqAt.shaped badD = true := by decide +kernel
theorem bad_eqv : PyData.eqv badD badD = true := by decide +kernel
theorem prime_bl {z : Int} {r : Bool} (h : r = true ↔ ∃ p : Nat, z = (p : Int) ∧ Pr p) : (r && decide (z ≤ 20000)) = primeD (.int z) := by
  cases c : primeD (.int z) with
  | true =>
    obtain ⟨p, e, pr, le⟩ := prime_of c
    have ez : z = (p : Int) := PyData.int.inj e
    rw [h.mpr ⟨p, ez, pr⟩, decide_eq_true (by omega)]
    rfl
  | false =>
    cases r with
    | false => rfl
    | true =>
      obtain ⟨p, e, pr⟩ := h.mp rfl
      by_cases l : z ≤ 20000
      · rw [e, prime_is pr (by omega)] at c
        cases c
      · rw [decide_eq_false l]
        rfl
section
variable {P : Program} {w : World} {K : PySem.W.Frag} {mg : Str → Option Value} {base : Heap}
theorem ok_law_primes_hold (T : Txt K mg) : FnOk P w K mg base CX0 6 T.f_law_primes_hold T.d_law_primes_hold ["_law_hand_here"] sp_law_primes_hold := by
  refine T.F_law_primes_hold.ok sc_law_primes_hold (fun vs H Q E h => ?_) (fun cdv A outer s H vs Q E hr h => ?_)
  · obtain ⟨h, rfl, _⟩ := h
    rfl
  · obtain ⟨h, rfl, hd, q⟩ := h
    refine ⟨_, (pss_cons (ps_for PassesOwn.never rfl (pi_tup (pe_tup (pa_cons (pe_op op_sub (pe_call (ok_law_draw T) (hr.mono (by decide)) (by rfl) T.g_law_draw T.F_law_draw.kp T.b_law_draw .nil pass0 (pa_cons (pv 0) (pa_cons pe_int pa_nil))) pe_int) (pa_cons (pe_call (ok_law_next_prime T) (hr.mono (by decide)) (by rfl) T.g_law_next_prime T.F_law_next_prime.kp T.b_law_next_prime .nil pass0 (pa_cons (pe_op op_add pe_int (pe_call (ok_law_draw T) (hr.mono (by decide)) (by rfl) T.g_law_draw T.F_law_draw.kp T.b_law_draw .nil pass0 (pa_cons (pv 0) (pa_cons pe_int pa_nil)))) pa_nil)) (pa_cons pe_int (pa_cons pe_int (pa_cons pe_int (pa_cons pe_int pa_nil)))))))) (pg_name (i := 1) sc_law_primes_hold.nd rfl (.inl rfl))
        (Evl.pss_cut (ps_set (i := 2) sc_law_primes_hold.nd rfl (.inl rfl) (pe_and (pe_call (ok_law_prime T) (hr.mono (by decide)) (by rfl) T.g_law_prime T.F_law_prime.kp T.b_law_prime .nil pass0 (pa_cons (pv 1) pa_nil)) (pe_one (pe_cmpR op_le (pv 1) pe_int (nomark _)))))
        (pss_cons (ps_set (i := 3) sc_law_primes_hold.nd rfl (.inl rfl) (pe_call (ok_is_prime T) (hr.mono (by decide)) (by rfl) T.g_is_prime T.F_is_prime.kp T.b_is_prime .nil pass0 (pa_cons (pv 1) pa_nil)))
        (pss_one (ps_if (PW.pt (pw_or (pt_not (pt_val (pe_callB call_isi (by rfl) T.m_isinstance (by decide +kernel) (pa_cons (pv 3) (pa_cons (pe_bltn (v := .ty "bool") (u := .type "bool") (by rfl) T.m_bool (by decide +kernel) rfl) pa_nil))))) (pw_or (pt_cmpR op_ne (pv 3) (pv 2) (nomark _)) (pw_or1 (pt_cmpR (op_neD hr.units) (pe_call (ok_law_field_told T) (hr.mono (by decide)) (by rfl) T.g_law_field_told T.F_law_field_told.kp T.b_law_field_told .nil pass0 (pa_cons (pv 1) pa_nil)) (pe_ifExp (pt_truth (pv 2) (by intro _; rfl)) (pe_lst (pa_cons pe_str (pa_cons (pv 1) pa_nil))) (pe_lst (pa_cons pe_str (pa_cons pe_bl pa_nil)))) (nomark _))))))
          (pss_one (ps_ret pe_bl))
          pss_nil)))))
      (pss_cons (ps_set (i := 4) sc_law_primes_hold.nd rfl (.inl rfl) (pe_ix ix_tup (pe_tup (pa_cons pe_bl (pa_cons pe_non (pa_cons pe_str (pa_cons (pe_tup (pa_cons pe_int pa_nil)) (pa_cons (pe_lst (pa_cons pe_int pa_nil)) (pa_cons pe_int (pa_cons (pe_op op_sub pe_int pe_int) (pa_cons (pe_op op_add (pe_op op_pow pe_int pe_int) pe_int) (pa_cons pe_bl pa_nil)))))))))) (pe_call (ok_law_draw T) (hr.mono (by decide)) (by rfl) T.g_law_draw T.F_law_draw.kp T.b_law_draw .nil pass0 (pa_cons (pv 0) (pa_cons pe_int pa_nil))) (fun _ _ => rfl)))
      (pss_one (ps_ret (pe_and (pe_cmpR op_isBl (pe_call (ok_is_prime T) (hr.mono (by decide)) (by rfl) T.g_is_prime T.F_is_prime.kp T.b_is_prime .nil pass0 (pa_cons (pv 4) pa_nil)) pe_bl (nomark _)) (pe_one (pe_cmpR (op_eqD hr.units) (pe_call (ok_law_field_told T) (hr.mono (by decide)) (by rfl) T.g_law_field_told T.F_law_field_told.kp T.b_law_field_told .nil pass0 (pa_cons (pv 4) pa_nil)) (pe_lst (pa_cons pe_str (pa_cons pe_bl pa_nil))) (nomark _)))))))), ?_⟩
    refine ⟨_, rfl, h, 20026, rfl, hd, by decide, by decide, fun H1 r1 k1 h1 r10 r11 => ⟨_, _, rfl, rfl, ?_⟩⟩
    refine ⟨_, rfl, h, 19996, rfl, h1, by decide, by decide, fun H2 r2 k2 h2 r20 r21 => ⟨_, _, rfl, rfl, (2 + r2).toNat, ?_, by omega, by omega, fun p2 pr2 le2 => ?_⟩⟩
    · show [V.int (2 + r2)] = [V.int ((2 + r2).toNat : Int)]
      rw [Int.toNat_of_nonneg (by omega)]
    refine ⟨(by show 6 ≤ sizeLine; decide), fun u2 n2 => ?_⟩
    have s3 := same_new (o := .tup [.int (r1 - 5), .int (p2 : Int), .int 19997, .int 20011, .int 2, .int 1]) n2
    have e3 : (upd H2 u2 (.tup [.int (r1 - 5), .int (p2 : Int), .int 19997, .int 20011, .int 2, .int 1])) u2 = some (.tup [.int (r1 - 5), .int (p2 : Int), .int 19997, .int 20011, .int 2, .int 1]) := upd_same
    have h3 := h2.same s3
    have k3 : Keep h H (upd H2 u2 (.tup [.int (r1 - 5), .int (p2 : Int), .int 19997, .int 20011, .int 2, .int 1])) := (k1.trans k2).trans (Keep.of s3)
    refine ⟨u2, rfl, ⟨_, SqT.of e3⟩, ?_⟩
    refine for_tup (xs := [.int (r1 - 5), .int (p2 : Int), .int 19997, .int 20011, .int 2, .int 1]) (fun i σ H' => ∃ y1 y2 y3, σ = [some (.ref h), y1, y2, y3, none] ∧ Same (upd H2 u2 (.tup [.int (r1 - 5), .int (p2 : Int), .int 19997, .int 20011, .int 2, .int 1])) H')
      ⟨_, _, _, rfl, fun _ _ z => z⟩ (fun i σ H' _ hP => by obtain ⟨_, _, _, _, sm⟩ := hP; exact SqT.of (K := K) (sm _ _ e3)) (fun i x σ H' hx hP => ?_) (fun σ H' hP => ?_)
    · obtain ⟨y1, y2, y3, rfl, s4⟩ := hP
      obtain ⟨z, rfl, zl⟩ : ∃ z : Int, x = .int z ∧ z ≤ 30000 := by
        match i, hx with
        | 0, hx => cases hx; exact ⟨_, rfl, by omega⟩
        | 1, hx => cases hx; exact ⟨_, rfl, by omega⟩
        | 2, hx => cases hx; exact ⟨_, rfl, by decide⟩
        | 3, hx => cases hx; exact ⟨_, rfl, by decide⟩
        | 4, hx => cases hx; exact ⟨_, rfl, by decide⟩
        | 5, hx => cases hx; exact ⟨_, rfl, by decide⟩
      refine ⟨fun σ H5 => σ = [some (.ref h), some (.int z), some (.bl (primeD (.int z))), y3, none] ∧ H' = H5, ?_, fun σ H5 hM => ?_⟩
      · refine ⟨_, rfl, z, rfl, zl, fun r hr' => ⟨_, rfl, ?_⟩⟩
        have e := prime_bl hr'
        cases r with
        | true =>
          rw [Bool.true_and] at e
          rw [← e]
          exact iteT ⟨_, rfl, z, 20000, rfl, rfl, rfl, rfl⟩
        | false =>
          rw [Bool.false_and] at e
          rw [← e]
          exact iteF ⟨rfl, rfl⟩
      · obtain ⟨rfl, rfl⟩ := hM
        refine ⟨_, rfl, .int z, .int z, rfl, .int z, ?_⟩
        obtain ⟨t, ty, kb, _⟩ := dq_ty (K := K) (Dq.bl (H := H') (primeD (.int z)))
        refine ⟨_, rfl, _, .ty "bool", t, _, true, rfl, .ty _, ty, kb, true, rfl, iteF ?_⟩
        refine ⟨_, rfl, _, rfl, rfl, _, rfl, ite2 (fun c => absurd c (by rw [decide_eq_true rfl]; decide)) (fun _ => ?_)⟩
        refine ⟨_, rfl, .int z, .int z, rfl, .int z, fun v H6 s6 k6 => ?_⟩
        cases hb : primeD (.int z) with
        | true =>
          rw [hb, if_pos rfl] at k6
          refine ⟨_, rfl, true, rfl, iteT ⟨_, rfl, (by show 2 ≤ sizeLine; decide), fun l nl => ⟨madeD (.int z), madeD (.int z), (k6.same (same_new nl)).dp, (two_lst nl (.int z)).dp, shp_made z, shp_made z, _, rfl, ?_⟩⟩⟩
          refine ite2 (fun c => absurd c (by rw [show PyData.eqv (madeD (.int z)) (madeD (.int z)) = true from eqv_made z]; decide)) (fun _ => ?_)
          exact ⟨_, _, _, rfl, (s4.trans s6).trans (same_new nl)⟩
        | false =>
          rw [hb, if_neg (by decide)] at k6
          refine ⟨_, rfl, false, rfl, iteF ⟨(by show 2 ≤ sizeLine; decide), fun l nl => ⟨badD, badD, (k6.same (same_new nl)).dp, (two_lst nl (.bl true)).dp, bad_shp, bad_shp, _, rfl, ?_⟩⟩⟩
          refine ite2 (fun c => absurd c (by rw [show PyData.eqv badD badD = true from bad_eqv]; decide)) (fun _ => ?_)
          exact ⟨_, _, _, rfl, (s4.trans s6).trans (same_new nl)⟩
    · obtain ⟨y1, y2, y3, rfl, s4⟩ := hP
      have k4 := k3.trans (Keep.of s4)
      have h4 := h3.same s4
      refine ⟨(by show 1 ≤ sizeLine; decide), fun l1 n1 => ⟨(by show 1 ≤ sizeLine; decide), fun l2 n2 => ?_⟩⟩
      refine ⟨0, 7, rfl, rfl, 10, 30, rfl, rfl, ⟨by decide, by decide, by decide⟩, _, _, rfl, rfl, (by show 9 ≤ sizeLine; decide), fun l3 n3 => ?_⟩
      have s1 := same_new (o := .tup [.int 7]) n1
      have e1 : (upd H' l1 (.tup [.int 7])) l1 = some (.tup [.int 7]) := upd_same
      generalize (upd H' l1 (.tup [.int 7])) = G1 at *
      have s2 := same_new (o := .lst [.int 5]) n2
      have e2 : (upd G1 l2 (.lst [.int 5])) l2 = some (.lst [.int 5]) := upd_same
      generalize (upd G1 l2 (.lst [.int 5])) = G2 at *
      dsimp only at n3 ⊢
      have s5 := same_new (o := .tup [.bl true, .non, .str "7", .ref l1, .ref l2, .int 0, .int (0 - 7), .int (10 ^ Int.toNat 30 + 57), .bl false]) n3
      have e5 : (upd G2 l3 (.tup [.bl true, .non, .str "7", .ref l1, .ref l2, .int 0, .int (0 - 7), .int (10 ^ Int.toNat 30 + 57), .bl false])) l3 = some _ := upd_same
      have s25 := (s1.trans s2).trans s5
      have l3h : l3 ≠ h := hand_ne (h4.same (s1.trans s2)) n3
      have h5 := h4.same s25
      generalize (upd G2 l3 (.tup [.bl true, .non, .str "7", .ref l1, .ref l2, .int 0, .int (0 - 7), .int (10 ^ Int.toNat 30 + 57), .bl false])) = G3 at *
      have dl : DqAll G3 [.bl true, .non, .str "7", .ref l1, .ref l2, .int 0, .int (0 - 7), .int (10 ^ Int.toNat 30 + 57), .bl false] oddsP :=
        .cons (.bl _) (.cons .non (.cons (.str _) (.cons (.tup ((s2.trans s5) _ _ e1) (.cons (.int _) .nil)) (.cons (.lst (s5 _ _ e2) (.cons (.int _) .nil)) (.cons (.int _) (.cons (.int _) (.cons (.int _) (.cons (.bl _) .nil))))))))
      refine ⟨_, rfl, h, 9, rfl, h5, by decide, by decide, fun G4 r k5 h6 r0 r1 => ?_⟩
      obtain ⟨v, o, a3, a4, _, a5⟩ := atP (dqs_kp h5 k5 (by decide +kernel) dl) r0 r1
      have po := oddsP_are a4
      refine ⟨l3, _, r, v, rfl, rfl, SqT.of (k5 _ _ l3h e5), a3, ?_⟩
      refine ⟨_, rfl, v, o, rfl, a5, ?_⟩
      rw [po]
      refine ⟨false, false, rfl, rfl, _, rfl, iteT ?_⟩
      refine ⟨_, rfl, v, o, rfl, a5, fun v6 G5 s6 k6 => ⟨(by show 2 ≤ sizeLine; decide), fun l nl => ?_⟩⟩
      rw [po, if_neg (by decide)] at k6
      refine ⟨badD, badD, (k6.same (same_new nl)).dp, (two_lst nl (.bl true)).dp, bad_shp, bad_shp, ?_⟩
      rw [show PyData.eqv badD badD = true from bad_eqv]
      exact q _ ((k4.trans (Keep.of s25)).trans (k5.trans (Keep.of (s6.trans (same_new nl))))) (h6.same (s6.trans (same_new nl)))
end
end K04
set_option Elab.async false
set_option linter.all false
set_option maxRecDepth 100000
set_option maxHeartbeats 4000000
set_option exponentiation.threshold 5000
namespace K04
open PySem PySem.Spec PyProof.Rows L2 TkS
theorem RF.kp {C : Addr} {H H' : Hp} {h a : Addr} {p : Nat} (hd : Hand H h) (k : Keep h H H') (x : RF C H a p) : RF C H' a p := by
  obtain ⟨c, cells, p', r, t, e, _⟩ := hd.ex
  obtain ⟨⟨dx, ha⟩, pr, le⟩ := x
  exact ⟨⟨dx, k.kp _ _ (fun z => by rw [z, e] at ha; cases ha) ha⟩, pr, le⟩
theorem FF.kp {C : Addr} {H H' : Hp} {h a : Addr} (hd : Hand H h) (k : Keep h H H') (x : FF C H a) : FF C H' a := by
  obtain ⟨c, cells, p', r, t, e, _⟩ := hd.ex
  obtain ⟨dx, z, o, m, e1, e2, e3, e4⟩ := x.at_
  exact ⟨⟨dx, z, o, m, k.kp _ _ (fun z => by rw [z, e] at e1; cases e1) e1, k.kp _ _ (fun z => by rw [z, e] at e2; cases e2) e2, k.kp _ _ (fun z => by rw [z, e] at e3; cases e3) e3, k.kp _ _ (fun z => by rw [z, e] at e4; cases e4) e4⟩⟩
theorem Fld.kp {CR CF : Addr} {H H' : Hp} {h a : Addr} {p : Nat} (hd : Hand H h) (k : Keep h H H') (x : Fld CR CF H a p) : Fld CR CF H' a p := ⟨x.fp, fun e => (x.fr e).kp hd k, fun e => (x.rs e).kp hd k⟩
structure Cx0 (CR CF : Addr) (H0 H : Hp) (h f : Addr) (p : Nat) (z : V) : Prop where
  kp : Keep h H0 H
  hd : Hand H h
  fl : Fld CR CF H f p
  kz : Dq H z (zeroD p)
theorem zero_hd (p : Nat) : noHd (zeroD p) = true := by
  unfold zeroD
  split <;> rfl
theorem Cx0.same {CR CF : Addr} {H0 H H' : Hp} {h f : Addr} {p : Nat} {z : V} (c : Cx0 CR CF H0 H h f p z) (s : Same H H') : Cx0 CR CF H0 H' h f p z := ⟨c.kp.trans (Keep.of s), c.hd.same s, c.fl.same s, c.kz.same s⟩
theorem Cx0.keep {CR CF : Addr} {H0 H H' : Hp} {h f : Addr} {p : Nat} {z : V} (c : Cx0 CR CF H0 H h f p z) (k : Keep h H H') (hd : Hand H' h) : Cx0 CR CF H0 H' h f p z := ⟨c.kp.trans k, hd, c.fl.kp c.hd k, dq_kp c.hd k (zero_hd p) c.kz⟩
theorem Fld.le {CR CF : Addr} {H : Hp} {a : Addr} {p : Nat} (x : Fld CR CF H a p) : p ≤ 20000 := by
  rcases x.fp with h | h
  · omega
  · exact h.2
/-- a method of two numbers, of a field of either kind -/
theorem op_use {CR CF : Addr} {H : Hp} {f : Addr} {p : Nat} {x y : V} {a b : PyData} {m : Str} {fi : Int → Int → Int} {fq : Int × Int → Int × Int → Int × Int} {fD : Nat → PyData → PyData → PyData} {σ : L2.St} {Q : VK} (hf : Fld CR CF H f p) (kx : Dq H x a) (ky : Dq H y b) (na : Nb p 40 a) (nb : Nb p 40 b)
    (hR : ∀ z : Int, ([("prime", V.int z), ("zero", .int 0), ("one", .int 1), ("minus_one", .int (z - 1))] : List (Str × V)).lookup m = none) (hF : ∀ z o n : Addr, ([("zero", V.ref z), ("one", .ref o), ("minus_one", .ref n)] : List (Str × V)).lookup m = none)
    (hi : p ≠ 0 → ∀ x y : Nat, fD p (.int (x : Int)) (.int (y : Int)) = .int (fi x y % (p : Int))) (hq : ∀ q r, fD 0 (frD q) (frD r) = frD (fq q r))
    (h1 : σ[1]? = some (some (.ref f))) (h5 : σ[5]? = some (some x)) (h6 : σ[6]? = some (some y)) (q : ∀ v H', Same H H' → Dq H' v (fD p a b) → Q v H') :
    tMeth CR m (sp_rest CR fi) [] E0 (tVar 1) (tCons (tVar 5) (tCons (tVar 6) tNil)) σ H Q ∨ tMeth CF m (sp_fr2 CF fq) [] E0 (tVar 1) (tCons (tVar 5) (tCons (tVar 6) tNil)) σ H Q := by
  cases na with
  | @fr k r a1 a2 a3 =>
    cases nb with
    | @fr k t b1 b2 b3 =>
      obtain ⟨dx, z, o, n, ea, _⟩ := (hf.fr rfl).at_
      refine .inr ⟨_, h1, f, dx, _, rfl, ea, hF z o n, _, h5, _, h6, f, x, y, r, t, rfl, hf.fr rfl, kx, ky, ⟨a1, fin_up a2 (by decide), fin_up a3 (by decide)⟩, ⟨b1, fin_up b2 (by decide), fin_up b3 (by decide)⟩, fun l H' s k => q _ H' s ?_⟩
      rw [hq]
      exact k
    | rs n _ => exact absurd rfl n
  | @rs p k xn n a1 =>
    cases nb with
    | fr _ _ _ => exact absurd rfl n
    | @rs p k yn n2 b1 =>
      cases kx
      cases ky
      obtain ⟨⟨dx, ha⟩, pr, le⟩ := id (hf.rs n)
      refine .inl ⟨_, h1, f, dx, _, rfl, ha, hR _, _, h5, _, h6, f, p, (xn : Int), (yn : Int), rfl, hf.rs n, med_nat a1 le, med_nat b1 le, q _ H (fun _ _ z => z) ?_⟩
      rw [hi n]
      exact .int _
def wholeD (p : Nat) (z : Int) : PyData := if p = 0 then frD (z, 1) else .int (z % (p : Int))
theorem of_use {CR CF : Addr} {H : Hp} {f : Addr} {p : Nat} {z : Int} {σ : L2.St} {Q : VK} (hf : Fld CR CF H f p) (h1 : σ[1]? = some (some (.ref f))) (h8 : σ[8]? = some (some (.int z))) (q : ∀ v H', Same H H' → Dq H' v (wholeD p z) → Q v H') :
    tMeth CR "number_of" (sp_rest_of CR) [] E0 (tVar 1) (tCons (tVar 8) tNil) σ H Q ∨ tMeth CF "number_of" (sp_fr_of CF) [] E0 (tVar 1) (tCons (tVar 8) tNil) σ H Q := by
  unfold wholeD at q
  by_cases p0 : p = 0
  · rw [if_pos p0] at q
    obtain ⟨dx, z, o, n, ea, _⟩ := (hf.fr p0).at_
    exact .inr ⟨_, h1, f, dx, _, rfl, ea, rfl, _, h8, f, _, rfl, hf.fr p0, fun l H' s k => q _ H' s k⟩
  · rw [if_neg p0] at q
    obtain ⟨⟨dx, ha⟩, pr, le⟩ := id (hf.rs p0)
    exact .inl ⟨_, h1, f, dx, _, rfl, ha, rfl, _, h8, f, p, _, rfl, hf.rs p0, q _ H (fun _ _ z => z) (.int _)⟩
theorem nb_whole {p : Nat} {z : Int} (h : z.natAbs < 2 ^ 40) : Nb p 3000 (wholeD p z) := by
  unfold wholeD
  by_cases p0 : p = 0
  · subst p0
    rw [if_pos rfl]
    exact .fr ⟨by show (0 : Int) < 1; decide, by show Nat.gcd z.natAbs 1 = 1; rw [Nat.gcd_one_right]⟩ (fin_up (m := 40) h (by decide)) (fin_small (by show (1 : Int).natAbs < 2; decide) (by decide))
  · rw [if_neg p0]
    have h0 : 0 ≤ z % (p : Int) := Int.emod_nonneg _ (by omega)
    have h1 : z % (p : Int) < (p : Int) := Int.emod_lt_of_pos _ (by omega)
    obtain ⟨n, e⟩ : ∃ n : Nat, z % (p : Int) = (n : Int) := ⟨(z % (p : Int)).toNat, by omega⟩
    rw [e]
    exact .rs p0 (by omega)
theorem nb_low {t b : Int} {m : Nat} (b0 : b ≠ 0) (ht : Fin m t) (hb : Fin m b) : Nb 0 m (frD (low t b)) := by
  obtain ⟨f1, f2⟩ := low_fin b0 ht hb
  exact .fr (low_ok b0).1 f1 f2
theorem nb_mod {p k : Nat} {z : Int} (p0 : p ≠ 0) : Nb p k (.int (z % (p : Int))) := by
  have h0 : 0 ≤ z % (p : Int) := Int.emod_nonneg _ (by omega)
  have h1 : z % (p : Int) < (p : Int) := Int.emod_lt_of_pos _ (by omega)
  obtain ⟨n, e⟩ : ∃ n : Nat, z % (p : Int) = (n : Int) := ⟨(z % (p : Int)).toNat, by omega⟩
  rw [e]
  exact .rs p0 (by omega)
theorem fin_add {k m : Nat} {x y : Int} (hx : Fin k x) (hy : Fin k y) (l : k + 1 ≤ m) : Fin m (x + y) ∧ Fin m (x - y) := by
  have e : 2 ^ (k + 1) ≤ 2 ^ m := Nat.pow_le_pow_right (by decide) l
  unfold Fin at *
  rw [Nat.pow_succ] at e
  omega
theorem nb_times {p k : Nat} {a b : PyData} (na : Nb p k a) (nb : Nb p k b) : Nb p (2 * k + 1) (timesD p a b) := by
  unfold timesD
  cases na with
  | @fr k r a1 a2 a3 =>
    cases nb with
    | @fr k t b1 b2 b3 =>
      rw [if_pos rfl]
      exact nb_low (mul_ne a1.1 b1.1) (fin_up (Fin.mul a2 b2) (by omega)) (fin_up (Fin.mul a3 b3) (by omega))
    | rs n _ => exact absurd rfl n
  | rs n _ =>
    rw [if_neg n]
    exact nb_mod n
theorem nb_plus {p k : Nat} {a b : PyData} (na : Nb p k a) (nb : Nb p k b) : Nb p (2 * k + 1) (plusD p a b) := by
  unfold plusD
  cases na with
  | @fr k r a1 a2 a3 =>
    cases nb with
    | @fr k t b1 b2 b3 =>
      rw [if_pos rfl]
      exact nb_low (mul_ne a1.1 b1.1) (fin_add (Fin.mul a2 b3) (Fin.mul b2 a3) (by omega)).1 (fin_up (Fin.mul a3 b3) (by omega))
    | rs n _ => exact absurd rfl n
  | rs n _ =>
    rw [if_neg n]
    exact nb_mod n
theorem nb_less {p k : Nat} {a b : PyData} (na : Nb p k a) (nb : Nb p k b) : Nb p (2 * k + 1) (lessD p a b) := by
  unfold lessD
  cases na with
  | @fr k r a1 a2 a3 =>
    cases nb with
    | @fr k t b1 b2 b3 =>
      rw [if_pos rfl]
      exact nb_low (mul_ne a1.1 b1.1) (fin_add (Fin.mul a2 b3) (Fin.mul b2 a3) (by omega)).2 (fin_up (Fin.mul a3 b3) (by omega))
    | rs n _ => exact absurd rfl n
  | rs n _ =>
    rw [if_neg n]
    exact nb_mod n
section
variable {K : PySem.W.Frag} {mg : Str → Option Value}
theorem fld_zero (T : Txt K mg) {H : Hp} {f : Addr} {p : Nat} (hf : Fld T.C_RestField T.C_FractionField H f p) : ∃ C dx fs v, H f = some (.ins C dx fs) ∧ Cls K C ∧ NoAttr K C "zero" ∧ fs.lookup ("zero" : Str) = some v ∧ Dq H v (zeroD p) := by
  unfold zeroD
  by_cases p0 : p = 0
  · rw [if_pos p0]
    obtain ⟨dx, z, o, n, ea, ez, eo, em⟩ := (hf.fr p0).at_
    exact ⟨_, dx, _, _, ea, T.cl_FractionField, T.na_FractionField_zero, rfl, fr_dq (q := (0, 1)) ez⟩
  · rw [if_neg p0]
    obtain ⟨⟨dx, ha⟩, pr, le⟩ := id (hf.rs p0)
    exact ⟨_, dx, _, _, ha, T.cl_RestField, T.na_RestField_zero, rfl, .int _⟩
theorem fld_one (T : Txt K mg) {H : Hp} {f : Addr} {p : Nat} (hf : Fld T.C_RestField T.C_FractionField H f p) : ∃ C dx fs v, H f = some (.ins C dx fs) ∧ Cls K C ∧ NoAttr K C "one" ∧ fs.lookup ("one" : Str) = some v ∧ Dq H v (oneD p) := by
  unfold oneD
  by_cases p0 : p = 0
  · rw [if_pos p0]
    obtain ⟨dx, z, o, n, ea, ez, eo, em⟩ := (hf.fr p0).at_
    exact ⟨_, dx, _, _, ea, T.cl_FractionField, T.na_FractionField_one, rfl, fr_dq (q := (1, 1)) eo⟩
  · rw [if_neg p0]
    obtain ⟨⟨dx, ha⟩, pr, le⟩ := id (hf.rs p0)
    exact ⟨_, dx, _, _, ha, T.cl_RestField, T.na_RestField_one, rfl, .int _⟩
theorem fld_minus (T : Txt K mg) {H : Hp} {f : Addr} {p : Nat} (hf : Fld T.C_RestField T.C_FractionField H f p) : ∃ C dx fs v, H f = some (.ins C dx fs) ∧ Cls K C ∧ NoAttr K C "minus_one" ∧ fs.lookup ("minus_one" : Str) = some v ∧ Dq H v (minusD p) := by
  unfold minusD
  by_cases p0 : p = 0
  · rw [if_pos p0]
    obtain ⟨dx, z, o, n, ea, ez, eo, em⟩ := (hf.fr p0).at_
    exact ⟨_, dx, _, _, ea, T.cl_FractionField, T.na_FractionField_minus_one, rfl, fr_dq (q := (-1, 1)) em⟩
  · rw [if_neg p0]
    obtain ⟨⟨dx, ha⟩, pr, le⟩ := id (hf.rs p0)
    exact ⟨_, dx, _, _, ha, T.cl_RestField, T.na_RestField_minus_one, rfl, .int _⟩
end
end K04
set_option Elab.async false
set_option linter.all false
set_option maxRecDepth 100000
set_option maxHeartbeats 4000000
set_option exponentiation.threshold 5000
namespace K04
open PySem PySem.Spec PyProof.Rows L2 TkS
def sp_law_sums_hold (CR CF : Addr) : Sp := fun vs H Q _ => ∃ (h f : Addr) (p : Nat), vs = [.ref h, .ref f, .int (p : Int)] ∧ Hand H h ∧ Fld CR CF H f p ∧ ∀ H', Keep h H H' → Hand H' h → Q (.bl true) H'
theorem zer_shp : SeqAt.shaped zerD = true := by decide +kernel
theorem zer_eqv : PyData.eqv zerD zerD = true := by decide +kernel
theorem zeroD_nb (p : Nat) : Nb p 40 (zeroD p) ∨ True := .inr trivial
section
variable {P : Program} {w : World} {K : PySem.W.Frag} {mg : Str → Option Value} {base : Heap}
theorem ok_law_sums_hold (T : Txt K mg) : FnOk P w K mg base CX0 13 T.f_law_sums_hold T.d_law_sums_hold ["_law_hand_here", "_law_field_here", "_law_prime_here"] (sp_law_sums_hold T.C_RestField T.C_FractionField) := by
  refine T.F_law_sums_hold.ok sc_law_sums_hold (fun vs H Q E h => ?_) (fun cdv A outer s H vs Q E hr h => ?_)
  · obtain ⟨h, f, p, rfl, _⟩ := h
    rfl
  · obtain ⟨h, f, p, rfl, hd, hf, q⟩ := h
    refine ⟨_, (Evl.pss_cut (ps_set (i := 3) sc_law_sums_hold.nd rfl (.inl rfl) (pe_ifExp (pt_cmpR op_eq (pv 2) pe_int (nomark _)) (pe_tup (pa_cons pe_int (pa_cons pe_int pa_nil))) pe_int))
      (pss_cons (ps_if (PW.pt (pw_or (pt_not (pt_val (pe_call (ok_law_same T) (hr.mono (by decide)) (by rfl) T.g_law_same T.F_law_same.kp T.b_law_same .nil pass0 (pa_cons (pv 2) (pa_cons (pe_fld (pv 1) rfl) (pa_cons (pv 3) pa_nil)))))) (pw_or1 (pt_not (pt_val (pe_call (ok_law_same T) (hr.mono (by decide)) (by rfl) T.g_law_same T.F_law_same.kp T.b_law_same .nil pass0 (pa_cons (pv 2) (pa_cons (pe_fld (pv 1) rfl) (pa_cons (pe_call (ok_law_one T) (hr.mono (by decide)) (by rfl) T.g_law_one T.F_law_one.kp T.b_law_one .nil pass0 (pa_cons (pv 2) pa_nil)) pa_nil)))))))))
        (pss_one (ps_ret pe_bl))
        pss_nil)
      (pss_cons (ps_if (pt_not (pt_val (pe_call (ok_law_same T) (hr.mono (by decide)) (by rfl) T.g_law_same T.F_law_same.kp T.b_law_same .nil pass0 (pa_cons (pv 2) (pa_cons (pe_fld (pv 1) rfl) (pa_cons (pe_call (ok_law_minus T) (hr.mono (by decide)) (by rfl) T.g_law_minus T.F_law_minus.kp T.b_law_minus .nil pass0 (pa_cons (pv 2) pa_nil)) pa_nil))))))
        (pss_one (ps_ret pe_bl))
        pss_nil)
      (pss_cons (ps_for PassesOwn.never rfl (pi_range1 (by rfl) T.m_range (pa_cons pe_int pa_nil)) (pg_name (i := 4) sc_law_sums_hold.nd rfl (.inl rfl))
        (pss_cons (ps_set (i := 5) sc_law_sums_hold.nd rfl (.inl rfl) (pe_call (ok_law_any_number T) (hr.mono (by decide)) (by rfl) T.g_law_any_number T.F_law_any_number.kp T.b_law_any_number .nil pass0 (pa_cons (pv 0) (pa_cons (pv 2) pa_nil))))
        (pss_cons (ps_set (i := 6) sc_law_sums_hold.nd rfl (.inl rfl) (pe_call (ok_law_any_number T) (hr.mono (by decide)) (by rfl) T.g_law_any_number T.F_law_any_number.kp T.b_law_any_number .nil pass0 (pa_cons (pv 0) (pa_cons (pv 2) pa_nil))))
        (pss_cons (ps_if (pt_not (pt_val (pe_call (ok_law_same T) (hr.mono (by decide)) (by rfl) T.g_law_same T.F_law_same.kp T.b_law_same .nil pass0 (pa_cons (pv 2) (pa_cons (pe_or2 (pe_meth (pv 1) T.cl_RestField T.M_RestField_plus (ok_RestField_plus T) (hr.mono (by decide)) T.b_RestField_plus .nil pass0 (pa_cons (pv 5) (pa_cons (pv 6) pa_nil))) (pe_meth (pv 1) T.cl_FractionField T.M_FractionField_plus (ok_FractionField_plus T) (hr.mono (by decide)) T.b_FractionField_plus .nil pass0 (pa_cons (pv 5) (pa_cons (pv 6) pa_nil)))) (pa_cons (pe_call (ok_law_plus T) (hr.mono (by decide)) (by rfl) T.g_law_plus T.F_law_plus.kp T.b_law_plus .nil pass0 (pa_cons (pv 2) (pa_cons (pv 5) (pa_cons (pv 6) pa_nil)))) pa_nil))))))
          (pss_one (ps_ret pe_bl))
          pss_nil)
        (pss_cons (ps_if (pt_not (pt_val (pe_call (ok_law_same T) (hr.mono (by decide)) (by rfl) T.g_law_same T.F_law_same.kp T.b_law_same .nil pass0 (pa_cons (pv 2) (pa_cons (pe_or2 (pe_meth (pv 1) T.cl_RestField T.M_RestField_less (ok_RestField_less T) (hr.mono (by decide)) T.b_RestField_less .nil pass0 (pa_cons (pv 5) (pa_cons (pv 6) pa_nil))) (pe_meth (pv 1) T.cl_FractionField T.M_FractionField_less (ok_FractionField_less T) (hr.mono (by decide)) T.b_FractionField_less .nil pass0 (pa_cons (pv 5) (pa_cons (pv 6) pa_nil)))) (pa_cons (pe_call (ok_law_less T) (hr.mono (by decide)) (by rfl) T.g_law_less T.F_law_less.kp T.b_law_less .nil pass0 (pa_cons (pv 2) (pa_cons (pv 5) (pa_cons (pv 6) pa_nil)))) pa_nil))))))
          (pss_one (ps_ret pe_bl))
          pss_nil)
        (pss_cons (ps_if (pt_not (pt_val (pe_call (ok_law_same T) (hr.mono (by decide)) (by rfl) T.g_law_same T.F_law_same.kp T.b_law_same .nil pass0 (pa_cons (pv 2) (pa_cons (pe_or2 (pe_meth (pv 1) T.cl_RestField T.M_RestField_times (ok_RestField_times T) (hr.mono (by decide)) T.b_RestField_times .nil pass0 (pa_cons (pv 5) (pa_cons (pv 6) pa_nil))) (pe_meth (pv 1) T.cl_FractionField T.M_FractionField_times (ok_FractionField_times T) (hr.mono (by decide)) T.b_FractionField_times .nil pass0 (pa_cons (pv 5) (pa_cons (pv 6) pa_nil)))) (pa_cons (pe_call (ok_law_times T) (hr.mono (by decide)) (by rfl) T.g_law_times T.F_law_times.kp T.b_law_times .nil pass0 (pa_cons (pv 2) (pa_cons (pv 5) (pa_cons (pv 6) pa_nil)))) pa_nil))))))
          (pss_one (ps_ret pe_bl))
          pss_nil)
        (Evl.pss_cut (ps_set (i := 7) sc_law_sums_hold.nd rfl (.inl rfl) (pe_call (ok_law_divided T) (hr.mono (by decide)) (by rfl) T.g_law_divided T.F_law_divided.kp T.b_law_divided .nil pass0 (pa_cons (pv 1) (pa_cons (pv 5) (pa_cons (pv 6) pa_nil)))))
        (Evl.pss_cut (ps_if (PW.pt (pw_and (pt_cmpR (op_eqD hr.units) (pv 6) (pv 3) (nomark _)) (pw_and1 (pt_cmpR (op_neD hr.units) (pv 7) (pe_lst (pa_cons pe_str (pa_cons pe_bl pa_nil))) (nomark _)))))
          (pss_one (ps_ret pe_bl))
          pss_nil)
        (Evl.pss_cut (ps_if (PW.pt (pw_and (pt_cmpR (op_neD hr.units) (pv 6) (pv 3) (nomark _)) (pw_and1 (PW.pt (pw_or (pt_cmpR op_ne (pe_ix ix_list (pv 7) pe_int (fun _ _ => rfl)) pe_str (nomark _)) (pw_or1 (pt_not (pt_val (pe_call (ok_law_is_number T) (hr.mono (by decide)) (by rfl) T.g_law_is_number T.F_law_is_number.kp T.b_law_is_number .nil pass0 (pa_cons (pv 2) (pa_cons (pe_ix ix_list (pv 7) pe_int (fun _ _ => rfl)) pa_nil)))))))))))
          (pss_one (ps_ret pe_bl))
          pss_nil)
        (Evl.pss_cut (ps_if (PW.pt (pw_and (pt_cmpR (op_neD hr.units) (pv 6) (pv 3) (nomark _)) (pw_and1 (pt_cmpR (op_neD hr.units) (pe_call (ok_law_times T) (hr.mono (by decide)) (by rfl) T.g_law_times T.F_law_times.kp T.b_law_times .nil pass0 (pa_cons (pv 2) (pa_cons (pe_ix ix_list (pv 7) pe_int (fun _ _ => rfl)) (pa_cons (pv 6) pa_nil)))) (pv 5) (nomark _)))))
          (pss_one (ps_ret pe_bl))
          pss_nil)
        (pss_cons (ps_if (pt_not (pt_val (pe_call (ok_law_powers_hold T) (hr.mono (by decide)) (by rfl) T.g_law_powers_hold T.F_law_powers_hold.kp T.b_law_powers_hold .nil pass0 (pa_cons (pv 1) (pa_cons (pv 2) (pa_cons (pv 5) (pa_cons (pe_call (ok_law_exponent T) (hr.mono (by decide)) (by rfl) T.g_law_exponent T.F_law_exponent.kp T.b_law_exponent .nil pass0 (pa_cons (pv 0) (pa_cons (pv 2) pa_nil))) (pa_cons (pv 3) pa_nil))))))))
          (pss_one (ps_ret pe_bl))
          pss_nil)
        (pss_cons (ps_if (PW.pt (pw_or (pt_not (pt_val (pe_call (ok_law_powers_hold T) (hr.mono (by decide)) (by rfl) T.g_law_powers_hold T.F_law_powers_hold.kp T.b_law_powers_hold .nil pass0 (pa_cons (pv 1) (pa_cons (pv 2) (pa_cons (pv 6) (pa_cons pe_int (pa_cons (pv 3) pa_nil)))))))) (pw_or1 (pt_not (pt_val (pe_call (ok_law_powers_hold T) (hr.mono (by decide)) (by rfl) T.g_law_powers_hold T.F_law_powers_hold.kp T.b_law_powers_hold .nil pass0 (pa_cons (pv 1) (pa_cons (pv 2) (pa_cons (pv 3) (pa_cons (pe_op op_sub (pv 4) pe_int) (pa_cons (pv 3) pa_nil)))))))))))
          (pss_one (ps_ret pe_bl))
          pss_nil)
        (pss_cons (ps_set (i := 8) sc_law_sums_hold.nd rfl (.inl rfl) (pe_op op_sub (pe_call (ok_law_draw T) (hr.mono (by decide)) (by rfl) T.g_law_draw T.F_law_draw.kp T.b_law_draw .nil pass0 (pa_cons (pv 0) (pa_cons (pe_op op_add (pe_op op_mul pe_int (pe_op op_pow pe_int pe_int)) pe_int) pa_nil))) (pe_op op_pow pe_int pe_int)))
        (Evl.pss_cut (ps_if (pt_not (pt_val (pe_call (ok_law_same T) (hr.mono (by decide)) (by rfl) T.g_law_same T.F_law_same.kp T.b_law_same .nil pass0 (pa_cons (pv 2) (pa_cons (pe_or2 (pe_meth (pv 1) T.cl_RestField T.M_RestField_number_of (ok_RestField_number_of T) (hr.mono (by decide)) T.b_RestField_number_of .nil pass0 (pa_cons (pv 8) pa_nil)) (pe_meth (pv 1) T.cl_FractionField T.M_FractionField_number_of (ok_FractionField_number_of T) (hr.mono (by decide)) T.b_FractionField_number_of .nil pass0 (pa_cons (pv 8) pa_nil))) (pa_cons (pe_ifExp (pt_cmpR op_eq (pv 2) pe_int (nomark _)) (pe_tup (pa_cons (pv 8) (pa_cons pe_int pa_nil))) (pe_op op_mod (pe_callTy call_int1 (by rfl) T.m_int (by decide +kernel) (pa_cons (pv 8) pa_nil)) (pv 2))) pa_nil))))))
          (pss_one (ps_ret pe_bl))
          pss_nil)
        (pss_cons (ps_set (i := 7) sc_law_sums_hold.nd rfl (.inl rfl) (pe_call (ok_law_number_told T) (hr.mono (by decide)) (by rfl) T.g_law_number_told T.F_law_number_told.kp T.b_law_number_told .nil pass0 (pa_cons (pv 1) (pa_cons (pv 5) pa_nil))))
        (pss_cons (ps_if (PW.pt (pw_or (pt_cmpR op_ne (pe_ix ix_list (pv 7) pe_int (fun _ _ => rfl)) pe_str (nomark _)) (pw_or1 (pt_not (pt_val (pe_call (ok_law_same T) (hr.mono (by decide)) (by rfl) T.g_law_same T.F_law_same.kp T.b_law_same .nil pass0 (pa_cons (pv 2) (pa_cons (pe_ix ix_list (pv 7) pe_int (fun _ _ => rfl)) (pa_cons (pv 5) pa_nil)))))))))
          (pss_one (ps_ret pe_bl))
          pss_nil)
        (pss_cons (ps_set (i := 9) sc_law_sums_hold.nd rfl (.inl rfl) (pe_call (ok_law_odd T) (hr.mono (by decide)) (by rfl) T.g_law_odd T.F_law_odd.kp T.b_law_odd .nil pass0 (pa_cons (pv 0) (pa_cons (pv 2) pa_nil))))
        (pss_one (ps_if (PW.pt (pw_and (pt_cmpR (op_neD hr.units) (pv 9) (pv 3) (nomark _)) (pw_and1 (pt_cmpR (op_neD hr.units) (pe_call (ok_law_number_told T) (hr.mono (by decide)) (by rfl) T.g_law_number_told T.F_law_number_told.kp T.b_law_number_told .nil pass0 (pa_cons (pv 1) (pa_cons (pv 9) pa_nil))) (pe_lst (pa_cons pe_str (pa_cons pe_bl pa_nil))) (nomark _)))))
          (pss_one (ps_ret pe_bl))
          pss_nil)))))))))))))))))))
      (pss_one (ps_ret pe_bl)))))), ?_⟩
    have fp := hf.fp
    have ple := hf.le
    have nz : Nb p 40 (zeroD p) := nb_zero fp (by decide)
    refine ⟨fun σ H' => ∃ z, σ = [some (.ref h), some (.ref f), some (.int (p : Int)), some z, none, none, none, none, none, none] ∧ Same H H' ∧ Dq H' z (zeroD p), ?_, fun σ H' hM => ?_⟩
    · refine ⟨_, rfl, rfl, _, rfl, ite2 (fun c => ?_) (fun c => ?_)⟩
      · have c' : (p : Int) = 0 := V.int.inj (of_decide_eq_true c)
        have e : zeroD p = frD (0, 1) := if_pos (by omega)
        exact ⟨(by show 2 ≤ sizeLine; decide), fun l nl => ⟨_, rfl, same_new nl, by rw [e]; exact fr_dq (q := (0, 1)) upd_same⟩⟩
      · have e : zeroD p = .int 0 := if_neg (fun z => c (decide_eq_true (by rw [z]; rfl)))
        exact ⟨_, rfl, fun _ _ z => z, by rw [e]; exact .int _⟩
    · obtain ⟨z, rfl, s0, kz⟩ := hM
      have hf0 := hf.same s0
      obtain ⟨C1, dx1, fs1, v1, a1, a2, a3, a4, a5⟩ := fld_zero T hf0
      obtain ⟨C2, dx2, fs2, v2, b1, b2, b3, b4, b5⟩ := fld_one T hf0
      refine ⟨_, rfl, _, rfl, f, C1, dx1, fs1, v1, rfl, a1, a2, a3, a4, _, rfl, p, v1, z, zeroD p, rfl, a5, kz, nz.up (by decide), _, rfl, iteF ?_⟩
      refine ⟨_, rfl, _, rfl, f, C2, dx2, fs2, v2, rfl, b1, b2, b3, b4, _, rfl, p, rfl, fun w2 H2 s2 k2 => ⟨p, v2, w2, oneD p, rfl, b5.same s2, k2, nb_one fp (by decide), _, rfl, iteF ?_⟩⟩
      obtain ⟨C3, dx3, fs3, v3, c1, c2, c3, c4, c5⟩ := fld_minus T (hf0.same s2)
      refine ⟨_, rfl, _, rfl, f, C3, dx3, fs3, v3, rfl, c1, c2, c3, c4, _, rfl, p, rfl, fun w3 H3 s3 k3 => ⟨p, v3, w3, minusD p, rfl, c5.same s3, k3, nb_minus fp (by decide), _, rfl, iteF ?_⟩⟩
      have s03 := (s0.trans s2).trans s3
      have cx : Cx0 T.C_RestField T.C_FractionField H H3 h f p z := ⟨Keep.of s03, hd.same s03, hf.same s03, kz.same (s2.trans s3)⟩
      refine ⟨4, rfl, by decide, by decide, for_range (lo := 0) (n := 4) (fun i σ H' => ∃ y4 y5 y6 y7 y8 y9, σ = [some (.ref h), some (.ref f), some (.int (p : Int)), some z, y4, y5, y6, y7, y8, y9] ∧ Cx0 T.C_RestField T.C_FractionField H H' h f p z) ⟨_, _, _, _, _, _, rfl, cx⟩ (fun i σ H' hi hP => ?_) (fun σ H' hP => ?_)⟩
      · obtain ⟨y4, y5, y6, y7, y8, y9, rfl, cx⟩ := hP
        refine ⟨_, rfl, _, rfl, h, p, rfl, cx.hd, fp, fun x H1 a k1 h1 kx na _ => ?_⟩
        replace cx := cx.keep k1 h1
        refine ⟨_, rfl, _, rfl, h, p, rfl, cx.hd, fp, fun y H2 b k2 h2 ky nb _ => ?_⟩
        replace kx := nb_kp cx.hd k2 na kx
        replace cx := cx.keep k2 h2
        clear k1 h1 k2 h2
        refine ⟨_, rfl, op_use (fD := plusD) cx.fl kx ky na nb (fun _ => rfl) (fun _ _ _ => rfl) (fun n _ _ => if_neg n) (fun _ _ => rfl) rfl rfl rfl fun v H3 s3 k3 => ?_⟩
        refine ⟨_, rfl, _, rfl, _, rfl, p, x, y, a, b, rfl, kx.same s3, ky.same s3, na.up (by decide), nb.up (by decide), ple, fun w H4 s4 k4 => ⟨p, v, w, plusD p a b, rfl, k3.same s4, k4, (nb_plus na nb).up (by decide), _, rfl, iteF ?_⟩⟩
        replace cx := cx.same (s3.trans s4)
        replace kx := kx.same (s3.trans s4)
        replace ky := ky.same (s3.trans s4)
        clear k3 k4 s3 s4
        refine ⟨_, rfl, op_use (fD := lessD) cx.fl kx ky na nb (fun _ => rfl) (fun _ _ _ => rfl) (fun n _ _ => if_neg n) (fun _ _ => rfl) rfl rfl rfl fun v H3 s3 k3 => ?_⟩
        refine ⟨_, rfl, _, rfl, _, rfl, p, x, y, a, b, rfl, kx.same s3, ky.same s3, na.up (by decide), nb.up (by decide), ple, fun w H4 s4 k4 => ⟨p, v, w, lessD p a b, rfl, k3.same s4, k4, (nb_less na nb).up (by decide), _, rfl, iteF ?_⟩⟩
        replace cx := cx.same (s3.trans s4)
        replace kx := kx.same (s3.trans s4)
        replace ky := ky.same (s3.trans s4)
        clear k3 k4 s3 s4
        refine ⟨_, rfl, op_use (fD := timesD) cx.fl kx ky na nb (fun _ => rfl) (fun _ _ _ => rfl) (fun n _ _ => if_neg n) (fun _ _ => rfl) rfl rfl rfl fun v H3 s3 k3 => ?_⟩
        refine ⟨_, rfl, _, rfl, _, rfl, p, x, y, a, b, rfl, kx.same s3, ky.same s3, na.up (by decide), nb.up (by decide), ple, fun w HB s4 k4 => ⟨p, v, w, timesD p a b, rfl, k3.same s4, k4, (nb_times na nb).up (by decide), _, rfl, iteF ?_⟩⟩
        replace cx := cx.same (s3.trans s4)
        replace kx := kx.same (s3.trans s4)
        replace ky := ky.same (s3.trans s4)
        clear k3 k4 s3 s4
        refine ⟨(fun σ H' => ∃ v, σ = [some (.ref h), some (.ref f), some (.int (p : Int)), some z, some (.int (0 + (i : Int))), some x, some y, some v, y8, y9] ∧ Same HB H' ∧ ((b = zeroD p ∧ Dq H' v zerD) ∨ (b ≠ zeroD p ∧ ∃ c, Nb p 100 c ∧ timesD p c b = a ∧ Dq H' v (toldD c)))), ?_, fun σ H' hM => ?_⟩
        · exact ⟨_, rfl, _, rfl, _, rfl, f, p, x, y, a, b, rfl, cx.fl, kx, ky, na, nb, fun e v H' s k => ⟨v, rfl, s, .inl ⟨e, k⟩⟩, fun e v H' c s nc et k => ⟨v, rfl, s, .inr ⟨e, c, nc, et, k⟩⟩⟩
        obtain ⟨v, rfl, s, o⟩ := hM
        refine ⟨(fun σ H' => ∃ v, σ = [some (.ref h), some (.ref f), some (.int (p : Int)), some z, some (.int (0 + (i : Int))), some x, some y, some v, y8, y9] ∧ Same HB H' ∧ ((b = zeroD p ∧ Dq H' v zerD) ∨ (b ≠ zeroD p ∧ ∃ c, Nb p 100 c ∧ timesD p c b = a ∧ Dq H' v (toldD c)))), ?_, fun σ H' hM => ?_⟩
        · refine ⟨_, rfl, _, rfl, b, zeroD p, (ky.same s).dp, (cx.kz.same s).dp, nb_shp nb, zero_shp p, _, rfl, ?_⟩
          rcases o with ⟨e, k⟩ | ⟨e, c, nc, et, k⟩
          · rw [show PyData.eqv b (zeroD p) = true by rw [e]; exact nb_self nz]
            refine iteT ⟨_, rfl, (by show 2 ≤ sizeLine; decide), fun l nl => ⟨zerD, zerD, (k.same (same_new nl)).dp, (two_lst nl (.bl true)).dp, zer_shp, zer_shp, _, rfl, ?_⟩⟩
            rw [zer_eqv]
            exact iteF ⟨v, rfl, s.trans (same_new nl), .inl ⟨e, k.same (same_new nl)⟩⟩
          · rw [nb_ne nb nz e]
            exact iteF ⟨v, rfl, s, .inr ⟨e, c, nc, et, k⟩⟩
        clear o
        obtain ⟨v, rfl, s, o⟩ := hM
        refine ⟨(fun σ H' => ∃ v, σ = [some (.ref h), some (.ref f), some (.int (p : Int)), some z, some (.int (0 + (i : Int))), some x, some y, some v, y8, y9] ∧ Same HB H' ∧ ((b = zeroD p ∧ Dq H' v zerD) ∨ (b ≠ zeroD p ∧ ∃ c, Nb p 100 c ∧ timesD p c b = a ∧ Dq H' v (toldD c)))), ?_, fun σ H' hM => ?_⟩
        · refine ⟨_, rfl, _, rfl, b, zeroD p, (ky.same s).dp, (cx.kz.same s).dp, nb_shp nb, zero_shp p, _, rfl, ?_⟩
          rcases o with ⟨e, k⟩ | ⟨e, c, nc, et, k⟩
          · rw [show PyData.eqv b (zeroD p) = true by rw [e]; exact nb_self nz]
            exact iteF ⟨v, rfl, s, .inl ⟨e, k⟩⟩
          · rw [nb_ne nb nz e]
            obtain ⟨l, xc, rfl, hl, kc⟩ := lst_at2 k
            exact iteT ⟨_, rfl, l, _, 0, _, rfl, rfl, SqL.of hl, at_of (j := 0) rfl rfl, rfl, _, rfl, iteF ⟨_, rfl, _, rfl, l, _, 1, _, rfl, rfl, SqL.of hl, at_of (j := 1) rfl rfl, p, xc, c, rfl, kc, nc.up (by decide), _, rfl, iteF ⟨_, rfl, s, .inr ⟨e, c, nc, et, k⟩⟩⟩⟩
        clear o
        obtain ⟨v, rfl, s, o⟩ := hM
        refine ⟨(fun σ H' => σ = [some (.ref h), some (.ref f), some (.int (p : Int)), some z, some (.int (0 + (i : Int))), some x, some y, some v, y8, y9] ∧ Same HB H'), ?_, fun σ H' hM => ?_⟩
        · refine ⟨_, rfl, _, rfl, b, zeroD p, (ky.same s).dp, (cx.kz.same s).dp, nb_shp nb, zero_shp p, _, rfl, ?_⟩
          rcases o with ⟨e, k⟩ | ⟨e, c, nc, et, k⟩
          · rw [show PyData.eqv b (zeroD p) = true by rw [e]; exact nb_self nz]
            exact iteF ⟨rfl, s⟩
          · rw [nb_ne nb nz e]
            obtain ⟨l, xc, rfl, hl, kc⟩ := lst_at2 k
            refine iteT ⟨_, rfl, _, rfl, l, _, 1, _, rfl, rfl, SqL.of hl, at_of (j := 1) rfl rfl, _, rfl, p, xc, y, c, b, rfl, kc, ky.same s, nc.up (by decide), nb.up (by decide), ple, fun w H5 s5 k5 => ⟨_, rfl, a, a, (by rw [et] at k5; exact k5.dp), (kx.same (s.trans s5)).dp, nb_shp na, nb_shp na, _, rfl, ?_⟩⟩
            rw [nb_self na]
            exact iteF ⟨rfl, s.trans s5⟩
        clear o
        obtain ⟨rfl, s⟩ := hM
        replace cx := cx.same s
        replace kx := kx.same s
        replace ky := ky.same s
        clear s
        refine ⟨_, rfl, _, rfl, _, rfl, _, rfl, _, rfl, h, p, rfl, cx.hd, fp, fun e H5 k5 h5 eb el => ?_⟩
        replace kx := nb_kp cx.hd k5 na kx
        replace ky := nb_kp cx.hd k5 nb ky
        replace cx := cx.keep k5 h5
        refine ⟨_, rfl, f, p, x, z, a, e, rfl, cx.fl, kx, na, cx.kz, eb, el, fun H6 s6 => ⟨_, rfl, iteF ?_⟩⟩
        replace cx := cx.same s6
        replace kx := kx.same s6
        replace ky := ky.same s6
        clear s6 k5 h5 eb el
        refine ⟨_, rfl, _, rfl, _, rfl, _, rfl, f, p, y, z, b, 0, rfl, cx.fl, ky, nb, cx.kz, fun _ => ⟨by decide, by decide⟩, by decide, fun H7 s7 => ⟨_, rfl, iteF ?_⟩⟩
        replace cx := cx.same s7
        replace kx := kx.same s7
        refine ⟨_, rfl, _, rfl, _, rfl, _, rfl, _, _, rfl, rfl, _, rfl, f, p, z, z, zeroD p, 0 + (i : Int) - 1, rfl, cx.fl, cx.kz, nz, cx.kz, fun _ => ⟨by omega, by omega⟩, by omega, fun H8 s8 => ⟨_, rfl, iteF ?_⟩⟩
        replace cx := cx.same s8
        replace kx := kx.same s8
        clear s7 s8 ky
        refine ⟨_, rfl, 10, 9, rfl, rfl, ⟨by decide, by decide, by decide⟩, _, _, rfl, rfl, .inl ⟨by decide, by decide⟩, _, _, rfl, rfl, h, _, rfl, cx.hd, (by decide), (by decide), fun H9 r k9 h9 r0 r1 => ⟨10, 9, rfl, rfl, ⟨by decide, by decide, by decide⟩, _, _, rfl, rfl, ?_⟩⟩
        replace kx := nb_kp cx.hd k9 na kx
        replace cx := cx.keep k9 h9
        have e9 : (10 : Int) ^ Int.toNat 9 = 1000000000 := by decide
        rw [e9] at r1
        have zb : (r - 10 ^ Int.toNat 9).natAbs < 2 ^ 40 := by
          rw [e9]
          omega
        refine ⟨(fun σ H' => σ = [some (.ref h), some (.ref f), some (.int (p : Int)), some z, some (.int (0 + (i : Int))), some x, some y, some v, some (.int (r - 10 ^ Int.toNat 9)), y9] ∧ Same H9 H'), ?_, fun σ H' hM => ?_⟩
        · refine ⟨_, rfl, of_use (z := r - 10 ^ Int.toNat 9) cx.fl rfl rfl fun w H10 s10 k10 => ⟨_, rfl, rfl, _, rfl, ite2 (fun c => ?_) (fun c => ?_)⟩⟩
          · have c' : (p : Int) = 0 := V.int.inj (of_decide_eq_true c)
            have ew : wholeD p (r - 10 ^ Int.toNat 9) = frD (r - 10 ^ Int.toNat 9, 1) := if_pos (by omega)
            refine ⟨_, rfl, (by show 2 ≤ sizeLine; decide), fun l nl => ⟨p, w, .ref l, _, rfl, k10.same (same_new nl), (by rw [ew]; exact fr_dq (q := (r - 10 ^ Int.toNat 9, 1)) upd_same), nb_whole zb, _, rfl, iteF ⟨rfl, s10.trans (same_new nl)⟩⟩⟩
          · have p0 : p ≠ 0 := fun z => c (decide_eq_true (by rw [z]; rfl))
            have ew : wholeD p (r - 10 ^ Int.toNat 9) = .int ((r - 10 ^ Int.toNat 9) % (p : Int)) := if_neg p0
            refine ⟨_, rfl, .inl ⟨_, rfl, _, rfl, _, _, rfl, rfl, (show (0 : Int) < (p : Int) by omega), p, w, .int _, _, rfl, k10, (by rw [ew]; exact .int _), nb_whole zb, _, rfl, iteF ⟨rfl, s10⟩⟩⟩
        obtain ⟨rfl, s⟩ := hM
        replace cx := cx.same s
        replace kx := kx.same s
        refine ⟨_, rfl, _, rfl, f, p, x, a, rfl, cx.fl, kx, fun v H10 s10 k10 => ?_⟩
        rw [numOk_nb na, if_pos rfl] at k10
        replace cx := cx.same s10
        replace kx := kx.same s10
        obtain ⟨l, xc, rfl, hl, kc⟩ := lst_at2 k10
        refine ⟨_, rfl, l, _, 0, _, rfl, rfl, SqL.of hl, at_of (j := 0) rfl rfl, rfl, _, rfl, iteF ⟨_, rfl, _, rfl, l, _, 1, _, rfl, rfl, SqL.of hl, at_of (j := 1) rfl rfl, _, rfl, p, xc, x, a, rfl, kc, kx, na.up (by decide), _, rfl, iteF ?_⟩⟩
        refine ⟨_, rfl, _, rfl, h, p, rfl, cx.hd, fp, fun v9 H11 d k11 h11 kd od => ?_⟩
        replace cx := cx.keep k11 h11
        refine ⟨_, rfl, _, rfl, d, zeroD p, kd.dp, cx.kz.dp, od.1, zero_shp p, _, rfl, ?_⟩
        rcases od.2.2 with e | rf
        · rw [show PyData.eqv d (zeroD p) = true by rw [e]; exact nb_self nz]
          exact iteF ⟨_, _, _, _, _, _, rfl, cx⟩
        · refine ite2 (fun _ => ?_) (fun _ => ⟨_, _, _, _, _, _, rfl, cx⟩)
          refine ⟨_, rfl, _, rfl, f, p, v9, d, rfl, cx.fl, kd, fun w H12 s12 k12 => ⟨(by show 2 ≤ sizeLine; decide), fun l nl => ?_⟩⟩
          rw [numOk_refu rf, if_neg (by decide)] at k12
          refine ⟨badD, badD, (k12.same (same_new nl)).dp, (two_lst nl (.bl true)).dp, bad_shp, bad_shp, _, rfl, ?_⟩
          rw [bad_eqv]
          exact iteF ⟨_, _, _, _, _, _, rfl, cx.same (s12.trans (same_new nl))⟩
      · obtain ⟨y4, y5, y6, y7, y8, y9, rfl, cx⟩ := hP
        exact q _ cx.kp cx.hd
end
end K04
set_option Elab.async false
set_option linter.all false
set_option maxRecDepth 100000
set_option maxHeartbeats 4000000
set_option exponentiation.threshold 5000
namespace K04
open PySem PySem.Spec PyProof.Rows L2 TkS
def sp_law_prime_parts : Sp := fun vs H Q _ => ∃ n : Nat, vs = [.int (n : Int)] ∧ 1 ≤ n ∧ n ≤ 20000 ∧ ∀ (D : Addr) (qs : List Nat) H', Same H H' → H' D = some (.lst (qs.map fun (q : Nat) => V.int (q : Int))) → (∀ q ∈ qs, Pr q ∧ q ∣ n) → (∀ q, Pr q → q ∣ n → q ∈ qs) → qs.length ≤ 200 → Q (.ref D) H'
structure Parts (p : Nat) (qs : List Nat) : Prop where
  to : ∀ q ∈ qs, Pr q ∧ q ∣ p - 1
  all : ∀ q, Pr q → q ∣ p - 1 → q ∈ qs
  len : qs.length ≤ 200
def sp_law_is_source : Sp := fun vs H Q _ => ∃ (p g : Nat) (D : Addr) (qs : List Nat), vs = [.int (p : Int), .int (g : Int), .ref D] ∧ Pr p ∧ p ≤ 20000 ∧ 1 ≤ g ∧ g < p ∧ H D = some (.lst (qs.map fun (q : Nat) => V.int (q : Int))) ∧ Parts p qs ∧ ∀ (b : Bool) H', Same H H' → (b = true ↔ Src p g) → Q (.bl b) H'
theorem all_lc {r : List V → Hp → VK → Prop} {wi : TI} {g : TG} {tt : TT} {te : TE} {vs : List Nat} {σ : L2.St} {H : Hp} {Q : VK} (h : tLc wi g tt te vs σ H fun v H1 => r [v] H1 Q) : tCB r (tCons (tLc wi g tt te vs) tNil) σ H Q := h
theorem pow_bound {d j m : Nat} (h2 : 2 ≤ d) (h : m * 2 ^ j ≤ 20000) (m1 : 1 ≤ m) : j < 15 := by
  refine Classical.byContradiction fun z => ?_
  have : 2 ^ 15 ≤ 2 ^ j := Nat.pow_le_pow_right (by decide) (by omega)
  have e15 : 2 ^ 15 = 32768 := by decide
  have : 1 * 2 ^ j ≤ m * 2 ^ j := Nat.mul_le_mul_right _ m1
  omega
section
variable {P : Program} {w : World} {K : PySem.W.Frag} {mg : Str → Option Value} {base : Heap}
theorem ok_law_prime_parts (T : Txt K mg) : FnOk P w K mg base CX0 1 T.f_law_prime_parts T.d_law_prime_parts ["_law_number_here"] sp_law_prime_parts := by
  refine T.F_law_prime_parts.ok sc_law_prime_parts (fun vs H Q E h => ?_) (fun cdv A outer s H vs Q E hr h => ?_)
  · obtain ⟨n, rfl, _⟩ := h
    rfl
  · obtain ⟨n, rfl, n1, nb, q⟩ := h
    refine ⟨_, (pss_cons (ps_set (i := 1) sc_law_prime_parts.nd rfl (.inl rfl) (pe_lst pa_nil))
      (pss_cons (ps_set (i := 2) sc_law_prime_parts.nd rfl (.inl rfl) (pv 0))
      (pss_cons (ps_for PassesOwn.never rfl (pi_range2 (by rfl) T.m_range (pa_cons pe_int (pa_cons pe_int pa_nil))) (pg_name (i := 3) sc_law_prime_parts.nd rfl (.inl rfl))
        (pss_one (ps_if (pt_cmpR op_eq (pe_op op_mod (pe_callTy call_int1 (by rfl) T.m_int (by decide +kernel) (pa_cons (pv 2) pa_nil)) (pv 3)) pe_int (nomark _))
          (pss_cons (ps_expr (pe_bm PySem.F.plainAttrs_list PySem.F.slot_list_append PySem.F.type_list_append mt_append (pv 1) (pa_cons (pv 3) pa_nil)))
          (pss_one (ps_for PassesOwn.never rfl (pi_range1 (by rfl) T.m_range (pa_cons pe_int pa_nil)) (pg_name (i := 4) sc_law_prime_parts.nd rfl (.inl rfl))
            (pss_one (ps_if (pt_cmpR op_eq (pe_op op_mod (pe_callTy call_int1 (by rfl) T.m_int (by decide +kernel) (pa_cons (pv 2) pa_nil)) (pv 3)) pe_int (nomark _))
              (pss_one (ps_set (i := 2) sc_law_prime_parts.nd rfl (.inl rfl) (pe_op op_fdiv (pv 2) (pv 3))))
              pss_nil)))))
          pss_nil)))
      (Evl.pss_cut (ps_if (pt_cmpR op_gt (pv 2) pe_int (nomark _))
        (pss_one (ps_expr (pe_bm PySem.F.plainAttrs_list PySem.F.slot_list_append PySem.F.type_list_append mt_append (pv 1) (pa_cons (pv 2) pa_nil))))
        pss_nil)
      (pss_one (ps_ret (pv 1))))))), ?_⟩
    refine ⟨Nat.zero_le _, fun D nD => ⟨_, rfl, ?_⟩⟩
    refine ⟨2, 150, rfl, ⟨by decide, by decide, by decide, by decide⟩, for_range (lo := 2) (n := 148) (fun i σ H' => ∃ (left : Nat) (y3 y4 : Option V) (qs : List Nat), σ = [some (.int (n : Int)), some (.ref D), some (.int (left : Int)), y3, y4] ∧ Same H H' ∧ H' D = some (.lst (qs.map fun (q : Nat) => V.int (q : Int))) ∧ 1 ≤ left ∧ left ∣ n ∧ (∀ e, 2 ≤ e → e < 2 + i → ¬ e ∣ left) ∧ (∀ q ∈ qs, Pr q ∧ q ∣ n) ∧ (∀ q, Pr q → q ∣ n → q ∈ qs ∨ q ∣ left) ∧ qs.length ≤ i)
      ⟨n, none, none, [], rfl, same_new nD, upd_same, n1, Nat.dvd_refl n, (fun e a b => by omega), (fun q h => nomatch h), (fun q _ h => .inr h), Nat.le_refl 0⟩ (fun i σ H' hi hP => ?_) (fun σ H' hP => ?_)⟩
    · obtain ⟨left, y3, y4, qs, rfl, sm, eD, l1, ld, no, hq, all, len⟩ := hP
      have ed : (2 : Int) + (i : Int) = ((2 + i : Nat) : Int) := by omega
      rw [ed]
      have lb : left ≤ 20000 := Nat.le_trans (Nat.le_of_dvd (by omega) ld) nb
      obtain ⟨d, hd⟩ : ∃ d, d = 2 + i := ⟨_, rfl⟩
      rw [← hd] at no ⊢
      have d2 : 2 ≤ d := by omega
      refine ⟨_, rfl, .inl ⟨_, rfl, _, rfl, left, d, rfl, rfl, (show (0 : Int) < (d : Int) by omega), rfl, _, rfl, ite2 (fun c => ?_) (fun c => ?_)⟩⟩
      · have c' : (left : Int) % (d : Int) = 0 := V.int.inj (of_decide_eq_true c)
        have dl : d ∣ left := Nat.dvd_of_mod_eq_zero (by omega)
        have pd : Pr d := ⟨d2, fun e e2 el ed => no e e2 el (Nat.dvd_trans ed dl)⟩
        refine ⟨_, rfl, .inl ⟨rfl, _, SqL.of eD⟩, _, rfl, D, _, _, rfl, rfl, eD, small1000 (by rw [List.length_map]; omega), ?_⟩
        refine ⟨15, rfl, by decide, by decide, for_range (lo := 0) (n := 15) (fun j σ H2 => ∃ (m : Nat) (y4 : Option V), σ = [some (.int (n : Int)), some (.ref D), some (.int (m : Int)), some (.int (d : Int)), y4] ∧ Same H H2 ∧ H2 D = some (.lst ((qs ++ [d]).map fun (q : Nat) => V.int (q : Int))) ∧ 1 ≤ m ∧ m ∣ left ∧ (∀ q, Pr q → q ∣ left → q = d ∨ q ∣ m) ∧ (¬ d ∣ m ∨ m * 2 ^ j ≤ left))
          ⟨left, y4, rfl, same_put sm nD, ?_, l1, Nat.dvd_refl _, fun q _ h => .inr h, .inr (by rw [Nat.pow_zero, Nat.mul_one]; exact Nat.le_refl _)⟩ (fun j σ H2 hj hP => ?_) (fun σ H2 hP => ?_)⟩
        · rw [upd_same, List.map_append]
          rfl
        · obtain ⟨m, y4, rfl, s2, eD2, m1, ml, mq, mb⟩ := hP
          refine ⟨_, rfl, .inl ⟨_, rfl, _, rfl, m, d, rfl, rfl, (show (0 : Int) < (d : Int) by omega), rfl, _, rfl, ite2 (fun c => ?_) (fun c => ?_)⟩⟩
          · have c' : (m : Int) % (d : Int) = 0 := V.int.inj (of_decide_eq_true c)
            have dm : d ∣ m := Nat.dvd_of_mod_eq_zero (by omega)
            obtain ⟨k, hk⟩ := dm
            have ek : m / d = k := by rw [hk]; exact Nat.mul_div_cancel_left _ (by omega)
            have k1 : 1 ≤ k := by
              refine Nat.pos_of_ne_zero fun z => ?_
              rw [z, Nat.mul_zero] at hk
              omega
            have ez : ((m : Int) / (d : Int)) = (k : Int) := by
              rw [← ek]
              rfl
            refine ⟨_, rfl, _, rfl, m, d, rfl, rfl, ⟨by omega, by omega⟩, k, some (.int (0 + (j : Int))), ?_, s2, eD2, k1, Nat.dvd_trans ⟨d, by rw [hk, Nat.mul_comm]⟩ ml, fun q pq ql => ?_, ?_⟩
            · show ([some (.int (n : Int)), some (.ref D), some (.int ((m : Int) / (d : Int))), some (.int (d : Int)), some (.int (0 + (j : Int)))] : L2.St) = _
              rw [ez]
            · rcases mq q pq ql with e | e
              · exact .inl e
              · rw [hk] at e
                by_cases qd : q ∣ d
                · exact .inl (pr_dvd pd pq.1 qd)
                · exact .inr (euclid pq e qd)
            · refine .inr ?_
              have b := mb.resolve_left fun z => z ⟨k, hk⟩
              have h2 : 2 * k ≤ m := by rw [hk]; exact Nat.mul_le_mul_right k d2
              rw [Nat.pow_succ, Nat.mul_comm (2 ^ j) 2, ← Nat.mul_assoc]
              exact Nat.le_trans (Nat.mul_le_mul_right _ (by omega)) b
          · have nd : ¬ d ∣ m := fun z => c (decide_eq_true (congrArg V.int (by have := Nat.mod_eq_zero_of_dvd z; omega)))
            exact ⟨m, _, rfl, s2, eD2, m1, ml, mq, .inl nd⟩
        · obtain ⟨m, y4, rfl, s2, eD2, m1, ml, mq, mb⟩ := hP
          have nd : ¬ d ∣ m := mb.elim id fun b => by
            have := pow_bound d2 (Nat.le_trans b lb) m1
            omega
          refine ⟨m, _, _, qs ++ [d], rfl, s2, eD2, m1, Nat.dvd_trans ml ld, fun e e2 el em => ?_, fun q h => ?_, fun q pq qn => ?_, ?_⟩
          · rcases Nat.lt_or_ge e d with l | l
            · exact no e e2 l (Nat.dvd_trans em ml)
            · have : e = d := by omega
              rw [this] at em
              exact nd em
          · rcases List.mem_append.mp h with e | e
            · exact hq q e
            · rw [List.mem_singleton.mp e]
              exact ⟨pd, Nat.dvd_trans dl ld⟩
          · rcases all q pq qn with e | e
            · exact .inl (List.mem_append.mpr (.inl e))
            · rcases mq q pq e with e | e
              · rw [e]
                exact .inl (List.mem_append.mpr (.inr (List.mem_singleton.mpr rfl)))
              · exact .inr e
          · rw [List.length_append, List.length_singleton]
            omega
      · have nd : ¬ d ∣ left := fun z => c (decide_eq_true (congrArg V.int (by have := Nat.mod_eq_zero_of_dvd z; omega)))
        refine ⟨left, _, _, qs, rfl, sm, eD, l1, ld, fun e e2 el => ?_, hq, all, by omega⟩
        rcases Nat.lt_or_ge e d with l | l
        · exact no e e2 l
        · have : e = d := by omega
          rw [this]
          exact nd
    · obtain ⟨left, y3, y4, qs, rfl, sm, eD, l1, ld, no, hq, all, len⟩ := hP
      have lb : left ≤ 20000 := Nat.le_trans (Nat.le_of_dvd (by omega) ld) nb
      refine ⟨fun σ H2 => ∃ (y2 y3 y4 : Option V) (qs : List Nat), σ = [some (.int (n : Int)), some (.ref D), y2, y3, y4] ∧ Same H H2 ∧ H2 D = some (.lst (qs.map fun (q : Nat) => V.int (q : Int))) ∧ (∀ q ∈ qs, Pr q ∧ q ∣ n) ∧ (∀ q, Pr q → q ∣ n → q ∈ qs) ∧ qs.length ≤ 200, ?_, fun σ H2 hM => ?_⟩
      · refine ⟨_, rfl, left, 1, rfl, rfl, _, rfl, ite2 (fun c => ?_) (fun c => ?_)⟩
        · have c' : (1 : Int) < (left : Int) := of_decide_eq_true c
          have pl : Pr left := (LF.self).mp (lf_big (d := 150) (by omega) (by omega) no)
          refine ⟨_, rfl, .inl ⟨rfl, _, SqL.of eD⟩, _, rfl, D, _, _, rfl, rfl, eD, small1000 (by rw [List.length_map]; omega), ?_⟩
          refine ⟨_, _, _, qs ++ [left], rfl, same_put sm nD, ?_, fun q h => ?_, fun q pq qn => ?_, ?_⟩
          · rw [upd_same, List.map_append]
            rfl
          · rcases List.mem_append.mp h with e | e
            · exact hq q e
            · rw [List.mem_singleton.mp e]
              exact ⟨pl, ld⟩
          · rcases all q pq qn with e | e
            · exact List.mem_append.mpr (.inl e)
            · exact List.mem_append.mpr (.inr (List.mem_singleton.mpr (pr_dvd pl pq.1 e)))
          · rw [List.length_append, List.length_singleton]
            omega
        · have c' : ¬ (1 : Int) < (left : Int) := fun z => c (decide_eq_true z)
          refine ⟨_, _, _, qs, rfl, sm, eD, hq, fun q pq qn => (all q pq qn).elim id fun e => ?_, by omega⟩
          have := Nat.le_of_dvd (by omega) e
          have := pq.1
          omega
      · obtain ⟨y2, y3, y4, qs, rfl, sm, eD, hq, all, len⟩ := hM
        exact ⟨_, rfl, q D qs _ sm eD hq all len⟩
theorem ok_law_is_source (T : Txt K mg) : FnOk P w K mg base CX0 5 T.f_law_is_source T.d_law_is_source ["_law_prime_here", "_law_number_here", "_law_parts"] sp_law_is_source := by
  refine T.F_law_is_source.ok sc_law_is_source (fun vs H Q E h => ?_) (fun cdv A outer s H vs Q E hr h => ?_)
  · obtain ⟨p, g, D, qs, rfl, _⟩ := h
    rfl
  · obtain ⟨p, g, D, qs, rfl, pr, le, g1, gp, eD, pa, q⟩ := h
    refine ⟨_, (pss_one (ps_ret (pe_callB (cr_all rfl) (by rfl) T.m_all (by decide +kernel) (pa_cons (pe_lc rfl sc_law_is_source.nd (pi_seq (pv 2)) (blkOk_by (own := [("_law_part", 3)]) (N := ["_law_prime_here", "_law_number_here", "_law_parts", "_law_part"]) (sc := defScope s_law_is_source) (by decide +kernel)) (fun _ _ _ _ _ => (pg_name (i := 3) sc_law_is_source.nd rfl (.inl rfl))) (fun _ _ _ _ _ => pts_nil) (fun _ _ _ _ _ => (pe_cmpR op_ne (pe_call (ok_law_power0 T) (hr.mono (by decide)) (by rfl) T.g_law_power T.F_law_power.kp T.b_law_power .nil pass0 (pa_cons (pv 0) (pa_cons (pv 1) (pa_cons (pe_op op_fdiv (pe_op op_sub (pv 0) pe_int) (pv 3)) pa_nil)))) pe_int (nomark _)))) pa_nil)))), ?_⟩
    have p2 := pr.1
    obtain ⟨M, hM⟩ : ∃ M : Nat, M = p - 1 := ⟨_, rfl⟩
    have eM : (p : Int) - 1 = (M : Int) := by omega
    have M1 : 1 ≤ M := by omega
    have srcq : Src p g ↔ ∀ q ∈ qs, g ^ (M / q) % p ≠ 1 := ⟨fun s q hq' => by
      rw [hM]
      exact s q (pa.to q hq').1 (pa.to q hq').2, fun s q pq qM => by
      rw [← hM]
      exact s q (pa.all q pq qM)⟩
    refine all_lc (lc_seqV (a := D) (xs := qs.map fun (q : Nat) => V.int (q : Int)) (fun _ => true) (fun i => V.bl (!decide (g ^ (M / qs.getD i 0) % p = 1))) (fun Q h => ⟨_, rfl, h⟩) (.inl (SqL.of eD)) (by rw [List.length_map]; exact Nat.le_trans pa.len (by decide)) (fun i x H3 R N hx s3 yes no' => ?_) (fun D2 H3 nD2 s3 hD2 => ?_))
    · rw [List.getElem?_map] at hx
      obtain ⟨q', hq', rfl⟩ := Option.map_eq_some_iff.mp hx
      obtain ⟨pq, qM⟩ := pa.to q' (List.mem_of_getElem? hq')
      have q2 := pq.1
      have qle := Nat.le_of_dvd M1 (by rw [hM]; exact qM)
      have y := yes rfl
      rw [show qs.getD i 0 = q' by rw [List.getD_eq_getElem?_getD, hq']; rfl] at y
      have fE : M / q' < 2 ^ 200 := Nat.lt_of_le_of_lt (Nat.div_le_self M q') (Nat.lt_of_le_of_lt (show M ≤ 20000 by omega) (by decide +kernel))
      refine ⟨rfl, _, rfl, _, rfl, _, rfl, (p : Int), 1, rfl, rfl, _, rfl, (p : Int) - 1, (q' : Int), rfl, rfl, ⟨by omega, by omega⟩, p, .int (g : Int), .int (g : Int), M / q', _, ?_, .int _, pw_rs p2 gp, le, fE, fun v H4 s4 k4 => ?_⟩
      · show [V.int (p : Int), .int (g : Int), .int (((p : Int) - 1) / (q' : Int))] = _
        rw [eM]
        rfl
      · cases k4
        refine ⟨rfl, ?_⟩
        rw [int_dec]
        have ed : decide (((g ^ (M / q') % p : Nat) : Int) = 1) = decide (g ^ (M / q') % p = 1) := decide_eq_decide.mpr ⟨fun z => by omega, fun z => by omega⟩
        rw [ed]
        exact y H4 s4
    · rw [range_all, List.length_map] at hD2
      have eB : H3 D2 = some (.lst (((List.range qs.length).map fun i => !decide (g ^ (M / qs.getD i 0) % p = 1)).map V.bl)) := by
        rw [List.map_map]
        exact hD2
      refine ⟨D2, _, rfl, SqL.of eB, q _ _ s3 ?_⟩
      rw [srcq, List.all_eq_true]
      constructor
      · intro h q' hq' e
        obtain ⟨i, hi, eq⟩ := List.getElem_of_mem hq'
        have z := h _ (List.mem_map.mpr ⟨i, List.mem_range.mpr hi, rfl⟩)
        rw [show qs.getD i 0 = q' by rw [List.getD_eq_getElem?_getD, List.getElem?_eq_getElem hi]; exact eq, decide_eq_true e] at z
        cases z
      · intro h b hb
        obtain ⟨i, hi, rfl⟩ := List.mem_map.mp hb
        have hi' := List.mem_range.mp hi
        have z := h (qs.getD i 0) (by rw [List.getD_eq_getElem?_getD, List.getElem?_eq_getElem hi']; exact List.getElem_mem hi')
        show (!decide _) = true
        rw [decide_eq_false z]
        rfl
end
end K04
set_option Elab.async false
set_option linter.all false
set_option maxRecDepth 100000
set_option maxHeartbeats 4000000
set_option exponentiation.threshold 5000
namespace K04
open PySem PySem.Spec PyProof.Rows L2 TkS
def badL : PyData := .list [.str "bad"]
theorem badL_shp : SeqAt.shaped badL = true := by decide +kernel
theorem badL_eqv : PyData.eqv badL badL = true := by decide +kernel
theorem one_lst {H : Hp} {l : Addr} {s : Str} : Dq (upd H l (.lst [.str s])) (.ref l) (.list [.str s]) := .lst upd_same (.cons (.str _) .nil)
def sp_law_steps_told (C : Addr) : Sp := fun vs H Q _ => ∃ (f : Addr) (p : Nat) (x : V) (d : PyData), vs = [.ref f, x] ∧ RF C H f p ∧ Dq H x d ∧ ((wholeIn x (.int 0) (.int ((p : Int) - 1)) = false ∨ d = .int 0) → ∀ v H', Same H H' → Dq H' v badL → Q v H') ∧
  (∀ (y n g : Nat), d = .int (y : Int) → 0 < y → y < p → LeastSrc p g → n < p - 1 → g ^ n % p = y → ∀ v H', Same H H' → Dq H' v (toldD (.int (n : Int))) → Q v H')
def sp_law_source_holds : Sp := fun vs H Q _ => ∃ (h : Addr) (p : Nat), vs = [.ref h, .int (p : Int)] ∧ Hand H h ∧ Pr p ∧ p ≤ 20000 ∧ ∀ H', Q (.bl true) H'
section
variable {P : Program} {w : World} {K : PySem.W.Frag} {mg : Str → Option Value} {base : Heap}
theorem ok_law_steps_told (T : Txt K mg) : FnOk P w K mg base CX0 13 T.f_law_steps_told T.d_law_steps_told ["_law_field_here", "_law_thing"] (sp_law_steps_told T.C_RestField) := by
  refine T.F_law_steps_told.ok sc_law_steps_told (fun vs H Q E h => ?_) (fun cdv A outer s H vs Q E hr h => ?_)
  · obtain ⟨f, p, x, d, rfl, _⟩ := h
    rfl
  · obtain ⟨f, p, x, d, rfl, hf, kx, qb, q⟩ := h
    refine' ⟨_, (pss_one ?tr), ?_⟩
    case tr =>
      exact ps_try_only (Wout := fun _ _ _ _ => False) rfl rfl ⟨rfl, by decide, Or.inl T.g_BadNumber⟩ takes0
        (fun W pn xe tk _ => pss_one (ps_ret (pe_lst (pa_cons pe_str (pa_cons (pe_callSD (ok_steps_of T) (hr.mono (by decide)) (by rfl) T.g_steps_of T.F_steps_of.kp T.b_steps_of .nil (fun σ => passAt tk σ) (pa_cons (pv 0) (pa_cons (pv 1) pa_nil))) pa_nil)))))
        (fun a oe cls d pn hz hf => pss_one (ps_ret (pe_lst (pa_cons pe_str pa_nil))))
    refine ⟨_, rfl, _, rfl, f, p, x, d, rfl, hf, kx, fun e H' s => ?_, fun e H' s => ?_, fun y n g e y0 y1 ls n1 en H' s => ?_⟩
    · exact ⟨true, T.mm_BadNumber_BadNumber, fun _ a0 na => ⟨(by show 1 ≤ sizeLine; decide), fun l nl => qb (.inl e) _ _ (s.trans (same_new nl)) one_lst⟩, fun z => Bool.noConfusion z⟩
    · exact ⟨true, T.mm_BadNumber_BadNumber, fun _ a0 na => ⟨(by show 1 ≤ sizeLine; decide), fun l nl => qb (.inr e) _ _ (s.trans (same_new nl)) one_lst⟩, fun z => Bool.noConfusion z⟩
    · exact ⟨(by show 2 ≤ sizeLine; decide), fun l nl => q y n g e y0 y1 ls n1 en _ _ (s.trans (same_new nl)) (two_lst nl (.int _))⟩
theorem ok_law_source_holds (T : Txt K mg) : FnOk P w K mg base CX0 14 T.f_law_source_holds T.d_law_source_holds ["_law_hand_here", "_law_prime_here"] sp_law_source_holds := by
  refine T.F_law_source_holds.ok sc_law_source_holds (fun vs H Q E h => ?_) (fun cdv A outer s H vs Q E hr h => ?_)
  · obtain ⟨h, p, rfl, _⟩ := h
    rfl
  · obtain ⟨h, p, rfl, hd, pr, le, q⟩ := h
    refine ⟨_, (pss_cons (ps_set (i := 2) sc_law_source_holds.nd rfl (.inl rfl) (pe_make T.M_RestField (ok_RestField_init T) (hr.mono (by decide)) (by rfl) T.g_RestField T.b_RestField_init .nil passL (pa_cons (pv 1) pa_nil)))
      (pss_cons (ps_set (i := 3) sc_law_source_holds.nd rfl (.inl rfl) (pe_call (ok_law_prime_parts T) (hr.mono (by decide)) (by rfl) T.g_law_prime_parts T.F_law_prime_parts.kp T.b_law_prime_parts .nil pass0 (pa_cons (pe_op op_sub (pv 1) pe_int) pa_nil)))
      (pss_cons (ps_set (i := 4) sc_law_source_holds.nd rfl (.inl rfl) (pe_call (ok_source_of T) (hr.mono (by decide)) (by rfl) T.g_source_of T.F_source_of.kp T.b_source_of .nil pass0 (pa_cons (pv 2) pa_nil)))
      (pss_cons (ps_if (PW.pt (pw_or (pt_not (pt_val (pe_call (ok_law_whole T) (hr.mono (by decide)) (by rfl) T.g_law_whole T.F_law_whole.kp T.b_law_whole .nil pass0 (pa_cons (pv 4) pa_nil)))) (pw_or (pt_not (pt_chain op_le op_lt pe_int (pv 4) (pv 1))) (pw_or1 (pt_not (pt_val (pe_call (ok_law_is_source T) (hr.mono (by decide)) (by rfl) T.g_law_is_source T.F_law_is_source.kp T.b_law_is_source .nil pass0 (pa_cons (pv 1) (pa_cons (pv 4) (pa_cons (pv 3) pa_nil))))))))))
        (pss_one (ps_ret pe_bl))
        pss_nil)
      (pss_cons (ps_for PassesOwn.never rfl (pi_range2 (by rfl) T.m_range (pa_cons pe_int (pa_cons (pv 4) pa_nil))) (pg_name (i := 5) sc_law_source_holds.nd rfl (.inl rfl))
        (pss_one (ps_if (pt_val (pe_call (ok_law_is_source T) (hr.mono (by decide)) (by rfl) T.g_law_is_source T.F_law_is_source.kp T.b_law_is_source .nil pass0 (pa_cons (pv 1) (pa_cons (pv 5) (pa_cons (pv 3) pa_nil)))))
          (pss_one (ps_ret pe_bl))
          pss_nil)))
      (pss_cons (ps_set (i := 6) sc_law_source_holds.nd rfl (.inl rfl) (pe_call (ok_law_number T) (hr.mono (by decide)) (by rfl) T.g_law_number T.F_law_number.kp T.b_law_number .nil pass0 (pa_cons (pv 0) (pa_cons (pv 1) pa_nil))))
      (pss_cons (ps_set (i := 7) sc_law_source_holds.nd rfl (.inl rfl) (pe_call (ok_law_steps_told T) (hr.mono (by decide)) (by rfl) T.g_law_steps_told T.F_law_steps_told.kp T.b_law_steps_told .nil pass0 (pa_cons (pv 2) (pa_cons (pv 6) pa_nil))))
      (pss_cons (ps_if (PW.pt (pw_or (pt_cmpR op_ne (pe_ix ix_list (pv 7) pe_int (fun _ _ => rfl)) pe_str (nomark _)) (pw_or (pt_not (pt_val (pe_call (ok_law_whole T) (hr.mono (by decide)) (by rfl) T.g_law_whole T.F_law_whole.kp T.b_law_whole .nil pass0 (pa_cons (pe_ix ix_list (pv 7) pe_int (fun _ _ => rfl)) pa_nil)))) (pw_or1 (pt_not (pt_chain op_le op_lt pe_int (pe_ix ix_list (pv 7) pe_int (fun _ _ => rfl)) (pe_callB (call_max2 rfl) (by rfl) T.m_max (by decide +kernel) (pa_cons pe_int (pa_cons (pe_op op_sub (pv 1) pe_int) pa_nil)))))))))
        (pss_one (ps_ret pe_bl))
        pss_nil)
      (pss_cons (ps_if (pt_cmpR op_ne (pe_call (ok_law_power0 T) (hr.mono (by decide)) (by rfl) T.g_law_power T.F_law_power.kp T.b_law_power .nil pass0 (pa_cons (pv 1) (pa_cons (pv 4) (pa_cons (pe_ix ix_list (pv 7) pe_int (fun _ _ => rfl)) pa_nil)))) (pv 6) (nomark _))
        (pss_one (ps_ret pe_bl))
        pss_nil)
      (pss_one (ps_ret (pe_cmpR (op_eqD hr.units) (pe_call (ok_law_steps_told T) (hr.mono (by decide)) (by rfl) T.g_law_steps_told T.F_law_steps_told.kp T.b_law_steps_told .nil pass0 (pa_cons (pv 2) (pa_cons (pe_call (ok_law_odd T) (hr.mono (by decide)) (by rfl) T.g_law_odd T.F_law_odd.kp T.b_law_odd .nil pass0 (pa_cons (pv 0) (pa_cons (pv 1) pa_nil))) pa_nil))) (pe_lst (pa_cons pe_str pa_nil)) (nomark _))))))))))))), ?_⟩
    have p2 := pr.1
    have fp : Fp p := .inr ⟨pr, le⟩
    have p0 : p ≠ 0 := by omega
    refine ⟨_, rfl, mk_rest (.int _) (fun e => ?_) fun p' e pr' le' H1 f s1 n1 rf => ?_⟩
    · rw [prime_is pr le] at e
      cases e
    have epp : p = p' := by
      have := PyData.int.inj e
      omega
    subst epp
    refine ⟨_, rfl, (p : Int), 1, rfl, rfl, p - 1, ?_, by omega, by omega, fun D qs H2 s2 eD to all len => ?_⟩
    · show [V.int ((p : Int) - 1)] = [V.int ((p - 1 : Nat) : Int)]
      rw [show ((p - 1 : Nat) : Int) = (p : Int) - 1 by omega]
    have pa : Parts p qs := ⟨to, all, len⟩
    refine ⟨_, rfl, f, p, rfl, rf.same s2, fun g H3 ls s3 => ?_⟩
    have s13 := (s1.trans s2).trans s3
    have rf3 := (rf.same s2).same s3
    have eD3 := s3 _ _ eD
    have h3 := hd.same s13
    obtain ⟨g1, gp, gs, gl⟩ := id ls
    refine ⟨_, rfl, .int (g : Int), .int (g : Int), rfl, .int _, true, rfl, iteF ?_⟩
    refine ⟨_, rfl, 1, (g : Int), rfl, rfl, _, rfl, ite2 (fun _ => ?_) (fun c => absurd (decide_eq_true (show (1 : Int) ≤ (g : Int) by omega)) c)⟩
    refine ⟨_, rfl, (g : Int), (p : Int), rfl, rfl, _, rfl, ?_⟩
    rw [show decide ((g : Int) < (p : Int)) = true from decide_eq_true (by omega)]
    refine iteF ⟨_, rfl, _, rfl, _, rfl, p, g, D, qs, rfl, pr, le, g1, gp, eD3, pa, fun b H4 s4 hb => ?_⟩
    have eb : b = true := hb.mpr gs
    subst eb
    refine ⟨_, rfl, iteF ?_⟩
    refine ⟨_, rfl, 1, (g : Int), rfl, ⟨by omega, by omega, by omega, by omega⟩, for_range (lo := 1) (n := ((g : Int) - 1).toNat) (fun i σ H' => ∃ y5, σ = [some (.ref h), some (.int (p : Int)), some (.ref f), some (.ref D), some (.int (g : Int)), y5, none, none] ∧ Same H4 H') ⟨none, rfl, fun _ _ z => z⟩ (fun i σ H' hi hP => ?_) (fun σ H' hP => ?_)⟩
    · obtain ⟨y5, rfl, s5⟩ := hP
      have em : (1 : Int) + (i : Int) = ((1 + i : Nat) : Int) := by omega
      rw [em]
      refine ⟨_, rfl, _, rfl, _, rfl, p, 1 + i, D, qs, rfl, pr, le, by omega, by omega, s5 _ _ (s4 _ _ eD3), pa, fun b H5 s6 hb => ?_⟩
      have eb : b = false := by
        cases b with
        | false => rfl
        | true => exact absurd (hb.mp rfl) (gl (1 + i) (by omega) (by omega))
      subst eb
      exact ⟨_, rfl, iteF ⟨_, rfl, s5.trans s6⟩⟩
    · obtain ⟨y5, rfl, s5⟩ := hP
      have s45 := s4.trans s5
      have h5 := h3.same s45
      have rf5 := rf3.same s45
      refine ⟨_, rfl, _, rfl, h, p, rfl, h5, fp, fun v H6 d k6 h6 kd nb nz => ?_⟩
      have rf6 := rf5.kp h5 k6
      cases nb with
      | fr _ _ _ => exact absurd rfl p0
      | @rs _ _ y _ y1 =>
        have y0 : 0 < y := Nat.pos_of_ne_zero fun z => nz rfl (by
          unfold zeroD
          rw [if_neg p0, z]
          rfl)
        cases kd
        obtain ⟨n0, n01, n02⟩ := src_all pr (rest_nd (by omega) gp) gs y0 y1
        refine ⟨_, rfl, _, rfl, f, p, _, _, rfl, rf6, .int _, fun bad => ?_, fun y' n g' e y0' y1' ls' n1' en v7 H7 s7 k7 => ?_⟩
        · exfalso
          rcases bad with b | b
          · have : wholeIn (.int (y : Int)) (.int 0) (.int ((p : Int) - 1)) = true := by
              show (decide ((0 : Int) ≤ (y : Int)) && decide ((y : Int) ≤ (p : Int) - 1)) = true
              rw [decide_eq_true (by omega), decide_eq_true (by omega)]
              rfl
            rw [this] at b
            cases b
          · have := PyData.int.inj b
            omega
        · have eg := ls'.uniq ls
          subst eg
          have ey : y = y' := by
            have := PyData.int.inj e
            omega
          subst ey
          obtain ⟨l, xc, rfl, hl, kc⟩ := lst_at2 k7
          cases kc
          have h7 := h6.same s7
          have rf7 := rf6.same s7
          refine ⟨_, rfl, l, _, 0, _, rfl, rfl, SqL.of hl, at_of (j := 0) rfl rfl, rfl, _, rfl, iteF ?_⟩
          refine ⟨_, rfl, l, _, 1, _, rfl, rfl, SqL.of hl, at_of (j := 1) rfl rfl, .int (n : Int), .int (n : Int), rfl, .int _, true, rfl, iteF ?_⟩
          refine ⟨_, rfl, l, _, 1, _, rfl, rfl, SqL.of hl, at_of (j := 1) rfl rfl, 0, (n : Int), rfl, rfl, _, rfl, ite2 (fun _ => ?_) (fun c => absurd (decide_eq_true (show (0 : Int) ≤ (n : Int) by omega)) c)⟩
          refine ⟨_, rfl, (p : Int), 1, rfl, rfl, 1, (p : Int) - 1, rfl, (n : Int), _, rfl, rfl, _, rfl, ?_⟩
          rw [show decide ((n : Int) < (if (p : Int) - 1 > 1 then (p : Int) - 1 else 1)) = true from decide_eq_true (by split <;> omega)]
          refine iteF ?_
          have fE : n < 2 ^ 200 := Nat.lt_of_le_of_lt (show n ≤ 20000 by omega) (by decide +kernel)
          refine ⟨_, rfl, _, rfl, _, rfl, l, _, 1, _, rfl, rfl, SqL.of hl, at_of (j := 1) rfl rfl, p, .int (g' : Int), .int (g' : Int), n, _, rfl, .int _, pw_rs p2 gp, le, fE, fun v8 H8 s8 k8 => ?_⟩
          cases k8
          refine ⟨_, rfl, rfl, _, rfl, ?_⟩
          rw [en]
          refine ite2 (fun c => absurd c (by rw [decide_eq_true rfl]; decide)) (fun _ => ?_)
          refine ⟨_, rfl, _, rfl, _, rfl, h, p, rfl, h7.same s8, fp, fun v9 H9 d9 k9 h9 kd9 od => ?_⟩
          have rf9 := (rf7.same s8).kp (h7.same s8) k9
          have bad : wholeIn v9 (.int 0) (.int ((p : Int) - 1)) = false ∨ d9 = .int 0 := by
            rcases od.2.2 with e | rf
            · right
              rw [e]
              exact if_neg p0
            · left
              rw [← numOk_rest p0 kd9]
              exact numOk_refu rf
          refine ⟨f, p, v9, d9, rfl, rf9, kd9, fun _ v10 H10 s10 k10 => ⟨(by show 1 ≤ sizeLine; decide), fun l nl => ?_⟩, fun y2 n2 g2 e2 y20 y21 _ _ _ => ?_⟩
          · refine ⟨badL, badL, (k10.same (same_new nl)).dp, one_lst.dp, badL_shp, badL_shp, ?_⟩
            rw [badL_eqv]
            exact q _
          · exfalso
            rcases bad with b | b
            · rw [e2] at kd9
              cases kd9
              have : wholeIn (.int (y2 : Int)) (.int 0) (.int ((p : Int) - 1)) = true := by
                show (decide ((0 : Int) ≤ (y2 : Int)) && decide ((y2 : Int) ≤ (p : Int) - 1)) = true
                rw [decide_eq_true (by omega), decide_eq_true (by omega)]
                rfl
              rw [this] at b
              cases b
            · rw [e2] at b
              have := PyData.int.inj b
              omega
end
end K04
set_option Elab.async false
set_option linter.all false
set_option maxRecDepth 100000
set_option maxHeartbeats 4000000
set_option exponentiation.threshold 5000
namespace TkS
open PySem PySem.Spec PyProof.Rows L2
theorem notFirst_of {K : PySem.W.Frag} {C D : Addr} (h : PySem.W.kitOne K (.ref D) (.ref C) = some false) : PySem.W.notFirst K C (.ref D) = true := by
  unfold PySem.W.kitOne at h
  split at h
  · cases h
  · unfold PySem.W.kitCls at h
    dsimp only at h
    split at h
    · unfold PySem.W.notFirst
      rw [h]
      simp
    · cases h
section
variable {X : Cx} {CX : CXT} {n : Nat} {f C D : Addr} {fd : FuncData} {ps : List Str} {sp : Sp} {E : XK}
/-- == of instances of unlike classes, by the left one's own __eq__ -/
def rEqOwn2 (C D : Addr) (sp : Sp) (E : XK) : R2 := fun x y H Q => ∃ a b dx dy fs gs, x = .ref a ∧ y = .ref b ∧ H a = some (.ins C dx fs) ∧ H b = some (.ins D dy gs) ∧ sp [.ref a, .ref b] H (fun v H' => (∃ r, v = .bl r) ∧ Q v H') E
theorem op_eqOwn2 (hn : PySem.W.kitOne X.K (.ref D) (.ref C) = some false) (F : FnOk X.prog X.w X.K X.mg X.base CX n f fd ps sp) (hr : Room n X.A) (hs : PySem.W.findIn X.K (.ref C) "__eq__" = some (some (.ref f))) (hf : PySem.W.isFn X.K (.ref f) = true) (hb : Binds X.K fd ps []) (hx : Passes CX X E) :
    OpR X (compareOp .Eq) (rEqOwn2 C D sp E) := by
  intro pins s σ H x y v u Q I rx ry h
  obtain ⟨a, b, dx, dy, fs, gs, rfl, rfl, ha, hb', hq⟩ := h
  cases rx
  cases ry
  obtain ⟨mA, J, _⟩ := ins_get I.hok ha
  obtain ⟨mB, J', _⟩ := ins_get I.hok hb'
  obtain ⟨od, J, _⟩ := J.look
  obtain ⟨od', J', _⟩ := J'.look
  obtain ⟨m, hF⟩ := I.fr
  show wpAny (model X.prog X.w) X.A (richCompare .Eq (.ref a) (.ref b)) (EP X pins σ Q) X.xe s
  refine PySem.W.cmp_K (op := .Eq) (tb := .ref D) hr.units0 hF I.ok.mod.kin J J'.type (notFirst_of hn) hs hf ?_
  have hl := F.len _ _ _ _ hq
  refine wpAny_mono (run_fn (us := [.ref a, .ref b]) (vs := [.ref a, .ref b]) (dvs := []) (Q := fun v H' => (∃ r, v = .bl r) ∧ Q v H') F hr hb .nil hx I (.cons rfl (.cons rfl .nil)) hq) (fun u s' z => ?_) fun _ _ z => z
  obtain ⟨v, H', I', rv, ⟨r, ev⟩, q⟩ := z
  subst ev
  cases (show u = Value.bool r from rv)
  exact ⟨.bl r, H', I', rfl, q⟩
theorem op_or2 {g : Value → Value → Sem Value} {r1 r2 : R2} (a : OpR X g r1) (b : OpR X g r2) : OpR X g (fun x y H Q => r1 x y H Q ∨ r2 x y H Q) := fun pins s σ H x y v u Q I rx ry h => h.elim (a pins s σ H x y v u Q I rx ry) (b pins s σ H x y v u Q I rx ry)
end
end TkS
namespace K04
open PySem PySem.Spec PyProof.Rows L2 TkS
abbrev lawN : List Str := ["_law_script", "_law_hand_here", "_law_prime_here", "_law_other", "_law_one_here", "_law_largest"]
def rEqF (CR CF : Addr) : R2 := fun x y H Q => (rEqOwn CR (sp_rest_eq CR CF) E0 x y H Q ∨ rEqOwn2 CR CF (sp_rest_eq CR CF) E0 x y H Q) ∨ (rEqOwn CF (sp_fr_eq CF CR) E0 x y H Q ∨ rEqOwn2 CF CR (sp_fr_eq CF CR) E0 x y H Q)
theorem eq_use {CR CF : Addr} {H : Hp} {a b : Addr} {p p' : Nat} {Q : VK} (hf : Fld CR CF H a p) (hg : Fld CR CF H b p') (q : Q (.bl (decide (p = p'))) H) : rEqF CR CF (.ref a) (.ref b) H Q := by
  by_cases e : p = 0
  · obtain ⟨dx, z, o, n, ea, _⟩ := (hf.fr e).at_
    by_cases e' : p' = 0
    · obtain ⟨dx', z', o', n', ea', _⟩ := (hg.fr e').at_
      rw [decide_eq_true (by omega)] at q
      exact .inr (.inl ⟨a, b, dx, dx', _, _, rfl, rfl, ea, ea', a, b, rfl, hf.fr e, .inl ⟨hg.fr e', ⟨_, rfl⟩, q⟩⟩)
    · obtain ⟨dx', ea'⟩ := (hg.rs e').at_
      rw [decide_eq_false (by omega)] at q
      exact .inr (.inr ⟨a, b, dx, dx', _, _, rfl, rfl, ea, ea', a, b, rfl, hf.fr e, .inr ⟨p', hg.rs e', ⟨_, rfl⟩, q⟩⟩)
  · obtain ⟨dx, ea⟩ := (hf.rs e).at_
    by_cases e' : p' = 0
    · obtain ⟨dx', z', o', n', ea', _⟩ := (hg.fr e').at_
      rw [decide_eq_false (by omega)] at q
      exact .inl (.inr ⟨a, b, dx, dx', _, _, rfl, rfl, ea, ea', a, b, p, rfl, hf.rs e, .inr ⟨hg.fr e', ⟨_, rfl⟩, q⟩⟩)
    · obtain ⟨dx', ea'⟩ := (hg.rs e').at_
      exact .inl (.inl ⟨a, b, dx, dx', _, _, rfl, rfl, ea, ea', a, b, p, rfl, hf.rs e, .inl ⟨p', hg.rs e', ⟨_, rfl⟩, q⟩⟩)
def sp_law (K : PySem.W.Frag) : Sp := fun vs H Q _ => ∃ (a : Addr) (ns : List Int), vs = [.ref a] ∧ SqL K H a (ns.map V.int) ∧ ns.length ≤ 63 ∧ ∀ H', Q (.bl true) H'
section
variable {P : Program} {w : World} {K : PySem.W.Frag} {mg : Str → Option Value} {base : Heap}
theorem op_eqF {X : Cx} (T : Txt X.K X.mg) (hr : Room 40 X.A) : OpR X (compareOp .Eq) (rEqF T.C_RestField T.C_FractionField) :=
  op_or2 (op_or2 (op_eqOwn (ok_RestField_eq T) (hr.mono (by decide)) T.RestField_eq_at T.RestField_eq_fn T.b_RestField_eq pass0) (op_eqOwn2 T.kit_FractionField_RestField (ok_RestField_eq T) (hr.mono (by decide)) T.RestField_eq_at T.RestField_eq_fn T.b_RestField_eq pass0))
    (op_or2 (op_eqOwn (ok_FractionField_eq T) (hr.mono (by decide)) T.FractionField_eq_at T.FractionField_eq_fn T.b_FractionField_eq pass0) (op_eqOwn2 T.kit_RestField_FractionField (ok_FractionField_eq T) (hr.mono (by decide)) T.FractionField_eq_at T.FractionField_eq_fn T.b_FractionField_eq pass0))
theorem nat_dec (p q : Nat) : decide (V.int (p : Int) = V.int (q : Int)) = decide (p = q) := by
  rw [int_dec]
  exact decide_eq_decide.mpr ⟨fun z => by omega, fun z => by omega⟩
theorem ok_law (T : Txt K mg) : TopOk P w K mg base CX0 T.f_law T.d_law ["_law_script"] (sp_law K) := by
  obtain ⟨oc, od, kV, doc, pm, an, cdv, ct, osl, ed, lk, hcd⟩ := T.F_law.ex
  rw [ed] at lk ⊢
  refine top_of lk hcd sc_law (fun vs H Q E h => ?_) (fun outer s H vs Q E hr h => ?_)
  · obtain ⟨a, ns, rfl, _⟩ := h
    rfl
  · obtain ⟨sa, ns, rfl, hS, hl, q⟩ := h
    suffices hh : ∃ t, PSs (cxOf CX0 P w K mg base lawN "law" (defScope s_law) T.f_law cdv callerA outer s H E).nox (defBody s_law) t ∧ t { nx := fun _ H' => Q .non H', rt := Q } (start lawN [.ref sa]) H by
      obtain ⟨t, h1, h2⟩ := hh
      exact ⟨t, h1.nox, h2⟩
    have hr5 : Room 40 (callerA.deeper (envOfC "law" (defScope s_law) s.heap.objs.size T.f_law cdv)) := hr.mono (by decide)
    refine ⟨_, (pss_cons (ps_set (i := 1) sc_law.nd rfl (.inl rfl) (pe_call (ok_law_hand T) (hr5.mono (by decide)) (by rfl) T.g_law_hand T.F_law_hand.kp T.b_law_hand .nil pass0 (pa_cons (pv 0) pa_nil)))
      (pss_cons (ps_if (pt_not (pt_val (pe_call (ok_law_primes_hold T) (hr5.mono (by decide)) (by rfl) T.g_law_primes_hold T.F_law_primes_hold.kp T.b_law_primes_hold .nil pass0 (pa_cons (pv 1) pa_nil))))
        (pss_one (ps_ret pe_bl))
        pss_nil)
      (pss_cons (ps_set (i := 2) sc_law.nd rfl (.inl rfl) (pe_call (ok_law_field T) (hr5.mono (by decide)) (by rfl) T.g_law_field T.F_law_field.kp T.b_law_field .nil pass0 (pa_cons (pv 1) pa_nil)))
      (pss_cons (ps_if (pt_not (pt_val (pe_call (ok_law_sums_hold T) (hr5.mono (by decide)) (by rfl) T.g_law_sums_hold T.F_law_sums_hold.kp T.b_law_sums_hold .nil pass0 (pa_cons (pv 1) (pa_cons (pe_call (ok_law_made_field T) (hr5.mono (by decide)) (by rfl) T.g_law_made_field T.F_law_made_field.kp T.b_law_made_field .nil pass0 (pa_cons (pv 2) pa_nil)) (pa_cons (pv 2) pa_nil))))))
        (pss_one (ps_ret pe_bl))
        pss_nil)
      (pss_cons (ps_set (i := 3) sc_law.nd rfl (.inl rfl) (pe_call (ok_law_field T) (hr5.mono (by decide)) (by rfl) T.g_law_field T.F_law_field.kp T.b_law_field .nil pass0 (pa_cons (pv 1) pa_nil)))
      (pss_cons (ps_set (i := 4) sc_law.nd rfl (.inl rfl) (pe_call (ok_law_made_field T) (hr5.mono (by decide)) (by rfl) T.g_law_made_field T.F_law_made_field.kp T.b_law_made_field .nil pass0 (pa_cons (pv 2) pa_nil)))
      (pss_cons (ps_if (PW.pt (pw_or (pt_cmpR op_ne (pe_cmpR (op_eqF T hr5) (pv 4) (pe_call (ok_law_made_field T) (hr5.mono (by decide)) (by rfl) T.g_law_made_field T.F_law_made_field.kp T.b_law_made_field .nil pass0 (pa_cons (pv 3) pa_nil)) (nomark _)) (pe_cmpR op_eq (pv 2) (pv 3) (nomark _)) (nomark _)) (pw_or1 (pt_not (pt_cmpR (op_eqF T hr5) (pv 4) (pe_call (ok_law_made_field T) (hr5.mono (by decide)) (by rfl) T.g_law_made_field T.F_law_made_field.kp T.b_law_made_field .nil pass0 (pa_cons (pv 2) pa_nil)) (nomark _))))))
        (pss_one (ps_ret pe_bl))
        pss_nil)
      (pss_cons (ps_if (pt_not (pt_val (pe_call (ok_law_sums_hold T) (hr5.mono (by decide)) (by rfl) T.g_law_sums_hold T.F_law_sums_hold.kp T.b_law_sums_hold .nil pass0 (pa_cons (pv 1) (pa_cons (pe_call (ok_law_made_field T) (hr5.mono (by decide)) (by rfl) T.g_law_made_field T.F_law_made_field.kp T.b_law_made_field .nil pass0 (pa_cons (pv 3) pa_nil)) (pa_cons (pv 3) pa_nil))))))
        (pss_one (ps_ret pe_bl))
        pss_nil)
      (pss_cons (ps_if (pt_not (pt_val (pe_call (ok_law_sums_hold T) (hr5.mono (by decide)) (by rfl) T.g_law_sums_hold T.F_law_sums_hold.kp T.b_law_sums_hold .nil pass0 (pa_cons (pv 1) (pa_cons (pv 4) (pa_cons (pv 2) pa_nil))))))
        (pss_one (ps_ret pe_bl))
        pss_nil)
      (Evl.pss_cut (ps_set (i := 5) sc_law.nd rfl (.inl rfl) (pe_ifExp (pt_cmpR op_eq (pe_call (ok_law_draw T) (hr5.mono (by decide)) (by rfl) T.g_law_draw T.F_law_draw.kp T.b_law_draw .nil pass0 (pa_cons (pv 1) (pa_cons pe_int pa_nil))) pe_int (nomark _)) pe_int pe_int))
      (pss_one (ps_ret (pe_call (ok_law_source_holds T) (hr5.mono (by decide)) (by rfl) T.g_law_source_holds T.F_law_source_holds.kp T.b_law_source_holds .nil pass0 (pa_cons (pv 1) (pa_cons (pe_call (ok_law_next_prime T) (hr5.mono (by decide)) (by rfl) T.g_law_next_prime T.F_law_next_prime.kp T.b_law_next_prime .nil pass0 (pa_cons (pe_op op_add pe_int (pe_call (ok_law_draw T) (hr5.mono (by decide)) (by rfl) T.g_law_draw T.F_law_draw.kp T.b_law_draw .nil pass0 (pa_cons (pv 1) (pa_cons (pe_op op_sub (pv 5) pe_int) pa_nil)))) pa_nil)) pa_nil))))))))))))))), ?_⟩
    refine ⟨_, rfl, sa, ns, rfl, hS, hl, fun H1 h s1 nh h1 => ?_⟩
    refine ⟨_, rfl, h, rfl, h1, fun H2 k2 h2 => ⟨_, rfl, iteF ?_⟩⟩
    refine ⟨_, rfl, h, rfl, h2, fun p H3 k3 h3 fp => ?_⟩
    refine ⟨_, rfl, _, rfl, p, rfl, fp, fun f1 H4 s4 g4 => ⟨_, rfl, h, f1, p, rfl, h3.same s4, g4, fun H5 k5 h5 => ⟨_, rfl, iteF ?_⟩⟩⟩
    refine ⟨_, rfl, h, rfl, h5, fun p' H6 k6 h6 fp' => ?_⟩
    refine ⟨_, rfl, p, rfl, fp, fun f2 H7 s7 g7 => ?_⟩
    refine ⟨_, rfl, _, rfl, p', rfl, fp', fun f3 H8 s8 g8 => eq_use (g7.same s8) g8 ⟨_, rfl, _, rfl, rfl, rfl, _, rfl, ?_⟩⟩
    rw [nat_dec]
    refine ite2 (fun c => absurd c (by rw [decide_eq_true rfl]; decide)) (fun _ => ?_)
    refine ⟨_, rfl, _, rfl, p, rfl, fp, fun f4 H9 s9 g9 => eq_use ((g7.same s8).same s9) g9 ⟨_, rfl, ?_⟩⟩
    rw [decide_eq_true rfl]
    refine iteF ?_
    have h9 := ((h6.same s7).same s8).same s9
    have g79 := (g7.same s8).same s9
    refine ⟨_, rfl, _, rfl, p', rfl, fp', fun f5 H10 s10 g10 => ⟨_, rfl, h, f5, p', rfl, h9.same s10, g10, fun H11 k11 h11 => ⟨_, rfl, iteF ?_⟩⟩⟩
    have g11 := (g79.same s10).kp (h9.same s10) k11
    refine ⟨_, rfl, _, rfl, _, rfl, h, f2, p, rfl, h11, g11, fun H12 k12 h12 => ⟨_, rfl, iteF ?_⟩⟩
    refine ⟨fun σ H' => ∃ L : Int, σ = [some (.ref sa), some (.ref h), some (.int (p : Int)), some (.int (p' : Int)), some (.ref f2), some (.int L)] ∧ Hand H' h ∧ (L = 20000 ∨ L = 400), ?_, fun σ H' hM => ?_⟩
    · refine ⟨_, rfl, h, 8, rfl, h12, by decide, by decide, fun H13 r k13 h13 r0 r1 => ⟨rfl, _, rfl, ite2 (fun c => ?_) (fun c => ?_)⟩⟩
      · exact ⟨20000, rfl, h13, .inl rfl⟩
      · exact ⟨400, rfl, h13, .inr rfl⟩
    · obtain ⟨L, rfl, h14, hL⟩ := hM
      refine ⟨_, rfl, _, rfl, _, rfl, L, 4, rfl, rfl, h, L - 4, rfl, h14, by omega, by omega, fun H15 r k15 h15 r0 r1 => ⟨_, _, rfl, rfl, (2 + r).toNat, ?_, by omega, by omega, fun p2 pr2 le2 => ⟨h, p2, rfl, h15, pr2, by omega, fun H' => q H'⟩⟩⟩
      show [V.int (2 + r)] = [V.int ((2 + r).toNat : Int)]
      rw [Int.toNat_of_nonneg (by omega)]
end
end K04
set_option Elab.async false
set_option linter.all false
set_option maxRecDepth 100000
set_option maxHeartbeats 8000000
set_option exponentiation.threshold 5000
namespace K04
open PySem PySem.Spec PyProof.Rows L2 TkS
theorem own_cls {K : PySem.W.Frag} {t : Value} {C : Addr} {b : Bool} (h2 : PySem.W.isClsIn K C = true) (h3 : PySem.W.typeIn K (.ref C) = some (.type "type")) (h4 : PySem.W.subIn K t (.ref C) = some b) : PySem.W.kitCls K t (.ref C) = some b := by
  have e2 : ((PySem.W.clsIn K C).isSome && PySem.W.typeIn K (.ref C) == some (.type "type")) = true := by
    have h2' : (PySem.W.clsIn K C).isSome = true := h2
    rw [h2', h3] <;> rfl
  show (if ((PySem.W.clsIn K C).isSome && PySem.W.typeIn K (.ref C) == some (.type "type")) = true then PySem.W.subIn K t (.ref C) else none) = some b
  rw [if_pos e2]
  exact h4
theorem own_exm {K : PySem.W.Frag} {t : Value} {C : Addr} {b : Bool} (h1 : PySem.W.subIn K (.ref C) (.type "BaseException") = some true) (h2 : PySem.W.isClsIn K C = true) (h3 : PySem.W.typeIn K (.ref C) = some (.type "type")) (h4 : PySem.W.subIn K t (.ref C) = some b) : PySem.W.exmOne K t (.ref C) = some b := by
  have e1 : (PySem.W.subIn K (.ref C) (.type "BaseException") == some true) = true := by rw [h1] <;> rfl
  show (if (PySem.W.subIn K (.ref C) (.type "BaseException") == some true) = true then PySem.W.kitCls K t (.ref C) else none) = some b
  rw [if_pos e1]
  exact own_cls h2 h3 h4
theorem own_kit {K : PySem.W.Frag} {D C : Addr} {b : Bool} (h2 : PySem.W.isClsIn K C = true) (h3 : PySem.W.typeIn K (.ref C) = some (.type "type")) (h4 : PySem.W.subIn K (.ref D) (.ref C) = some b) (hb : (D == C) = true → b = true) : PySem.W.kitOne K (.ref D) (.ref C) = some b := by
  unfold PySem.W.kitOne
  by_cases z : ((Value.ref D) == (Value.ref C)) = true
  · rw [if_pos z]
    have z2 : (D == C) = true := by
      have := eq_of_beq z
      cases this
      exact beq_self_eq_true _
    rw [hb z2]
  · rw [if_neg z]
    exact own_cls h2 h3 h4
theorem all_mk {l : PySem.W.OpenLaw} {w : World} {K : PySem.W.Frag} {h : Heap} {mg : Str → Option Value} {fa CE_SheetError CE_BadPrime CE_BadNumber CE_ByZero CC_RestField CC_FractionField f0 f1 f2 f3 f4 f5 f6 f7 f8 f9 f10 f11 f12 f13 f14 f15 f16 f17 f18 f19 f20 f21 f22 f23 f24 f25 f26 f27 f28 f29 f30 f31 f32 f33 f34 f35 f36 f37 f38 f39 f40 f41 f42 f43 f44 f45 f46 f47 f48 f49 f50 f51 f52 f53 f54 f55 f56 f57 f58 f59 : Addr} {tkc_MOST_PRIME : Tok} (X : K.In h) (G : h.Ns mainGlobals mg) (hfa : mg "law" = some (.ref fa))
    {od0 an0 : Option Addr} {sl0 : Array (Option Value)} {oc0 kV0 dc0 pm0 cd0 ct0 : Value}
    {D0 : Addr} {ocD0 : Value} {odD0 : Option Addr} {nD0 : Nat} {slD0 : Array (Option Value)}
    {od1 an1 : Option Addr} {sl1 : Array (Option Value)} {oc1 kV1 dc1 pm1 cd1 ct1 : Value}
    {od2 an2 : Option Addr} {sl2 : Array (Option Value)} {oc2 kV2 dc2 pm2 cd2 ct2 : Value}
    {od3 an3 : Option Addr} {sl3 : Array (Option Value)} {oc3 kV3 dc3 pm3 cd3 ct3 : Value}
    {od4 an4 : Option Addr} {sl4 : Array (Option Value)} {oc4 kV4 dc4 pm4 cd4 ct4 : Value}
    {od5 an5 : Option Addr} {sl5 : Array (Option Value)} {oc5 kV5 dc5 pm5 cd5 ct5 : Value}
    {od6 an6 : Option Addr} {sl6 : Array (Option Value)} {oc6 kV6 dc6 pm6 cd6 ct6 : Value}
    {od7 an7 : Option Addr} {sl7 : Array (Option Value)} {oc7 kV7 dc7 pm7 cd7 ct7 : Value}
    {od8 an8 : Option Addr} {sl8 : Array (Option Value)} {oc8 kV8 dc8 pm8 cd8 ct8 : Value}
    {od9 an9 : Option Addr} {sl9 : Array (Option Value)} {oc9 kV9 dc9 pm9 cd9 ct9 : Value}
    {od10 an10 : Option Addr} {sl10 : Array (Option Value)} {oc10 kV10 dc10 pm10 cd10 ct10 : Value}
    {od11 an11 : Option Addr} {sl11 : Array (Option Value)} {oc11 kV11 dc11 pm11 cd11 ct11 : Value}
    {od12 an12 : Option Addr} {sl12 : Array (Option Value)} {oc12 kV12 dc12 pm12 cd12 ct12 : Value}
    {od13 an13 : Option Addr} {sl13 : Array (Option Value)} {oc13 kV13 dc13 pm13 cd13 ct13 : Value}
    {od14 an14 : Option Addr} {sl14 : Array (Option Value)} {oc14 kV14 dc14 pm14 cd14 ct14 : Value}
    {od15 an15 : Option Addr} {sl15 : Array (Option Value)} {oc15 kV15 dc15 pm15 cd15 ct15 : Value}
    {od16 an16 : Option Addr} {sl16 : Array (Option Value)} {oc16 kV16 dc16 pm16 cd16 ct16 : Value}
    {od17 an17 : Option Addr} {sl17 : Array (Option Value)} {oc17 kV17 dc17 pm17 cd17 ct17 : Value}
    {od18 an18 : Option Addr} {sl18 : Array (Option Value)} {oc18 kV18 dc18 pm18 cd18 ct18 : Value}
    {od19 an19 : Option Addr} {sl19 : Array (Option Value)} {oc19 kV19 dc19 pm19 cd19 ct19 : Value}
    {od20 an20 : Option Addr} {sl20 : Array (Option Value)} {oc20 kV20 dc20 pm20 cd20 ct20 : Value}
    {od21 an21 : Option Addr} {sl21 : Array (Option Value)} {oc21 kV21 dc21 pm21 cd21 ct21 : Value}
    {od22 an22 : Option Addr} {sl22 : Array (Option Value)} {oc22 kV22 dc22 pm22 cd22 ct22 : Value}
    {od23 an23 : Option Addr} {sl23 : Array (Option Value)} {oc23 kV23 dc23 pm23 cd23 ct23 : Value}
    {od24 an24 : Option Addr} {sl24 : Array (Option Value)} {oc24 kV24 dc24 pm24 cd24 ct24 : Value}
    {od25 an25 : Option Addr} {sl25 : Array (Option Value)} {oc25 kV25 dc25 pm25 cd25 ct25 : Value}
    {od26 an26 : Option Addr} {sl26 : Array (Option Value)} {oc26 kV26 dc26 pm26 cd26 ct26 : Value}
    {od27 an27 : Option Addr} {sl27 : Array (Option Value)} {oc27 kV27 dc27 pm27 cd27 ct27 : Value}
    {od28 an28 : Option Addr} {sl28 : Array (Option Value)} {oc28 kV28 dc28 pm28 cd28 ct28 : Value}
    {od29 an29 : Option Addr} {sl29 : Array (Option Value)} {oc29 kV29 dc29 pm29 cd29 ct29 : Value}
    {od30 an30 : Option Addr} {sl30 : Array (Option Value)} {oc30 kV30 dc30 pm30 cd30 ct30 : Value}
    {od31 an31 : Option Addr} {sl31 : Array (Option Value)} {oc31 kV31 dc31 pm31 cd31 ct31 : Value}
    {od32 an32 : Option Addr} {sl32 : Array (Option Value)} {oc32 kV32 dc32 pm32 cd32 ct32 : Value}
    {od33 an33 : Option Addr} {sl33 : Array (Option Value)} {oc33 kV33 dc33 pm33 cd33 ct33 : Value}
    {od34 an34 : Option Addr} {sl34 : Array (Option Value)} {oc34 kV34 dc34 pm34 cd34 ct34 : Value}
    {od35 an35 : Option Addr} {sl35 : Array (Option Value)} {oc35 kV35 dc35 pm35 cd35 ct35 : Value}
    {od36 an36 : Option Addr} {sl36 : Array (Option Value)} {oc36 kV36 dc36 pm36 cd36 ct36 : Value}
    {od37 an37 : Option Addr} {sl37 : Array (Option Value)} {oc37 kV37 dc37 pm37 cd37 ct37 : Value}
    {od38 an38 : Option Addr} {sl38 : Array (Option Value)} {oc38 kV38 dc38 pm38 cd38 ct38 : Value}
    {od39 an39 : Option Addr} {sl39 : Array (Option Value)} {oc39 kV39 dc39 pm39 cd39 ct39 : Value}
    {od40 an40 : Option Addr} {sl40 : Array (Option Value)} {oc40 kV40 dc40 pm40 cd40 ct40 : Value}
    {od41 an41 : Option Addr} {sl41 : Array (Option Value)} {oc41 kV41 dc41 pm41 cd41 ct41 : Value}
    {od42 an42 : Option Addr} {sl42 : Array (Option Value)} {oc42 kV42 dc42 pm42 cd42 ct42 : Value}
    {od43 an43 : Option Addr} {sl43 : Array (Option Value)} {oc43 kV43 dc43 pm43 cd43 ct43 : Value}
    {od44 an44 : Option Addr} {sl44 : Array (Option Value)} {oc44 kV44 dc44 pm44 cd44 ct44 : Value}
    {od45 an45 : Option Addr} {sl45 : Array (Option Value)} {oc45 kV45 dc45 pm45 cd45 ct45 : Value}
    {od46 an46 : Option Addr} {sl46 : Array (Option Value)} {oc46 kV46 dc46 pm46 cd46 ct46 : Value}
    {od47 an47 : Option Addr} {sl47 : Array (Option Value)} {oc47 kV47 dc47 pm47 cd47 ct47 : Value}
    {od48 an48 : Option Addr} {sl48 : Array (Option Value)} {oc48 kV48 dc48 pm48 cd48 ct48 : Value}
    {od49 an49 : Option Addr} {sl49 : Array (Option Value)} {oc49 kV49 dc49 pm49 cd49 ct49 : Value}
    {od50 an50 : Option Addr} {sl50 : Array (Option Value)} {oc50 kV50 dc50 pm50 cd50 ct50 : Value}
    {od51 an51 : Option Addr} {sl51 : Array (Option Value)} {oc51 kV51 dc51 pm51 cd51 ct51 : Value}
    {od52 an52 : Option Addr} {sl52 : Array (Option Value)} {oc52 kV52 dc52 pm52 cd52 ct52 : Value}
    {od53 an53 : Option Addr} {sl53 : Array (Option Value)} {oc53 kV53 dc53 pm53 cd53 ct53 : Value}
    {od54 an54 : Option Addr} {sl54 : Array (Option Value)} {oc54 kV54 dc54 pm54 cd54 ct54 : Value}
    {od55 an55 : Option Addr} {sl55 : Array (Option Value)} {oc55 kV55 dc55 pm55 cd55 ct55 : Value}
    {od56 an56 : Option Addr} {sl56 : Array (Option Value)} {oc56 kV56 dc56 pm56 cd56 ct56 : Value}
    {od57 an57 : Option Addr} {sl57 : Array (Option Value)} {oc57 kV57 dc57 pm57 cd57 ct57 : Value}
    {od58 an58 : Option Addr} {sl58 : Array (Option Value)} {oc58 kV58 dc58 pm58 cd58 ct58 : Value}
    {od59 an59 : Option Addr} {sl59 : Array (Option Value)} {oc59 kV59 dc59 pm59 cd59 ct59 : Value}
    (h_SheetError : PySem.W.nsIn K mainGlobals "SheetError" = some (some (.ref CE_SheetError)))
    (h_BadPrime : PySem.W.nsIn K mainGlobals "BadPrime" = some (some (.ref CE_BadPrime)))
    (h_BadNumber : PySem.W.nsIn K mainGlobals "BadNumber" = some (some (.ref CE_BadNumber)))
    (h_ByZero : PySem.W.nsIn K mainGlobals "ByZero" = some (some (.ref CE_ByZero)))
    (h_RestField : PySem.W.nsIn K mainGlobals "RestField" = some (some (.ref CC_RestField)))
    (h_FractionField : PySem.W.nsIn K mainGlobals "FractionField" = some (some (.ref CC_FractionField)))
    (a0 : PySem.W.nsIn K mainGlobals "is_whole" = some (some (.ref f0)))
    (l0 : K.lookup f0 = some ⟨oc0, od0, .func (PySem.W.fnOf "is_whole" "is_whole" (defArgs s_is_whole) (defBody s_is_whole) (defScope s_is_whole) (.ref D0) kV0 dc0 pm0 an0 cd0 ct0), sl0⟩)
    (c0 : PySem.W.codeIn K cd0 "is_whole" = true)
    (k0 : PySem.W.keepIn K (.ref f0) = true)
    (e0 : K.lookup D0 = some ⟨ocD0, odD0, .seq #[.none, .none] nD0, slD0⟩)
    (a1 : PySem.W.nsIn K mainGlobals "common_divisor" = some (some (.ref f1)))
    (l1 : K.lookup f1 = some ⟨oc1, od1, .func (PySem.W.fnOf "common_divisor" "common_divisor" (defArgs s_common_divisor) (defBody s_common_divisor) (defScope s_common_divisor) .none kV1 dc1 pm1 an1 cd1 ct1), sl1⟩)
    (c1 : PySem.W.codeIn K cd1 "common_divisor" = true)
    (k1 : PySem.W.keepIn K (.ref f1) = true)
    (a2 : PySem.W.nsIn K mainGlobals "power_of" = some (some (.ref f2)))
    (l2 : K.lookup f2 = some ⟨oc2, od2, .func (PySem.W.fnOf "power_of" "power_of" (defArgs s_power_of) (defBody s_power_of) (defScope s_power_of) .none kV2 dc2 pm2 an2 cd2 ct2), sl2⟩)
    (c2 : PySem.W.codeIn K cd2 "power_of" = true)
    (k2 : PySem.W.keepIn K (.ref f2) = true)
    (a3 : PySem.W.nsIn K mainGlobals "least_factor" = some (some (.ref f3)))
    (l3 : K.lookup f3 = some ⟨oc3, od3, .func (PySem.W.fnOf "least_factor" "least_factor" (defArgs s_least_factor) (defBody s_least_factor) (defScope s_least_factor) .none kV3 dc3 pm3 an3 cd3 ct3), sl3⟩)
    (c3 : PySem.W.codeIn K cd3 "least_factor" = true)
    (k3 : PySem.W.keepIn K (.ref f3) = true)
    (a4 : PySem.W.nsIn K mainGlobals "is_prime" = some (some (.ref f4)))
    (l4 : K.lookup f4 = some ⟨oc4, od4, .func (PySem.W.fnOf "is_prime" "is_prime" (defArgs s_is_prime) (defBody s_is_prime) (defScope s_is_prime) .none kV4 dc4 pm4 an4 cd4 ct4), sl4⟩)
    (c4 : PySem.W.codeIn K cd4 "is_prime" = true)
    (k4 : PySem.W.keepIn K (.ref f4) = true)
    (a5 : PySem.W.nsIn K mainGlobals "source_of" = some (some (.ref f5)))
    (l5 : K.lookup f5 = some ⟨oc5, od5, .func (PySem.W.fnOf "source_of" "source_of" (defArgs s_source_of) (defBody s_source_of) (defScope s_source_of) .none kV5 dc5 pm5 an5 cd5 ct5), sl5⟩)
    (c5 : PySem.W.codeIn K cd5 "source_of" = true)
    (k5 : PySem.W.keepIn K (.ref f5) = true)
    (a6 : PySem.W.nsIn K mainGlobals "steps_of" = some (some (.ref f6)))
    (l6 : K.lookup f6 = some ⟨oc6, od6, .func (PySem.W.fnOf "steps_of" "steps_of" (defArgs s_steps_of) (defBody s_steps_of) (defScope s_steps_of) .none kV6 dc6 pm6 an6 cd6 ct6), sl6⟩)
    (c6 : PySem.W.codeIn K cd6 "steps_of" = true)
    (k6 : PySem.W.keepIn K (.ref f6) = true)
    (a7 : PySem.W.findIn K (.ref CC_RestField) "__init__" = some (some (.ref f7)))
    (i7 : PySem.W.isFn K (.ref f7) = true)
    (l7 : K.lookup f7 = some ⟨oc7, od7, .func (PySem.W.fnOf "__init__" "RestField.__init__" (defArgs s_RestField_init) (defBody s_RestField_init) (defScope s_RestField_init) .none kV7 dc7 pm7 an7 cd7 ct7), sl7⟩)
    (c7 : PySem.W.codeIn K cd7 "RestField.__init__" = true)
    (k7 : PySem.W.keepIn K (.ref f7) = true)
    (a8 : PySem.W.findIn K (.ref CC_RestField) "__eq__" = some (some (.ref f8)))
    (i8 : PySem.W.isFn K (.ref f8) = true)
    (l8 : K.lookup f8 = some ⟨oc8, od8, .func (PySem.W.fnOf "__eq__" "RestField.__eq__" (defArgs s_RestField_eq) (defBody s_RestField_eq) (defScope s_RestField_eq) .none kV8 dc8 pm8 an8 cd8 ct8), sl8⟩)
    (c8 : PySem.W.codeIn K cd8 "RestField.__eq__" = true)
    (k8 : PySem.W.keepIn K (.ref f8) = true)
    (a9 : PySem.W.findIn K (.ref CC_RestField) "check_number" = some (some (.ref f9)))
    (i9 : PySem.W.isFn K (.ref f9) = true)
    (l9 : K.lookup f9 = some ⟨oc9, od9, .func (PySem.W.fnOf "check_number" "RestField.check_number" (defArgs s_RestField_check_number) (defBody s_RestField_check_number) (defScope s_RestField_check_number) .none kV9 dc9 pm9 an9 cd9 ct9), sl9⟩)
    (c9 : PySem.W.codeIn K cd9 "RestField.check_number" = true)
    (k9 : PySem.W.keepIn K (.ref f9) = true)
    (a10 : PySem.W.findIn K (.ref CC_RestField) "number_of" = some (some (.ref f10)))
    (i10 : PySem.W.isFn K (.ref f10) = true)
    (l10 : K.lookup f10 = some ⟨oc10, od10, .func (PySem.W.fnOf "number_of" "RestField.number_of" (defArgs s_RestField_number_of) (defBody s_RestField_number_of) (defScope s_RestField_number_of) .none kV10 dc10 pm10 an10 cd10 ct10), sl10⟩)
    (c10 : PySem.W.codeIn K cd10 "RestField.number_of" = true)
    (k10 : PySem.W.keepIn K (.ref f10) = true)
    (a11 : PySem.W.findIn K (.ref CC_RestField) "plus" = some (some (.ref f11)))
    (i11 : PySem.W.isFn K (.ref f11) = true)
    (l11 : K.lookup f11 = some ⟨oc11, od11, .func (PySem.W.fnOf "plus" "RestField.plus" (defArgs s_RestField_plus) (defBody s_RestField_plus) (defScope s_RestField_plus) .none kV11 dc11 pm11 an11 cd11 ct11), sl11⟩)
    (c11 : PySem.W.codeIn K cd11 "RestField.plus" = true)
    (k11 : PySem.W.keepIn K (.ref f11) = true)
    (a12 : PySem.W.findIn K (.ref CC_RestField) "less" = some (some (.ref f12)))
    (i12 : PySem.W.isFn K (.ref f12) = true)
    (l12 : K.lookup f12 = some ⟨oc12, od12, .func (PySem.W.fnOf "less" "RestField.less" (defArgs s_RestField_less) (defBody s_RestField_less) (defScope s_RestField_less) .none kV12 dc12 pm12 an12 cd12 ct12), sl12⟩)
    (c12 : PySem.W.codeIn K cd12 "RestField.less" = true)
    (k12 : PySem.W.keepIn K (.ref f12) = true)
    (a13 : PySem.W.findIn K (.ref CC_RestField) "times" = some (some (.ref f13)))
    (i13 : PySem.W.isFn K (.ref f13) = true)
    (l13 : K.lookup f13 = some ⟨oc13, od13, .func (PySem.W.fnOf "times" "RestField.times" (defArgs s_RestField_times) (defBody s_RestField_times) (defScope s_RestField_times) .none kV13 dc13 pm13 an13 cd13 ct13), sl13⟩)
    (c13 : PySem.W.codeIn K cd13 "RestField.times" = true)
    (k13 : PySem.W.keepIn K (.ref f13) = true)
    (a14 : PySem.W.findIn K (.ref CC_RestField) "quotient" = some (some (.ref f14)))
    (i14 : PySem.W.isFn K (.ref f14) = true)
    (l14 : K.lookup f14 = some ⟨oc14, od14, .func (PySem.W.fnOf "quotient" "RestField.quotient" (defArgs s_RestField_quotient) (defBody s_RestField_quotient) (defScope s_RestField_quotient) .none kV14 dc14 pm14 an14 cd14 ct14), sl14⟩)
    (c14 : PySem.W.codeIn K cd14 "RestField.quotient" = true)
    (k14 : PySem.W.keepIn K (.ref f14) = true)
    (a15 : PySem.W.findIn K (.ref CC_RestField) "power" = some (some (.ref f15)))
    (i15 : PySem.W.isFn K (.ref f15) = true)
    (l15 : K.lookup f15 = some ⟨oc15, od15, .func (PySem.W.fnOf "power" "RestField.power" (defArgs s_RestField_power) (defBody s_RestField_power) (defScope s_RestField_power) .none kV15 dc15 pm15 an15 cd15 ct15), sl15⟩)
    (c15 : PySem.W.codeIn K cd15 "RestField.power" = true)
    (k15 : PySem.W.keepIn K (.ref f15) = true)
    (a16 : PySem.W.nsIn K mainGlobals "_fraction" = some (some (.ref f16)))
    (l16 : K.lookup f16 = some ⟨oc16, od16, .func (PySem.W.fnOf "_fraction" "_fraction" (defArgs s_fraction) (defBody s_fraction) (defScope s_fraction) .none kV16 dc16 pm16 an16 cd16 ct16), sl16⟩)
    (c16 : PySem.W.codeIn K cd16 "_fraction" = true)
    (k16 : PySem.W.keepIn K (.ref f16) = true)
    (a17 : PySem.W.findIn K (.ref CC_FractionField) "__init__" = some (some (.ref f17)))
    (i17 : PySem.W.isFn K (.ref f17) = true)
    (l17 : K.lookup f17 = some ⟨oc17, od17, .func (PySem.W.fnOf "__init__" "FractionField.__init__" (defArgs s_FractionField_init) (defBody s_FractionField_init) (defScope s_FractionField_init) .none kV17 dc17 pm17 an17 cd17 ct17), sl17⟩)
    (c17 : PySem.W.codeIn K cd17 "FractionField.__init__" = true)
    (k17 : PySem.W.keepIn K (.ref f17) = true)
    (a18 : PySem.W.findIn K (.ref CC_FractionField) "__eq__" = some (some (.ref f18)))
    (i18 : PySem.W.isFn K (.ref f18) = true)
    (l18 : K.lookup f18 = some ⟨oc18, od18, .func (PySem.W.fnOf "__eq__" "FractionField.__eq__" (defArgs s_FractionField_eq) (defBody s_FractionField_eq) (defScope s_FractionField_eq) .none kV18 dc18 pm18 an18 cd18 ct18), sl18⟩)
    (c18 : PySem.W.codeIn K cd18 "FractionField.__eq__" = true)
    (k18 : PySem.W.keepIn K (.ref f18) = true)
    (a19 : PySem.W.findIn K (.ref CC_FractionField) "check_number" = some (some (.ref f19)))
    (i19 : PySem.W.isFn K (.ref f19) = true)
    (l19 : K.lookup f19 = some ⟨oc19, od19, .func (PySem.W.fnOf "check_number" "FractionField.check_number" (defArgs s_FractionField_check_number) (defBody s_FractionField_check_number) (defScope s_FractionField_check_number) .none kV19 dc19 pm19 an19 cd19 ct19), sl19⟩)
    (c19 : PySem.W.codeIn K cd19 "FractionField.check_number" = true)
    (k19 : PySem.W.keepIn K (.ref f19) = true)
    (a20 : PySem.W.findIn K (.ref CC_FractionField) "number_of" = some (some (.ref f20)))
    (i20 : PySem.W.isFn K (.ref f20) = true)
    (l20 : K.lookup f20 = some ⟨oc20, od20, .func (PySem.W.fnOf "number_of" "FractionField.number_of" (defArgs s_FractionField_number_of) (defBody s_FractionField_number_of) (defScope s_FractionField_number_of) .none kV20 dc20 pm20 an20 cd20 ct20), sl20⟩)
    (c20 : PySem.W.codeIn K cd20 "FractionField.number_of" = true)
    (k20 : PySem.W.keepIn K (.ref f20) = true)
    (a21 : PySem.W.findIn K (.ref CC_FractionField) "plus" = some (some (.ref f21)))
    (i21 : PySem.W.isFn K (.ref f21) = true)
    (l21 : K.lookup f21 = some ⟨oc21, od21, .func (PySem.W.fnOf "plus" "FractionField.plus" (defArgs s_FractionField_plus) (defBody s_FractionField_plus) (defScope s_FractionField_plus) .none kV21 dc21 pm21 an21 cd21 ct21), sl21⟩)
    (c21 : PySem.W.codeIn K cd21 "FractionField.plus" = true)
    (k21 : PySem.W.keepIn K (.ref f21) = true)
    (a22 : PySem.W.findIn K (.ref CC_FractionField) "less" = some (some (.ref f22)))
    (i22 : PySem.W.isFn K (.ref f22) = true)
    (l22 : K.lookup f22 = some ⟨oc22, od22, .func (PySem.W.fnOf "less" "FractionField.less" (defArgs s_FractionField_less) (defBody s_FractionField_less) (defScope s_FractionField_less) .none kV22 dc22 pm22 an22 cd22 ct22), sl22⟩)
    (c22 : PySem.W.codeIn K cd22 "FractionField.less" = true)
    (k22 : PySem.W.keepIn K (.ref f22) = true)
    (a23 : PySem.W.findIn K (.ref CC_FractionField) "times" = some (some (.ref f23)))
    (i23 : PySem.W.isFn K (.ref f23) = true)
    (l23 : K.lookup f23 = some ⟨oc23, od23, .func (PySem.W.fnOf "times" "FractionField.times" (defArgs s_FractionField_times) (defBody s_FractionField_times) (defScope s_FractionField_times) .none kV23 dc23 pm23 an23 cd23 ct23), sl23⟩)
    (c23 : PySem.W.codeIn K cd23 "FractionField.times" = true)
    (k23 : PySem.W.keepIn K (.ref f23) = true)
    (a24 : PySem.W.findIn K (.ref CC_FractionField) "quotient" = some (some (.ref f24)))
    (i24 : PySem.W.isFn K (.ref f24) = true)
    (l24 : K.lookup f24 = some ⟨oc24, od24, .func (PySem.W.fnOf "quotient" "FractionField.quotient" (defArgs s_FractionField_quotient) (defBody s_FractionField_quotient) (defScope s_FractionField_quotient) .none kV24 dc24 pm24 an24 cd24 ct24), sl24⟩)
    (c24 : PySem.W.codeIn K cd24 "FractionField.quotient" = true)
    (k24 : PySem.W.keepIn K (.ref f24) = true)
    (a25 : PySem.W.findIn K (.ref CC_FractionField) "power" = some (some (.ref f25)))
    (i25 : PySem.W.isFn K (.ref f25) = true)
    (l25 : K.lookup f25 = some ⟨oc25, od25, .func (PySem.W.fnOf "power" "FractionField.power" (defArgs s_FractionField_power) (defBody s_FractionField_power) (defScope s_FractionField_power) .none kV25 dc25 pm25 an25 cd25 ct25), sl25⟩)
    (c25 : PySem.W.codeIn K cd25 "FractionField.power" = true)
    (k25 : PySem.W.keepIn K (.ref f25) = true)
    (a26 : PySem.W.nsIn K mainGlobals "_law_mixed" = some (some (.ref f26)))
    (l26 : K.lookup f26 = some ⟨oc26, od26, .func (PySem.W.fnOf "_law_mixed" "_law_mixed" (defArgs s_law_mixed) (defBody s_law_mixed) (defScope s_law_mixed) .none kV26 dc26 pm26 an26 cd26 ct26), sl26⟩)
    (c26 : PySem.W.codeIn K cd26 "_law_mixed" = true)
    (k26 : PySem.W.keepIn K (.ref f26) = true)
    (a27 : PySem.W.nsIn K mainGlobals "_law_hand" = some (some (.ref f27)))
    (l27 : K.lookup f27 = some ⟨oc27, od27, .func (PySem.W.fnOf "_law_hand" "_law_hand" (defArgs s_law_hand) (defBody s_law_hand) (defScope s_law_hand) .none kV27 dc27 pm27 an27 cd27 ct27), sl27⟩)
    (c27 : PySem.W.codeIn K cd27 "_law_hand" = true)
    (k27 : PySem.W.keepIn K (.ref f27) = true)
    (a28 : PySem.W.nsIn K mainGlobals "_law_draw" = some (some (.ref f28)))
    (l28 : K.lookup f28 = some ⟨oc28, od28, .func (PySem.W.fnOf "_law_draw" "_law_draw" (defArgs s_law_draw) (defBody s_law_draw) (defScope s_law_draw) .none kV28 dc28 pm28 an28 cd28 ct28), sl28⟩)
    (c28 : PySem.W.codeIn K cd28 "_law_draw" = true)
    (k28 : PySem.W.keepIn K (.ref f28) = true)
    (a29 : PySem.W.nsIn K mainGlobals "_law_whole" = some (some (.ref f29)))
    (l29 : K.lookup f29 = some ⟨oc29, od29, .func (PySem.W.fnOf "_law_whole" "_law_whole" (defArgs s_law_whole) (defBody s_law_whole) (defScope s_law_whole) .none kV29 dc29 pm29 an29 cd29 ct29), sl29⟩)
    (c29 : PySem.W.codeIn K cd29 "_law_whole" = true)
    (k29 : PySem.W.keepIn K (.ref f29) = true)
    (a30 : PySem.W.nsIn K mainGlobals "_law_divisor" = some (some (.ref f30)))
    (l30 : K.lookup f30 = some ⟨oc30, od30, .func (PySem.W.fnOf "_law_divisor" "_law_divisor" (defArgs s_law_divisor) (defBody s_law_divisor) (defScope s_law_divisor) .none kV30 dc30 pm30 an30 cd30 ct30), sl30⟩)
    (c30 : PySem.W.codeIn K cd30 "_law_divisor" = true)
    (k30 : PySem.W.keepIn K (.ref f30) = true)
    (a31 : PySem.W.nsIn K mainGlobals "_law_lowest" = some (some (.ref f31)))
    (l31 : K.lookup f31 = some ⟨oc31, od31, .func (PySem.W.fnOf "_law_lowest" "_law_lowest" (defArgs s_law_lowest) (defBody s_law_lowest) (defScope s_law_lowest) .none kV31 dc31 pm31 an31 cd31 ct31), sl31⟩)
    (c31 : PySem.W.codeIn K cd31 "_law_lowest" = true)
    (k31 : PySem.W.keepIn K (.ref f31) = true)
    (a32 : PySem.W.nsIn K mainGlobals "_law_prime" = some (some (.ref f32)))
    (l32 : K.lookup f32 = some ⟨oc32, od32, .func (PySem.W.fnOf "_law_prime" "_law_prime" (defArgs s_law_prime) (defBody s_law_prime) (defScope s_law_prime) .none kV32 dc32 pm32 an32 cd32 ct32), sl32⟩)
    (c32 : PySem.W.codeIn K cd32 "_law_prime" = true)
    (k32 : PySem.W.keepIn K (.ref f32) = true)
    (a33 : PySem.W.nsIn K mainGlobals "_law_next_prime" = some (some (.ref f33)))
    (l33 : K.lookup f33 = some ⟨oc33, od33, .func (PySem.W.fnOf "_law_next_prime" "_law_next_prime" (defArgs s_law_next_prime) (defBody s_law_next_prime) (defScope s_law_next_prime) .none kV33 dc33 pm33 an33 cd33 ct33), sl33⟩)
    (c33 : PySem.W.codeIn K cd33 "_law_next_prime" = true)
    (k33 : PySem.W.keepIn K (.ref f33) = true)
    (a34 : PySem.W.nsIn K mainGlobals "_law_field" = some (some (.ref f34)))
    (l34 : K.lookup f34 = some ⟨oc34, od34, .func (PySem.W.fnOf "_law_field" "_law_field" (defArgs s_law_field) (defBody s_law_field) (defScope s_law_field) .none kV34 dc34 pm34 an34 cd34 ct34), sl34⟩)
    (c34 : PySem.W.codeIn K cd34 "_law_field" = true)
    (k34 : PySem.W.keepIn K (.ref f34) = true)
    (a35 : PySem.W.nsIn K mainGlobals "_law_made_field" = some (some (.ref f35)))
    (l35 : K.lookup f35 = some ⟨oc35, od35, .func (PySem.W.fnOf "_law_made_field" "_law_made_field" (defArgs s_law_made_field) (defBody s_law_made_field) (defScope s_law_made_field) .none kV35 dc35 pm35 an35 cd35 ct35), sl35⟩)
    (c35 : PySem.W.codeIn K cd35 "_law_made_field" = true)
    (k35 : PySem.W.keepIn K (.ref f35) = true)
    (a36 : PySem.W.nsIn K mainGlobals "_law_one" = some (some (.ref f36)))
    (l36 : K.lookup f36 = some ⟨oc36, od36, .func (PySem.W.fnOf "_law_one" "_law_one" (defArgs s_law_one) (defBody s_law_one) (defScope s_law_one) .none kV36 dc36 pm36 an36 cd36 ct36), sl36⟩)
    (c36 : PySem.W.codeIn K cd36 "_law_one" = true)
    (k36 : PySem.W.keepIn K (.ref f36) = true)
    (a37 : PySem.W.nsIn K mainGlobals "_law_minus" = some (some (.ref f37)))
    (l37 : K.lookup f37 = some ⟨oc37, od37, .func (PySem.W.fnOf "_law_minus" "_law_minus" (defArgs s_law_minus) (defBody s_law_minus) (defScope s_law_minus) .none kV37 dc37 pm37 an37 cd37 ct37), sl37⟩)
    (c37 : PySem.W.codeIn K cd37 "_law_minus" = true)
    (k37 : PySem.W.keepIn K (.ref f37) = true)
    (a38 : PySem.W.nsIn K mainGlobals "_law_times" = some (some (.ref f38)))
    (l38 : K.lookup f38 = some ⟨oc38, od38, .func (PySem.W.fnOf "_law_times" "_law_times" (defArgs s_law_times) (defBody s_law_times) (defScope s_law_times) .none kV38 dc38 pm38 an38 cd38 ct38), sl38⟩)
    (c38 : PySem.W.codeIn K cd38 "_law_times" = true)
    (k38 : PySem.W.keepIn K (.ref f38) = true)
    (a39 : PySem.W.nsIn K mainGlobals "_law_power" = some (some (.ref f39)))
    (l39 : K.lookup f39 = some ⟨oc39, od39, .func (PySem.W.fnOf "_law_power" "_law_power" (defArgs s_law_power) (defBody s_law_power) (defScope s_law_power) .none kV39 dc39 pm39 an39 cd39 ct39), sl39⟩)
    (c39 : PySem.W.codeIn K cd39 "_law_power" = true)
    (k39 : PySem.W.keepIn K (.ref f39) = true)
    (a40 : PySem.W.nsIn K mainGlobals "_law_number" = some (some (.ref f40)))
    (l40 : K.lookup f40 = some ⟨oc40, od40, .func (PySem.W.fnOf "_law_number" "_law_number" (defArgs s_law_number) (defBody s_law_number) (defScope s_law_number) .none kV40 dc40 pm40 an40 cd40 ct40), sl40⟩)
    (c40 : PySem.W.codeIn K cd40 "_law_number" = true)
    (k40 : PySem.W.keepIn K (.ref f40) = true)
    (a41 : PySem.W.nsIn K mainGlobals "_law_is_number" = some (some (.ref f41)))
    (l41 : K.lookup f41 = some ⟨oc41, od41, .func (PySem.W.fnOf "_law_is_number" "_law_is_number" (defArgs s_law_is_number) (defBody s_law_is_number) (defScope s_law_is_number) .none kV41 dc41 pm41 an41 cd41 ct41), sl41⟩)
    (c41 : PySem.W.codeIn K cd41 "_law_is_number" = true)
    (k41 : PySem.W.keepIn K (.ref f41) = true)
    (a42 : PySem.W.nsIn K mainGlobals "_law_same" = some (some (.ref f42)))
    (l42 : K.lookup f42 = some ⟨oc42, od42, .func (PySem.W.fnOf "_law_same" "_law_same" (defArgs s_law_same) (defBody s_law_same) (defScope s_law_same) .none kV42 dc42 pm42 an42 cd42 ct42), sl42⟩)
    (c42 : PySem.W.codeIn K cd42 "_law_same" = true)
    (k42 : PySem.W.keepIn K (.ref f42) = true)
    (a43 : PySem.W.nsIn K mainGlobals "_law_odd" = some (some (.ref f43)))
    (l43 : K.lookup f43 = some ⟨oc43, od43, .func (PySem.W.fnOf "_law_odd" "_law_odd" (defArgs s_law_odd) (defBody s_law_odd) (defScope s_law_odd) .none kV43 dc43 pm43 an43 cd43 ct43), sl43⟩)
    (c43 : PySem.W.codeIn K cd43 "_law_odd" = true)
    (k43 : PySem.W.keepIn K (.ref f43) = true)
    (a44 : PySem.W.nsIn K mainGlobals "_law_field_told" = some (some (.ref f44)))
    (l44 : K.lookup f44 = some ⟨oc44, od44, .func (PySem.W.fnOf "_law_field_told" "_law_field_told" (defArgs s_law_field_told) (defBody s_law_field_told) (defScope s_law_field_told) .none kV44 dc44 pm44 an44 cd44 ct44), sl44⟩)
    (c44 : PySem.W.codeIn K cd44 "_law_field_told" = true)
    (k44 : PySem.W.keepIn K (.ref f44) = true)
    (a45 : PySem.W.nsIn K mainGlobals "_law_primes_hold" = some (some (.ref f45)))
    (l45 : K.lookup f45 = some ⟨oc45, od45, .func (PySem.W.fnOf "_law_primes_hold" "_law_primes_hold" (defArgs s_law_primes_hold) (defBody s_law_primes_hold) (defScope s_law_primes_hold) .none kV45 dc45 pm45 an45 cd45 ct45), sl45⟩)
    (c45 : PySem.W.codeIn K cd45 "_law_primes_hold" = true)
    (k45 : PySem.W.keepIn K (.ref f45) = true)
    (a46 : PySem.W.nsIn K mainGlobals "_law_number_told" = some (some (.ref f46)))
    (l46 : K.lookup f46 = some ⟨oc46, od46, .func (PySem.W.fnOf "_law_number_told" "_law_number_told" (defArgs s_law_number_told) (defBody s_law_number_told) (defScope s_law_number_told) .none kV46 dc46 pm46 an46 cd46 ct46), sl46⟩)
    (c46 : PySem.W.codeIn K cd46 "_law_number_told" = true)
    (k46 : PySem.W.keepIn K (.ref f46) = true)
    (a47 : PySem.W.nsIn K mainGlobals "_law_divided" = some (some (.ref f47)))
    (l47 : K.lookup f47 = some ⟨oc47, od47, .func (PySem.W.fnOf "_law_divided" "_law_divided" (defArgs s_law_divided) (defBody s_law_divided) (defScope s_law_divided) .none kV47 dc47 pm47 an47 cd47 ct47), sl47⟩)
    (c47 : PySem.W.codeIn K cd47 "_law_divided" = true)
    (k47 : PySem.W.keepIn K (.ref f47) = true)
    (a48 : PySem.W.nsIn K mainGlobals "_law_raised" = some (some (.ref f48)))
    (l48 : K.lookup f48 = some ⟨oc48, od48, .func (PySem.W.fnOf "_law_raised" "_law_raised" (defArgs s_law_raised) (defBody s_law_raised) (defScope s_law_raised) .none kV48 dc48 pm48 an48 cd48 ct48), sl48⟩)
    (c48 : PySem.W.codeIn K cd48 "_law_raised" = true)
    (k48 : PySem.W.keepIn K (.ref f48) = true)
    (a49 : PySem.W.nsIn K mainGlobals "_law_plus" = some (some (.ref f49)))
    (l49 : K.lookup f49 = some ⟨oc49, od49, .func (PySem.W.fnOf "_law_plus" "_law_plus" (defArgs s_law_plus) (defBody s_law_plus) (defScope s_law_plus) .none kV49 dc49 pm49 an49 cd49 ct49), sl49⟩)
    (c49 : PySem.W.codeIn K cd49 "_law_plus" = true)
    (k49 : PySem.W.keepIn K (.ref f49) = true)
    (a50 : PySem.W.nsIn K mainGlobals "_law_less" = some (some (.ref f50)))
    (l50 : K.lookup f50 = some ⟨oc50, od50, .func (PySem.W.fnOf "_law_less" "_law_less" (defArgs s_law_less) (defBody s_law_less) (defScope s_law_less) .none kV50 dc50 pm50 an50 cd50 ct50), sl50⟩)
    (c50 : PySem.W.codeIn K cd50 "_law_less" = true)
    (k50 : PySem.W.keepIn K (.ref f50) = true)
    (a51 : PySem.W.nsIn K mainGlobals "_law_any_number" = some (some (.ref f51)))
    (l51 : K.lookup f51 = some ⟨oc51, od51, .func (PySem.W.fnOf "_law_any_number" "_law_any_number" (defArgs s_law_any_number) (defBody s_law_any_number) (defScope s_law_any_number) .none kV51 dc51 pm51 an51 cd51 ct51), sl51⟩)
    (c51 : PySem.W.codeIn K cd51 "_law_any_number" = true)
    (k51 : PySem.W.keepIn K (.ref f51) = true)
    (a52 : PySem.W.nsIn K mainGlobals "_law_exponent" = some (some (.ref f52)))
    (l52 : K.lookup f52 = some ⟨oc52, od52, .func (PySem.W.fnOf "_law_exponent" "_law_exponent" (defArgs s_law_exponent) (defBody s_law_exponent) (defScope s_law_exponent) .none kV52 dc52 pm52 an52 cd52 ct52), sl52⟩)
    (c52 : PySem.W.codeIn K cd52 "_law_exponent" = true)
    (k52 : PySem.W.keepIn K (.ref f52) = true)
    (a53 : PySem.W.nsIn K mainGlobals "_law_powers_hold" = some (some (.ref f53)))
    (l53 : K.lookup f53 = some ⟨oc53, od53, .func (PySem.W.fnOf "_law_powers_hold" "_law_powers_hold" (defArgs s_law_powers_hold) (defBody s_law_powers_hold) (defScope s_law_powers_hold) .none kV53 dc53 pm53 an53 cd53 ct53), sl53⟩)
    (c53 : PySem.W.codeIn K cd53 "_law_powers_hold" = true)
    (k53 : PySem.W.keepIn K (.ref f53) = true)
    (a54 : PySem.W.nsIn K mainGlobals "_law_sums_hold" = some (some (.ref f54)))
    (l54 : K.lookup f54 = some ⟨oc54, od54, .func (PySem.W.fnOf "_law_sums_hold" "_law_sums_hold" (defArgs s_law_sums_hold) (defBody s_law_sums_hold) (defScope s_law_sums_hold) .none kV54 dc54 pm54 an54 cd54 ct54), sl54⟩)
    (c54 : PySem.W.codeIn K cd54 "_law_sums_hold" = true)
    (k54 : PySem.W.keepIn K (.ref f54) = true)
    (a55 : PySem.W.nsIn K mainGlobals "_law_prime_parts" = some (some (.ref f55)))
    (l55 : K.lookup f55 = some ⟨oc55, od55, .func (PySem.W.fnOf "_law_prime_parts" "_law_prime_parts" (defArgs s_law_prime_parts) (defBody s_law_prime_parts) (defScope s_law_prime_parts) .none kV55 dc55 pm55 an55 cd55 ct55), sl55⟩)
    (c55 : PySem.W.codeIn K cd55 "_law_prime_parts" = true)
    (k55 : PySem.W.keepIn K (.ref f55) = true)
    (a56 : PySem.W.nsIn K mainGlobals "_law_is_source" = some (some (.ref f56)))
    (l56 : K.lookup f56 = some ⟨oc56, od56, .func (PySem.W.fnOf "_law_is_source" "_law_is_source" (defArgs s_law_is_source) (defBody s_law_is_source) (defScope s_law_is_source) .none kV56 dc56 pm56 an56 cd56 ct56), sl56⟩)
    (c56 : PySem.W.codeIn K cd56 "_law_is_source" = true)
    (k56 : PySem.W.keepIn K (.ref f56) = true)
    (a57 : PySem.W.nsIn K mainGlobals "_law_steps_told" = some (some (.ref f57)))
    (l57 : K.lookup f57 = some ⟨oc57, od57, .func (PySem.W.fnOf "_law_steps_told" "_law_steps_told" (defArgs s_law_steps_told) (defBody s_law_steps_told) (defScope s_law_steps_told) .none kV57 dc57 pm57 an57 cd57 ct57), sl57⟩)
    (c57 : PySem.W.codeIn K cd57 "_law_steps_told" = true)
    (k57 : PySem.W.keepIn K (.ref f57) = true)
    (a58 : PySem.W.nsIn K mainGlobals "_law_source_holds" = some (some (.ref f58)))
    (l58 : K.lookup f58 = some ⟨oc58, od58, .func (PySem.W.fnOf "_law_source_holds" "_law_source_holds" (defArgs s_law_source_holds) (defBody s_law_source_holds) (defScope s_law_source_holds) .none kV58 dc58 pm58 an58 cd58 ct58), sl58⟩)
    (c58 : PySem.W.codeIn K cd58 "_law_source_holds" = true)
    (k58 : PySem.W.keepIn K (.ref f58) = true)
    (a59 : PySem.W.nsIn K mainGlobals "law" = some (some (.ref f59)))
    (l59 : K.lookup f59 = some ⟨oc59, od59, .func (PySem.W.fnOf "law" "law" (defArgs s_law) (defBody s_law) (defScope s_law) .none kV59 dc59 pm59 an59 cd59 ct59), sl59⟩)
    (c59 : PySem.W.codeIn K cd59 "law" = true)
    (k59 : PySem.W.keepIn K (.ref f59) = true)
    (z_ValueError : PySem.W.nsIn K mainGlobals "ValueError" = some none)
    (z_abs : PySem.W.nsIn K mainGlobals "abs" = some none)
    (z_all : PySem.W.nsIn K mainGlobals "all" = some none)
    (z_any : PySem.W.nsIn K mainGlobals "any" = some none)
    (z_bool : PySem.W.nsIn K mainGlobals "bool" = some none)
    (z_enumerate : PySem.W.nsIn K mainGlobals "enumerate" = some none)
    (z_int : PySem.W.nsIn K mainGlobals "int" = some none)
    (z_isinstance : PySem.W.nsIn K mainGlobals "isinstance" = some none)
    (z_len : PySem.W.nsIn K mainGlobals "len" = some none)
    (z_max : PySem.W.nsIn K mainGlobals "max" = some none)
    (z_range : PySem.W.nsIn K mainGlobals "range" = some none)
    (z_str : PySem.W.nsIn K mainGlobals "str" = some none)
    (z_tuple : PySem.W.nsIn K mainGlobals "tuple" = some none)
    (zo_gcd : PySem.W.nsIn K mainGlobals "gcd" = some (some (.builtin "math.gcd")))
    (zc_MOST_PRIME : PySem.W.nsIn K mainGlobals "MOST_PRIME" = some (some (.int 20000 tkc_MOST_PRIME)))
    (w1 : PySem.W.specialIn K (.builtin "object.__class__") "__get__" = some (some (.builtin "getset_descriptor.__get__")))
    (w2 : PySem.W.takesIn K (.builtin "object.__class__") = some true)
    (xt_SheetError : PySem.W.typeIn K (.ref CE_SheetError) = some (.type "type"))
    (xi_SheetError : PySem.W.isClsIn K CE_SheetError = true)
    (xt_BadPrime : PySem.W.typeIn K (.ref CE_BadPrime) = some (.type "type"))
    (xi_BadPrime : PySem.W.isClsIn K CE_BadPrime = true)
    (xb_BadPrime : PySem.W.subIn K (.ref CE_BadPrime) (.type "BaseException") = some true)
    (xk_BadPrime : PySem.W.keepIn K (.ref CE_BadPrime) = true)
    (x1_BadPrime : PySem.W.findIn K (.ref CE_BadPrime) "__getattribute__" = some (some (.builtin "BaseException.__getattribute__")))
    (x2_BadPrime : PySem.W.findIn K (.ref CE_BadPrime) "__getattr__" = some none)
    (x3_BadPrime : PySem.W.hasDictIn K CE_BadPrime = true)
    (x4_BadPrime : PySem.W.findIn K (.ref CE_BadPrime) "__class__" = some (some (.builtin "object.__class__")))
    (x5_BadPrime : PySem.W.mroIn K CE_BadPrime (.type "object") = some true)
    (xq_BadPrime : PySem.W.excIn K CE_BadPrime [Value.type "ValueError", Value.type "Exception", Value.type "BaseException", Value.type "object"] "ValueError.__new__" = true)
    (xt_BadNumber : PySem.W.typeIn K (.ref CE_BadNumber) = some (.type "type"))
    (xi_BadNumber : PySem.W.isClsIn K CE_BadNumber = true)
    (xb_BadNumber : PySem.W.subIn K (.ref CE_BadNumber) (.type "BaseException") = some true)
    (xk_BadNumber : PySem.W.keepIn K (.ref CE_BadNumber) = true)
    (x1_BadNumber : PySem.W.findIn K (.ref CE_BadNumber) "__getattribute__" = some (some (.builtin "BaseException.__getattribute__")))
    (x2_BadNumber : PySem.W.findIn K (.ref CE_BadNumber) "__getattr__" = some none)
    (x3_BadNumber : PySem.W.hasDictIn K CE_BadNumber = true)
    (x4_BadNumber : PySem.W.findIn K (.ref CE_BadNumber) "__class__" = some (some (.builtin "object.__class__")))
    (x5_BadNumber : PySem.W.mroIn K CE_BadNumber (.type "object") = some true)
    (xq_BadNumber : PySem.W.excIn K CE_BadNumber [Value.type "ValueError", Value.type "Exception", Value.type "BaseException", Value.type "object"] "ValueError.__new__" = true)
    (xt_ByZero : PySem.W.typeIn K (.ref CE_ByZero) = some (.type "type"))
    (xi_ByZero : PySem.W.isClsIn K CE_ByZero = true)
    (xb_ByZero : PySem.W.subIn K (.ref CE_ByZero) (.type "BaseException") = some true)
    (xk_ByZero : PySem.W.keepIn K (.ref CE_ByZero) = true)
    (x1_ByZero : PySem.W.findIn K (.ref CE_ByZero) "__getattribute__" = some (some (.builtin "BaseException.__getattribute__")))
    (x2_ByZero : PySem.W.findIn K (.ref CE_ByZero) "__getattr__" = some none)
    (x3_ByZero : PySem.W.hasDictIn K CE_ByZero = true)
    (x4_ByZero : PySem.W.findIn K (.ref CE_ByZero) "__class__" = some (some (.builtin "object.__class__")))
    (x5_ByZero : PySem.W.mroIn K CE_ByZero (.type "object") = some true)
    (xq_ByZero : PySem.W.excIn K CE_ByZero [Value.type "ValueError", Value.type "Exception", Value.type "BaseException", Value.type "object"] "ValueError.__new__" = true)
    (s_BadPrime_BadPrime : PySem.W.subIn K (.ref CE_BadPrime) (.ref CE_BadPrime) = some true)
    (s_BadNumber_BadPrime : PySem.W.subIn K (.ref CE_BadNumber) (.ref CE_BadPrime) = some false)
    (s_ByZero_BadPrime : PySem.W.subIn K (.ref CE_ByZero) (.ref CE_BadPrime) = some false)
    (s_BadPrime_BadNumber : PySem.W.subIn K (.ref CE_BadPrime) (.ref CE_BadNumber) = some false)
    (s_BadNumber_BadNumber : PySem.W.subIn K (.ref CE_BadNumber) (.ref CE_BadNumber) = some true)
    (s_ByZero_BadNumber : PySem.W.subIn K (.ref CE_ByZero) (.ref CE_BadNumber) = some false)
    (s_BadPrime_ByZero : PySem.W.subIn K (.ref CE_BadPrime) (.ref CE_ByZero) = some false)
    (s_BadNumber_ByZero : PySem.W.subIn K (.ref CE_BadNumber) (.ref CE_ByZero) = some false)
    (s_ByZero_ByZero : PySem.W.subIn K (.ref CE_ByZero) (.ref CE_ByZero) = some true)
    (s_BadPrime_SheetError : PySem.W.subIn K (.ref CE_BadPrime) (.ref CE_SheetError) = some true)
    (ne_BadPrime_BadNumber : (CE_BadPrime == CE_BadNumber) = false)
    (s_BadNumber_SheetError : PySem.W.subIn K (.ref CE_BadNumber) (.ref CE_SheetError) = some true)
    (ne_BadNumber_BadPrime : (CE_BadNumber == CE_BadPrime) = false)
    (s_ByZero_SheetError : PySem.W.subIn K (.ref CE_ByZero) (.ref CE_SheetError) = some true)
    (ne_ByZero_BadNumber : (CE_ByZero == CE_BadNumber) = false)
    (p1_RestField : PySem.W.plainGet K CC_RestField Str.empty = true)
    (p2_RestField : PySem.W.hasDictIn K CC_RestField = true)
    (p3_RestField : PySem.W.plainOver K CC_RestField = true)
    (p4_RestField : PySem.W.findIn K (.ref CC_RestField) "__setattr__" = some (some (.builtin "object.__setattr__")))
    (p5_RestField : PySem.W.makesIn K CC_RestField = true)
    (p6_RestField : PySem.W.keepIn K (.ref CC_RestField) = true)
    (na_RestField_prime : PySem.W.findIn K (.ref CC_RestField) "prime" = some none)
    (na_RestField_zero : PySem.W.findIn K (.ref CC_RestField) "zero" = some none)
    (na_RestField_one : PySem.W.findIn K (.ref CC_RestField) "one" = some none)
    (na_RestField_minus_one : PySem.W.findIn K (.ref CC_RestField) "minus_one" = some none)
    (p7_RestField : PySem.W.findIn K (.ref CC_RestField) "__class__" = some (some (.builtin "object.__class__")))
    (p8_RestField : PySem.W.mroIn K CC_RestField (.type "object") = some true)
    (p9_RestField : PySem.W.subIn K (.ref CC_RestField) (.ref CC_RestField) = some true)
    (pi_RestField : PySem.W.isClsIn K CC_RestField = true)
    (pt_RestField : PySem.W.typeIn K (.ref CC_RestField) = some (.type "type"))
    (p1_FractionField : PySem.W.plainGet K CC_FractionField Str.empty = true)
    (p2_FractionField : PySem.W.hasDictIn K CC_FractionField = true)
    (p3_FractionField : PySem.W.plainOver K CC_FractionField = true)
    (p4_FractionField : PySem.W.findIn K (.ref CC_FractionField) "__setattr__" = some (some (.builtin "object.__setattr__")))
    (p5_FractionField : PySem.W.makesIn K CC_FractionField = true)
    (p6_FractionField : PySem.W.keepIn K (.ref CC_FractionField) = true)
    (na_FractionField_zero : PySem.W.findIn K (.ref CC_FractionField) "zero" = some none)
    (na_FractionField_one : PySem.W.findIn K (.ref CC_FractionField) "one" = some none)
    (na_FractionField_minus_one : PySem.W.findIn K (.ref CC_FractionField) "minus_one" = some none)
    (p7_FractionField : PySem.W.findIn K (.ref CC_FractionField) "__class__" = some (some (.builtin "object.__class__")))
    (p8_FractionField : PySem.W.mroIn K CC_FractionField (.type "object") = some true)
    (p9_FractionField : PySem.W.subIn K (.ref CC_FractionField) (.ref CC_FractionField) = some true)
    (pi_FractionField : PySem.W.isClsIn K CC_FractionField = true)
    (pt_FractionField : PySem.W.typeIn K (.ref CC_FractionField) = some (.type "type"))
    (so_RestField_FractionField : PySem.W.subIn K (.ref CC_RestField) (.ref CC_FractionField) = some false)
    (no_RestField_FractionField : (CC_RestField == CC_FractionField) = false)
    (so_FractionField_RestField : PySem.W.subIn K (.ref CC_FractionField) (.ref CC_RestField) = some false)
    (no_FractionField_RestField : (CC_FractionField == CC_RestField) = false) :
    ∃ fd : FuncData, (∀ (s : Shared) (v : Value), BindsTo s fd ⟨[v], []⟩ [("_law_script", v)]) ∧ ∀ base : Heap, K.In base → base.Ns mainGlobals mg → TopOk l.prog w K mg base CX0 fa fd ["_law_script"] (sp_law K) := by
  have e := hfa.symm.trans (PySem.W.mg_of X G a59)
  cases e
  have F0 : FunD K "is_whole" "is_whole" (defArgs s_is_whole) (defBody s_is_whole) (defScope s_is_whole) [.non, .non] [] f0 (PySem.W.fnOf "is_whole" "is_whole" (defArgs s_is_whole) (defBody s_is_whole) (defScope s_is_whole) (.ref D0) kV0 dc0 pm0 an0 cd0 ct0) := 
    ⟨⟨oc0, od0, .ref D0, kV0, dc0, pm0, an0, cd0, ct0, sl0, rfl, l0, c0, .inr ⟨by simp, D0, _, [.none, .none], _, rfl, e0, rfl, .cons rfl (.cons rfl .nil)⟩, .inl rfl⟩, k0⟩
  have bq0_2 : Binds K (PySem.W.fnOf "is_whole" "is_whole" (defArgs s_is_whole) (defBody s_is_whole) (defScope s_is_whole) (.ref D0) kV0 dc0 pm0 an0 cd0 ct0) ["thing", "low", "high"] [.none, .none] := fun s us X hl => by
    have hl : us.length = 1 := by
      rw [List.length_append] at hl
      exact Nat.add_right_cancel (m := 2) hl
    match us, hl with
    | [u0], _ => exact BindsTo.of_looks fun M => looks_items (its := #[.none, .none]) X e0 rfl (.of_pure rfl)
  have bq0_1 : Binds K (PySem.W.fnOf "is_whole" "is_whole" (defArgs s_is_whole) (defBody s_is_whole) (defScope s_is_whole) (.ref D0) kV0 dc0 pm0 an0 cd0 ct0) ["thing", "low", "high"] [.none] := fun s us X hl => by
    have hl : us.length = 2 := by
      rw [List.length_append] at hl
      exact Nat.add_right_cancel (m := 1) hl
    match us, hl with
    | [u0, u1], _ => exact BindsTo.of_looks fun M => looks_items (its := #[.none, .none]) X e0 rfl (.of_pure rfl)
  have bq0_0 : Binds K (PySem.W.fnOf "is_whole" "is_whole" (defArgs s_is_whole) (defBody s_is_whole) (defScope s_is_whole) (.ref D0) kV0 dc0 pm0 an0 cd0 ct0) ["thing", "low", "high"] [] := fun s us X hl => by
    match us, hl with
    | [u0, u1, u2], _ => exact BindsTo.of_looks fun M => looks_items (its := #[.none, .none]) X e0 rfl (.of_pure rfl)
  have F1 := fun_mk (st := s_common_divisor) l1 c1 k1
  have b1 := F1.binds (ps := ["one", "other"]) fun _ _ _ _ _ _ us hl => match us, hl with | [_, _], _ => rfl
  have F2 := fun_mk (st := s_power_of) l2 c2 k2
  have b2 := F2.binds (ps := ["base", "exponent"]) fun _ _ _ _ _ _ us hl => match us, hl with | [_, _], _ => rfl
  have F3 := fun_mk (st := s_least_factor) l3 c3 k3
  have b3 := F3.binds (ps := ["number"]) fun _ _ _ _ _ _ us hl => match us, hl with | [_], _ => rfl
  have F4 := fun_mk (st := s_is_prime) l4 c4 k4
  have b4 := F4.binds (ps := ["number"]) fun _ _ _ _ _ _ us hl => match us, hl with | [_], _ => rfl
  have F5 := fun_mk (st := s_source_of) l5 c5 k5
  have b5 := F5.binds (ps := ["field"]) fun _ _ _ _ _ _ us hl => match us, hl with | [_], _ => rfl
  have F6 := fun_mk (st := s_steps_of) l6 c6 k6
  have b6 := F6.binds (ps := ["field", "number"]) fun _ _ _ _ _ _ us hl => match us, hl with | [_, _], _ => rfl
  have F7 := fun_mk (st := s_RestField_init) l7 c7 k7
  have b7 := F7.binds (ps := ["self", "prime"]) fun _ _ _ _ _ _ us hl => match us, hl with | [_, _], _ => rfl
  have F8 := fun_mk (st := s_RestField_eq) l8 c8 k8
  have b8 := F8.binds (ps := ["self", "other"]) fun _ _ _ _ _ _ us hl => match us, hl with | [_, _], _ => rfl
  have F9 := fun_mk (st := s_RestField_check_number) l9 c9 k9
  have b9 := F9.binds (ps := ["self", "number"]) fun _ _ _ _ _ _ us hl => match us, hl with | [_, _], _ => rfl
  have F10 := fun_mk (st := s_RestField_number_of) l10 c10 k10
  have b10 := F10.binds (ps := ["self", "whole"]) fun _ _ _ _ _ _ us hl => match us, hl with | [_, _], _ => rfl
  have F11 := fun_mk (st := s_RestField_plus) l11 c11 k11
  have b11 := F11.binds (ps := ["self", "one", "other"]) fun _ _ _ _ _ _ us hl => match us, hl with | [_, _, _], _ => rfl
  have F12 := fun_mk (st := s_RestField_less) l12 c12 k12
  have b12 := F12.binds (ps := ["self", "one", "other"]) fun _ _ _ _ _ _ us hl => match us, hl with | [_, _, _], _ => rfl
  have F13 := fun_mk (st := s_RestField_times) l13 c13 k13
  have b13 := F13.binds (ps := ["self", "one", "other"]) fun _ _ _ _ _ _ us hl => match us, hl with | [_, _, _], _ => rfl
  have F14 := fun_mk (st := s_RestField_quotient) l14 c14 k14
  have b14 := F14.binds (ps := ["self", "one", "other"]) fun _ _ _ _ _ _ us hl => match us, hl with | [_, _, _], _ => rfl
  have F15 := fun_mk (st := s_RestField_power) l15 c15 k15
  have b15 := F15.binds (ps := ["self", "number", "exponent"]) fun _ _ _ _ _ _ us hl => match us, hl with | [_, _, _], _ => rfl
  have F16 := fun_mk (st := s_fraction) l16 c16 k16
  have b16 := F16.binds (ps := ["top", "bottom"]) fun _ _ _ _ _ _ us hl => match us, hl with | [_, _], _ => rfl
  have F17 := fun_mk (st := s_FractionField_init) l17 c17 k17
  have b17 := F17.binds (ps := ["self"]) fun _ _ _ _ _ _ us hl => match us, hl with | [_], _ => rfl
  have F18 := fun_mk (st := s_FractionField_eq) l18 c18 k18
  have b18 := F18.binds (ps := ["self", "other"]) fun _ _ _ _ _ _ us hl => match us, hl with | [_, _], _ => rfl
  have F19 := fun_mk (st := s_FractionField_check_number) l19 c19 k19
  have b19 := F19.binds (ps := ["self", "number"]) fun _ _ _ _ _ _ us hl => match us, hl with | [_, _], _ => rfl
  have F20 := fun_mk (st := s_FractionField_number_of) l20 c20 k20
  have b20 := F20.binds (ps := ["self", "whole"]) fun _ _ _ _ _ _ us hl => match us, hl with | [_, _], _ => rfl
  have F21 := fun_mk (st := s_FractionField_plus) l21 c21 k21
  have b21 := F21.binds (ps := ["self", "one", "other"]) fun _ _ _ _ _ _ us hl => match us, hl with | [_, _, _], _ => rfl
  have F22 := fun_mk (st := s_FractionField_less) l22 c22 k22
  have b22 := F22.binds (ps := ["self", "one", "other"]) fun _ _ _ _ _ _ us hl => match us, hl with | [_, _, _], _ => rfl
  have F23 := fun_mk (st := s_FractionField_times) l23 c23 k23
  have b23 := F23.binds (ps := ["self", "one", "other"]) fun _ _ _ _ _ _ us hl => match us, hl with | [_, _, _], _ => rfl
  have F24 := fun_mk (st := s_FractionField_quotient) l24 c24 k24
  have b24 := F24.binds (ps := ["self", "one", "other"]) fun _ _ _ _ _ _ us hl => match us, hl with | [_, _, _], _ => rfl
  have F25 := fun_mk (st := s_FractionField_power) l25 c25 k25
  have b25 := F25.binds (ps := ["self", "number", "exponent"]) fun _ _ _ _ _ _ us hl => match us, hl with | [_, _, _], _ => rfl
  have F26 := fun_mk (st := s_law_mixed) l26 c26 k26
  have b26 := F26.binds (ps := ["_law_number_here", "_law_turn"]) fun _ _ _ _ _ _ us hl => match us, hl with | [_, _], _ => rfl
  have F27 := fun_mk (st := s_law_hand) l27 c27 k27
  have b27 := F27.binds (ps := ["_law_script"]) fun _ _ _ _ _ _ us hl => match us, hl with | [_], _ => rfl
  have F28 := fun_mk (st := s_law_draw) l28 c28 k28
  have b28 := F28.binds (ps := ["_law_hand_here", "_law_many"]) fun _ _ _ _ _ _ us hl => match us, hl with | [_, _], _ => rfl
  have F29 := fun_mk (st := s_law_whole) l29 c29 k29
  have b29 := F29.binds (ps := ["_law_thing"]) fun _ _ _ _ _ _ us hl => match us, hl with | [_], _ => rfl
  have F30 := fun_mk (st := s_law_divisor) l30 c30 k30
  have b30 := F30.binds (ps := ["_law_one_here", "_law_other"]) fun _ _ _ _ _ _ us hl => match us, hl with | [_, _], _ => rfl
  have F31 := fun_mk (st := s_law_lowest) l31 c31 k31
  have b31 := F31.binds (ps := ["_law_top", "_law_bottom"]) fun _ _ _ _ _ _ us hl => match us, hl with | [_, _], _ => rfl
  have F32 := fun_mk (st := s_law_prime) l32 c32 k32
  have b32 := F32.binds (ps := ["_law_number_here"]) fun _ _ _ _ _ _ us hl => match us, hl with | [_], _ => rfl
  have F33 := fun_mk (st := s_law_next_prime) l33 c33 k33
  have b33 := F33.binds (ps := ["_law_number_here"]) fun _ _ _ _ _ _ us hl => match us, hl with | [_], _ => rfl
  have F34 := fun_mk (st := s_law_field) l34 c34 k34
  have b34 := F34.binds (ps := ["_law_hand_here"]) fun _ _ _ _ _ _ us hl => match us, hl with | [_], _ => rfl
  have F35 := fun_mk (st := s_law_made_field) l35 c35 k35
  have b35 := F35.binds (ps := ["_law_prime_here"]) fun _ _ _ _ _ _ us hl => match us, hl with | [_], _ => rfl
  have F36 := fun_mk (st := s_law_one) l36 c36 k36
  have b36 := F36.binds (ps := ["_law_prime_here"]) fun _ _ _ _ _ _ us hl => match us, hl with | [_], _ => rfl
  have F37 := fun_mk (st := s_law_minus) l37 c37 k37
  have b37 := F37.binds (ps := ["_law_prime_here"]) fun _ _ _ _ _ _ us hl => match us, hl with | [_], _ => rfl
  have F38 := fun_mk (st := s_law_times) l38 c38 k38
  have b38 := F38.binds (ps := ["_law_prime_here", "_law_a", "_law_b"]) fun _ _ _ _ _ _ us hl => match us, hl with | [_, _, _], _ => rfl
  have F39 := fun_mk (st := s_law_power) l39 c39 k39
  have b39 := F39.binds (ps := ["_law_prime_here", "_law_a", "_law_exponent_here"]) fun _ _ _ _ _ _ us hl => match us, hl with | [_, _, _], _ => rfl
  have F40 := fun_mk (st := s_law_number) l40 c40 k40
  have b40 := F40.binds (ps := ["_law_hand_here", "_law_prime_here"]) fun _ _ _ _ _ _ us hl => match us, hl with | [_, _], _ => rfl
  have F41 := fun_mk (st := s_law_is_number) l41 c41 k41
  have b41 := F41.binds (ps := ["_law_prime_here", "_law_thing"]) fun _ _ _ _ _ _ us hl => match us, hl with | [_, _], _ => rfl
  have F42 := fun_mk (st := s_law_same) l42 c42 k42
  have b42 := F42.binds (ps := ["_law_prime_here", "_law_thing", "_law_due"]) fun _ _ _ _ _ _ us hl => match us, hl with | [_, _, _], _ => rfl
  have F43 := fun_mk (st := s_law_odd) l43 c43 k43
  have b43 := F43.binds (ps := ["_law_hand_here", "_law_prime_here"]) fun _ _ _ _ _ _ us hl => match us, hl with | [_, _], _ => rfl
  have F44 := fun_mk (st := s_law_field_told) l44 c44 k44
  have b44 := F44.binds (ps := ["_law_number_here"]) fun _ _ _ _ _ _ us hl => match us, hl with | [_], _ => rfl
  have F45 := fun_mk (st := s_law_primes_hold) l45 c45 k45
  have b45 := F45.binds (ps := ["_law_hand_here"]) fun _ _ _ _ _ _ us hl => match us, hl with | [_], _ => rfl
  have F46 := fun_mk (st := s_law_number_told) l46 c46 k46
  have b46 := F46.binds (ps := ["_law_field_here", "_law_thing"]) fun _ _ _ _ _ _ us hl => match us, hl with | [_, _], _ => rfl
  have F47 := fun_mk (st := s_law_divided) l47 c47 k47
  have b47 := F47.binds (ps := ["_law_field_here", "_law_one_here", "_law_other"]) fun _ _ _ _ _ _ us hl => match us, hl with | [_, _, _], _ => rfl
  have F48 := fun_mk (st := s_law_raised) l48 c48 k48
  have b48 := F48.binds (ps := ["_law_field_here", "_law_number_here", "_law_exponent_here"]) fun _ _ _ _ _ _ us hl => match us, hl with | [_, _, _], _ => rfl
  have F49 := fun_mk (st := s_law_plus) l49 c49 k49
  have b49 := F49.binds (ps := ["_law_prime_here", "_law_a", "_law_b"]) fun _ _ _ _ _ _ us hl => match us, hl with | [_, _, _], _ => rfl
  have F50 := fun_mk (st := s_law_less) l50 c50 k50
  have b50 := F50.binds (ps := ["_law_prime_here", "_law_a", "_law_b"]) fun _ _ _ _ _ _ us hl => match us, hl with | [_, _, _], _ => rfl
  have F51 := fun_mk (st := s_law_any_number) l51 c51 k51
  have b51 := F51.binds (ps := ["_law_hand_here", "_law_prime_here"]) fun _ _ _ _ _ _ us hl => match us, hl with | [_, _], _ => rfl
  have F52 := fun_mk (st := s_law_exponent) l52 c52 k52
  have b52 := F52.binds (ps := ["_law_hand_here", "_law_prime_here"]) fun _ _ _ _ _ _ us hl => match us, hl with | [_, _], _ => rfl
  have F53 := fun_mk (st := s_law_powers_hold) l53 c53 k53
  have b53 := F53.binds (ps := ["_law_field_here", "_law_prime_here", "_law_a", "_law_exponent_here", "_law_zero"]) fun _ _ _ _ _ _ us hl => match us, hl with | [_, _, _, _, _], _ => rfl
  have F54 := fun_mk (st := s_law_sums_hold) l54 c54 k54
  have b54 := F54.binds (ps := ["_law_hand_here", "_law_field_here", "_law_prime_here"]) fun _ _ _ _ _ _ us hl => match us, hl with | [_, _, _], _ => rfl
  have F55 := fun_mk (st := s_law_prime_parts) l55 c55 k55
  have b55 := F55.binds (ps := ["_law_number_here"]) fun _ _ _ _ _ _ us hl => match us, hl with | [_], _ => rfl
  have F56 := fun_mk (st := s_law_is_source) l56 c56 k56
  have b56 := F56.binds (ps := ["_law_prime_here", "_law_number_here", "_law_parts"]) fun _ _ _ _ _ _ us hl => match us, hl with | [_, _, _], _ => rfl
  have F57 := fun_mk (st := s_law_steps_told) l57 c57 k57
  have b57 := F57.binds (ps := ["_law_field_here", "_law_thing"]) fun _ _ _ _ _ _ us hl => match us, hl with | [_, _], _ => rfl
  have F58 := fun_mk (st := s_law_source_holds) l58 c58 k58
  have b58 := F58.binds (ps := ["_law_hand_here", "_law_prime_here"]) fun _ _ _ _ _ _ us hl => match us, hl with | [_, _], _ => rfl
  have F59 := fun_mk (st := s_law) l59 c59 k59
  let T : Txt K mg := { f_is_whole := f0, d_is_whole := _, F_is_whole := F0, b2_is_whole := bq0_2, b1_is_whole := bq0_1, b_is_whole := bq0_0, g_is_whole := PySem.W.mg_of X G a0, f_common_divisor := f1, d_common_divisor := _, F_common_divisor := F1, b_common_divisor := b1, g_common_divisor := PySem.W.mg_of X G a1, f_power_of := f2, d_power_of := _, F_power_of := F2, b_power_of := b2, g_power_of := PySem.W.mg_of X G a2, f_least_factor := f3, d_least_factor := _, F_least_factor := F3, b_least_factor := b3, g_least_factor := PySem.W.mg_of X G a3, f_is_prime := f4, d_is_prime := _, F_is_prime := F4, b_is_prime := b4, g_is_prime := PySem.W.mg_of X G a4, f_source_of := f5, d_source_of := _, F_source_of := F5, b_source_of := b5, g_source_of := PySem.W.mg_of X G a5, f_steps_of := f6, d_steps_of := _, F_steps_of := F6, b_steps_of := b6, g_steps_of := PySem.W.mg_of X G a6, f_RestField_init := f7, d_RestField_init := _, F_RestField_init := F7, b_RestField_init := b7, f_RestField_eq := f8, d_RestField_eq := _, F_RestField_eq := F8, b_RestField_eq := b8, f_RestField_check_number := f9, d_RestField_check_number := _, F_RestField_check_number := F9, b_RestField_check_number := b9, f_RestField_number_of := f10, d_RestField_number_of := _, F_RestField_number_of := F10, b_RestField_number_of := b10, f_RestField_plus := f11, d_RestField_plus := _, F_RestField_plus := F11, b_RestField_plus := b11, f_RestField_less := f12, d_RestField_less := _, F_RestField_less := F12, b_RestField_less := b12, f_RestField_times := f13, d_RestField_times := _, F_RestField_times := F13, b_RestField_times := b13, f_RestField_quotient := f14, d_RestField_quotient := _, F_RestField_quotient := F14, b_RestField_quotient := b14, f_RestField_power := f15, d_RestField_power := _, F_RestField_power := F15, b_RestField_power := b15, f_fraction := f16, d_fraction := _, F_fraction := F16, b_fraction := b16, g_fraction := PySem.W.mg_of X G a16, f_FractionField_init := f17, d_FractionField_init := _, F_FractionField_init := F17, b_FractionField_init := b17, f_FractionField_eq := f18, d_FractionField_eq := _, F_FractionField_eq := F18, b_FractionField_eq := b18, f_FractionField_check_number := f19, d_FractionField_check_number := _, F_FractionField_check_number := F19, b_FractionField_check_number := b19, f_FractionField_number_of := f20, d_FractionField_number_of := _, F_FractionField_number_of := F20, b_FractionField_number_of := b20, f_FractionField_plus := f21, d_FractionField_plus := _, F_FractionField_plus := F21, b_FractionField_plus := b21, f_FractionField_less := f22, d_FractionField_less := _, F_FractionField_less := F22, b_FractionField_less := b22, f_FractionField_times := f23, d_FractionField_times := _, F_FractionField_times := F23, b_FractionField_times := b23, f_FractionField_quotient := f24, d_FractionField_quotient := _, F_FractionField_quotient := F24, b_FractionField_quotient := b24, f_FractionField_power := f25, d_FractionField_power := _, F_FractionField_power := F25, b_FractionField_power := b25, f_law_mixed := f26, d_law_mixed := _, F_law_mixed := F26, b_law_mixed := b26, g_law_mixed := PySem.W.mg_of X G a26, f_law_hand := f27, d_law_hand := _, F_law_hand := F27, b_law_hand := b27, g_law_hand := PySem.W.mg_of X G a27, f_law_draw := f28, d_law_draw := _, F_law_draw := F28, b_law_draw := b28, g_law_draw := PySem.W.mg_of X G a28, f_law_whole := f29, d_law_whole := _, F_law_whole := F29, b_law_whole := b29, g_law_whole := PySem.W.mg_of X G a29, f_law_divisor := f30, d_law_divisor := _, F_law_divisor := F30, b_law_divisor := b30, g_law_divisor := PySem.W.mg_of X G a30, f_law_lowest := f31, d_law_lowest := _, F_law_lowest := F31, b_law_lowest := b31, g_law_lowest := PySem.W.mg_of X G a31, f_law_prime := f32, d_law_prime := _, F_law_prime := F32, b_law_prime := b32, g_law_prime := PySem.W.mg_of X G a32, f_law_next_prime := f33, d_law_next_prime := _, F_law_next_prime := F33, b_law_next_prime := b33, g_law_next_prime := PySem.W.mg_of X G a33, f_law_field := f34, d_law_field := _, F_law_field := F34, b_law_field := b34, g_law_field := PySem.W.mg_of X G a34, f_law_made_field := f35, d_law_made_field := _, F_law_made_field := F35, b_law_made_field := b35, g_law_made_field := PySem.W.mg_of X G a35, f_law_one := f36, d_law_one := _, F_law_one := F36, b_law_one := b36, g_law_one := PySem.W.mg_of X G a36, f_law_minus := f37, d_law_minus := _, F_law_minus := F37, b_law_minus := b37, g_law_minus := PySem.W.mg_of X G a37, f_law_times := f38, d_law_times := _, F_law_times := F38, b_law_times := b38, g_law_times := PySem.W.mg_of X G a38, f_law_power := f39, d_law_power := _, F_law_power := F39, b_law_power := b39, g_law_power := PySem.W.mg_of X G a39, f_law_number := f40, d_law_number := _, F_law_number := F40, b_law_number := b40, g_law_number := PySem.W.mg_of X G a40, f_law_is_number := f41, d_law_is_number := _, F_law_is_number := F41, b_law_is_number := b41, g_law_is_number := PySem.W.mg_of X G a41, f_law_same := f42, d_law_same := _, F_law_same := F42, b_law_same := b42, g_law_same := PySem.W.mg_of X G a42, f_law_odd := f43, d_law_odd := _, F_law_odd := F43, b_law_odd := b43, g_law_odd := PySem.W.mg_of X G a43, f_law_field_told := f44, d_law_field_told := _, F_law_field_told := F44, b_law_field_told := b44, g_law_field_told := PySem.W.mg_of X G a44, f_law_primes_hold := f45, d_law_primes_hold := _, F_law_primes_hold := F45, b_law_primes_hold := b45, g_law_primes_hold := PySem.W.mg_of X G a45, f_law_number_told := f46, d_law_number_told := _, F_law_number_told := F46, b_law_number_told := b46, g_law_number_told := PySem.W.mg_of X G a46, f_law_divided := f47, d_law_divided := _, F_law_divided := F47, b_law_divided := b47, g_law_divided := PySem.W.mg_of X G a47, f_law_raised := f48, d_law_raised := _, F_law_raised := F48, b_law_raised := b48, g_law_raised := PySem.W.mg_of X G a48, f_law_plus := f49, d_law_plus := _, F_law_plus := F49, b_law_plus := b49, g_law_plus := PySem.W.mg_of X G a49, f_law_less := f50, d_law_less := _, F_law_less := F50, b_law_less := b50, g_law_less := PySem.W.mg_of X G a50, f_law_any_number := f51, d_law_any_number := _, F_law_any_number := F51, b_law_any_number := b51, g_law_any_number := PySem.W.mg_of X G a51, f_law_exponent := f52, d_law_exponent := _, F_law_exponent := F52, b_law_exponent := b52, g_law_exponent := PySem.W.mg_of X G a52, f_law_powers_hold := f53, d_law_powers_hold := _, F_law_powers_hold := F53, b_law_powers_hold := b53, g_law_powers_hold := PySem.W.mg_of X G a53, f_law_sums_hold := f54, d_law_sums_hold := _, F_law_sums_hold := F54, b_law_sums_hold := b54, g_law_sums_hold := PySem.W.mg_of X G a54, f_law_prime_parts := f55, d_law_prime_parts := _, F_law_prime_parts := F55, b_law_prime_parts := b55, g_law_prime_parts := PySem.W.mg_of X G a55, f_law_is_source := f56, d_law_is_source := _, F_law_is_source := F56, b_law_is_source := b56, g_law_is_source := PySem.W.mg_of X G a56, f_law_steps_told := f57, d_law_steps_told := _, F_law_steps_told := F57, b_law_steps_told := b57, g_law_steps_told := PySem.W.mg_of X G a57, f_law_source_holds := f58, d_law_source_holds := _, F_law_source_holds := F58, b_law_source_holds := b58, g_law_source_holds := PySem.W.mg_of X G a58, f_law := fa, d_law := _, F_law := F59, m_ValueError := PySem.W.mg_none_of X G z_ValueError, m_abs := PySem.W.mg_none_of X G z_abs, m_all := PySem.W.mg_none_of X G z_all, m_any := PySem.W.mg_none_of X G z_any, m_bool := PySem.W.mg_none_of X G z_bool, m_enumerate := PySem.W.mg_none_of X G z_enumerate, m_int := PySem.W.mg_none_of X G z_int, m_isinstance := PySem.W.mg_none_of X G z_isinstance, m_len := PySem.W.mg_none_of X G z_len, m_max := PySem.W.mg_none_of X G z_max, m_range := PySem.W.mg_none_of X G z_range, m_str := PySem.W.mg_none_of X G z_str, m_tuple := PySem.W.mg_none_of X G z_tuple, x_gcd := PySem.W.mg_of X G zo_gcd, tk_MOST_PRIME := tkc_MOST_PRIME, c_MOST_PRIME := PySem.W.mg_of X G zc_MOST_PRIME, C_SheetError := CE_SheetError, g_SheetError := PySem.W.mg_of X G h_SheetError, C_BadPrime := CE_BadPrime, g_BadPrime := PySem.W.mg_of X G h_BadPrime, x_BadPrime := ⟨x1_BadPrime, x2_BadPrime, xb_BadPrime, x3_BadPrime⟩, e_BadPrime := ⟨x1_BadPrime, x2_BadPrime, xb_BadPrime, x3_BadPrime, x4_BadPrime, w1, w2, x5_BadPrime⟩, q_BadPrime := xq_BadPrime, k_BadPrime := xk_BadPrime, b_BadPrime := xb_BadPrime, ty_BadPrime := xt_BadPrime, C_BadNumber := CE_BadNumber, g_BadNumber := PySem.W.mg_of X G h_BadNumber, x_BadNumber := ⟨x1_BadNumber, x2_BadNumber, xb_BadNumber, x3_BadNumber⟩, e_BadNumber := ⟨x1_BadNumber, x2_BadNumber, xb_BadNumber, x3_BadNumber, x4_BadNumber, w1, w2, x5_BadNumber⟩, q_BadNumber := xq_BadNumber, k_BadNumber := xk_BadNumber, b_BadNumber := xb_BadNumber, ty_BadNumber := xt_BadNumber, C_ByZero := CE_ByZero, g_ByZero := PySem.W.mg_of X G h_ByZero, x_ByZero := ⟨x1_ByZero, x2_ByZero, xb_ByZero, x3_ByZero⟩, e_ByZero := ⟨x1_ByZero, x2_ByZero, xb_ByZero, x3_ByZero, x4_ByZero, w1, w2, x5_ByZero⟩, q_ByZero := xq_ByZero, k_ByZero := xk_ByZero, b_ByZero := xb_ByZero, ty_ByZero := xt_ByZero, mm_BadPrime_BadPrime := own_exm xb_BadPrime xi_BadPrime xt_BadPrime s_BadPrime_BadPrime, mm_BadNumber_BadPrime := own_exm xb_BadPrime xi_BadPrime xt_BadPrime s_BadNumber_BadPrime, mm_ByZero_BadPrime := own_exm xb_BadPrime xi_BadPrime xt_BadPrime s_ByZero_BadPrime, mm_BadPrime_BadNumber := own_exm xb_BadNumber xi_BadNumber xt_BadNumber s_BadPrime_BadNumber, mm_BadNumber_BadNumber := own_exm xb_BadNumber xi_BadNumber xt_BadNumber s_BadNumber_BadNumber, mm_ByZero_BadNumber := own_exm xb_BadNumber xi_BadNumber xt_BadNumber s_ByZero_BadNumber, mm_BadPrime_ByZero := own_exm xb_ByZero xi_ByZero xt_ByZero s_BadPrime_ByZero, mm_BadNumber_ByZero := own_exm xb_ByZero xi_ByZero xt_ByZero s_BadNumber_ByZero, mm_ByZero_ByZero := own_exm xb_ByZero xi_ByZero xt_ByZero s_ByZero_ByZero, kit_BadPrime_SheetError := own_kit xi_SheetError xt_SheetError s_BadPrime_SheetError (fun _ => rfl), kit_BadPrime_BadNumber := own_kit xi_BadNumber xt_BadNumber s_BadPrime_BadNumber (fun z => by rw [ne_BadPrime_BadNumber] at z; cases z), kit_BadNumber_SheetError := own_kit xi_SheetError xt_SheetError s_BadNumber_SheetError (fun _ => rfl), kit_BadNumber_BadPrime := own_kit xi_BadPrime xt_BadPrime s_BadNumber_BadPrime (fun z => by rw [ne_BadNumber_BadPrime] at z; cases z), kit_ByZero_SheetError := own_kit xi_SheetError xt_SheetError s_ByZero_SheetError (fun _ => rfl), kit_ByZero_BadNumber := own_kit xi_BadNumber xt_BadNumber s_ByZero_BadNumber (fun z => by rw [ne_ByZero_BadNumber] at z; cases z), C_RestField := CC_RestField, g_RestField := PySem.W.mg_of X G h_RestField, cl_RestField := ⟨p1_RestField, p2_RestField, p3_RestField, p4_RestField⟩, M_RestField := ⟨p5_RestField, a7, i7, p6_RestField⟩, na_RestField_prime := na_RestField_prime, na_RestField_zero := na_RestField_zero, na_RestField_one := na_RestField_one, na_RestField_minus_one := na_RestField_minus_one, RestField_eq_at := a8, RestField_eq_fn := i8, M_RestField_check_number := ⟨a9, i9, k9⟩, M_RestField_number_of := ⟨a10, i10, k10⟩, M_RestField_plus := ⟨a11, i11, k11⟩, M_RestField_less := ⟨a12, i12, k12⟩, M_RestField_times := ⟨a13, i13, k13⟩, M_RestField_quotient := ⟨a14, i14, k14⟩, M_RestField_power := ⟨a15, i15, k15⟩, RestField_k_class := p7_RestField, RestField_k_get := w1, RestField_k_takes := w2, RestField_k_mro := p8_RestField, RestField_k_isp := own_kit pi_RestField pt_RestField p9_RestField (fun _ => rfl), C_FractionField := CC_FractionField, g_FractionField := PySem.W.mg_of X G h_FractionField, cl_FractionField := ⟨p1_FractionField, p2_FractionField, p3_FractionField, p4_FractionField⟩, M_FractionField := ⟨p5_FractionField, a17, i17, p6_FractionField⟩, na_FractionField_zero := na_FractionField_zero, na_FractionField_one := na_FractionField_one, na_FractionField_minus_one := na_FractionField_minus_one, FractionField_eq_at := a18, FractionField_eq_fn := i18, M_FractionField_check_number := ⟨a19, i19, k19⟩, M_FractionField_number_of := ⟨a20, i20, k20⟩, M_FractionField_plus := ⟨a21, i21, k21⟩, M_FractionField_less := ⟨a22, i22, k22⟩, M_FractionField_times := ⟨a23, i23, k23⟩, M_FractionField_quotient := ⟨a24, i24, k24⟩, M_FractionField_power := ⟨a25, i25, k25⟩, FractionField_k_class := p7_FractionField, FractionField_k_get := w1, FractionField_k_takes := w2, FractionField_k_mro := p8_FractionField, FractionField_k_isp := own_kit pi_FractionField pt_FractionField p9_FractionField (fun _ => rfl), kit_RestField_FractionField := own_kit pi_FractionField pt_FractionField so_RestField_FractionField (fun z => by rw [no_RestField_FractionField] at z; cases z), kit_FractionField_RestField := own_kit pi_RestField pt_RestField so_FractionField_RestField (fun z => by rw [no_FractionField_RestField] at z; cases z) }
  exact ⟨_, fun s v => .of_eq rfl, fun base _ _ => ok_law T⟩
end K04
open PySem PySem.W PyProof.Rows
set_option maxHeartbeats 0 in
theorem PySem.Challenge.cw_sheetproofs_k04_whole_fields_reckoned_holds : PySem.Challenge.rw_sheetproofs_k04_whole_fields_reckoned.Holds := by
  w_on; o_law; k_head; (case hw => w_witness2)
  k_fill
  refine TkS.walk_top (l := PySem.Challenge.rw_sheetproofs_k04_whole_fields_reckoned) (n := 63) (x := "_law_script") (CX := fun _ => L2.CX0) (sp := fun w => K04.sp_law _) rfl (by decide) rfl (fun w h Y => PySem.W.kIn_of Y) ?F (fun _ _ a ns hl _ hS => ⟨a, ns, rfl, hS, hl, fun _ => rfl⟩) (fun _ _ _ _ _ h => h)
  case F =>
    intro w mg fa h KX G hmg
    refine' K04.all_mk KX G hmg ?h_SheetError ?h_BadPrime ?h_BadNumber ?h_ByZero ?h_RestField ?h_FractionField ?a0 ?l0 ?c0 ?k0 ?e0 ?a1 ?l1 ?c1 ?k1 ?a2 ?l2 ?c2 ?k2 ?a3 ?l3 ?c3 ?k3 ?a4 ?l4 ?c4 ?k4 ?a5 ?l5 ?c5 ?k5 ?a6 ?l6 ?c6 ?k6 ?a7 ?i7 ?l7 ?c7 ?k7 ?a8 ?i8 ?l8 ?c8 ?k8 ?a9 ?i9 ?l9 ?c9 ?k9 ?a10 ?i10 ?l10 ?c10 ?k10 ?a11 ?i11 ?l11 ?c11 ?k11 ?a12 ?i12 ?l12 ?c12 ?k12 ?a13 ?i13 ?l13 ?c13 ?k13 ?a14 ?i14 ?l14 ?c14 ?k14 ?a15 ?i15 ?l15 ?c15 ?k15 ?a16 ?l16 ?c16 ?k16 ?a17 ?i17 ?l17 ?c17 ?k17 ?a18 ?i18 ?l18 ?c18 ?k18 ?a19 ?i19 ?l19 ?c19 ?k19 ?a20 ?i20 ?l20 ?c20 ?k20 ?a21 ?i21 ?l21 ?c21 ?k21 ?a22 ?i22 ?l22 ?c22 ?k22 ?a23 ?i23 ?l23 ?c23 ?k23 ?a24 ?i24 ?l24 ?c24 ?k24 ?a25 ?i25 ?l25 ?c25 ?k25 ?a26 ?l26 ?c26 ?k26 ?a27 ?l27 ?c27 ?k27 ?a28 ?l28 ?c28 ?k28 ?a29 ?l29 ?c29 ?k29 ?a30 ?l30 ?c30 ?k30 ?a31 ?l31 ?c31 ?k31 ?a32 ?l32 ?c32 ?k32 ?a33 ?l33 ?c33 ?k33 ?a34 ?l34 ?c34 ?k34 ?a35 ?l35 ?c35 ?k35 ?a36 ?l36 ?c36 ?k36 ?a37 ?l37 ?c37 ?k37 ?a38 ?l38 ?c38 ?k38 ?a39 ?l39 ?c39 ?k39 ?a40 ?l40 ?c40 ?k40 ?a41 ?l41 ?c41 ?k41 ?a42 ?l42 ?c42 ?k42 ?a43 ?l43 ?c43 ?k43 ?a44 ?l44 ?c44 ?k44 ?a45 ?l45 ?c45 ?k45 ?a46 ?l46 ?c46 ?k46 ?a47 ?l47 ?c47 ?k47 ?a48 ?l48 ?c48 ?k48 ?a49 ?l49 ?c49 ?k49 ?a50 ?l50 ?c50 ?k50 ?a51 ?l51 ?c51 ?k51 ?a52 ?l52 ?c52 ?k52 ?a53 ?l53 ?c53 ?k53 ?a54 ?l54 ?c54 ?k54 ?a55 ?l55 ?c55 ?k55 ?a56 ?l56 ?c56 ?k56 ?a57 ?l57 ?c57 ?k57 ?a58 ?l58 ?c58 ?k58 ?a59 ?l59 ?c59 ?k59 ?z_ValueError ?z_abs ?z_all ?z_any ?z_bool ?z_enumerate ?z_int ?z_isinstance ?z_len ?z_max ?z_range ?z_str ?z_tuple ?zo_gcd ?zc_MOST_PRIME ?w1 ?w2 ?xt_SheetError ?xi_SheetError ?xt_BadPrime ?xi_BadPrime ?xb_BadPrime ?xk_BadPrime ?x1_BadPrime ?x2_BadPrime ?x3_BadPrime ?x4_BadPrime ?x5_BadPrime ?xq_BadPrime ?xt_BadNumber ?xi_BadNumber ?xb_BadNumber ?xk_BadNumber ?x1_BadNumber ?x2_BadNumber ?x3_BadNumber ?x4_BadNumber ?x5_BadNumber ?xq_BadNumber ?xt_ByZero ?xi_ByZero ?xb_ByZero ?xk_ByZero ?x1_ByZero ?x2_ByZero ?x3_ByZero ?x4_ByZero ?x5_ByZero ?xq_ByZero ?s_BadPrime_BadPrime ?s_BadNumber_BadPrime ?s_ByZero_BadPrime ?s_BadPrime_BadNumber ?s_BadNumber_BadNumber ?s_ByZero_BadNumber ?s_BadPrime_ByZero ?s_BadNumber_ByZero ?s_ByZero_ByZero ?s_BadPrime_SheetError ?ne_BadPrime_BadNumber ?s_BadNumber_SheetError ?ne_BadNumber_BadPrime ?s_ByZero_SheetError ?ne_ByZero_BadNumber ?p1_RestField ?p2_RestField ?p3_RestField ?p4_RestField ?p5_RestField ?p6_RestField ?na_RestField_prime ?na_RestField_zero ?na_RestField_one ?na_RestField_minus_one ?p7_RestField ?p8_RestField ?p9_RestField ?pi_RestField ?pt_RestField ?p1_FractionField ?p2_FractionField ?p3_FractionField ?p4_FractionField ?p5_FractionField ?p6_FractionField ?na_FractionField_zero ?na_FractionField_one ?na_FractionField_minus_one ?p7_FractionField ?p8_FractionField ?p9_FractionField ?pi_FractionField ?pt_FractionField ?so_RestField_FractionField ?no_RestField_FractionField ?so_FractionField_RestField ?no_FractionField_RestField
    (case h_SheetError => k_is); (case h_BadPrime => k_is); (case h_BadNumber => k_is); (case h_ByZero => k_is); (case h_RestField => k_is); (case h_FractionField => k_is); (case a0 => k_is); (case l0 => k_is); (case c0 => k_is); (case k0 => k_is); (case e0 => k_is); (case a1 => k_is); (case l1 => k_is); (case c1 => k_is); (case k1 => k_is); (case a2 => k_is); (case l2 => k_is); (case c2 => k_is); (case k2 => k_is); (case a3 => k_is); (case l3 => k_is); (case c3 => k_is); (case k3 => k_is); (case a4 => k_is); (case l4 => k_is); (case c4 => k_is); (case k4 => k_is); (case a5 => k_is); (case l5 => k_is); (case c5 => k_is); (case k5 => k_is); (case a6 => k_is); (case l6 => k_is); (case c6 => k_is); (case k6 => k_is); (case a7 => k_is); (case i7 => k_is); (case l7 => k_is); (case c7 => k_is); (case k7 => k_is); (case a8 => k_is); (case i8 => k_is); (case l8 => k_is); (case c8 => k_is); (case k8 => k_is); (case a9 => k_is); (case i9 => k_is); (case l9 => k_is); (case c9 => k_is); (case k9 => k_is); (case a10 => k_is); (case i10 => k_is); (case l10 => k_is); (case c10 => k_is); (case k10 => k_is); (case a11 => k_is); (case i11 => k_is); (case l11 => k_is); (case c11 => k_is); (case k11 => k_is); (case a12 => k_is); (case i12 => k_is); (case l12 => k_is); (case c12 => k_is); (case k12 => k_is); (case a13 => k_is); (case i13 => k_is); (case l13 => k_is); (case c13 => k_is); (case k13 => k_is); (case a14 => k_is); (case i14 => k_is); (case l14 => k_is); (case c14 => k_is); (case k14 => k_is); (case a15 => k_is); (case i15 => k_is); (case l15 => k_is); (case c15 => k_is); (case k15 => k_is); (case a16 => k_is); (case l16 => k_is); (case c16 => k_is); (case k16 => k_is); (case a17 => k_is); (case i17 => k_is); (case l17 => k_is); (case c17 => k_is); (case k17 => k_is); (case a18 => k_is); (case i18 => k_is); (case l18 => k_is); (case c18 => k_is); (case k18 => k_is); (case a19 => k_is); (case i19 => k_is); (case l19 => k_is); (case c19 => k_is); (case k19 => k_is); (case a20 => k_is); (case i20 => k_is); (case l20 => k_is); (case c20 => k_is); (case k20 => k_is); (case a21 => k_is); (case i21 => k_is); (case l21 => k_is); (case c21 => k_is); (case k21 => k_is); (case a22 => k_is); (case i22 => k_is); (case l22 => k_is); (case c22 => k_is); (case k22 => k_is); (case a23 => k_is); (case i23 => k_is); (case l23 => k_is); (case c23 => k_is); (case k23 => k_is); (case a24 => k_is); (case i24 => k_is); (case l24 => k_is); (case c24 => k_is); (case k24 => k_is); (case a25 => k_is); (case i25 => k_is); (case l25 => k_is); (case c25 => k_is); (case k25 => k_is); (case a26 => k_is); (case l26 => k_is); (case c26 => k_is); (case k26 => k_is); (case a27 => k_is); (case l27 => k_is); (case c27 => k_is); (case k27 => k_is); (case a28 => k_is); (case l28 => k_is); (case c28 => k_is); (case k28 => k_is); (case a29 => k_is); (case l29 => k_is); (case c29 => k_is); (case k29 => k_is); (case a30 => k_is); (case l30 => k_is); (case c30 => k_is); (case k30 => k_is); (case a31 => k_is); (case l31 => k_is); (case c31 => k_is); (case k31 => k_is); (case a32 => k_is); (case l32 => k_is); (case c32 => k_is); (case k32 => k_is); (case a33 => k_is); (case l33 => k_is); (case c33 => k_is); (case k33 => k_is); (case a34 => k_is); (case l34 => k_is); (case c34 => k_is); (case k34 => k_is); (case a35 => k_is); (case l35 => k_is); (case c35 => k_is); (case k35 => k_is); (case a36 => k_is); (case l36 => k_is); (case c36 => k_is); (case k36 => k_is); (case a37 => k_is); (case l37 => k_is); (case c37 => k_is); (case k37 => k_is); (case a38 => k_is); (case l38 => k_is); (case c38 => k_is); (case k38 => k_is); (case a39 => k_is); (case l39 => k_is); (case c39 => k_is); (case k39 => k_is); (case a40 => k_is); (case l40 => k_is); (case c40 => k_is); (case k40 => k_is); (case a41 => k_is); (case l41 => k_is); (case c41 => k_is); (case k41 => k_is); (case a42 => k_is); (case l42 => k_is); (case c42 => k_is); (case k42 => k_is); (case a43 => k_is); (case l43 => k_is); (case c43 => k_is); (case k43 => k_is); (case a44 => k_is); (case l44 => k_is); (case c44 => k_is); (case k44 => k_is); (case a45 => k_is); (case l45 => k_is); (case c45 => k_is); (case k45 => k_is); (case a46 => k_is); (case l46 => k_is); (case c46 => k_is); (case k46 => k_is); (case a47 => k_is); (case l47 => k_is); (case c47 => k_is); (case k47 => k_is); (case a48 => k_is); (case l48 => k_is); (case c48 => k_is); (case k48 => k_is); (case a49 => k_is); (case l49 => k_is); (case c49 => k_is); (case k49 => k_is); (case a50 => k_is); (case l50 => k_is); (case c50 => k_is); (case k50 => k_is); (case a51 => k_is); (case l51 => k_is); (case c51 => k_is); (case k51 => k_is); (case a52 => k_is); (case l52 => k_is); (case c52 => k_is); (case k52 => k_is); (case a53 => k_is); (case l53 => k_is); (case c53 => k_is); (case k53 => k_is); (case a54 => k_is); (case l54 => k_is); (case c54 => k_is); (case k54 => k_is); (case a55 => k_is); (case l55 => k_is); (case c55 => k_is); (case k55 => k_is); (case a56 => k_is); (case l56 => k_is); (case c56 => k_is); (case k56 => k_is); (case a57 => k_is); (case l57 => k_is); (case c57 => k_is); (case k57 => k_is); (case a58 => k_is); (case l58 => k_is); (case c58 => k_is); (case k58 => k_is); (case a59 => k_is); (case l59 => k_is); (case c59 => k_is); (case k59 => k_is); (case z_ValueError => k_is); (case z_abs => k_is); (case z_all => k_is); (case z_any => k_is); (case z_bool => k_is); (case z_enumerate => k_is); (case z_int => k_is); (case z_isinstance => k_is); (case z_len => k_is); (case z_max => k_is); (case z_range => k_is); (case z_str => k_is); (case z_tuple => k_is); (case zo_gcd => k_is); (case zc_MOST_PRIME => k_is); (case w1 => k_is); (case w2 => k_is); (case xt_SheetError => k_is); (case xi_SheetError => k_is); (case xt_BadPrime => k_is); (case xi_BadPrime => k_is); (case xb_BadPrime => k_is); (case xk_BadPrime => k_is); (case x1_BadPrime => k_is); (case x2_BadPrime => k_is); (case x3_BadPrime => k_is); (case x4_BadPrime => k_is); (case x5_BadPrime => k_is); (case xq_BadPrime => k_exc); (case xt_BadNumber => k_is); (case xi_BadNumber => k_is); (case xb_BadNumber => k_is); (case xk_BadNumber => k_is); (case x1_BadNumber => k_is); (case x2_BadNumber => k_is); (case x3_BadNumber => k_is); (case x4_BadNumber => k_is); (case x5_BadNumber => k_is); (case xq_BadNumber => k_exc); (case xt_ByZero => k_is); (case xi_ByZero => k_is); (case xb_ByZero => k_is); (case xk_ByZero => k_is); (case x1_ByZero => k_is); (case x2_ByZero => k_is); (case x3_ByZero => k_is); (case x4_ByZero => k_is); (case x5_ByZero => k_is); (case xq_ByZero => k_exc); (case s_BadPrime_BadPrime => first | rfl | k_is); (case s_BadNumber_BadPrime => k_is); (case s_ByZero_BadPrime => k_is); (case s_BadPrime_BadNumber => k_is); (case s_BadNumber_BadNumber => first | rfl | k_is); (case s_ByZero_BadNumber => k_is); (case s_BadPrime_ByZero => k_is); (case s_BadNumber_ByZero => k_is); (case s_ByZero_ByZero => first | rfl | k_is); (case s_BadPrime_SheetError => k_is); (case ne_BadPrime_BadNumber => decide); (case s_BadNumber_SheetError => k_is); (case ne_BadNumber_BadPrime => decide); (case s_ByZero_SheetError => k_is); (case ne_ByZero_BadNumber => decide); (case p1_RestField => k_is); (case p2_RestField => k_is); (case p3_RestField => k_is); (case p4_RestField => k_is); (case p5_RestField => k_is); (case p6_RestField => k_is); (case na_RestField_prime => k_is); (case na_RestField_zero => k_is); (case na_RestField_one => k_is); (case na_RestField_minus_one => k_is); (case p7_RestField => k_is); (case p8_RestField => k_is); (case p9_RestField => first | rfl | k_is); (case pi_RestField => k_is); (case pt_RestField => k_is); (case p1_FractionField => k_is); (case p2_FractionField => k_is); (case p3_FractionField => k_is); (case p4_FractionField => k_is); (case p5_FractionField => k_is); (case p6_FractionField => k_is); (case na_FractionField_zero => k_is); (case na_FractionField_one => k_is); (case na_FractionField_minus_one => k_is); (case p7_FractionField => k_is); (case p8_FractionField => k_is); (case p9_FractionField => first | rfl | k_is); (case pi_FractionField => k_is); (case pt_FractionField => k_is); (case so_RestField_FractionField => k_is); (case no_RestField_FractionField => decide); (case so_FractionField_RestField => k_is); (case no_FractionField_RestField => decide)

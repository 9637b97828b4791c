import PyProof.Rows.All
import HandS.ForMost
import HandS.Zip
import HandS.Walk
import HandS.Deep
import HandS.Strs
import HandS.ExcIs
import HandS.ExcField
import PyProof.Rows.ReprR
import HandS.Exc
import HandS.ExcOwn
import HandS.CallSlots
import HandS.OwnEq
import HandS.IsInst
import HandS.Conv
import HandS.TupAny
import HandS.TupSets
import HandS.TryMany
import HandS.Ends
import HandS.Rev
import PyProof.ListNew
import HandS.ExcInit
import HandS.WordsExc
import HandS.Defaults
import HandS.Style
import HandS.SortRule
import HandS.Property
import HandS.Evl
import HandS.Wide
import KE.Datum
import HandS.HeadEnd
import PySem.Challenge.RW_sheetproofs_k00_whole_pictures_pieces_an
set_option Elab.async false
set_option linter.all false
set_option maxRecDepth 100000
set_option maxHeartbeats 4000000
/-! zip of two sequences, each a list or a tuple -/
namespace RZM
open PySem
open PySem.Sem (wp)
def SIter (t : Bool) (h : Heap) (it l : Addr) (i : Nat) : Prop := match t with
  | true => h.IsTupleIter it l i
  | false => h.IsListIter it l i
def SSeq (t : Bool) (h : Heap) (l : Addr) (xs : Array Value) : Prop := match t with
  | true => h.IsTuple l xs
  | false => h.IsList l xs
def itName (t : Bool) : String := match t with
  | true => "tuple_iterator"
  | false => "list_iterator"
section
variable {t : Bool} {h h' : Heap} {a b l : Addr} {i : Nat} {xs : Array Value}
theorem SIter.extBut (x : SIter t h a l i) (hs : Heap.ExtBut b h h') (hab : a ≠ b) : SIter t h' a l i := by
  cases t with
  | true => exact Heap.IsTupleIter.extBut x hs hab
  | false => exact Heap.IsListIter.extBut x hs hab
theorem SSeq.extBut (x : SSeq t h a xs) (hs : Heap.ExtBut b h h') (hab : a ≠ b) : SSeq t h' a xs := by
  cases t with
  | true => exact Heap.IsTuple.extBut x hs hab
  | false => exact Heap.IsList.extBut x hs hab
theorem SIter.at (x : SIter t h a l i) (e : ∀ o, h.get? a = some o → h'.get? a = some o) : SIter t h' a l i := by
  cases t with
  | true => exact Heap.IsTupleIter.at x e
  | false => exact Heap.IsListIter.at x e
theorem SIter.obj (x : SIter t h a l i) : ∃ o, h.get? a = some o ∧ ∀ v, o.data ≠ .cell v := by
  cases t with
  | true =>
    obtain ⟨o, e, _, d⟩ := (show h.IsTupleIter a l i from x)
    exact ⟨o, e, fun v z => by rw [d] at z; cases z⟩
  | false =>
    obtain ⟨o, e, _, d⟩ := (show h.IsListIter a l i from x)
    exact ⟨o, e, fun v z => by rw [d] at z; cases z⟩
theorem SIter.lt (x : SIter t h a l i) : a < h.objs.size := by
  obtain ⟨o, e, _⟩ := x.obj
  exact Heap.lt_size e
theorem SSeq.lt (x : SSeq t h a xs) : a < h.objs.size := by
  cases t with
  | true =>
    obtain ⟨o, e, _⟩ := (show h.IsTuple a xs from x)
    exact Heap.lt_size e
  | false =>
    obtain ⟨o, e, _⟩ := (show h.IsList a xs from x)
    exact Heap.lt_size e
end
section
variable {prog : Program} {w : World} {A : Around} {E : Value → Shared → Prop} {s : Shared}
theorem nextOf_S_item {t : Bool} {it l : Addr} {i : Nat} {items : Array Value} {x : Value} {Q : Value → Shared → Prop} (hit : SIter t s.heap it l i) (hl : SSeq t s.heap l items) (hx : items[i]? = some x)
    (hQ : ∀ h', SIter t h' it l (i + 1) → Heap.SameBut it s.heap h' → Q x { s with heap := h' }) : wpAny (model prog w) A (Builtin.SmallTypes.nextOf (.ref it)) Q E s := by
  cases t with
  | true => exact RZ.nextOf_tuple_item hit hl hx hQ
  | false => exact wpAny_nextOf_list_item hit hl hx hQ
theorem nextOf_S_end {t : Bool} {it l : Addr} {i : Nat} {items : Array Value} {Q : Value → Shared → Prop} (hh : A.handled = none) (hit : SIter t s.heap it l i) (hl : SSeq t s.heap l items) (hx : items[i]? = none)
    (hE : ∀ h' e, Heap.ExtBut it s.heap h' → (∃ o, h'.get? e = some o ∧ o.cls = .type "StopIteration") → E (.ref e) { s with heap := h' }) : wpAny (model prog w) A (Builtin.SmallTypes.nextOf (.ref it)) Q E s := by
  cases t with
  | true => exact RZ.nextOf_tuple_end hh hit hl hx hE
  | false => exact wpAny_nextOf_list_end hh hit hl hx hE
theorem zipS_next_item {t1 t2 : Bool} {z TI TO i1 i2 l1 l2 : Addr} {k1 k2 : Nat} {xs ys : Array Value} {x y a b : Value} {Q : Value → Shared → Prop} (D : ZipApart z TI TO i1 i2 l1 l2)
    (hz : IsZip s.heap z TI TO .none) (hTI : IsPair s.heap TI (.ref i1) (.ref i2)) (hTO : IsPair s.heap TO a b)
    (h1 : SIter t1 s.heap i1 l1 k1) (h2 : SIter t2 s.heap i2 l2 k2) (hl1 : SSeq t1 s.heap l1 xs) (hl2 : SSeq t2 s.heap l2 ys) (hx : xs[k1]? = some x) (hy : ys[k2]? = some y)
    (hQ : ∀ h', IsZip h' z TI TO (rawInt s.heap.objs.size) → IsPair h' TO x y → SIter t1 h' i1 l1 (k1 + 1) → SIter t2 h' i2 l2 (k2 + 1) → IsPair h' s.heap.objs.size x y → h'.objs.size = s.heap.objs.size + 1 →
      (∀ c o, c ≠ z → c ≠ TO → c ≠ i1 → c ≠ i2 → s.heap.get? c = some o → h'.get? c = some o) → Q (.ref s.heap.objs.size) { s with heap := h' }) :
    wpAny (model prog w) A (Builtin.«zip.__next__» ⟨[.ref z], []⟩) (fun fin s' => ∃ v, fin = .done (.ret v) ∧ Q v s') E s := by
  show wpAny _ _ (field (.ref z) 2 >>= _) _ _ _
  refine wpAny_bind (wpAny_field hz rfl (x := .bool false) rfl ?_)
  show wpAny _ _ (field (.ref z) 3 >>= _) _ _ _
  refine wpAny_bind (wpAny_field hz rfl (x := .ref TI) rfl ?_)
  refine wpAny_bind (wpAny_seqItems hTI rfl ?_)
  show wpAny _ _ (Builtin.SmallTypes.ownedTupleIsFree (.ref z) >>= _) _ _ _
  refine wpAny_bind ?_
  unfold Builtin.SmallTypes.ownedTupleIsFree
  refine wpAny_bind (wpAny_field hz rfl (x := .none) rfl (wpAny_pure ?_))
  simp only [if_true]
  refine wpAny_bind (wpAny_rule ?_)
  refine wpAny_bind (wpAny_field hz rfl (x := .ref TO) rfl ?_)
  refine wpAny_bind (wpAny_setField_rec hz (by simp) fun h₁ hz₁ hs₁ => ?_)
  replace hz₁ : IsZip h₁ z TI TO .ellipsis := hz₁
  refine wpAny_bind ?_
  simp only [List.zipIdx_cons, List.zipIdx_nil, List.forIn_cons, List.forIn_nil]

  refine wpAny_bind (wpAny_bind (wpAny_onRaise ?_))
  show wpAny _ _ (Builtin.SmallTypes.nextOf (.ref i1) >>= _) _ _ _
  refine wpAny_bind (nextOf_S_item (h1.extBut hs₁.extBut D.i1z) (hl1.extBut hs₁.extBut D.l1z) hx fun h₂ h1₂ hs₂ => wpAny_pure ?_)
  have hTO₂ : IsPair h₂ TO a b := hs₂.extBut _ _ D.TOi1 (hs₁.extBut _ _ D.TOz hTO)
  refine wpAny_bind (wpAny_seqItems hTO₂ rfl ?_)
  refine wpAny_bind (wpAny_updateSeq_pair hTO₂ fun h₃ hTO₃ hs₃ => ?_)
  replace hTO₃ : IsPair h₃ TO x b := hTO₃
  refine wpAny_bind (wpAny_letGo (wpAny_pure ?_))

  refine wpAny_bind (wpAny_bind (wpAny_onRaise ?_))
  show wpAny _ _ (Builtin.SmallTypes.nextOf (.ref i2) >>= _) _ _ _
  refine wpAny_bind (nextOf_S_item (((h2.extBut hs₁.extBut D.i2z).extBut hs₂.extBut D.i12.symm).extBut hs₃.extBut D.TOi2.symm)
    (((hl2.extBut hs₁.extBut D.l2z).extBut hs₂.extBut D.l2i1).extBut hs₃.extBut D.l2TO) hy fun h₄ h2₄ hs₄ => wpAny_pure ?_)
  have hTO₄ : IsPair h₄ TO x b := hs₄.extBut _ _ D.TOi2 hTO₃
  refine wpAny_bind (wpAny_seqItems hTO₄ rfl ?_)
  refine wpAny_bind (wpAny_updateSeq_pair hTO₄ fun h₅ hTO₅ hs₅ => ?_)
  replace hTO₅ : IsPair h₅ TO x y := hTO₅
  refine wpAny_bind (wpAny_letGo (wpAny_pure (wpAny_pure ?_)))

  refine wpAny_bind (wpAny_seqItems hTO₅ rfl ?_)
  refine wpAny_bind (wpAny_newTuple ?_)
  have hsz : h₅.objs.size = s.heap.objs.size := by rw [hs₅.1, hs₄.1, hs₃.1, hs₂.1, hs₁.1]
  have hz₅ : IsZip h₅ z TI TO .ellipsis := hs₅.extBut _ _ D.TOz.symm (hs₄.extBut _ _ D.i2z.symm (hs₃.extBut _ _ D.TOz.symm (hs₂.extBut _ _ D.i1z.symm hz₁)))
  have hk₅ : ∀ c o, c ≠ z → c ≠ TO → c ≠ i1 → c ≠ i2 → s.heap.get? c = some o → h₅.get? c = some o := fun c o c1 c2 c3 c4 e =>
    hs₅.extBut _ _ c2 (hs₄.extBut _ _ c4 (hs₃.extBut _ _ c2 (hs₂.extBut _ _ c3 (hs₁.extBut _ _ c1 e))))
  have h1₅ : SIter t1 h₅ i1 l1 (k1 + 1) := ((h1₂.extBut hs₃.extBut D.TOi1.symm).extBut hs₄.extBut D.i12).extBut hs₅.extBut D.TOi1.symm
  have h2₅ : SIter t2 h₅ i2 l2 (k2 + 1) := h2₄.extBut hs₅.extBut D.TOi2.symm
  have hzlt : z < h₅.objs.size := Heap.lt_size hz₅
  have hTOlt : TO < h₅.objs.size := Heap.lt_size hTO₅
  have hi1lt : i1 < h₅.objs.size := by exact h1₅.lt
  have hi2lt : i2 < h₅.objs.size := by exact h2₅.lt
  show wpAny _ _ (Builtin.SmallTypes.ownedTupleHandOut (.ref z) (.ref h₅.objs.size) >>= _) _ _ _
  refine wpAny_bind ?_
  unfold Builtin.SmallTypes.ownedTupleHandOut
  have hz₆ : IsZip (h₅.push { cls := .type "tuple", data := .seq #[x, y] }) z TI TO .ellipsis := Heap.get?_push_of_some _ hz₅
  refine wpAny_bind (wpAny_setField_rec hz₆ (by simp) fun h₇ hz₇ hs₇ => ?_)
  replace hz₇ : IsZip h₇ z TI TO (rawInt h₅.objs.size) := hz₇
  refine wpAny_setField_rec hz₇ (by simp) fun h₈ hz₈ hs₈ => ?_
  replace hz₈ : IsZip h₈ z TI TO (rawInt h₅.objs.size) := hz₈
  have up : ∀ c o, c ≠ z → h₅.get? c = some o → h₈.get? c = some o := fun c o c1 e => hs₈.extBut _ _ c1 (hs₇.extBut _ _ c1 (Heap.get?_push_of_some _ e))
  have hT₈ : IsPair h₈ h₅.objs.size x y := hs₈.extBut _ _ (Nat.ne_of_gt hzlt) (hs₇.extBut _ _ (Nat.ne_of_gt hzlt) (Heap.get?_push_size _ rfl))
  have hz8 : h₈.objs.size = h₅.objs.size + 1 := by rw [hs₈.1, hs₇.1, Heap.size_push]
  rw [hsz] at hz₈ hT₈ hz8
  refine wpAny_pure ⟨_, rfl, ?_⟩
  show Q (.ref h₅.objs.size) _
  rw [hsz]
  exact hQ h₈ hz₈ (up _ _ D.TOz hTO₅) (h1₅.at fun o e => up _ o D.i1z e) (h2₅.at fun o e => up _ o D.i2z e) hT₈ hz8 fun c o c1 c2 c3 c4 e => up c o c1 (hk₅ c o c1 c2 c3 c4 e)

theorem zipS_next_end {t1 t2 : Bool} {z TI TO i1 i2 l1 l2 : Addr} {k1 k2 : Nat} {xs ys : Array Value} {a b : Value} {Q : Fin → Shared → Prop} (hh : A.handled = none) (D : ZipApart z TI TO i1 i2 l1 l2)
    (hz : IsZip s.heap z TI TO .none) (hTI : IsPair s.heap TI (.ref i1) (.ref i2)) (hTO : IsPair s.heap TO a b)
    (h1 : SIter t1 s.heap i1 l1 k1) (h2 : SIter t2 s.heap i2 l2 k2) (hl1 : SSeq t1 s.heap l1 xs) (hl2 : SSeq t2 s.heap l2 ys) (hend : xs[k1]? = none ∨ ys[k2]? = none)
    (hE : ∀ h' e, (∀ c o, c ≠ z → c ≠ TO → c ≠ i1 → c ≠ i2 → s.heap.get? c = some o → h'.get? c = some o) → (∃ o, h'.get? e = some o ∧ o.cls = .type "StopIteration") → E (.ref e) { s with heap := h' }) :
    wpAny (model prog w) A (Builtin.«zip.__next__» ⟨[.ref z], []⟩) Q E s := by
  show wpAny _ _ (field (.ref z) 2 >>= _) _ _ _
  refine wpAny_bind (wpAny_field hz rfl (x := .bool false) rfl ?_)
  show wpAny _ _ (field (.ref z) 3 >>= _) _ _ _
  refine wpAny_bind (wpAny_field hz rfl (x := .ref TI) rfl ?_)
  refine wpAny_bind (wpAny_seqItems hTI rfl ?_)
  show wpAny _ _ (Builtin.SmallTypes.ownedTupleIsFree (.ref z) >>= _) _ _ _
  refine wpAny_bind ?_
  unfold Builtin.SmallTypes.ownedTupleIsFree
  refine wpAny_bind (wpAny_field hz rfl (x := .none) rfl (wpAny_pure ?_))
  simp only [if_true]
  refine wpAny_bind (wpAny_rule ?_)
  refine wpAny_bind (wpAny_field hz rfl (x := .ref TO) rfl ?_)
  refine wpAny_bind (wpAny_setField_rec hz (by simp) fun h₁ hz₁ hs₁ => ?_)
  replace hz₁ : IsZip h₁ z TI TO .ellipsis := hz₁
  refine wpAny_bind ?_
  simp only [List.zipIdx_cons, List.zipIdx_nil, List.forIn_cons, List.forIn_nil]
  refine wpAny_bind (wpAny_bind (wpAny_onRaise ?_))
  show wpAny _ _ (Builtin.SmallTypes.nextOf (.ref i1) >>= _) _ _ _
  cases hx : xs[k1]? with
  | none =>
    refine wpAny_bind (nextOf_S_end hh (h1.extBut hs₁.extBut D.i1z) (hl1.extBut hs₁.extBut D.l1z) hx fun h₂ e hs₂ he => ?_)
    obtain ⟨oe, hoe, hce⟩ := he
    have hz₂ : IsZip h₂ z TI TO .ellipsis := hs₂ _ _ D.i1z.symm hz₁
    have hez : e ≠ z := fun x => by subst x; rw [hz₂] at hoe; cases hoe; simp at hce
    refine wpAny_setField_rec hz₂ (by simp) fun h₃ _ hs₃ => hE h₃ e (fun c o c1 _ c3 _ x => hs₃.extBut _ _ c1 (hs₂ _ _ c3 (hs₁.extBut _ _ c1 x))) ⟨oe, hs₃.extBut _ _ hez hoe, hce⟩
  | some x =>
    have hy : ys[k2]? = none := by rcases hend with h | h; rw [hx] at h; cases h; exact h
    refine wpAny_bind (nextOf_S_item (h1.extBut hs₁.extBut D.i1z) (hl1.extBut hs₁.extBut D.l1z) hx fun h₂ h1₂ hs₂ => wpAny_pure ?_)
    have hTO₂ : IsPair h₂ TO a b := hs₂.extBut _ _ D.TOi1 (hs₁.extBut _ _ D.TOz hTO)
    refine wpAny_bind (wpAny_seqItems hTO₂ rfl ?_)
    refine wpAny_bind (wpAny_updateSeq_pair hTO₂ fun h₃ hTO₃ hs₃ => ?_)
    refine wpAny_bind (wpAny_letGo (wpAny_pure ?_))
    refine wpAny_bind (wpAny_bind (wpAny_onRaise ?_))
    show wpAny _ _ (Builtin.SmallTypes.nextOf (.ref i2) >>= _) _ _ _
    refine wpAny_bind (nextOf_S_end hh (((h2.extBut hs₁.extBut D.i2z).extBut hs₂.extBut D.i12.symm).extBut hs₃.extBut D.TOi2.symm)
      (((hl2.extBut hs₁.extBut D.l2z).extBut hs₂.extBut D.l2i1).extBut hs₃.extBut D.l2TO) hy fun h₄ e hs₄ he => ?_)
    obtain ⟨oe, hoe, hce⟩ := he
    have hz₄ : IsZip h₄ z TI TO .ellipsis := hs₄ _ _ D.i2z.symm (hs₃.extBut _ _ D.TOz.symm (hs₂.extBut _ _ D.i1z.symm hz₁))
    have hez : e ≠ z := fun x => by subst x; rw [hz₄] at hoe; cases hoe; simp at hce
    refine wpAny_setField_rec hz₄ (by simp) fun h₅ _ hs₅ => hE h₅ e (fun c o c1 c2 c3 c4 x => hs₅.extBut _ _ c1 (hs₄ _ _ c4 (hs₃.extBut _ _ c2 (hs₂.extBut _ _ c3 (hs₁.extBut _ _ c1 x))))) ⟨oe, hs₅.extBut _ _ hez hoe, hce⟩

theorem pyNext_zipS_item {t1 t2 : Bool} {z TI TO i1 i2 l1 l2 : Addr} {k1 k2 : Nat} {xs ys : Array Value} {x y a b : Value} {Q : Option Value → Shared → Prop} (D : ZipApart z TI TO i1 i2 l1 l2)
    (hz : IsZip s.heap z TI TO .none) (hTI : IsPair s.heap TI (.ref i1) (.ref i2)) (hTO : IsPair s.heap TO a b)
    (h1 : SIter t1 s.heap i1 l1 k1) (h2 : SIter t2 s.heap i2 l2 k2) (hl1 : SSeq t1 s.heap l1 xs) (hl2 : SSeq t2 s.heap l2 ys) (hx : xs[k1]? = some x) (hy : ys[k2]? = some y)
    (hQ : ∀ h', IsZip h' z TI TO (rawInt s.heap.objs.size) → IsPair h' TO x y → SIter t1 h' i1 l1 (k1 + 1) → SIter t2 h' i2 l2 (k2 + 1) → IsPair h' s.heap.objs.size x y → h'.objs.size = s.heap.objs.size + 1 →
      (∀ c o, c ≠ z → c ≠ TO → c ≠ i1 → c ≠ i2 → s.heap.get? c = some o → h'.get? c = some o) → Q (some (.ref s.heap.objs.size)) { s with heap := h' }) :
    wpAny (model prog w) A (pyNext (.ref z)) Q E s := by
  have hT : s.TypeIs (.ref z) "zip" := ⟨_, hz, rfl⟩
  unfold pyNext
  exact wpAny_bind (wpAny_attempt (wpAny_callSpecial?_slot (name := Str.ofString "__next__") hT F.slot_zip_next
    (wpAny_call_entry F.slot_zip_next hT F.entry_zip_next
      (zipS_next_item D hz hTI hTO h1 h2 hl1 hl2 hx hy fun h' a1 a2 a3 a4 a5 a6 a7 => wpAny_pure (hQ h' a1 a2 a3 a4 a5 a6 a7)) (F.args_zip_next_1 _))))

theorem pyNext_zipS_end {t1 t2 : Bool} {z TI TO i1 i2 l1 l2 : Addr} {k1 k2 : Nat} {xs ys : Array Value} {a b : Value} {Q : Option Value → Shared → Prop} (hh : A.handled = none) (D : ZipApart z TI TO i1 i2 l1 l2)
    (hz : IsZip s.heap z TI TO .none) (hTI : IsPair s.heap TI (.ref i1) (.ref i2)) (hTO : IsPair s.heap TO a b)
    (h1 : SIter t1 s.heap i1 l1 k1) (h2 : SIter t2 s.heap i2 l2 k2) (hl1 : SSeq t1 s.heap l1 xs) (hl2 : SSeq t2 s.heap l2 ys) (hend : xs[k1]? = none ∨ ys[k2]? = none)
    (hQ : ∀ h', (∀ c o, c ≠ z → c ≠ TO → c ≠ i1 → c ≠ i2 → s.heap.get? c = some o → h'.get? c = some o) → Q none { s with heap := h' }) : wpAny (model prog w) A (pyNext (.ref z)) Q E s := by
  have hT : s.TypeIs (.ref z) "zip" := ⟨_, hz, rfl⟩
  unfold pyNext
  refine wpAny_bind (wpAny_attempt (wpAny_callSpecial?_slot (name := Str.ofString "__next__") hT F.slot_zip_next
    (wpAny_call_entry F.slot_zip_next hT F.entry_zip_next (zipS_next_end hh D hz hTI hTO h1 h2 hl1 hl2 hend fun h' e hk he => ?_) (F.args_zip_next_1 _))))
  obtain ⟨o, ho, hc⟩ := he
  refine wpAny_bind (wpAny_isInstance (T := "StopIteration") (b := true) ⟨o, ho, hc⟩ isSubtype_stop ?_)
  exact wpAny_pure (hQ _ hk)
end


abbrev zH1 (t1 : Bool) (h : Heap) (l1 : Addr) : Heap := h.push { cls := .type (itName t1), data := .fields #[.ref l1, .int 0 0] }
abbrev zH2 (t1 t2 : Bool) (h : Heap) (l1 l2 : Addr) : Heap := (zH1 t1 h l1).push { cls := .type (itName t2), data := .fields #[.ref l2, .int 0 0] }
abbrev zH3 (t1 t2 : Bool) (h : Heap) (l1 l2 : Addr) : Heap := (zH2 t1 t2 h l1 l2).push { cls := .type "tuple", data := .seq #[.ref h.objs.size, .ref (zH1 t1 h l1).objs.size] }
abbrev zH4 (t1 t2 : Bool) (h : Heap) (l1 l2 : Addr) : Heap := (zH3 t1 t2 h l1 l2).push { cls := .type "tuple", data := .seq #[.none, .none] }
abbrev zH5 (t1 t2 : Bool) (h : Heap) (l1 l2 : Addr) : Heap := (zH4 t1 t2 h l1 l2).push { cls := .type "zip", data := .fields #[.none, .bool false, .bool false, .ref (zH2 t1 t2 h l1 l2).objs.size, .ref (zH3 t1 t2 h l1 l2).objs.size] }
theorem meets_zipS (t1 t2 : Bool) (l1 l2 : Addr) (xs ys : Array Value) :
    Meets (Builtin.«zip.__new__» ⟨[.type "zip", .ref l1, .ref l2], []⟩) (fun _ R s => SSeq t1 s.heap l1 xs ∧ SSeq t2 s.heap l2 ys ∧
      R (.ok (.ret (.ref (zH4 t1 t2 s.heap l1 l2).objs.size))) { s with heap := zH5 t1 t2 s.heap l1 l2 }) := by
  cases t1 with
  | true => cases t2 with
    | true => exact RZ.meets_zipT_new l1 l2 xs ys
    | false =>
        refine .of_wp fun prog w A R s h => ?_
        obtain ⟨hp, g, d, tk, os⟩ := s; obtain ⟨hl1, hl2, h⟩ := h
        have hsub := sub_zip
        have hL1 : Heap.IsTuple (Shared.heap ⟨hp, g, d, tk, os⟩) l1 xs := hl1
        have hL2 : Heap.IsList (Shared.heap ⟨hp.push { cls := .type "tuple_iterator", data := .fields #[.ref l1, .int 0 0] }, g, d, tk, os⟩) l2 ys := Heap.IsList.push hl2 _
        wp_walk using wpAny_pyIter_tuple hL1, wpAny_pyIter_list hL2
        exact ⟨_, rfl, h⟩
  | false => cases t2 with
    | false => exact meets_zip_new l1 l2 xs ys
    | true =>
        refine .of_wp fun prog w A R s h => ?_
        obtain ⟨hp, g, d, tk, os⟩ := s; obtain ⟨hl1, hl2, h⟩ := h
        have hsub := sub_zip
        have hL1 : Heap.IsList (Shared.heap ⟨hp, g, d, tk, os⟩) l1 xs := hl1
        have hL2 : Heap.IsTuple (Shared.heap ⟨hp.push { cls := .type "list_iterator", data := .fields #[.ref l1, .int 0 0] }, g, d, tk, os⟩) l2 ys := Heap.IsTuple.push hl2 _
        wp_walk using wpAny_pyIter_list hL1, wpAny_pyIter_tuple hL2
        exact ⟨_, rfl, h⟩
section
variable {prog : Program} {w : World} {A : Around} {E : Value → Shared → Prop} {s : Shared}
theorem call_zipS {t1 t2 : Bool} {l1 l2 : Addr} {xs ys : Array Value} {Q : Value → Shared → Prop} (hl1 : SSeq t1 s.heap l1 xs) (hl2 : SSeq t2 s.heap l2 ys)
    (h : ∀ h', IsZip h' (s.heap.objs.size + 4) (s.heap.objs.size + 2) (s.heap.objs.size + 3) .none → IsPair h' (s.heap.objs.size + 2) (.ref s.heap.objs.size) (.ref (s.heap.objs.size + 1)) →
      IsPair h' (s.heap.objs.size + 3) .none .none → SIter t1 h' s.heap.objs.size l1 0 → SIter t2 h' (s.heap.objs.size + 1) l2 0 → h'.objs.size = s.heap.objs.size + 5 →
      (∀ c o, s.heap.get? c = some o → h'.get? c = some o) → Q (.ref (s.heap.objs.size + 4)) { s with heap := h' }) :
    wpAny (model prog w) A (call (.type "zip") [.ref l1, .ref l2]) Q E s := by
  refine callType_new F.called_zip (by decide) (F.typeCall_zip_2 _ _) (F.newCall_zip_2 _ _) (fun obj => F.args_object_init_3 obj _ _) F.entry_zip_new
    (meets_zipS t1 t2 l1 l2 xs ys) ⟨hl1, hl2, ?_⟩
  have z1 : (zH1 t1 s.heap l1).objs.size = s.heap.objs.size + 1 := Heap.size_push ..
  have z2 : (zH2 t1 t2 s.heap l1 l2).objs.size = s.heap.objs.size + 2 := by rw [Heap.size_push, z1]
  have z3 : (zH3 t1 t2 s.heap l1 l2).objs.size = s.heap.objs.size + 3 := by rw [Heap.size_push, z2]
  have z4 : (zH4 t1 t2 s.heap l1 l2).objs.size = s.heap.objs.size + 4 := by rw [Heap.size_push, z3]
  have z5 : (zH5 t1 t2 s.heap l1 l2).objs.size = s.heap.objs.size + 5 := by rw [Heap.size_push, z4]
  have g5 : (zH5 t1 t2 s.heap l1 l2).get? (zH4 t1 t2 s.heap l1 l2).objs.size = some _ := Heap.get?_push_size _ rfl
  have g4 : (zH5 t1 t2 s.heap l1 l2).get? (zH3 t1 t2 s.heap l1 l2).objs.size = some _ := Heap.get?_push_of_some _ (Heap.get?_push_size _ rfl)
  have g3 : (zH5 t1 t2 s.heap l1 l2).get? (zH2 t1 t2 s.heap l1 l2).objs.size = some _ := Heap.get?_push_of_some _ (Heap.get?_push_of_some _ (Heap.get?_push_size _ rfl))
  have g2 : (zH5 t1 t2 s.heap l1 l2).get? (zH1 t1 s.heap l1).objs.size = some _ := Heap.get?_push_of_some _ (Heap.get?_push_of_some _ (Heap.get?_push_of_some _ (Heap.get?_push_size _ rfl)))
  have g1 : (zH5 t1 t2 s.heap l1 l2).get? s.heap.objs.size = some _ := Heap.get?_push_of_some _ (Heap.get?_push_of_some _ (Heap.get?_push_of_some _ (Heap.get?_push_of_some _ (Heap.get?_push_size _ rfl))))
  show _ ∧ _
  rw [z2, z3, z4] at g5
  rw [z1, z2] at g3
  rw [z3] at g4
  rw [z1] at g2
  rw [z4]
  exact ⟨⟨_, g5, rfl⟩, h _ g5 g3 g4 (by cases t1 <;> exact ⟨_, g1, rfl, rfl⟩) (by cases t2 <;> exact ⟨_, g2, rfl, rfl⟩) z5 fun c o x =>
    Heap.get?_push_of_some _ (Heap.get?_push_of_some _ (Heap.get?_push_of_some _ (Heap.get?_push_of_some _ (Heap.get?_push_of_some _ x))))⟩
end
end RZM
namespace RZM
open PySem PySem.Spec PyProof.Rows L2
def SqS (t : Bool) (K : PySem.W.Frag) (H : Hp) (a : Addr) (xs : List V) : Prop := match t with
  | true => SqT K H a xs
  | false => SqL K H a xs
theorem sq_ok {X : Cx} {pins : List (Addr × Obj)} {σ : L2.St} {H : Hp} {s : Shared} {t : Bool} {a : Addr} {xs : List V} (I : Inv X pins σ H s) (h : SqS t X.K H a xs) : ∃ its : List Value, Vals xs its ∧ SSeq t s.heap a its.toArray ∧ xs.length ≤ sizeLine := by
  cases t with
  | true =>
    obtain ⟨its, r, p, z⟩ := I.tuple h
    exact ⟨its, r, (show s.heap.IsTuple a its.toArray from p), z⟩
  | false =>
    obtain ⟨its, r, p, z⟩ := I.list h
    exact ⟨its, r, p.isList, z⟩
theorem sq_inj {X : Cx} {pins : List (Addr × Obj)} {σ : L2.St} {H : Hp} {s : Shared} {t : Bool} {a : Addr} {xs ys : List V} (I : Inv X pins σ H s) (h : SqS t X.K H a xs) (h' : SqS t X.K H a ys) : xs = ys := by
  cases t with
  | true => exact I.tuple_inj h h'
  | false => exact I.list_inj h h'
def ItzS (t1 t2 : Bool) (K : PySem.W.Frag) (a b : Addr) : It :=
  ⟨fun i H => ∃ (xs ys : List V) (x y : V), SqS t1 K H a xs ∧ SqS t2 K H b ys ∧ xs[i]? = some x ∧ ys[i]? = some y,
    fun i H v H' => ∃ T x y, v = .ref T ∧ H T = none ∧ H' = upd H T (.tup [x, y]) ∧ (∀ xs, SqS t1 K H a xs → xs[i]? = some x) ∧ ∀ ys, SqS t2 K H b ys → ys[i]? = some y,
    fun i H => ∃ xs ys : List V, SqS t1 K H a xs ∧ SqS t2 K H b ys ∧ (xs.length ≤ i ∨ ys.length ≤ i)⟩
theorem turn_zipS {t1 t2 : Bool} {P : Program} {w : World} {K : PySem.W.Frag} {elts : List Expr} {kk : Nat} {tpos : Pos} {a b z TI TO i1 i2 : Addr} (D : ZipApart z TI TO i1 i2 a b) :
    Turn P w K (.Tuple elts kk tpos) (ItzS t1 t2 K a b) [z, TI, TO, i1, i2] z (fun i h => IsZip h z TI TO .none ∧ IsPair h TI (.ref i1) (.ref i2) ∧ (∃ x y, IsPair h TO x y) ∧ SIter t1 h i1 a i ∧ SIter t2 h i2 b i) where
  mem := by simp
  obj := fun i h st c hc => by
    obtain ⟨hz, hTI, ⟨x, y, hTO⟩, h1, h2⟩ := st
    obtain ⟨o1, e1, d1⟩ := h1.obj
    obtain ⟨o2, e2, d2⟩ := h2.obj
    have e' : c = z ∨ c = TI ∨ c = TO ∨ c = i1 ∨ c = i2 := by simpa using hc
    rcases e' with q | q | q | q | q
    · rw [q]; exact ⟨_, hz, fun v q => nomatch q⟩
    · rw [q]; exact ⟨_, hTI, fun v q => nomatch q⟩
    · rw [q]; exact ⟨_, hTO, fun v q => nomatch q⟩
    · rw [q]; exact ⟨o1, e1, d1⟩
    · rw [q]; exact ⟨o2, e2, d2⟩
  keep := fun i h h' st k => by
    obtain ⟨hz, hTI, ⟨x, y, hTO⟩, h1, h2⟩ := st
    exact ⟨k z (by simp) _ hz, k TI (by simp) _ hTI, ⟨x, y, k TO (by simp) _ hTO⟩, h1.at fun o q => k i1 (by simp) o q, h2.at fun o q => k i2 (by simp) o q⟩
  item := by
    intro X hP hw hK hc i pins s σ H E I hf st hg
    subst hP hw hK
    obtain ⟨hz, hTI, ⟨x0, y0, hTO⟩, h1, h2⟩ := st
    obtain ⟨xs, ys, x, y, hqx, hqy, hx, hy⟩ := hg
    obtain ⟨its, rv, p, _⟩ := sq_ok I hqx
    obtain ⟨its2, rv2, p2, _⟩ := sq_ok I hqy
    obtain ⟨u, hu, ru⟩ := rv.get hx
    obtain ⟨u2, hu2, ru2⟩ := rv2.get hy
    have hzl : z < s.heap.objs.size := Heap.lt_size hz
    refine pyNext_zipS_item D hz hTI hTO h1 h2 p p2 (x := u) (y := u2) (by simpa using hu) (by simpa using hu2) fun h' z' TO' h1' h2' hT hsz hk => ?_
    refine ⟨_, rfl, wpAny_letOwnedTupleGo_zip (s := { s with heap := h' }) z' fun h'' z'' sb => ?_⟩
    have hT2 : h''.get? s.heap.objs.size = some { cls := .type "tuple", data := .seq #[u, u2] } := (sb.2 _ (Nat.ne_of_gt hzl)).trans hT
    have new : ObjOk X.prog X.w (upd H s.heap.objs.size (.tup [x, y])) h'' s.heap.objs.size (.tup [x, y]) :=
      ⟨by show 2 ≤ sizeLine; decide, [u, u2], .cons ru (.cons ru2 .nil), ⟨_, hT2, rfl, _, rfl⟩⟩
    have I1 : Inv X pins σ (upd H s.heap.objs.size (.tup [x, y])) { s with heap := h'' } :=
      I.turnedNew (t' := s.toks) (ch := [z, TI, TO, i1, i2]) (fun c o hb q => (sb.2 c (fun q' => hb (by simp [q']))).trans (hk c o (fun q' => hb (by simp [q'])) (fun q' => hb (by simp [q'])) (fun q' => hb (by simp [q'])) (fun q' => hb (by simp [q'])) q)) hf (Nat.le_refl _) new
    refine ⟨.ref s.heap.objs.size, _, I1, rfl, ⟨_, x, y, rfl, I.hok.fresh (Nat.le_refl _), rfl, fun l hl => by rw [sq_inj I hl hqx]; exact hx, fun l hl => by rw [sq_inj I hl hqy]; exact hy⟩, ⟨z'', ?_, ⟨u, u2, ?_⟩, ?_, ?_⟩, fun c hcm => ?_⟩
    · exact (sb.2 _ D.TIz).trans (hk _ _ D.TIz D.TITO D.TIi1 D.TIi2 hTI)
    · exact (sb.2 _ D.TOz).trans TO'
    · exact h1'.at fun o q => (sb.2 _ D.i1z).trans q
    · exact h2'.at fun o q => (sb.2 _ D.i2z).trans q
    · have hlt : c < s.heap.objs.size := by
        have e' : c = z ∨ c = TI ∨ c = TO ∨ c = i1 ∨ c = i2 := by simpa using hcm
        rcases e' with q | q | q | q | q
        · rw [q]; exact hzl
        · rw [q]; exact Heap.lt_size hTI
        · rw [q]; exact Heap.lt_size hTO
        · rw [q]; exact h1.lt
        · rw [q]; exact h2.lt
      rw [upd_ne (Nat.ne_of_lt hlt)]
      exact (hf c hcm).1
  done := by
    intro X hP hw hK hc i pins s σ H E I hf st hg
    subst hP hw hK
    obtain ⟨hz, hTI, ⟨x0, y0, hTO⟩, h1, h2⟩ := st
    obtain ⟨xs, ys, hqx, hqy, hend⟩ := hg
    obtain ⟨its, rv, p, _⟩ := sq_ok I hqx
    obtain ⟨its2, rv2, p2, _⟩ := sq_ok I hqy
    have l1 := rv.length
    have l2 := rv2.length
    have he : its.toArray[i]? = none ∨ its2.toArray[i]? = none := by
      rcases hend with q | q
      · exact .inl (by simp; omega)
      · exact .inr (by simp; omega)
    exact pyNext_zipS_end (I.ok.hd hc) D hz hTI hTO h1 h2 p p2 he fun h' hk => ⟨rfl, I.turnedL (t' := s.toks) (ch := [z, TI, TO, i1, i2]) (fun c o hb q =>
      hk c o (fun q' => hb (by simp [q'])) (fun q' => hb (by simp [q'])) (fun q' => hb (by simp [q'])) (fun q' => hb (by simp [q'])) q) hf⟩
  self := fun A i s Q E st h => wpAny_pyIter_zip st.1 h

/-- zip(e, e2), each a list or a tuple -/
def iZipS (K : PySem.W.Frag) (ta : TA) : TI := fun σ H R => ta σ H fun vs H1 => ∃ t1 t2 a b xs ys, vs = [.ref a, .ref b] ∧ SqS t1 K H1 a xs ∧ SqS t2 K H1 b ys ∧ R (ItzS t1 t2 K a b) H1
theorem sseq_lt {t : Bool} {h : Heap} {a : Addr} {its : Array Value} (x : SSeq t h a its) : a < h.objs.size := by
  cases t with
  | true =>
    obtain ⟨o, e, _⟩ := (show h.IsTuple a its from x)
    exact Heap.lt_size e
  | false =>
    obtain ⟨o, e, _⟩ := (show h.IsList a its from x)
    exact Heap.lt_size e
theorem pi_zipS {X : Cx} {e e2 : Expr} {ta : TA} {p pos tpos : Pos} {elts : List Expr} {kk : Nat} (hg : Gl X "zip") (hm : X.mg "zip" = none) (ha : PA X [e, e2] ta)
    (hs : starEach [e, e2] X.env = (false, eval e X.env) :: starEach [e2] X.env := by rfl) (hpl : (backTo pos (starEach [e2] X.env)).any (·.1) = false := by rfl) :
    PI X (.Tuple elts kk tpos) (.Call (.Name "zip" p) [e, e2] [] pos) (iZipS X.K ta) := by
  refine ⟨fun pins s σ H R I h => Call_ (ld_blt I hg hm PyProof.Rows.boot_zip (PyProof.Rows.callWith_type1 (thn (ha.run pos pins s σ H _ I h) fun us s1 ⟨vs, H1, I1, r1, t1, t2, a, b, xs, ys, ex, hqx, hqy, q⟩ => ?_) hs hpl))⟩
  subst ex
  obtain ⟨u1, u2, rfl, r, r'⟩ := vals2 r1
  cases r
  cases r'
  obtain ⟨its, rv, p1, _⟩ := sq_ok I1 hqx
  obtain ⟨its2, rv2, p2, _⟩ := sq_ok I1 hqy
  have fresh5 : ∀ c, c ∈ [s1.heap.objs.size + 4, s1.heap.objs.size + 2, s1.heap.objs.size + 3, s1.heap.objs.size, s1.heap.objs.size + 1] → FpOk X pins H1 c := fun c hcm => by
    have hle : s1.heap.objs.size ≤ c := by
      simp only [List.mem_cons, List.not_mem_nil, or_false] at hcm
      omega
    exact I1.fpOk hle (I1.hok.fresh hle)
  refine call_zipS p1 p2 fun h' hz hTI hTO h1 h2 hsz hk => wpAny_pyIter_zip hz ?_
  have I2 : Inv X pins σ H1 { s1 with heap := h' } := I1.kept (t' := s1.toks) hk
  exact ⟨s1.heap.objs.size + 4, [s1.heap.objs.size + 4, s1.heap.objs.size + 2, s1.heap.objs.size + 3, s1.heap.objs.size, s1.heap.objs.size + 1], _, _, H1, rfl, I2, turn_zipS (PySem.W.ktu_apart s1.heap.objs.size a b (sseq_lt p1) (sseq_lt p2)), ⟨hz, hTI, ⟨_, _, hTO⟩, h1, h2⟩, fresh5, q⟩
theorem for_zipS {t1 t2 : Bool} {K : PySem.W.Frag} {a b : Addr} {xs ys : List V} {g : TG} {tb : TS} {D : Ends} {σ : L2.St} {H : Hp} (hl : xs.length = ys.length) (Pv : Nat → L2.St → Hp → Prop) (h0 : Pv 0 σ H) (hq : ∀ i σ H, Pv i σ H → SqS t1 K H a xs ∧ SqS t2 K H b ys)
    (hs : ∀ (i : Nat) (x y : V) (T : Addr) (σ : L2.St) (H : Hp), xs[i]? = some x → ys[i]? = some y → Pv i σ H → H T = none → g (.ref T) σ (upd H T (.tup [x, y])) fun σ2 H2 => tb { D with nx := Pv (i + 1), ct := Pv (i + 1), bk := D.nx } σ2 H2) (hd : ∀ σ H, Pv xs.length σ H → D.nx σ H) :
    ∃ W : Nat → Nat → L2.St → Hp → Prop, (∃ m, W 0 m σ H) ∧ ∀ i m σ H, W i m σ H →
      ((ItzS t1 t2 K a b).stop i H ∧ D.nx σ H) ∨ ((ItzS t1 t2 K a b).go i H ∧ ∃ N : L2.St → Hp → Prop, (∀ σ' H', N σ' H' → ∃ m', m' < m ∧ W (i + 1) m' σ' H') ∧ ∀ v H', (ItzS t1 t2 K a b).yld i H v H' → g v σ H' fun σ2 H2 => tb { D with nx := N, ct := N, bk := D.nx } σ2 H2) := by
  refine ⟨fun i m σ H => m = xs.length - i ∧ i ≤ xs.length ∧ Pv i σ H, ⟨xs.length, rfl, Nat.zero_le _, h0⟩, ?_⟩
  rintro i m σ H ⟨rfl, hi, p⟩
  obtain ⟨qx, qy⟩ := hq i σ H p
  rcases Nat.lt_or_ge i xs.length with hlt | hge
  · refine .inr ⟨⟨xs, ys, _, _, qx, qy, List.getElem?_eq_getElem hlt, List.getElem?_eq_getElem (by omega)⟩, Pv (i + 1), fun σ' H' p' => ⟨xs.length - (i + 1), by omega, rfl, hlt, p'⟩, fun v H' y => ?_⟩
    obtain ⟨T, x', y', rfl, hT, rfl, f1, f2⟩ := y
    exact hs i x' y' T σ H (f1 xs qx) (f2 ys qy) p hT
  · have e : i = xs.length := by omega
    subst e
    exact .inl ⟨⟨xs, ys, qx, qy, Or.inl (Nat.le_refl _)⟩, hd σ H p⟩
end RZM
set_option Elab.async false
set_option linter.all false
set_option maxRecDepth 100000
set_option maxHeartbeats 4000000
/-! in, not in, index of tuples whose items are data of any depth; repr of data; isinstance of a caught error that has a dict -/
namespace TkS
open PySem PySem.Spec PyProof.Rows L2
section
variable {X : Cx}
def rInT (K : PySem.W.Frag) (neg : Bool) : R2 := fun x y H Q => ∃ d ds, Dp K H x d ∧ Dp K H y (.tuple ds) ∧ SeqAt.shaped d = true ∧ SeqAt.shaped (.tuple ds) = true ∧ Q (.bl (if neg then !ds.any fun z => PyData.eqv z d else ds.any fun z => PyData.eqv z d)) H
theorem room_tup {d : PyData} {ds : List PyData} (sd : SeqAt.shaped d = true) (hu : X.A.units + 65 < cLine) : X.A.units + 1 + min (PyData.depthAll ds) d.depth < cLine := by
  have h : d.depth ≤ 64 := by
    have z : (d.canLay0 && decide (d.depth ≤ 64)) = true := sd
    rw [Bool.and_eq_true] at z
    exact of_decide_eq_true z.2
  have := Nat.min_le_right (PyData.depthAll ds) d.depth
  omega
theorem lay_tup {ds : List PyData} (se : SeqAt.shaped (.tuple ds) = true) : PyData.canLayAll0 ds = true := SeqAt.canLay_of_shaped se
theorem op_inT (hu : X.A.units + 65 < cLine) : OpR X (compareOp .In) (rInT X.K false) := by
  intro pins s σ H x y v u Q I rx ry h
  obtain ⟨d, ds, hd, he, sd, se, q⟩ := h
  obtain ⟨as, r1⟩ := Dp.reads I d x v hd rx
  obtain ⟨bs, r2⟩ := Dp.reads I (.tuple ds) y u he ry
  exact SeqAt.in_tuple_reads r2 r1 (lay_tup se) (SeqAt.canLay_of_shaped sd) (room_tup sd hu) ⟨.bl _, H, I, rfl, q⟩
theorem op_notInT (hu : X.A.units + 65 < cLine) : OpR X (compareOp .NotIn) (rInT X.K true) := by
  intro pins s σ H x y v u Q I rx ry h
  obtain ⟨d, ds, hd, he, sd, se, q⟩ := h
  obtain ⟨as, r1⟩ := Dp.reads I d x v hd rx
  obtain ⟨bs, r2⟩ := Dp.reads I (.tuple ds) y u he ry
  exact SeqAt.notIn_tuple_reads r2 r1 (lay_tup se) (SeqAt.canLay_of_shaped sd) (room_tup sd hu) ⟨.bl _, H, I, rfl, q⟩
/-- t.index(x): the first place of an equal one -/
def rIxT (K : PySem.W.Frag) : V → List V → Hp → VK → Prop := fun x xs H Q => ∃ (a : Addr) (y : V) (d : PyData) (ds : List PyData) (j : Nat) (z : PyData), x = V.ref a ∧ xs = [y] ∧ Dp K H (V.ref a) (.tuple ds) ∧ Dp K H y d ∧
  SeqAt.shaped (.tuple ds) = true ∧ SeqAt.shaped d = true ∧ ds[j]? = some z ∧ PyData.eqv z d = true ∧ (∀ (m : Nat) (z' : PyData), m < j → ds[m]? = some z' → PyData.eqv z' d = false) ∧ Q (.int (j : Nat)) H
theorem mt_tupIx (hu : X.A.units + 65 < cLine) : MtR X "tuple.index" (rIxT X.K) := by
  intro pins s σ H x xs v us Q I rx rxs h
  obtain ⟨a, y, d, ds, j, z, rfl, rfl, hl, hy, sl, sd, hz, hzj, hno, q⟩ := h
  cases rx
  cases rxs with
  | cons ry rt =>
    rename_i uy ut
    cases rt
    obtain ⟨bs, r1⟩ := Dp.reads I d y uy hy ry
    have hxs : PyData.canLayAll0 ds = true := lay_tup sl
    cases hl with
    | tup hs ha =>
      obtain ⟨its, rv, ⟨⟨cls, dd, data, sls⟩, ho, hc, n, hdt⟩, hlen⟩ := I.tuple hs
      simp only at hc hdt
      subst hc hdt
      obtain ⟨as, h4⟩ := Dp.readsAll I ds _ its ha rv
      have hmap : its.map (SeqAt.readOf s.heap) = ds := SeqAt.readsAll_map ds its as hxs h4
      have hn : its.length = ds.length := SeqAt.ReadsAll.length ds its as h4
      obtain ⟨hjd, _⟩ := List.getElem?_eq_some_iff.mp hz
      have hj : j < its.toArray.size := by
        rw [List.size_toArray]
        omega
      have at_ : ∀ (m : Nat) (hm : m < its.toArray.size) (z' : PyData), ds[m]? = some z' → SeqAt.readOf s.heap its.toArray[m] = z' := by
        intro m hm z' hz'
        have hml : m < its.length := by simpa using hm
        rw [← hmap, List.getElem?_map, List.getElem?_eq_getElem hml] at hz'
        have e1 : SeqAt.readOf s.heap its[m] = z' := Option.some.inj hz'
        simpa using e1
      refine call_meets PySem.F.slot_tuple_index ⟨_, ho, rfl⟩ PySem.F.entry_tuple_index (PySem.F.args_tuple_index_2 _ _)
        (TI.tuple_indexAt a its.toArray n dd sls uy (fun u => PyData.eqv (SeqAt.readOf s.heap u) d) j hj ?_ ?_) ⟨ho, SeqAt.items_eqAt (vs := its.toArray) (show ReadsAll s.heap its.toArray.toList ds as from h4) r1 hxs (SeqAt.canLay_of_shaped sd) (room_tup sd hu), ?_⟩
      · show PyData.eqv (SeqAt.readOf s.heap its.toArray[j]) d = true
        rw [at_ j hj z hz]
        exact hzj
      · intro m hm hmj
        have hmd : m < ds.length := by omega
        have hz' : ds[m]? = some ds[m] := List.getElem?_eq_getElem hmd
        show PyData.eqv (SeqAt.readOf s.heap its.toArray[m]) d = false
        rw [at_ m hm _ hz']
        exact hno m _ hmj hz'
      · exact ⟨.int (j : Nat), H, I.tok _, ⟨_, rfl⟩, q⟩
/-- repr of a list or tuple of data: its text hangs on the data alone -/
def rReprD (K : PySem.W.Frag) : List V → Hp → VK → Prop := fun xs H Q => ∃ a d, xs = [.ref a] ∧ Dp K H (.ref a) d ∧ d.showable = true ∧ d.hasDict = false ∧ d.depth ≤ 60 ∧ d.shown.length ≤ sizeLine ∧ Q (.str d.shown) H
theorem call_reprD (hg : X.A.guards = some []) (hu : X.A.units + 65 < cLine) : CallR X (.builtin "repr") (rReprD X.K) := by
  intro pins s σ H xs us Q I r h
  obtain ⟨a, d, rfl, hd, h1, h2, h3, h4, q⟩ := h
  obtain ⟨u, rfl, ru⟩ := vals1 r
  obtain ⟨as, rd⟩ := Dp.reads I d (.ref a) u hd ru
  cases ru
  exact repr_of_reads' rd h1 (PyData.noDict_hsm h2) hg (by omega) (fun _ _ e => e) (fun h' u tk k => ⟨.str d.shown, H, I.kept (t' := tk) k, ⟨_, rfl⟩, q⟩) h4
end
end TkS
set_option Elab.async false
set_option linter.all false
set_option maxRecDepth 100000
set_option maxHeartbeats 4000000
namespace PySem.W
open PySem PySem.Spec PySem.Calls PyProof.Rows
section
variable {prog : Program} {w : World} {A : Around} {E : Value → Shared → Prop} {s : Shared} {K : Frag} {x D : Addr} {ox : Obj}
theorem kin_classD {od : Obj} {Q : Option Value → Shared → Prop} (hga : findIn K (.ref D) "__getattribute__" = some (some (.builtin "BaseException.__getattribute__"))) (hgt : findIn K (.ref D) "__getattr__" = some none) (hsub : subIn K (.ref D) (.type "BaseException") = some true)
    (hdct : hasDictIn K D = true) (ha : findIn K (.ref D) "__class__" = some (some (.builtin "object.__class__")))
    (hn : specialIn K (.builtin "object.__class__") "__get__" = some (some (.builtin "getset_descriptor.__get__"))) (htk : takesIn K (.builtin "object.__class__") = some true) (hm : mroIn K D (.type "object") = some true)
    (X : K.In s.heap) (I : InstAt s.heap x ox D (some od)) (h : Q (some (.ref D)) { s with toks := s.toks + 1 }) : wpAny (model prog w) A (getAttr? (.ref x) "__class__") Q E s := by
  have hf : findObj K D (some od) "__class__" = some (.bind (.builtin "getset_descriptor.__get__") (.builtin "object.__class__")) := findObj_data (by obtain ⟨cd, hc, _⟩ := any_some hdct; rw [hc]; rfl) ha hn htk
  obtain ⟨hp, g, d, t, os⟩ := s
  have L0 := I.type (M := model prog w)
  have L1 := looks_findIn (M := model prog w) X hga
  have L2 := looks_findIn (M := model prog w) X hgt
  have L3 := looks_find (M := model prog w) X I hf
  have sub : Looks (model prog w) hp (isInstance (.ref x) (.type "BaseException")) true := L0.andThen (looks_subIn X hsub)
  have hx0 : (false && onTheHeap (Value.builtin "BaseException.__getattribute__")) = false := rfl
  have hx2 : (Value.builtin "BaseException.__getattribute__" == Value.builtin "object.__getattribute__") = false := by decide +kernel
  have hx1 : (onTheHeap (Value.ref D) && Value.builtin "BaseException.__getattribute__" == Value.builtin "object.__getattribute__") = false := by rw [hx2]; rfl
  unfold getAttr? getAttrBy? getAttrBy
  refine wpAny_bind (wpAny_mkText (wpAny_bind (wpAny_attempt (wpAny_holding (wpAny_bind (L0.at (wpAny_bind (L1.at ?_))))))))
  show wpAny _ _ (if (onTheHeap (Value.ref D) && Value.builtin "BaseException.__getattribute__" == Value.builtin "object.__getattribute__") = true then _ else _) _ _ _
  rw [hx1, if_neg Bool.false_ne_true]
  unfold getAttrByItsOwn hookBefore
  refine wpAny_bind ?_
  rw [if_pos (show onTheHeap (Value.ref D) = true from rfl)]
  refine L2.at ?_
  refine wpAny_bind (wpAny_attempt (wpAny_holding ?_))
  unfold callGetattribute
  rw [hx0, if_neg Bool.false_ne_true]
  unfold boundAndCalled
  rw [PySem.F.excAttr_ValueError.ga.bind (.ref x)]
  refine wpAny_bind (wpAny_pure ?_)
  show wpAny _ _ (call (.builtin "BaseException.__getattribute__") [.ref x, .str "__class__" t]) _ _ _
  refine wpAny_call (codeAny_call_builtin PySem.F.excAttr_ValueError.ga.plain PySem.F.entry_bexc_ga ?_)
  refine @check_slot (model prog w) _ _ ⟨hp, g, d, t + 1, os⟩ "BaseException.__getattribute__" "BaseException" "__getattribute__" (.ref x) [.str "__class__" t] [] _ (by decide +kernel) (by decide +kernel) sub (PySem.F.args_bexc_ga (.ref x) (.str "__class__" t)) ?_
  unfold Builtin.«object.__getattribute__»
  refine wpAny_bind (wpAny_of_eq (a := ((Value.ref x : Value), [Value.str "__class__" t])) (by first | rfl | (simp only [slotArgs]; rfl)) ?_)
  refine wpAny_bind (wpAny_pure (wpAny_bind (L0.at (wpAny_bind (L3.at ?_)))))
  show wpAny _ _ (holding [Value.builtin "object.__class__"] (call (.builtin "getset_descriptor.__get__") [.builtin "object.__class__", .ref x, .ref D]) >>= ret) _ _ _
  refine wpAny_bind (wpAny_holding (wpAny_call (class_get (s := ⟨hp, g, d, t + 1, os⟩) (ox := ox) (od := some od) X I hm ?_)))
  refine wpAny_pure ?_
  show wpAny _ _ (handedOut (.ref D)) _ _ _
  rw [handedOut_of (v := .ref D) rfl]
  first
    | exact wpAny_pure (wpAny_pure h)
    | exact wpAny_pure h
    | exact wpAny_pure (wpAny_bind (wpAny_pure (wpAny_pure h)))
theorem kitx_excD (hga : findIn K (.ref D) "__getattribute__" = some (some (.builtin "BaseException.__getattribute__"))) (hgt : findIn K (.ref D) "__getattr__" = some none) (hsub : subIn K (.ref D) (.type "BaseException") = some true) (hdct : hasDictIn K D = true) (ha : findIn K (.ref D) "__class__" = some (some (.builtin "object.__class__")))
    (hn : specialIn K (.builtin "object.__class__") "__get__" = some (some (.builtin "getset_descriptor.__get__"))) (htk : takesIn K (.builtin "object.__class__") = some true) (hm : mroIn K D (.type "object") = some true) :
    KitX K (.ref x) (.ref D) (fun h => ∃ od, InstAt h x ox D (some od)) where
  ty := fun _ _ _ I => I.elim fun _ J => J.type
  it := fun _ _ X _ => by
    obtain ⟨cdD, hcD, _⟩ := any_some hdct
    unfold clsIn at hcD
    split at hcD
    · rename_i c' d' cd' sl' ho
      intro A' Q' E' s' k q
      unfold isType loadHead
      exact wpAny_bind (wpAny_loadPart (k _ _ (X _ _ ho)) (wpAny_pure q))
    · cases hcD
  ne := fun h tp dd its n sl X htp => by
    obtain ⟨cdD, hcD, _⟩ := any_some hdct
    refine Bool.eq_false_iff.mpr fun q => ?_
    have e : D = tp := Value.ref.inj (beq_iff_eq.mp q)
    subst e
    unfold clsIn at hcD
    split at hcD
    · rename_i c' d' cd' sl' ho
      have z := (X _ _ ho).symm.trans htp
      cases z
    · cases hcD
  ca := fun X I k => I.elim fun _ J => kin_classD hga hgt hsub hdct ha hn htk hm X J k
end
end PySem.W
namespace TkS
open PySem PySem.Spec PyProof.Rows L2
/-- isinstance(e, c), e the error that the suite holds, which has a dict -/
def rIsD (K : PySem.W.Frag) (D a : Addr) (cls : Value) (d : Option Addr) : List V → Hp → VK → Prop := fun xs H Q => cls = .ref D ∧ ∃ (dd : Addr) (fs : List (Str × V)) (c : V) (cv : Value) (b : Bool), d = some dd ∧ H dd = some (.xd fs) ∧ xs = [.ref a, c] ∧ (∀ u, RelV c u → u = cv) ∧ PySem.W.kitOne K (.ref D) cv = some b ∧ Q (.bl b) H
theorem call_isD {X : Cx} {a D : Addr} {oe : Obj} {cls : Value} {d : Option Addr} {pn : List (Addr × Obj)} (C : ExcC X.K D) (hz : Zc cls d oe) (hf : ∃ vs, oe.data = .fields vs) : CallR (X.suite a ((a, oe) :: pn)) (.builtin "isinstance") (rIsD X.K D a cls d) := by
  intro pins s σ H xs us Q I r h
  obtain ⟨rfl, dd, fs, c, cv, b, rfl, ea, rfl, hcv, e, q⟩ := h
  obtain ⟨u1, u2, rfl, r1, r2⟩ := vals2 r
  cases r1
  have ec := hcv _ r2
  subst ec
  obtain ⟨hget, _⟩ := I.pin (a, oe) (List.mem_append_left _ List.mem_cons_self)
  obtain ⟨vs, hv⟩ := hf
  have hx : ObjOk X.prog X.w H s.heap dd (.xd fs) := I.hok dd _ ea
  obtain ⟨mA, hns, hr⟩ := hx
  obtain ⟨od, ho, hl⟩ := lookIn_ns hns
  have J : PySem.W.InstAt s.heap a oe D (some od) := ⟨hget, hz.1, by unfold PySem.W.notCls; rw [hv] <;> rfl, by rw [hz.2]; exact ho⟩
  exact PySem.W.kia_one (PySem.W.kitx_excD C.hg C.hk C.hs C.hd C.ha C.hn C.ht C.hm) I.kIn ⟨od, J⟩ e (fun z => nomatch z) fun tk => ⟨.bl b, H, I.kept (t' := tk) fun _ _ z => z, rfl, q⟩
end TkS
set_option Elab.async false
set_option linter.all false
set_option maxRecDepth 100000
set_option maxHeartbeats 4000000
/-! C(..) and o.m(..) where what is raised is wished for at the caller's slots (within a try) -/
namespace TkS
open PySem PySem.Spec PyProof.Rows L2
def tMethSD (C : Addr) (m : Str) (sp : Sp) (dvs : List V) (E : L2.St → XK) (ta : TE) (t : TA) : TE := fun σ H Q => ta σ H fun x H1 => ∃ a dx fs, x = .ref a ∧ H1 a = some (.ins C dx fs) ∧ fs.lookup m = none ∧
  t σ H1 fun vs H2 => sp (x :: (vs ++ dvs)) H2 Q (E σ)
def tMakeSD (C : Addr) (sp : Sp) (dvs : List V) (E : L2.St → XK) (t : TA) : TE := fun σ H Q => t σ H fun vs H1 => ∀ x dx, H1 x = none → H1 dx = none → dx ≠ x →
  sp (.ref x :: (vs ++ dvs)) (upd (upd H1 dx (.own x)) x (.ins C dx [])) (fun v H2 => v = .non ∧ Q (.ref x) H2) (E σ)
section
variable {X : Cx} {CX : CXT} {k : Nat} {f C : Addr} {fd : FuncData} {ps : List Str} {sp : Sp} {dvs : List V} {ds : List Value} {E : L2.St → XK} {x m : Str} {p pos apos : Pos} {e o : Expr} {es : List Expr} {ta : TE} {t : TA}
theorem run_makeSD {pins : List (Addr × Obj)} {σ : L2.St} {H : Hp} {s : Shared} {Q : VK} {us : List Value} {vs : List V} (M : Mk X.K C f) (F : FnOk X.prog X.w X.K X.mg X.base CX k f fd ps sp) (hr : Room (k + 1) X.A) (hb : Binds X.K fd ps ds) (hd : Vals dvs ds)
    (hx : PassesAt CX X σ (E σ)) (I : Inv X pins σ H s) (r : Vals vs us)
    (h : ∀ x dx, H x = none → H dx = none → dx ≠ x → sp (.ref x :: (vs ++ dvs)) (upd (upd H dx (.own x)) x (.ins C dx [])) (fun v H2 => v = .non ∧ Q (.ref x) H2) (E σ)) :
    wpAny (model X.prog X.w) X.A (call (.ref C) us) (EP X pins σ Q) X.xe s := by
  have hq := h (s.heap.objs.size + 1) s.heap.objs.size (I.hok.fresh (Nat.le_succ _)) (I.hok.fresh (Nat.le_refl _)) (Nat.ne_of_lt (Nat.lt_succ_self _))
  have I2 := Inv.made (C := C) I
  have r2 : Vals (V.ref (s.heap.objs.size + 1) :: (vs ++ dvs)) (Value.ref (s.heap.objs.size + 1) :: (us ++ ds)) := .cons rfl (r.append hd)
  have hl : (Value.ref (s.heap.objs.size + 1) :: us ++ ds).length = ps.length := by
    have e := r2.length
    rw [F.len _ _ _ _ hq] at e
    exact e.symm
  refine wpAny_call (make_map (f := f) I.kIn M.makes M.init (beq_iff_eq.mp M.fn) (codeAny_mono (F.run _ X.stack _ _ ⟨Value.ref (s.heap.objs.size + 1) :: us, []⟩ (Value.ref (s.heap.objs.size + 1) :: (us ++ ds)) _ _ (E σ) (hr.make C us [])
    (I2.env0.make C us []) (hb _ (Value.ref (s.heap.objs.size + 1) :: us) I2.kIn hl) r2 hq) fun r s' hq' => ?_))
  cases r with
  | error e => exact hx pins _ _ e s' I2 hq'
  | ok fl =>
    cases fl with
    | ret u =>
      obtain ⟨v, H', I3, rv, ev, q3⟩ := I2.after hq'
      subst ev
      exact ⟨rv, ⟨V.ref (s.heap.objs.size + 1), H', I3, rfl, q3⟩⟩
    | next => exact False.elim hq'
    | brk => exact False.elim hq'
    | cont => exact False.elim hq'
theorem pe_makeSD (M : Mk X.K C f) (F : FnOk X.prog X.w X.K X.mg X.base CX k f fd ps sp) (hr : Room (k + 1) X.A) (hg : Gl X x) (hm : X.mg x = some (.ref C)) (hb : Binds X.K fd ps ds) (hd : Vals dvs ds) (hx : ∀ σ, PassesAt CX X σ (E σ))
    (ha : PA X (e :: es) t) (hdb : (x == ("__debug__" : Str)) = false := by decide) (he : starEach (e :: es) X.env = (false, eval e X.env) :: starEach es X.env := by rfl) (hpl : (backTo pos (starEach es X.env)).any (·.1) = false := by rfl) :
    PE X (.Call (.Name x p) (e :: es) [] pos) (tMakeSD C sp dvs E t) := by
  refine ⟨fun pins s σ H Q I h => ?_⟩
  refine wpAny_Call_Name_kw (ld_glob I hg hm ?_ hdb)
  refine PySem.W.callWith_K (h₀ := X.base) I.ok.mod.kin M.kp (thn (ha.run pos pins s σ H _ I h) fun us s1 ⟨vs, H1, I1, r, q⟩ => ⟨I1.kIn, ?_⟩) he hpl
  exact run_makeSD M F hr hb hd (hx σ) I1 r q
theorem pe_methSD {pl : Sem Bool} (he : PE X o ta) (c : Cls X.K C) (hm : Meth X.K C m f) (F : FnOk X.prog X.w X.K X.mg X.base CX k f fd ps sp) (hr : Room k X.A) (hb : Binds X.K fd ps ds) (hd : Vals dvs ds) (hx : ∀ σ, PassesAt CX X σ (E σ)) (ha : PA X (e :: es) t)
    (hst : starEach (e :: es) X.env = (false, eval e X.env) :: starEach es X.env := by rfl) (hpl : (backTo pos (starEach es X.env)).any (·.1) = false := by rfl)
    (ht : eval (.Call (.Attribute o m apos) (e :: es) [] pos) X.env = (do
      let ov ← eval o X.env
      standAt apos.atName
      let (f, first) ← holding [ov] (getMethod ov m pl)
      callWith pos f first (backTo pos (starEach (e :: es) X.env)) (backToKw pos (keywordEach [] X.env))) := by rfl) :
    PE X (.Call (.Attribute o m apos) (e :: es) [] pos) (tMethSD C m sp dvs E ta t) := by
  refine ⟨fun pins s σ H Q I h => ?_⟩
  refine PySem.W.methodCall_KW (pl := pl) (thn (he.run pins s σ H _ I h) fun u s1 ⟨x, H1, I1, rx, a, dx, fs, ex, ea, l, q⟩ => ?_) ht
  subst ex
  obtain rfl : u = Value.ref a := rx
  refine getmeth_ok I1 ea c hm l ?_
  refine PySem.W.callWith_K (first := [.ref a]) (h₀ := X.base) I.ok.mod.kin hm.kp (thn (ha.run pos pins s1 σ H1 _ I1 q) fun us s2 ⟨vs, H2, I2, r, q2⟩ => ⟨I2.kIn, ?_⟩) hst hpl
  exact run_fnSD (us := .ref a :: us) (vs := .ref a :: vs) F hr hb hd (hx σ) I2 (.cons rfl r) q2
end
end TkS
set_option Elab.async false
set_option linter.all false
set_option maxRecDepth 100000
set_option maxHeartbeats 4000000
/-! == of two instances by an own __eq__ with any answer; len of an instance by an own __len__ -/
namespace TkS
open PySem PySem.Spec PyProof.Rows L2
section
variable {X : Cx} {CX : CXT} {n : Nat} {f C : Addr} {fd : FuncData} {ps : List Str} {sp : Sp} {E : XK}
def rEqOwn (C : Addr) (sp : Sp) (E : XK) : R2 := fun x y H Q => ∃ a b dx dy fs gs, x = .ref a ∧ y = .ref b ∧ H a = some (.ins C dx fs) ∧ H b = some (.ins C dy gs) ∧ sp [.ref a, .ref b] H (fun v H' => (∃ r, v = .bl r) ∧ Q v H') E
theorem op_eqOwn (F : FnOk X.prog X.w X.K X.mg X.base CX n f fd ps sp) (hr : Room n X.A) (hs : PySem.W.findIn X.K (.ref C) "__eq__" = some (some (.ref f))) (hf : PySem.W.isFn X.K (.ref f) = true) (hb : Binds X.K fd ps []) (hx : Passes CX X E) :
    OpR X (compareOp .Eq) (rEqOwn C sp E) := by
  intro pins s σ H x y v u Q I rx ry h
  obtain ⟨a, b, dx, dy, fs, gs, rfl, rfl, ha, hb', hq⟩ := h
  cases rx
  cases ry
  obtain ⟨mA, J, _⟩ := ins_get I.hok ha
  obtain ⟨mB, J', _⟩ := ins_get I.hok hb'
  obtain ⟨od, J, _⟩ := J.look
  obtain ⟨od', J', _⟩ := J'.look
  obtain ⟨m, hF⟩ := I.fr
  show wpAny (model X.prog X.w) X.A (richCompare .Eq (.ref a) (.ref b)) (EP X pins σ Q) X.xe s
  refine PySem.W.cmp_K (op := .Eq) (tb := .ref C) hr.units0 hF I.ok.mod.kin J J'.type (by simp [PySem.W.notFirst]) hs hf ?_
  have hl := F.len _ _ _ _ hq
  refine wpAny_mono (run_fn (us := [.ref a, .ref b]) (vs := [.ref a, .ref b]) (dvs := []) (Q := fun v H' => (∃ r, v = .bl r) ∧ Q v H') F hr hb .nil hx I (.cons rfl (.cons rfl .nil)) hq) (fun u s' z => ?_) fun _ _ z => z
  obtain ⟨v, H', I', rv, ⟨r, ev⟩, q⟩ := z
  subst ev
  cases (show u = Value.bool r from rv)
  exact ⟨.bl r, H', I', rfl, q⟩
def rLenOwn (C : Addr) (sp : Sp) (E : XK) : List V → Hp → VK → Prop := fun xs H Q => ∃ (a dx : Addr) (fs : List (Str × V)) (k : Nat), xs = [.ref a] ∧ H a = some (.ins C dx fs) ∧ k < 2 ^ 62 ∧ sp [.ref a] H (fun v H' => v = .int (k : Int) ∧ Q v H') E
theorem call_lenOwn (F : FnOk X.prog X.w X.K X.mg X.base CX n f fd ps sp) (hr : Room (n + 1) X.A) (hs : PySem.W.findIn X.K (.ref C) "__len__" = some (some (.ref f))) (hf : PySem.W.isFn X.K (.ref f) = true) (hb : Binds X.K fd ps []) (hx : Passes CX X E) : CallR X (.builtin "len") (rLenOwn C sp E) := by
  intro pins s σ H xs us Q I r h
  obtain ⟨a, dx, fs, k, rfl, ha, hk, hq⟩ := h
  obtain ⟨u, rfl, ru⟩ := vals1 r
  cases ru
  obtain ⟨mA, J, _⟩ := ins_get I.hok ha
  obtain ⟨od, J, _⟩ := J.look
  obtain ⟨m, hF⟩ := I.fr
  have hl : ([Value.ref a] ++ ([] : List Value)).length = ps.length := by
    rw [← F.len _ _ _ _ hq]
    rfl
  refine PySem.W.len_K hF I.ok.mod.kin J hs hf (wpAny_call ?_)
  refine codeAny_mono (F.run X.A.in1 X.stack s H ⟨[.ref a], []⟩ [.ref a] [.ref a] _ E hr.in1 I.env0.in1 (hb s [.ref a] I.kIn hl) (.cons rfl .nil) hq) fun r s' hq => ?_
  cases r with
  | error e => exact hx pins σ H s e s' I hq
  | ok fl =>
    cases fl with
    | ret u =>
      obtain ⟨v, H', I', rv, ev, q⟩ := I.after hq
      subst ev
      obtain ⟨t, eu⟩ := (show ∃ t, u = Value.int (k : Int) t from rv)
      subst eu
      refine ⟨⟨by omega, by omega⟩, .int (k : Int), H', I'.tok _, ⟨_, rfl⟩, q⟩
    | next => exact False.elim hq
    | brk => exact False.elim hq
    | cont => exact False.elim hq
end
end TkS
set_option Elab.async false
set_option linter.all false
set_option maxRecDepth 100000
set_option maxHeartbeats 4000000
/-! data whose objects are all tracked -/
namespace TkS
open PySem PySem.Spec PyProof.Rows L2
mutual
inductive Dq (H : Hp) : V → PyData → Prop
  | non : Dq H .non .none
  | bl (b : Bool) : Dq H (.bl b) (.bool b)
  | int (i : Int) : Dq H (.int i) (.int i)
  | str (x : Str) : Dq H (.str x) (.str x)
  | lst {a : Addr} {xs : List V} {ds : List PyData} : H a = some (.lst xs) → DqAll H xs ds → Dq H (.ref a) (.list ds)
  | tup {a : Addr} {xs : List V} {ds : List PyData} : H a = some (.tup xs) → DqAll H xs ds → Dq H (.ref a) (.tuple ds)
inductive DqAll (H : Hp) : List V → List PyData → Prop
  | nil : DqAll H [] []
  | cons {v : V} {vs : List V} {d : PyData} {ds : List PyData} : Dq H v d → DqAll H vs ds → DqAll H (v :: vs) (d :: ds)
end
theorem DqAll.len {H : Hp} : ∀ {xs : List V} {ds : List PyData}, DqAll H xs ds → xs.length = ds.length
  | _, _, .nil => rfl
  | _, _, .cons _ t => congrArg Nat.succ t.len
theorem DqAll.get {H : Hp} : ∀ {xs : List V} {ds : List PyData} {i : Nat} {x : V}, DqAll H xs ds → xs[i]? = some x → ∃ d, ds[i]? = some d ∧ Dq H x d
  | _, _, _, _, .nil, e => by simp at e
  | _, _, 0, _, .cons h _, e => by
    simp at e
    subst e
    exact ⟨_, rfl, h⟩
  | _, _, i + 1, _, .cons _ t, e => by
    obtain ⟨d, h1, h2⟩ := t.get (i := i) (by simpa using e)
    exact ⟨d, by simpa using h1, h2⟩
theorem DqAll.append {H : Hp} : ∀ {xs ys : List V} {ds es : List PyData}, DqAll H xs ds → DqAll H ys es → DqAll H (xs ++ ys) (ds ++ es)
  | _, _, _, _, .nil, s => s
  | _, _, _, _, .cons r t, s => .cons r (t.append s)
theorem DqAll.snoc {H : Hp} {xs : List V} {ds : List PyData} {x : V} {d : PyData} (h : DqAll H xs ds) (h1 : Dq H x d) : DqAll H (xs ++ [x]) (ds ++ [d]) := h.append (.cons h1 .nil)
mutual
theorem Dq.same {H H' : Hp} (s : Same H H') : ∀ {v : V} (d : PyData), Dq H v d → Dq H' v d
  | _, .none, .non => .non
  | _, .bool _, .bl b => .bl b
  | _, .int _, .int i => .int i
  | _, .str _, .str x => .str x
  | _, .list _, .lst h t => .lst (s _ _ h) (DqAll.same s _ t)
  | _, .tuple _, .tup h t => .tup (s _ _ h) (DqAll.same s _ t)
theorem DqAll.same {H H' : Hp} (s : Same H H') : ∀ {vs : List V} (ds : List PyData), DqAll H vs ds → DqAll H' vs ds
  | _, [], .nil => .nil
  | _, _ :: _, .cons h t => .cons (Dq.same s _ h) (DqAll.same s _ t)
end
mutual
theorem Dq.dp {K : PySem.W.Frag} {H : Hp} : ∀ {v : V} (d : PyData), Dq H v d → Dp K H v d
  | _, .none, .non => .non
  | _, .bool _, .bl b => .bl b
  | _, .int _, .int i => .int i
  | _, .str _, .str x => .str x
  | _, .list _, .lst h t => .lst (SqL.of h) (DqAll.dp _ t)
  | _, .tuple _, .tup h t => .tup (SqT.of h) (DqAll.dp _ t)
theorem DqAll.dp {K : PySem.W.Frag} {H : Hp} : ∀ {vs : List V} (ds : List PyData), DqAll H vs ds → DpAll K H vs ds
  | _, [], .nil => .nil
  | _, _ :: _, .cons h t => .cons (Dq.dp _ h) (DqAll.dp _ t)
end
mutual
theorem Dq.fn {H : Hp} : ∀ {v : V} (d e : PyData), Dq H v d → Dq H v e → d = e
  | _, .none, _, .non, .non => rfl
  | _, .bool _, _, .bl _, .bl _ => rfl
  | _, .int _, _, .int _, .int _ => rfl
  | _, .str _, _, .str _, .str _ => rfl
  | _, .list ds, _, .lst h t, .lst h' t' => by
    rw [h] at h'
    cases h'
    rw [DqAll.fn _ _ t t']
  | _, .list _, _, .lst h _, .tup h' _ => by
    rw [h] at h'
    cases h'
  | _, .tuple ds, _, .tup h t, .tup h' t' => by
    rw [h] at h'
    cases h'
    rw [DqAll.fn _ _ t t']
  | _, .tuple _, _, .tup h _, .lst h' _ => by
    rw [h] at h'
    cases h'
theorem DqAll.fn {H : Hp} : ∀ {vs : List V} (ds es : List PyData), DqAll H vs ds → DqAll H vs es → ds = es
  | _, [], _, .nil, .nil => rfl
  | _, _ :: _, _, .cons h t, .cons h' t' => by rw [Dq.fn _ _ h h', DqAll.fn _ _ t t']
end
/-- the heap without one address -/
def Off (h : Addr) (H : Hp) : Hp := fun b => if b = h then none else H b
theorem off_same {h : Addr} {H : Hp} : Same (Off h H) H := fun b o e => by
  unfold Off at e
  by_cases z : b = h
  · rw [if_pos z] at e
    cases e
  · rw [if_neg z] at e
    exact e
theorem off_keep {h : Addr} {H H' : Hp} (k : ∀ b o, b ≠ h → H b = some o → H' b = some o) : Same (Off h H) (Off h H') := fun b o e => by
  unfold Off at e ⊢
  by_cases z : b = h
  · rw [if_pos z] at e
    cases e
  · rw [if_neg z] at e ⊢
    exact k b o z e
theorem off_of {h : Addr} {H H' : Hp} (s : Same H H') : Same (Off h H) (Off h H') := off_keep fun b o _ e => s b o e
theorem off_at {h a : Addr} {H : Hp} {o : HO} (n : a ≠ h) (e : H a = some o) : Off h H a = some o := by
  unfold Off
  rw [if_neg n]
  exact e
theorem same_new {H : Hp} {p : Addr} {o : HO} (h : H p = none) : Same H (upd H p o) := fun b x e => by
  rw [upd_ne (ne_of_none e h)]
  exact e
/-- a thing's kind as isinstance sees it -/
def isBlV : V → Bool
  | .bl _ => true
  | _ => false
def isNumV : V → Bool
  | .bl _ => true
  | .int _ => true
  | _ => false
def isIntV : V → Bool
  | .int _ => true
  | _ => false
def itemsD : PyData → Option (List PyData)
  | .list xs => some xs
  | .tuple xs => some xs
  | _ => none
theorem dq_ty {K : PySem.W.Frag} {H : Hp} {x : V} {d : PyData} (k : Dq H x d) : ∃ t, TyX K H x t ∧ PySem.W.kitOne K t (.type "bool") = some (isBlV x) ∧ PySem.W.kitOne K t (.type "int") = some (isNumV x) ∧
    PySem.W.kitAny K t [.type "list", .type "tuple"] = some (itemsD d).isSome ∧ PySem.W.kitOne K t (.type "tuple") = some (match d with | .tuple _ => true | _ => false) := by
  cases k with
  | non => exact ⟨_, .base .non, kit_ty (show kitB "NoneType" "bool" = some false by decide +kernel), kit_ty (show kitB "NoneType" "int" = some false by decide +kernel),
      kitAny_cons (b := false) (kit_ty (show kitB "NoneType" "list" = some false by decide +kernel)) (fun _ => kitAny_cons (b := false) (kit_ty (show kitB "NoneType" "tuple" = some false by decide +kernel)) (fun _ => kitAny_nil) (fun z => nomatch z)) (fun z => nomatch z), kit_ty (show kitB "NoneType" "tuple" = some false by decide +kernel)⟩
  | bl b => exact ⟨_, .base (.bl b), kit_ty (show kitB "bool" "bool" = some true by decide +kernel), kit_ty (show kitB "bool" "int" = some true by decide +kernel),
      kitAny_cons (b := false) (kit_ty (show kitB "bool" "list" = some false by decide +kernel)) (fun _ => kitAny_cons (b := false) (kit_ty (show kitB "bool" "tuple" = some false by decide +kernel)) (fun _ => kitAny_nil) (fun z => nomatch z)) (fun z => nomatch z), kit_ty (show kitB "bool" "tuple" = some false by decide +kernel)⟩
  | int i => exact ⟨_, .base (.int i), kit_ty (show kitB "int" "bool" = some false by decide +kernel), kit_ty (show kitB "int" "int" = some true by decide +kernel),
      kitAny_cons (b := false) (kit_ty (show kitB "int" "list" = some false by decide +kernel)) (fun _ => kitAny_cons (b := false) (kit_ty (show kitB "int" "tuple" = some false by decide +kernel)) (fun _ => kitAny_nil) (fun z => nomatch z)) (fun z => nomatch z), kit_ty (show kitB "int" "tuple" = some false by decide +kernel)⟩
  | str x => exact ⟨_, .base (.str x), kit_ty (show kitB "str" "bool" = some false by decide +kernel), kit_ty (show kitB "str" "int" = some false by decide +kernel),
      kitAny_cons (b := false) (kit_ty (show kitB "str" "list" = some false by decide +kernel)) (fun _ => kitAny_cons (b := false) (kit_ty (show kitB "str" "tuple" = some false by decide +kernel)) (fun _ => kitAny_nil) (fun z => nomatch z)) (fun z => nomatch z), kit_ty (show kitB "str" "tuple" = some false by decide +kernel)⟩
  | lst h _ => exact ⟨_, .base (.lst h), kit_ty (show kitB "list" "bool" = some false by decide +kernel), kit_ty (show kitB "list" "int" = some false by decide +kernel),
      kitAny_cons (b := true) (kit_ty (show kitB "list" "list" = some true by decide +kernel)) (fun z => nomatch z) (fun _ => rfl), kit_ty (show kitB "list" "tuple" = some false by decide +kernel)⟩
  | tup h _ => exact ⟨_, .base (.tup h), kit_ty (show kitB "tuple" "bool" = some false by decide +kernel), kit_ty (show kitB "tuple" "int" = some false by decide +kernel),
      kitAny_cons (b := false) (kit_ty (show kitB "tuple" "list" = some false by decide +kernel)) (fun _ => kitAny_cons (b := true) (kit_ty (show kitB "tuple" "tuple" = some true by decide +kernel)) (fun z => nomatch z) (fun _ => rfl)) (fun z => nomatch z), kit_ty (show kitB "tuple" "tuple" = some true by decide +kernel)⟩
end TkS
set_option Elab.async false
set_option linter.all false
set_option maxRecDepth 100000
set_option maxHeartbeats 4000000
/-! for and comprehensions over a list or a tuple -/
namespace TkS
open PySem PySem.Spec PyProof.Rows L2
def iSeq (K : PySem.W.Frag) (tl : TE) : TI := fun σ H R => iList K tl σ H R ∨ iTup K tl σ H R
theorem pi_seq {X : Cx} {tg l : Expr} {tl : TE} (hl : PE X l tl) : PI X tg l (iSeq X.K tl) :=
  ⟨fun pins s σ H R I h => h.elim (fun h => (pi_list hl).run pins s σ H R I h) (fun h => (pi_tup hl).run pins s σ H R I h)⟩
theorem seqT_same {K : PySem.W.Frag} {H H' : Hp} {a : Addr} {xs : List V} (s : Same H H') (h : SqT K H a xs) : SqT K H' a xs :=
  h.elim (fun h => .inl (h.elim (fun h => .inl (s _ _ h)) fun ⟨o, h⟩ => .inr ⟨o, s _ _ h⟩)) fun h => .inr h
def Sq (K : PySem.W.Frag) (H : Hp) (a : Addr) (xs : List V) : Prop := SqL K H a xs ∨ SqT K H a xs
theorem Sq.same {K : PySem.W.Frag} {H H' : Hp} {a : Addr} {xs : List V} (h : Sq K H a xs) (s : Same H H') : Sq K H' a xs :=
  h.elim (fun h => .inl (s.seq h)) (fun h => .inr (seqT_same s h))
theorem for_seq {K : PySem.W.Frag} {a : Addr} {xs : List V} {tl : TE} {g : TG} {tb : TS} {D : Ends} {σ : L2.St} {H : Hp} (Pv : Nat → L2.St → Hp → Prop) (ht : ∀ Q : VK, Q (.ref a) H → tl σ H Q) (hq : Sq K H a xs) (h0 : Pv 0 σ H)
    (hl : ∀ i σ H', i ≤ xs.length → Pv i σ H' → Same H H')
    (hs : ∀ i x σ H, xs[i]? = some x → Pv i σ H → g x σ H fun σ2 H2 => tb { D with nx := Pv (i + 1), ct := Pv (i + 1), bk := D.nx } σ2 H2) (hd : ∀ σ H, Pv xs.length σ H → D.nx σ H) :
    tFor (iSeq K tl) g tb D σ H :=
  hq.elim (fun h => .inl (ht _ ⟨a, rfl, ⟨xs, h⟩, for_list Pv h0 (fun i σ H' hi hP => (hl i σ H' hi hP).seq h) hs hd⟩))
    (fun h => .inr (ht _ ⟨a, rfl, ⟨xs, h⟩, for_tup Pv h0 (fun i σ H' hi hP => seqT_same (hl i σ H' hi hP) h) hs hd⟩))
theorem lc_seq {K : PySem.W.Frag} {a : Addr} {xs : List V} {tl : TE} {g : TG} {tt : TT} {te : TE} {vs : List Nat} {σ : L2.St} {H : Hp} {Q : VK} (Pv : Addr → Nat → Hp → Prop) (ht : ∀ Q : VK, Q (.ref a) H → tl σ H Q) (hq : Sq K H a xs)
    (h0 : ∀ D, H D = none → Pv D 0 (upd H D (.lst []))) (hl : ∀ D i H', H D = none → i ≤ xs.length → Pv D i H' → Same H H')
    (hs : ∀ D i x H', H D = none → xs[i]? = some x → Pv D i H' → g x (wipe σ vs) H' fun σ2 H2 => wipe σ2 vs = wipe σ vs ∧ tt σ2 H2 fun b H3 =>
      if b = true then te σ2 H3 fun y H4 => ∃ acc, H4 D = some (.lst acc) ∧ acc.length < sizeLine ∧ Pv D (i + 1) (upd H4 D (.lst (acc ++ [y]))) else Pv D (i + 1) H3) (hd : ∀ D H', H D = none → Pv D xs.length H' → Q (.ref D) H') :
    tLc (iSeq K tl) g tt te vs σ H Q :=
  hq.elim (fun h => .inl (ht _ ⟨a, rfl, ⟨xs, h⟩, fun D nD => lc_list (Pv D) (h0 D nD) (fun i H' hi hP => (hl D i H' nD hi hP).seq h) (fun i x H' => hs D i x H' nD) (fun H' => hd D H' nD)⟩))
    (fun h => .inr (ht _ ⟨a, rfl, ⟨xs, h⟩, fun D nD => lc_tup (Pv D) (h0 D nD) (fun i H' hi hP => seqT_same (hl D i H' nD hi hP) h) (fun i x H' => hs D i x H' nD) (fun H' => hd D H' nD)⟩))
/-- the items of a list or a tuple -/
theorem sq_of {K : PySem.W.Frag} {H : Hp} {x : V} {d : PyData} {ds : List PyData} (k : Dq H x d) (e : itemsD d = some ds) : ∃ (p : Addr) (xs : List V), x = .ref p ∧ DqAll H xs ds ∧ Sq K H p xs := by
  cases k with
  | lst h1 h2 =>
    cases e
    exact ⟨_, _, rfl, h2, .inl (SqL.of h1)⟩
  | tup h1 h2 =>
    cases e
    exact ⟨_, _, rfl, h2, .inr (SqT.of h1)⟩
  | _ => cases e
/-- tuple(x), x a list or a tuple of data -/
def rTupD : List V → Hp → VK → Prop := fun xs H Q => ∃ x d ds, xs = [x] ∧ Dq H x d ∧ itemsD d = some ds ∧ ∀ l H', Same H H' → Dq H' (.ref l) (.tuple ds) → Q (.ref l) H'
theorem call_tupD {X : Cx} : CallR X (.type "tuple") rTupD := by
  intro pins s σ H vs us Q I r h
  refine call_tuple_of pins s σ H vs us Q I r ?_
  obtain ⟨x, d, ds, rfl, k, e, q⟩ := h
  cases k with
  | lst h1 h2 =>
    cases e
    exact ⟨_, _, rfl, .inl ⟨SqL.of h1, fun l nl => q l _ (same_new nl) (.tup upd_same (DqAll.same (same_new nl) _ h2))⟩⟩
  | tup h1 h2 =>
    cases e
    exact ⟨_, _, rfl, .inr ⟨SqT.of h1, q _ _ (fun _ _ z => z) (.tup h1 h2)⟩⟩
  | _ => cases e
end TkS
set_option Elab.async false
set_option linter.all false
set_option maxRecDepth 100000
set_option maxHeartbeats 4000000
/-! sums and parts of tuples and lists of data -/
namespace TkS
open PySem PySem.Spec PyProof.Rows L2
theorem DqAll.take {H : Hp} : ∀ {xs : List V} {ds : List PyData}, DqAll H xs ds → ∀ n, DqAll H (xs.take n) (ds.take n)
  | _, _, _, 0 => .nil
  | _, _, .nil, _ + 1 => .nil
  | _, _, .cons h t, n + 1 => .cons h (t.take n)
theorem DqAll.drop {H : Hp} : ∀ {xs : List V} {ds : List PyData}, DqAll H xs ds → ∀ n, DqAll H (xs.drop n) (ds.drop n)
  | _, _, h, 0 => h
  | _, _, .nil, _ + 1 => .nil
  | _, _, .cons h t, n + 1 => t.drop n
theorem DqAll.of_get {H : Hp} : ∀ {xs : List V} {ds : List PyData}, xs.length = ds.length → (∀ (i : Nat) (x : V) (d : PyData), xs[i]? = some x → ds[i]? = some d → Dq H x d) → DqAll H xs ds
  | [], [], _, _ => .nil
  | x :: xs, d :: ds, e, h => .cons (h 0 x d rfl rfl) (DqAll.of_get (by simpa using e) fun i y f h1 h2 => h (i + 1) y f (by simpa using h1) (by simpa using h2))
theorem DqAll.rev {H : Hp} : ∀ {xs : List V} {ds : List PyData}, DqAll H xs ds → DqAll H xs.reverse ds.reverse
  | _, _, .nil => .nil
  | _, _, .cons h t => by
    rw [List.reverse_cons, List.reverse_cons]
    exact t.rev.snoc h
def cutD {α : Type} (xs : List α) (lo hi : Option Int) : List α := (xs.drop (HT.sIx xs.length 0 lo)).take (HT.sIx xs.length xs.length hi - HT.sIx xs.length 0 lo)
theorem cutD_lo {α : Type} (xs : List α) (n : Nat) : cutD xs (some (n : Int)) none = xs.drop n := by
  unfold cutD
  rw [HT.sIx_none, HT.sIx_nat]
  rcases Nat.le_total n xs.length with h | h
  · rw [Nat.min_eq_left h]
    exact List.take_of_length_le (by rw [List.length_drop]; omega)
  · rw [Nat.min_eq_right h, List.drop_of_length_le h, List.drop_of_length_le (Nat.le_refl _), List.take_nil]
theorem cutD_hi {α : Type} (xs : List α) (n : Nat) : cutD xs none (some (n : Int)) = xs.take n := by
  unfold cutD
  rw [HT.sIx_none, HT.sIx_nat]
  rcases Nat.le_total n xs.length with h | h
  · rw [Nat.min_eq_left h]
    rfl
  · rw [Nat.min_eq_right h, List.take_of_length_le h]
    exact List.take_of_length_le (by simp)
theorem DqAll.cut {H : Hp} {xs : List V} {ds : List PyData} (h : DqAll H xs ds) (lo hi : Option Int) : DqAll H (cutV xs lo hi) (cutD ds lo hi) := by
  unfold cutV cutD
  rw [h.len]
  exact (h.drop _).take _
theorem cutV_whole {α : Type} {xs : List α} {lo hi : Option Int} (h : HT.sIx xs.length 0 lo = 0 ∧ HT.sIx xs.length xs.length hi = xs.length) : cutD xs lo hi = xs := by
  unfold cutD
  rw [h.1, h.2]
  exact List.take_of_length_le (by simp)
def rCatD : R2 := fun x y H Q => ∃ ds es, Dq H x (.tuple ds) ∧ Dq H y (.tuple es) ∧ ds.length + es.length ≤ 1000 ∧ ∀ l H', Same H H' → Dq H' (.ref l) (.tuple (ds ++ es)) → Q (.ref l) H'
theorem thousand : 1000 ≤ sizeLine := by decide
theorem op_catD {X : Cx} : OpR X (binaryOp .Add) rCatD := by
  intro pins s σ H x y v u Q I rx ry h
  obtain ⟨ds, es, k1, k2, hl, q⟩ := h
  cases k1 with
  | tup h1 t1 =>
    cases k2 with
    | tup h2 t2 =>
      rename_i a xs b ys
      refine op_catA pins s σ H _ _ v u Q I rx ry ⟨a, b, xs, ys, rfl, rfl, SqT.of h1, SqT.of h2, ?_, fun e => ?_, fun _ e => ?_, fun _ _ p np => ?_⟩
      · rw [t1.len, t2.len]
        exact Nat.le_trans hl thousand
      · subst e
        cases t1
        exact q b H (fun _ _ z => z) (.tup h2 t2)
      · subst e
        cases t2
        exact q a H (fun _ _ z => z) (by rw [List.append_nil]; exact .tup h1 t1)
      · exact q p _ (same_new np) (.tup upd_same ((DqAll.same (same_new np) _ t1).append (DqAll.same (same_new np) _ t2)))
def rSlD : V → Option Int → Option Int → Hp → VK → Prop := fun x lo hi H Q => ∃ ds, Dq H x (.tuple ds) ∧ ∀ l H', Same H H' → Dq H' (.ref l) (.tuple (cutD ds lo hi)) → Q (.ref l) H'
theorem sl_tupD {X : Cx} : SlR X rSlD := by
  intro pins s σ H x v vl vu lo hi sl Q I rx hs pl pu h
  obtain ⟨ds, k, q⟩ := h
  cases k with
  | tup h1 t1 =>
    rename_i a xs
    refine sl_tupA pins s σ H _ v vl vu lo hi sl Q I rx hs pl pu ⟨a, xs, rfl, SqT.of h1, fun e => ?_, fun _ p np => ?_⟩
    · refine q a H (fun _ _ z => z) ?_
      rw [cutV_whole (by rw [← t1.len]; exact e)]
      exact .tup h1 t1
    · exact q p _ (same_new np) (.tup upd_same (DqAll.same (same_new np) _ (t1.cut lo hi)))
def rSlDL : V → Option Int → Option Int → Hp → VK → Prop := fun x lo hi H Q => ∃ ds, Dq H x (.list ds) ∧ ∀ l H', Same H H' → H l = none → Dq H' (.ref l) (.list (cutD ds lo hi)) → Q (.ref l) H'
theorem sl_listD {X : Cx} : SlR X rSlDL := by
  intro pins s σ H x v vl vu lo hi sl Q I rx hs pl pu h
  obtain ⟨ds, k, q⟩ := h
  cases k with
  | lst h1 t1 =>
    rename_i a xs
    exact sl_list pins s σ H _ v vl vu lo hi sl Q I rx hs pl pu ⟨a, xs, rfl, SqL.of h1, fun p np => q p _ (same_new np) np (.lst upd_same (DqAll.same (same_new np) _ (t1.cut lo hi)))⟩
/-- the sum of two lists -/
def rCatDL : R2 := fun x y H Q => ∃ ds es, Dq H x (.list ds) ∧ Dq H y (.list es) ∧ ds.length + es.length ≤ 1000 ∧ ∀ l H', Same H H' → H l = none → Dq H' (.ref l) (.list (ds ++ es)) → Q (.ref l) H'
theorem op_catDL {X : Cx} : OpR X (binaryOp .Add) rCatDL := by
  intro pins s σ H x y v u Q I rx ry h
  obtain ⟨ds, es, k1, k2, hl, q⟩ := h
  cases k1 with
  | lst h1 t1 =>
    cases k2 with
    | lst h2 t2 =>
      rename_i a xs b ys
      exact op_cat pins s σ H _ _ v u Q I rx ry ⟨a, b, xs, ys, rfl, rfl, h1, h2, by
        rw [t1.len, t2.len]
        exact Nat.le_trans hl thousand, fun p np => q p _ (same_new np) np (.lst upd_same ((DqAll.same (same_new np) _ t1).append (DqAll.same (same_new np) _ t2)))⟩
end TkS
set_option Elab.async false
set_option linter.all false
set_option maxRecDepth 100000
set_option maxHeartbeats 4000000
/-! a tuple whose object is known (its methods may be called) -/
namespace TkS
open PySem PySem.Spec PyProof.Rows L2
def Frz (H : Hp) (a : Addr) (xs : List V) : Prop := ∃ o : Obj, H a = some (.frz o (.tup xs)) ∧ o.cls = .type "tuple" ∧ o.dict = none
theorem Frz.same {H H' : Hp} {a : Addr} {xs : List V} (h : Frz H a xs) (s : Same H H') : Frz H' a xs := by
  obtain ⟨o, h1, h2⟩ := h
  exact ⟨o, s _ _ h1, h2⟩
theorem Frz.seq {K : PySem.W.Frag} {H : Hp} {a : Addr} {xs : List V} (h : Frz H a xs) : SqT K H a xs := by
  obtain ⟨o, h1, _⟩ := h
  exact .inl (.inr ⟨o, h1⟩)
theorem Frz.ty {K : PySem.W.Frag} {H : Hp} {a : Addr} {xs : List V} (h : Frz H a xs) : TyX K H (.ref a) (.type "tuple") := by
  obtain ⟨o, h1, _⟩ := h
  exact .fTuple h1
theorem Frz.fn {H : Hp} {a : Addr} {xs ys : List V} (h : Frz H a xs) (h' : Frz H a ys) : xs = ys := by
  obtain ⟨o, h1, _⟩ := h
  obtain ⟨o', h1', _⟩ := h'
  rw [h1] at h1'
  cases h1'
  rfl
def rTupF (K : PySem.W.Frag) : List V → Hp → VK → Prop := fun xs H Q => ∃ p ys, xs = [.ref p] ∧ SqL K H p ys ∧ ∀ l H', Same H H' → H l = none → Frz H' l ys → Q (.ref l) H'
theorem call_tupF {X : Cx} : CallR X (.type "tuple") (rTupF X.K) := by
  intro pins s σ H xs us Q I r h
  obtain ⟨p, ys, rfl, hq, q⟩ := h
  obtain ⟨u, rfl, rx⟩ := vals1 r
  cases rx
  obtain ⟨its, r', pl, hz⟩ := I.list hq
  have hlen := r'.length
  refine call_tuple_list pl.isList (fun h' kp => ?_) (by simp only [List.size_toArray] <;> omega)
  have I1 : Inv X pins σ H { s with heap := h' } := I.kept (t' := s.toks) kp
  have I2 : Inv X pins σ (upd H h'.objs.size (.frz { cls := .type "tuple", data := .seq its.toArray } (.tup ys))) { s with heap := h'.push { cls := .type "tuple", data := .seq its.toArray } } :=
    I1.laid (t' := s.toks) (fun b o e => Heap.get?_push_of_some _ e) (Nat.le_refl _) (show ObjOk X.prog X.w _ _ _ (.frz _ (.tup ys)) from ⟨Heap.get?_push_size _ rfl, hz, its, r', IsTup.new _ _⟩)
  have nf := I1.hok.fresh (Nat.le_refl _)
  exact ⟨.ref h'.objs.size, _, I2, rfl, q _ _ (same_new nf) nf ⟨_, upd_same, rfl, rfl⟩⟩
def tBMF (r : V → List V → Hp → VK → Prop) (to : TE) (t : TA) : TE := fun σ H Q => to σ H fun x H1 => (∃ a xs, x = .ref a ∧ Frz H1 a xs) ∧ t σ H1 fun xs H2 => r x xs H2 Q
theorem pe_bmF {X : Cx} {o e : Expr} {es : List Expr} {to : TE} {t : TA} {name : Str} {apos cpos : Pos} {id : String} {r : V → List V → Hp → VK → Prop} (pa : PlainAttrs "tuple") (slot : Slot "tuple" name id) (hty : typeOf (.builtin id) = pure (.type "method_descriptor")) (hm : MtR X id r) (ho : PE X o to) (ha : PA X (e :: es) t)
    (hbase : attributeBase o name X.env (eval o X.env) = eval o X.env := by rfl)
    (hfew : ((backTo cpos (starEach (e :: es) X.env)).all (fun x => !x.1) && (backToKw cpos (keywordEach [] X.env)).all (fun x => x.1.isSome)
      && decide ((e :: es).length + ([] : List Keyword).length + (if ([] : List Keyword).isEmpty then 0 else 1) < 30)) = true := by rfl)
    (hline : (apos.endLine == cpos.line) = true := by rfl) (hs : starEach (e :: es) X.env = (false, eval e X.env) :: starEach es X.env := by rfl) (hplain : (backTo cpos (starEach es X.env)).any (·.1) = false := by rfl) :
    PE X (.Call (.Attribute o name apos) (e :: es) [] cpos) (tBMF r to t) := by
  refine ⟨fun pins s σ H Q I h => ?_⟩
  refine wpAny_Call_method_late hbase hfew hline rfl (thn (ho.run pins s σ H _ I h) fun v s1 ⟨x, H1, I1, r1, ⟨a, xs, ex, o, h1, h2, h3⟩, q1⟩ => ?_)
  subst ex
  cases r1
  have hk := (I1.hok a _ h1).1
  refine ⟨"tuple", id, pa, slot, hty, ⟨o, hk, h2⟩, fun b e => by cases e; exact ⟨o, hk, h3⟩, ?_⟩
  have hA := ha.run cpos pins s1 σ H1 _ I1 q1
  rw [hs] at hA ⊢
  refine Calls.callWith_builtin (by show (false || (backTo cpos (starEach es X.env)).any (·.1)) = false; rw [hplain] <;> rfl) (Calls.evalArgs_plain ?_)
  exact thn hA fun us s2 ⟨vs, H2, I2, r2, q2⟩ => hm pins s2 σ H2 (.ref a) vs _ us Q I2 rfl r2 q2
theorem Frz.dp {K : PySem.W.Frag} {H : Hp} {a : Addr} {xs : List V} {ds : List PyData} (h : Frz H a xs) (k : DqAll H xs ds) : Dp K H (.ref a) (.tuple ds) := .tup h.seq (DqAll.dp _ k)
/-- such a tuple and a tuple that is not empty -/
def rCatF : R2 := fun x y H Q => ∃ (a : Addr) (xs : List V) (ds es : List PyData), x = .ref a ∧ Frz H a xs ∧ DqAll H xs ds ∧ Dq H y (.tuple es) ∧ es ≠ [] ∧ ds.length + es.length ≤ 1000 ∧ ∀ l H', Same H H' → Dq H' (.ref l) (.tuple (ds ++ es)) → Q (.ref l) H'
theorem op_catF {X : Cx} : OpR X (binaryOp .Add) rCatF := by
  intro pins s σ H x y v u Q I rx ry h
  obtain ⟨a, xs, ds, es, rfl, f, t1, k2, ne, hl, q⟩ := h
  cases k2 with
  | tup h2 t2 =>
    rename_i b ys
    refine op_catA pins s σ H _ _ v u Q I rx ry ⟨a, b, xs, ys, rfl, rfl, f.seq, SqT.of h2, ?_, fun e => ?_, fun _ e => ?_, fun _ _ p np => ?_⟩
    · rw [t1.len, t2.len]
      exact Nat.le_trans hl thousand
    · subst e
      cases t1
      exact q b H (fun _ _ z => z) (.tup h2 t2)
    · subst e
      cases t2
      exact absurd rfl ne
    · exact q p _ (same_new np) (.tup upd_same ((DqAll.same (same_new np) _ t1).append (DqAll.same (same_new np) _ t2)))
/-- a part of such a tuple that is not the whole -/
def rSlF : V → Option Int → Option Int → Hp → VK → Prop := fun x lo hi H Q => ∃ (a : Addr) (xs : List V) (ds : List PyData), x = .ref a ∧ Frz H a xs ∧ DqAll H xs ds ∧ ¬ (HT.sIx ds.length 0 lo = 0 ∧ HT.sIx ds.length ds.length hi = ds.length) ∧
  ∀ l H', Same H H' → Dq H' (.ref l) (.tuple (cutD ds lo hi)) → Q (.ref l) H'
theorem sl_tupF {X : Cx} : SlR X rSlF := by
  intro pins s σ H x v vl vu lo hi sl Q I rx hs pl pu h
  obtain ⟨a, xs, ds, rfl, f, t1, nw, q⟩ := h
  refine sl_tupA pins s σ H _ v vl vu lo hi sl Q I rx hs pl pu ⟨a, xs, rfl, f.seq, fun e => ?_, fun _ p np => ?_⟩
  · rw [t1.len] at e
    exact absurd e nw
  · exact q p _ (same_new np) (.tup upd_same (DqAll.same (same_new np) _ (t1.cut lo hi)))
end TkS
set_option Elab.async false
set_option linter.all false
set_option maxRecDepth 100000
set_option maxHeartbeats 4000000
/-! comprehensions whose items are data -/
namespace TkS
open PySem PySem.Spec PyProof.Rows L2
theorem off_put {h : Addr} {H : Hp} {o : HO} : TkS.Off h (upd H h o) = TkS.Off h H := by
  funext b
  unfold TkS.Off
  by_cases z : b = h
  · rw [if_pos z, if_pos z]
  · rw [if_neg z, if_neg z, upd_ne z]
theorem filter_snoc {α β : Type} (p : α → Bool) (f : α → β) {l : List α} {i : Nat} {x : α} (h : l[i]? = some x) :
    ((l.take (i + 1)).filter p).map f = if p x = true then ((l.take i).filter p).map f ++ [f x] else ((l.take i).filter p).map f := by
  rw [List.take_add_one, h]
  show ((l.take i ++ [x]).filter p).map f = _
  rw [List.filter_append, List.map_append, List.filter_cons]
  by_cases c : p x = true
  · rw [if_pos c, if_pos c]
    rfl
  · rw [if_neg c, if_neg c]
    show ((l.take i).filter p).map f ++ [] = _
    rw [List.append_nil]
theorem len_ft {α β : Type} (p : α → Bool) (f : α → β) (l : List α) : ((l.filter p).map f).length ≤ l.length := by
  rw [List.length_map]
  exact List.length_filter_le _ _
/-- the shared turn: a list D under way -/
def Acc (H0 : Hp) (D : Addr) (ds : List PyData) (H' : Hp) : Prop := Same H0 H' ∧ ∃ ys, H' D = some (.lst ys) ∧ DqAll (TkS.Off D H') ys ds
theorem Acc.nil {H0 : Hp} {D : Addr} (nD : H0 D = none) : Acc H0 D [] (upd H0 D (.lst [])) := ⟨same_new nD, [], upd_same, .nil⟩
theorem Acc.put {H0 H' H'' : Hp} {D : Addr} {ds : List PyData} {y : V} {d : PyData} (a : Acc H0 D ds H') (nD : H0 D = none) (hl : ds.length ≤ 900) (s : Same H' H'') (k : Dq (TkS.Off D H'') y d) :
    ∃ acc, H'' D = some (.lst acc) ∧ acc.length < sizeLine ∧ Acc H0 D (ds ++ [d]) (upd H'' D (.lst (acc ++ [y]))) := by
  obtain ⟨s0, ys, h1, h2⟩ := a
  refine ⟨ys, s _ _ h1, ?_, fun b o e => ?_, ys ++ [y], upd_same, ?_⟩
  · rw [h2.len]
    exact Nat.lt_of_le_of_lt hl (by decide)
  · rw [upd_ne (ne_of_none e nD)]
    exact s _ _ (s0 _ _ e)
  · rw [off_put]
    exact (DqAll.same (off_of s) _ h2).snoc k
theorem Acc.mv {H0 H' H'' : Hp} {D : Addr} {ds : List PyData} (a : Acc H0 D ds H') (s : Same H' H'') : Acc H0 D ds H'' := by
  obtain ⟨s0, ys, h1, h2⟩ := a
  exact ⟨s0.trans s, ys, s _ _ h1, DqAll.same (off_of s) _ h2⟩
theorem Acc.dq {H0 H' : Hp} {D : Addr} {ds : List PyData} (a : Acc H0 D ds H') : Dq H' (.ref D) (.list ds) := by
  obtain ⟨s0, ys, h1, h2⟩ := a
  exact .lst h1 (DqAll.same off_same _ h2)
theorem lc_rngD {tt : TT} {te : TE} {vs : List Nat} {σ : L2.St} {H0 : Hp} {D : Addr} {Qd : Hp → Prop} {j n : Nat} (f : Nat → Bool) (e : Nat → PyData)
    (nD : H0 D = none) (hl : n ≤ 900) (hw : ∀ x : V, wipe ((wipe σ vs).set j (some x)) vs = wipe σ vs)
    (ht : ∀ (i : Nat) (H' : Hp) (Q : Bool → Hp → Prop), i < n → Same H0 H' → (∀ H'', Same H' H'' → Q (f i) H'') → tt ((wipe σ vs).set j (some (.int (0 + (i : Int))))) H' Q)
    (he : ∀ (i : Nat) (H' : Hp) (Q : VK), i < n → f i = true → Same H0 H' → (∃ acc, H' D = some (.lst acc)) → (∀ y H'', Same H' H'' → Dq (TkS.Off D H'') y (e i) → Q y H'') → te ((wipe σ vs).set j (some (.int (0 + (i : Int))))) H' Q)
    (hd : ∀ H', Same H0 H' → Dq H' (.ref D) (.list (((List.range n).filter f).map e)) → Qd H') :
    ∃ W : Nat → Nat → Hp → Prop, (∃ m, W 0 m (upd H0 D (.lst []))) ∧ ∀ i m H, W i m H →
      ((Itr 0 n).stop i H ∧ Qd H) ∨ ((Itr 0 n).go i H ∧ ∃ Nx : Hp → Prop, (∀ H', Nx H' → ∃ m', m' < m ∧ W (i + 1) m' H') ∧ ∀ x H', (Itr 0 n).yld i H x H' → gName j x (wipe σ vs) H' fun σ2 H2 => wipe σ2 vs = wipe σ vs ∧ tt σ2 H2 fun b H3 =>
        if b = true then te σ2 H3 fun y H4 => ∃ acc, H4 D = some (.lst acc) ∧ acc.length < sizeLine ∧ Nx (upd H4 D (.lst (acc ++ [y]))) else Nx H3) := by
  refine lc_range (lo := 0) (n := n) (fun i H' => Acc H0 D (((List.range i).filter f).map e) H') (Acc.nil nD) (fun i H' hi hP => ?_) (fun H' hP => ?_)
  · refine ⟨hw _, ht i H' _ hi hP.1 fun H2 s2 => ?_⟩
    have er : ((List.range (i + 1)).filter f).map e = if f i = true then ((List.range i).filter f).map e ++ [e i] else ((List.range i).filter f).map e := by
      rw [List.range_succ, List.filter_append, List.map_append, List.filter_cons]
      by_cases c : f i = true
      · rw [if_pos c, if_pos c]
        rfl
      · rw [if_neg c, if_neg c]
        show _ ++ [] = _
        rw [List.append_nil]
    have hP2 := hP.mv s2
    cases c : f i with
    | true =>
      refine he i H2 _ hi c hP2.1 ⟨_, hP2.2.choose_spec.1⟩ fun y H3 s3 k => ?_
      rw [er, if_pos c]
      refine hP2.put nD ?_ s3 k
      have := len_ft f e (List.range i)
      rw [List.length_range] at this
      omega
    | false =>
      show Acc _ _ _ _
      rw [er, c, if_neg Bool.false_ne_true]
      exact hP2
  · exact hd H' hP.1 hP.dq
theorem lc_seqD {K : PySem.W.Frag} {a : Addr} {xs : List V} {ds : List PyData} {tl : TE} {tt : TT} {te : TE} {vs : List Nat} {σ : L2.St} {H : Hp} {Q : VK} {j : Nat} (f : PyData → Bool) (e : PyData → PyData)
    (ht0 : ∀ Q : VK, Q (.ref a) H → tl σ H Q) (hq : Sq K H a xs) (hx : DqAll H xs ds) (hl : ds.length ≤ 900) (hw : ∀ x : V, wipe ((wipe σ vs).set j (some x)) vs = wipe σ vs)
    (ht : ∀ (i : Nat) (x : V) (d : PyData) (H' : Hp) (Q : Bool → Hp → Prop), ds[i]? = some d → Same H H' → Dq H' x d → (∀ H'', Same H' H'' → Q (f d) H'') → tt ((wipe σ vs).set j (some x)) H' Q)
    (he : ∀ (D : Addr) (i : Nat) (x : V) (d : PyData) (H' : Hp) (Q : VK), H D = none → ds[i]? = some d → f d = true → Same H H' → Dq H' x d → (∃ acc, H' D = some (.lst acc)) → (∀ y H'', Same H' H'' → Dq (TkS.Off D H'') y (e d) → Q y H'') → te ((wipe σ vs).set j (some x)) H' Q)
    (hd : ∀ D H', H D = none → Same H H' → Dq H' (.ref D) (.list ((ds.filter f).map e)) → Q (.ref D) H') :
    tLc (iSeq K tl) (gName j) tt te vs σ H Q := by
  refine lc_seq (fun D i H' => Acc H D (((ds.take i).filter f).map e) H') ht0 hq (fun D nD => Acc.nil nD) (fun D i H' _ _ hP => hP.1) (fun D i x H' nD hxi hP => ?_) (fun D H' nD hP => ?_)
  · obtain ⟨d, hdi, kd⟩ := hx.get hxi
    have kd1 := kd.same hP.1
    refine ⟨hw _, ht i x d H' _ hdi hP.1 kd1 fun H2 s2 => ?_⟩
    have hP2 := hP.mv s2
    cases c : f d with
    | true =>
      refine he D i x d H2 _ nD hdi c hP2.1 (kd1.same s2) ⟨_, hP2.2.choose_spec.1⟩ fun y H3 s3 k => ?_
      rw [filter_snoc _ _ hdi, if_pos c]
      refine hP2.put nD ?_ s3 k
      have := len_ft f e (ds.take i)
      rw [List.length_take] at this
      omega
    | false =>
      show Acc _ _ _ _
      rw [filter_snoc _ _ hdi, c, if_neg Bool.false_ne_true]
      exact hP2
  · rw [hx.len, List.take_length] at hP
    exact hd D H' nD hP.1 hP.dq
/-! data without a list -/
mutual
def noList : PyData → Bool
  | .list _ => false
  | .tuple ds => noLists ds
  | _ => true
def noLists : List PyData → Bool
  | [] => true
  | d :: ds => noList d && noLists ds
end
mutual
theorem dq_noL {H : Hp} {D : Addr} {acc : List V} (h : H D = some (.lst acc)) : ∀ {v : V} (d : PyData), noList d = true → Dq H v d → Dq (TkS.Off D H) v d
  | _, .none, _, .non => .non
  | _, .bool _, _, .bl b => .bl b
  | _, .int _, _, .int i => .int i
  | _, .str _, _, .str x => .str x
  | _, .list _, n, .lst e t => by cases n
  | _, .tuple ds, n, .tup e t => .tup (off_at (fun z => by rw [z, h] at e; cases e) e) (dqs_noL h ds n t)
theorem dqs_noL {H : Hp} {D : Addr} {acc : List V} (h : H D = some (.lst acc)) : ∀ {vs : List V} (ds : List PyData), noLists ds = true → DqAll H vs ds → DqAll (TkS.Off D H) vs ds
  | _, [], _, .nil => .nil
  | _, d :: ds, n, .cons k t => .cons (dq_noL h d (by
      have n' : (noList d && noLists ds) = true := n
      exact (Bool.and_eq_true_iff.mp n').1) k) (dqs_noL h ds (by
      have n' : (noList d && noLists ds) = true := n
      exact (Bool.and_eq_true_iff.mp n').2) t)
end
/-! a hand (a list of a list and three ints) is no part of other data -/
def handD : PyData → Bool
  | .list [_, .int _, .int _, .int _] => true
  | _ => false
mutual
def noHand : PyData → Bool
  | .list ds => !handD (.list ds) && noHands ds
  | .tuple ds => noHands ds
  | _ => true
def noHands : List PyData → Bool
  | [] => true
  | d :: ds => noHand d && noHands ds
end
mutual
theorem dq_hand {H H' : Hp} {h : Addr} {c : V} {p r t : Int} (hh : H h = some (.lst [c, .int p, .int r, .int t])) (k : ∀ b o, b ≠ h → H b = some o → H' b = some o) : ∀ {v : V} (d : PyData), noHand d = true → Dq H v d → Dq H' v d
  | _, .none, _, .non => .non
  | _, .bool _, _, .bl b => .bl b
  | _, .int _, _, .int i => .int i
  | _, .str _, _, .str x => .str x
  | _, .list ds, n, .lst e u => by
    have n' : (!handD (.list ds) && noHands ds) = true := n
    obtain ⟨n1, n2⟩ := Bool.and_eq_true_iff.mp n'
    refine .lst (k _ _ (fun z => ?_) e) (dqs_hand hh k ds n2 u)
    rw [z, hh] at e
    cases e
    cases u with
    | cons u0 u =>
      cases u with
      | cons u1 u =>
        cases u with
        | cons u2 u =>
          cases u with
          | cons u3 u =>
            cases u
            cases u1
            cases u2
            cases u3
            exact absurd n1 (by simp [handD])
  | _, .tuple ds, n, .tup e u => .tup (k _ _ (fun z => by rw [z, hh] at e; cases e) e) (dqs_hand hh k ds n u)
theorem dqs_hand {H H' : Hp} {h : Addr} {c : V} {p r t : Int} (hh : H h = some (.lst [c, .int p, .int r, .int t])) (k : ∀ b o, b ≠ h → H b = some o → H' b = some o) : ∀ {vs : List V} (ds : List PyData), noHands ds = true → DqAll H vs ds → DqAll H' vs ds
  | _, [], _, .nil => .nil
  | _, d :: ds, n, .cons u v => .cons (dq_hand hh k d (by
      have n' : (noHand d && noHands ds) = true := n
      exact (Bool.and_eq_true_iff.mp n').1) u) (dqs_hand hh k ds (by
      have n' : (noHand d && noHands ds) = true := n
      exact (Bool.and_eq_true_iff.mp n').2) v)
end
end TkS
set_option Elab.async false
set_option linter.all false
set_option maxRecDepth 100000
set_option maxHeartbeats 4000000
/-! len(set(xs)), xs a list of tuples of ints -/
namespace TkS
open PySem PySem.Spec PyProof.Rows L2
def rLenSetT (P : Program) (w : World) : List V → Hp → VK → Prop := fun xs H Q => ∃ (a : Addr) (L : List (Addr × List Int)), xs = [.ref a] ∧ H a = some (SetTO P w a L) ∧ (∀ p ∈ L, ∃ ys, H p.1 = some (.tup ys) ∧ ys = p.2.map V.int) ∧ ((L.map (·.2)).Nodup → Q (.int (L.length : Int)) H)
theorem call_lenSetT {X : Cx} : CallR X (.builtin "len") (rLenSetT X.prog X.w) := by
  intro pins s σ H xs us Q I r h
  obtain ⟨a, L, rfl, ha, ht, q⟩ := h
  obtain ⟨u, rfl, rx⟩ := vals1 r
  cases rx
  have R0 : SetT0 X.prog X.w s.heap a L := (I.hok a _ ha).1
  obtain ⟨es, ep, t, R⟩ := R0.full fun p hp => by
    obtain ⟨ys, h1, h2⟩ := ht p hp
    subst h2
    exact I.isT (.inl (.inl h1))
  obtain ⟨o, ho, hex, hd⟩ := R.ob
  have hsz := R.size
  have few := R.few
  refine call_len_set ho hex hd R.fits (by rw [hsz]; omega) ⟨.int (L.length : Int), H, I.tok _, ⟨_, by rw [hsz]⟩, q R.nd⟩
theorem nd_le {α : Type} [DecidableEq α] : ∀ {A B : List α}, A.Nodup → (∀ x ∈ A, x ∈ B) → A.length ≤ B.length
  | [], _, _, _ => Nat.zero_le _
  | a :: A, B, n, s => by
    have ha := s a List.mem_cons_self
    have n2 := List.nodup_cons.mp n
    have := nd_le (A := A) (B := B.erase a) n2.2 fun x m => (List.mem_erase_of_ne (show x ≠ a from fun z => by subst z; exact n2.1 m)).mpr (s x (List.mem_cons_of_mem _ m))
    have e := (List.perm_cons_erase ha).length_eq
    simp only [List.length_cons] at e ⊢
    omega
theorem nd_perm {α : Type} [DecidableEq α] : ∀ {A B : List α}, A.Nodup → (∀ x ∈ A, x ∈ B) → A.length = B.length → A.Perm B
  | [], B, _, _, e => by
    have : B = [] := List.length_eq_zero_iff.mp e.symm
    rw [this]
  | a :: A, B, n, s, e => by
    have ha := s a List.mem_cons_self
    have n2 := List.nodup_cons.mp n
    have pe := List.perm_cons_erase ha
    have e2 := pe.length_eq
    simp only [List.length_cons] at e e2
    exact ((nd_perm (A := A) (B := B.erase a) n2.2 (fun x m => (List.mem_erase_of_ne (show x ≠ a from fun z => by subst z; exact n2.1 m)).mpr (s x (List.mem_cons_of_mem _ m))) (by omega)).cons a).trans pe.symm
theorem nd_iff {α : Type} [DecidableEq α] {A B : List α} (n : A.Nodup) (s : ∀ x ∈ A, x ∈ B) (s' : ∀ x ∈ B, x ∈ A) : A.length = B.length ↔ B.Nodup :=
  ⟨fun e => (nd_perm n s e).nodup_iff.mp n, fun nb => Nat.le_antisymm (nd_le n s) (nd_le nb s')⟩
end TkS
set_option Elab.async false
set_option linter.all false
set_option maxRecDepth 100000
set_option maxHeartbeats 4000000
/-! try with several clauses that each bind the error to one and the same name -/
namespace TkS
open PySem PySem.Spec PyProof.Rows L2
/-- a clause's ends: behind the suite the name is gone -/
def goneE (i : Nat) (D : Ends) : Ends := { nx := fun σ' H' => D.nx (σ'.set i none) H', rt := D.rt, bk := fun σ' H' => D.bk (σ'.set i none) H', ct := fun σ' H' => D.ct (σ'.set i none) H' }
def wAsM (K : PySem.W.Frag) (i : Nat) (Wout : WX) (D : Ends) : List (Value × (Addr → Value → Option Addr → TS)) → WX
  | [] => Wout
  | (c, ts) :: r => fun cls d σ H => ∃ b, PySem.W.exmOne K cls c = some b ∧ (b = true → ∀ a, H a = none → ts a cls d (goneE i D) (σ.set i (some (.ref a))) H) ∧ (b = false → wAsM K i Wout D r cls d σ H)
inductive AsOk (X : Cx) (n : Str) : List ExceptHandler → List (Value × (Addr → Value → Option Addr → TS)) → Prop
  | nil : AsOk X n [] []
  | cons {x : Str} {c : Value} {ts : Addr → Value → Option Addr → TS} {b₀ : Stmt} {suite : List Stmt} {np pos' : Pos} {hds : List ExceptHandler} {l : List (Value × (Addr → Value → Option Addr → TS))} (hc : Names X x c)
      (hsu : ∀ (a : Addr) (oe : Obj) (cls : Value) (d : Option Addr) (pn : List (Addr × Obj)), Zc cls d oe → (∃ vs, oe.data = .fields vs) → PSs (X.suite a ((a, oe) :: pn)) (b₀ :: suite) (ts a cls d)) (r : AsOk X n hds l) :
      AsOk X n (.ExceptHandler (some (.Name x np)) (some n) (b₀ :: suite) pos' :: hds) ((c, ts) :: l)
section
variable {X : Cx} {n : Str} {i : Nat} {body : List Stmt} {h₀ : ExceptHandler} {hds : List ExceptHandler} {l : List (Value × (Addr → Value → Option Addr → TS))} {pos : Pos} {tb : WX → TS} {Wout : WX}
theorem ps_try_asM (hs : X.stack = X.env :: X.outer) (hf : X.env.frame = some X.env.locals) (hN : X.N.Nodup) (hi : X.N[i]? = some n) (hln : X.env.kindOf n = some .local) (tk : Takes X Wout)
    (hb : ∀ (W : WX) (pn : List (Addr × Obj)) (xe : Value → Shared → Prop), Takes (X.tr pn xe) W → PassesOwn (model X.prog X.w) X.A X.env xe → PSs (X.tr pn xe) body (tb W))
    (hh : AsOk X n (h₀ :: hds) l) : PS X (.Try body (h₀ :: hds) [] [] pos) (fun D σ H => tb (wAsM X.K i Wout D l) D σ H) := by
  refine ⟨fun pins s σ H D I h => wpAny_Try_except ?_⟩
  have ok := I.ok
  have hfr : X.A.frames = some (X.env :: X.outer) := by rw [ok.frames, hs]
  refine wpAny_mono ((hb (wAsM X.K i Wout D l) (X.pn ++ pins) (fun e s₁ => wpAny (model X.prog X.w) X.A (noteFrame e X.env) (fun _ s₂ => wpAny (model X.prog X.w) X.A (setFlight e none) (fun _ s₃ =>
    wpAny (model X.prog X.w) X.A (handleBy e X.env (h₀ :: hds)) (SP X pins D) X.xe s₃) X.xe s₂) X.xe s₁) (fun u s' xx => ?_) PassesOwn.looking).run [] s σ H D (I.toTry _) h) (fun f s1 hsp => ?_) (fun e s1 he => he)
  · obtain ⟨a, B, sI, pins', σ', H', cls, d, rfl, J', nb, up, sky, na, os, ag, w⟩ := xx
    have J : Inv X pins σ' H' sI := J'.ofTry ok
    refine Sky.land Zc.steady hfr hf (by rw [← hs]; exact sky) fun h3 fl3 up3 => ?_
    have J3 : Inv X pins σ' H' { s' with heap := h3 } := J.landed nb fl3.1 (up.trans up3) os ag
    obtain ⟨oe3, vs3, he3, hz3, hd3⟩ := fl3.there
    have nfr : a ∉ frs (X.env :: X.outer) := fun hm => by
      obtain ⟨_, o', e', hnf⟩ := fl3.2.2.1.mem hm
      rw [he3] at e'
      cases e'
      exact hnf _ hd3
    have nL : a ≠ X.env.locals := fun z => nfr (List.mem_filterMap.mpr ⟨X.env, List.mem_cons_self, by rw [hf, z]⟩)
    have nF : a ∉ X.fs := fun hm => by
      obtain ⟨e, he, q⟩ := List.mem_filterMap.mp hm
      exact nfr (List.mem_filterMap.mpr ⟨e, List.mem_cons_of_mem _ he, q⟩)
    have S3 := J3.suite he3 hd3 na nL nF
    have go : ∀ {hds' : List ExceptHandler} {l' : List (Value × (Addr → Value → Option Addr → TS))}, AsOk X n hds' l' → wAsM X.K i Wout D l' cls d σ' H' →
        wpAny (model X.prog X.w) X.A (handleBy (.ref a) X.env hds') (SP X pins D) X.xe { s' with heap := h3 } := by
      intro hds' l' hk
      induction hk with
      | nil =>
        intro w
        refine wpAny_handleBy_nil ?_
        obtain ⟨k1, k2, k3, oe, vs, T, oT, ts', he, hz, hd, h1, hr⟩ := id fl3
        unfold PySem.passOn
        refine wpAny_bind (wpAny_field he hd h1 ?_)
        rw [if_neg (show ¬ ((Value.ref T == Value.none) = true) from by simp)]
        have fin : wpAny (model X.prog X.w) X.A (setFlight (.ref a) X.env.frame) (fun _ s4 => wpAny (model X.prog X.w) X.A (throw (.ref a) : Sem Flow) (SP X pins D) X.xe s4) X.xe { s' with heap := h3 } := by
          rw [hf]
          exact HandSPX.setFlight_upZ fl3 fun h4 hh4 up4 => wpAny_throw (tk _ _ ⟨a, B, sI, pins, σ', H', cls, d, rfl, J, nb, (up.trans up3).trans up4, .inr (.inr (by rw [hs]; exact hh4)), na, os, ag, w⟩)
        first
          | exact wpAny_bind (wpAny_pure (wpAny_bind fin))
          | exact wpAny_bind fin
      | @cons x c ts b₀ suite np pos' hds2 l2 hc hsu r ih =>
        intro w
        obtain ⟨b, hb1, hyes, hno⟩ := w
        refine wpAny_handleBy_cons (codeAny_handlers_test ?_) (by intro q; cases q)
        have LM := PySem.W.exm_one (M := model X.prog X.w) (J3.kIn) (fun A Q E s k q => wpAny_typeOf_ref (k _ _ he3) (by rw [hz3.1]; exact q)) hb1
        have test : ∀ {Q : Value → Shared → Prop} {E : Value → Shared → Prop}, Q c { s' with heap := h3 } → wpAny (model X.prog X.w) (X.A.mark (some (.ref a))) (eval (.Name x np) X.env) Q E { s' with heap := h3 } := fun {Q E} q => by
          obtain ⟨hg, hdbg, hm | ⟨hm, hv, hnn⟩⟩ := hc
          · exact ld_glob (X := X.suite a ((a, oe3) :: (X.pn ++ pins))) S3 hg hm q hdbg
          · exact ld_blt (X := X.suite a ((a, oe3) :: (X.pn ++ pins))) S3 hg hm hv q hnn hdbg
        refine test (LM.here ?_)
        cases b with
        | false => exact ih (hno rfl)
        | true =>
          refine codeAny_handlers_suite_as (HandSPX.lands_againZ fl3 fun h4 fl4 up4 => ?_)
          have J4 : Inv X pins σ' H' { s' with heap := h4 } := J.landed nb fl4.1 ((up.trans up3).trans up4) os ag
          obtain ⟨oe4, vs4, he4, hz4, hd4⟩ := fl4.there
          have S4 := J4.suite he4 hd4 na nL nF
          refine store_ok (X := X.suite a ((a, oe4) :: (X.pn ++ pins))) (v := .ref a) S4 hN hi (.inl hln) rfl (fun s5 S5 => ?_) (.inr hln)
          refine wpAny_mono ((hsu a oe4 cls d (X.pn ++ pins) hz4 ⟨_, hd4⟩).run [] s5 _ H' _ S5 (hyes rfl a na)) (fun f s6 hsp => ?_) (fun _ _ z => False.elim z)
          have end_ : ∀ {σ6 : L2.St} {H6 : Hp} {Q : Shared → Prop}, Inv (X.suite a ((a, oe4) :: (X.pn ++ pins))) [] σ6 H6 s6 → (∀ s7, Inv X pins (σ6.set i none) H6 s7 → Q s7) →
              wpAny (model X.prog X.w) X.A (do bindName X.env n .none; unbindBehindTheSuite X.env n pos') (fun _ s7 => Q s7) X.xe s6 := fun {σ6 H6 Q} S6 hq => gone_ok (S6.unsuite ok) hN hi hln hq
          cases f with
          | ret u =>
            obtain ⟨v6, σ6, H6, S6, r6, q6⟩ := hsp
            exact end_ S6 fun s7 J7 => ⟨_, _, _, J7, r6, q6⟩
          | next =>
            obtain ⟨σ6, H6, S6, q6⟩ := hsp
            exact end_ S6 fun s7 J7 => ⟨_, _, J7, q6⟩
          | brk =>
            obtain ⟨σ6, H6, S6, q6⟩ := hsp
            exact end_ S6 fun s7 J7 => ⟨_, _, J7, q6⟩
          | cont =>
            obtain ⟨σ6, H6, S6, q6⟩ := hsp
            exact end_ S6 fun s7 J7 => ⟨_, _, J7, q6⟩
    exact go hh w
  · cases f with
    | ret u =>
      obtain ⟨v, σ', H', J', r, q⟩ := hsp
      exact ⟨v, σ', H', J'.ofTry ok, r, q⟩
    | next =>
      obtain ⟨σ', H', J', q⟩ := hsp
      exact wpAny_execs_nil ⟨σ', H', J'.ofTry ok, q⟩
    | brk =>
      obtain ⟨σ', H', J', q⟩ := hsp
      exact ⟨σ', H', J'.ofTry ok, q⟩
    | cont =>
      obtain ⟨σ', H', J', q⟩ := hsp
      exact ⟨σ', H', J'.ofTry ok, q⟩
end
end TkS
set_option Elab.async false
set_option linter.all false
set_option maxRecDepth 100000
set_option maxHeartbeats 4000000
/-! the law's def at its caller alone, where it is known that nothing is being printed (repr asks for that) -/
namespace TkS
open PySem PySem.Spec PyProof.Rows L2
/-- a def's promise at the law's caller -/
def TopOk (P : Program) (w : World) (K : PySem.W.Frag) (mg : Str → Option Value) (base : Heap) (CX : CXT) (f : Addr) (fd : FuncData) (ps : List Str) (sp : Sp) : Prop :=
  ∀ (outer : List Env) (s : Shared) (H : Hp) (args : Args) (us : List Value) (vs : List V) (Q : VK) (E : XK), Env0 P w K mg base callerA outer s H → BindsTo s fd args (ps.zip us) → Vals vs us → sp vs H Q E →
    codeAny (model P w) callerA (.call (.ref f) args) (CR CX outer P w H s Q E) s
theorem room_top : Room 200 callerA := ⟨rfl, by decide, by decide⟩
theorem top_of {CX : CXT} {P : Program} {w : World} {K : PySem.W.Frag} {mg : Str → Option Value} {base : Heap} {f : Addr} {name qual : Str} {params : Arguments} {body : List Stmt} {scope : Scope} {dV kV doc pm cdv ct oc : Value} {an od : Option Addr}
    {osl : Array (Option Value)} {N ps : List Str} {sp : Sp} (lk : K.lookup f = some ⟨oc, od, .func (PySem.W.fnOf name qual params body scope dV kV doc pm an cdv ct), osl⟩) (hcd : PySem.W.codeIn K cdv qual = true) (S : FnScope N ps scope)
    (len : ∀ vs H Q E, sp vs H Q E → vs.length = ps.length)
    (hbody : ∀ (outer : List Env) (s : Shared) (H : Hp) (vs : List V) (Q : VK) (E : XK), Room 199 (callerA.deeper (envOfC qual scope s.heap.objs.size f cdv)) → sp vs H Q E →
      ∃ t, PSs (cxOf CX P w K mg base N qual scope f cdv callerA outer s H E) body t ∧ t { nx := fun _ H' => Q .non H', rt := Q } (start N vs) H) :
    TopOk P w K mg base CX f (PySem.W.fnOf name qual params body scope dV kV doc pm an cdv ct) ps sp := by
  intro outer s H args us vs Q E e0 hb r hsp
  have hr := room_top
  have hl := len _ _ _ _ hsp
  have KX : K.In s.heap := e0.mod.kin.keeps fun b o e => (e0.bs b o e).1
  have lim : s.heap.NoLimit := e0.mod.nolimit.keeps fun b o e => (e0.bs b o e).1
  have hkind : ∀ y ∈ ps.zip us, scope.names.lookup y.1 = some .local ∨ (scope.names.lookup y.1 = some .cell ∧ ((cellsFrom (s.heap.objs.size + 1) scope.names []).lookup y.1).isSome = true) := fun ⟨n, v⟩ hy => by
    rcases S.par n (List.of_mem_zip hy).1 with q | q
    · exact .inl q
    · exact .inr ⟨q, PySem.W.cellsFrom_some _ _ _ (.inl q)⟩
  refine codeAny_call_function hr.depth (KX _ _ lk) rfl S.co S.gen rfl (PySem.W.codeRec_of KX hcd) (hb _ _ _ _ ?_)
  refine wpAny_newFunctionEnv_cells S.kind hkind fun env he s1 x => ?_
  subst he
  refine ⟨lim.keeps x.toInCall.keep, codeAny_func ?_⟩
  obtain ⟨t, ht, hq⟩ := hbody outer s H vs Q E (hr.deeper _) hsp
  have I : Inv (cxOf CX P w K mg base N qual scope f cdv callerA outer s H E) [] (start N vs) H s1 := inv_start S hr.hd e0 hl r x
  refine wpAny_mono (ht.run [] s1 (start N vs) H _ I hq) (fun fl s' hs => ?_) fun e s' hs => hs
  have fin : ∀ {σ' : L2.St} {H' : Hp} {v : V} {u : Value}, Inv (cxOf CX P w K mg base N qual scope f cdv callerA outer s H E) [] σ' H' s' → RelV v u → Q v H' → CE outer P w H s Q u s' :=
    fun {σ' H' v u} J rv q => ⟨v, H', J.os, J.bare, J.base, J.hok, rv, q⟩
  cases fl with
  | ret u =>
    obtain ⟨v, σ', H', J, rv, q⟩ := hs
    exact fin J rv q
  | next =>
    obtain ⟨σ', H', J, q⟩ := hs
    exact fin (v := V.non) (u := Value.none) J rfl q
  | brk =>
    obtain ⟨_, _, _, q⟩ := hs
    exact False.elim q
  | cont =>
    obtain ⟨_, _, _, q⟩ := hs
    exact False.elim q
theorem top_call {P : Program} {w : World} {K : PySem.W.Frag} {mg mb : Str → Option Value} {CX : CXT} {fa a : Addr} {fd : FuncData} {x : Str} {sp : Sp} {s₁ : Shared} {vs : List Value} {ns : List Int}
    (KX : K.In s₁.heap) (hns : s₁.heap.Ns mainGlobals mg) (hb : s₁.heap.Ns builtinsNs mb) (hbb : ∀ x : Str, x ≠ "__name__" → mb x = bootBuiltins x) (hlim : s₁.heap.NoLimit) (hg : s₁.gens = #[])
    (ha : s₁.heap.get? a = some { cls := .type "list", data := .seq vs.toArray }) (hi : IntsAre vs ns) (hl : ns.length ≤ sizeLine)
    (F : ∀ base : Heap, K.In base → base.Ns mainGlobals mg → TopOk P w K mg base CX fa fd [x] sp) (hbind : ∀ (s : Shared) (u : Value), BindsTo s fd ⟨[u], []⟩ [(x, u)])
    (hsp : ∀ H : Hp, Only H → SqL K H a (ns.map V.int) → sp [.ref a] H (fun v _ => v = .bl true) fun _ _ _ => False)
    (hCX : ∀ H e s', CX [] H s₁ (fun _ _ _ => False) e s' → False) :
    codeAny (model P w) callerA (.call (.ref fa) ⟨[.ref a], []⟩) (fun r s' => r = .ok (.ret (.bool true)) ∧ OldK s₁.heap s'.heap ∧ s'.os = s₁.os ∧ AllBare s'.gens) s₁ := by
  have rv := vals_ints hi
  have lenV := hi.length
  -- from an abstract heap in which nothing but the script may be tracked
  have core : ∀ H : Hp, Only H → SqL K H a (ns.map V.int) → HOk P w H s₁.heap → (∀ b, H b ≠ none → b = a) → (H a ≠ none → K.lookup a = none) →
      codeAny (model P w) callerA (.call (.ref fa) ⟨[.ref a], []⟩) (fun r s' => r = .ok (.ret (.bool true)) ∧ OldK s₁.heap s'.heap ∧ s'.os = s₁.os ∧ AllBare s'.gens) s₁ := by
    intro H hO hS hok hA hK
    have base_of : ∀ {b : Addr} {o : Obj}, s₁.heap.get? b = some o → H b = none → (hidT s₁.heap H).get? b = some o := fun e n => hidT_get e n
    have noA : ∀ {b : Addr} {o : Obj} {es : Array DictEntry} {ep : Nat}, s₁.heap.get? b = some o → o.data = .dict es ep → H b = none := fun {b o es ep} e d => by
      cases q : H b with
      | none => rfl
      | some u =>
        have e' : b = a := hA b (by rw [q]; simp)
        subst e'
        rw [ha] at e; cases e
        have d' : Data.seq vs.toArray _ = Data.dict es ep := d
        cases d'
    have nsK : ∀ {b : Addr} {m : Str → Option Value}, s₁.heap.Ns b m → (hidT s₁.heap H).Ns b m := fun {b m} ⟨o, es, ep, e, d, r⟩ => ⟨o, es, ep, base_of e (noA e d), d, r⟩
    have hKb : K.In (hidT s₁.heap H) := fun b o e => base_of (KX b o e) (by
      cases q : H b with
      | none => rfl
      | some u =>
        have e' : b = a := hA b (by rw [q]; simp)
        subst e'
        rw [hK (by rw [q]; simp)] at e; cases e)
    have hM : Mod K mg (hidT s₁.heap H) := ⟨hKb, nsK hns, ⟨mb, nsK hb, hbb⟩, let ⟨mc, h1, h2⟩ := hlim; ⟨mc, nsK h1, h2⟩⟩
    have e0 : Env0 P w K mg (hidT s₁.heap H) callerA [] s₁ H := ⟨rfl, hM, fun b o e => of_hidT e, Nat.le_of_eq (hidT_size _ _), trivial, fun b hb => absurd (show b ∈ ([] : List Addr) from hb) (by simp), hok, .of_eq hg⟩
    refine codeAny_mono (F _ hKb (nsK hns) [] s₁ H ⟨[.ref a], []⟩ [.ref a] [.ref a] _ _ e0 (hbind s₁ (.ref a)) (.cons rfl .nil) (hsp H hO hS)) fun r s' h => ?_
    cases r with
    | error e => exact (hCX H e s' h).elim
    | ok fl =>
      cases fl with
      | next => exact False.elim h
      | brk => exact False.elim h
      | cont => exact False.elim h
      | ret u =>
        obtain ⟨v, H', os, bare, un, hok', r', q⟩ := h
        have q' : v = .bl true := q
        subst q'
        obtain rfl : u = Value.bool true := r'
        refine ⟨rfl, OldK.of_keep fun b o e => ?_, os, bare⟩
        cases q : H b with
        | none => exact un.keep b o e q (by intro z; exact absurd (show b ∈ ([] : List Addr) from z) (by simp)) (by simp)
        | some u =>
          rcases hO b with z | ⟨ob, xs, z⟩
          · rw [q] at z; cases z
          · have z2 := un.frzs b ob _ z
            obtain ⟨e1, _⟩ := hok b _ z
            obtain ⟨e2, _⟩ := hok' b _ z2
            rw [e] at e1; cases e1
            exact e2
  cases hk : K.lookup a with
  | some o =>
    -- the script is one of the module's own objects
    have e := KX a o hk
    rw [ha] at e
    cases e
    refine core (fun _ => none) (fun _ => .inl rfl) (.inr ⟨_, vs.toArray, _, hk, rfl, rfl, rfl, by rw [List.size_toArray, lenV]; exact hl, by simpa using rv⟩) (fun b u z => by have z' : (none : Option HO) = some u := z; cases z') (fun b z => absurd rfl z) fun z => absurd rfl z
  | none =>
    refine core (fun b => if b = a then some (.frz { cls := .type "list", data := .seq vs.toArray } (.lst (ns.map V.int))) else none) (fun b => ?_) (.inl (.inr ⟨{ cls := .type "list", data := .seq vs.toArray }, if_pos rfl⟩)) (fun b u z => ?_) (fun b z => ?_) fun _ => hk
    · by_cases hb : b = a
      · exact .inr ⟨_, _, if_pos hb⟩
      · exact .inl (if_neg hb)
    · by_cases hb : b = a
      · have z' := (if_pos hb).symm.trans z
        cases z'
        subst hb
        exact ⟨ha, by rw [List.length_map]; exact hl, vs, _, rv, ha⟩
      · have z' := (if_neg hb).symm.trans z
        cases z'
    · by_cases hb : b = a
      · exact hb
      · exact absurd (if_neg hb) z
theorem walk_top {l : PySem.W.OpenLaw} {n : Nat} {q : Program} {loose : List Str} {XP : (Str → Option Value) → Heap → Prop} {YP : World → Heap → Prop} {d : DefRec} {K : Params → PySem.W.Frag} {CX : World → CXT} {sp : World → Sp} {x : Str}
    (hn : l.most = some n) (hn2 : n ≤ sizeLine) (hdf : d.params.defaults = [])
    (hY : ∀ (w : World) (h : Heap), YP w h → (K w.params).In h)
    (F : ∀ (w : World) (mg : Str → Option Value) (fa : Addr) (h : Heap), (K w.params).In h → h.Ns mainGlobals mg → mg d.name = some (.ref fa) →
      ∃ fd : FuncData, (∀ (s : Shared) (u : Value), BindsTo s fd ⟨[u], []⟩ [(x, u)]) ∧
        ∀ base : Heap, (K w.params).In base → base.Ns mainGlobals mg → TopOk l.prog w (K w.params) mg base (CX w) fa fd [x] (sp w))
    (hsp : ∀ (w : World) (H : Hp) (a : Addr) (ns : List Int), ns.length ≤ n → Only H → SqL (K w.params) H a (ns.map V.int) → sp w [.ref a] H (fun v _ => v = .bl true) fun _ _ _ => False)
    (hCX : ∀ (w : World) (H : Hp) (s : Shared) (e : Value) (s' : Shared), CX w [] H s (fun _ _ _ => False) e s' → False) :
    PySem.W.WalkO q loose XP YP l.row.toRowW d [] (fun f vs => PySem.call f vs) := by
  refine Att.attach_call hn hdf fun w s₀ s₁ mg mb fa o pm cd doc a vs ns G Y ho hd hcd hmg hobj hints hlen hg => ?_
  have KX := hY w _ Y
  obtain ⟨fd, hb, hF⟩ := F w mg fa _ KX G.T.g hmg
  exact top_call KX G.T.g G.T.b G.T.builtins G.T.nolimit hg hobj hints (Nat.le_trans hlen hn2) hF hb (fun H hO hS => hsp w H a ns hlen hO hS) fun H e s' => hCX w H s₁ e s'
end TkS
set_option Elab.async false
set_option linter.all false
set_option maxRecDepth 100000
set_option maxHeartbeats 4000000
/-! list(reversed(xs)), xs a list -/
namespace TkS
open PySem PySem.Spec PyProof.Rows L2
section
variable {prog : Program} {w : World} {A : Around} {E : Value → Shared → Prop} {s : Shared} {R : Result → Shared → Prop}
theorem extend_rev {it l S : Addr} {items : Array Value} {res : Value} {c₀ : Nat} (hh : A.in1.handled = none) (hit : s.heap.IsRevIter it l ((items.size : Int) - 1)) (hl : s.heap.IsList l items) (hne : l ≠ it) (hn : items.size ≤ sizeLine) (hSi : S ≠ it) (hSl : S ≠ l)
    (hS : s.heap.get? S = some { cls := .type "list", data := .seq #[] c₀ })
    (hR : ∀ (s' : Shared) (acc' : Array Value) (c' : Nat), Moved (S :: [it]) (fun a b => b = a) s s' → s'.heap.get? S = some { cls := .type "list", dict := none, data := .seq acc' c', slots := #[] } → ItemsOf (fun i v => items[items.size - 1 - i]? = some v) acc' items.size → R (.ok (.ret res)) s') :
    wpAny (model prog w) A.in1 (Builtin.List.listExtendWith (.ref S) (.ref it) res)
      (fun fin s' => match fin with | .done f => R (.ok f) s' | .again c' => c'.quiet = true ∧ codeAny (model prog w) A c' R s') (fun e s' => R (.error e) s') s := by
  have W := (Walks.listRev (prog := prog) (w := w) (A := A.in1) hh it l hne items).toS
  have hSf : S ∉ [it, l] := by simp only [List.mem_cons, List.not_mem_nil, or_false, not_or]; exact ⟨hSi, hSl⟩
  have hT : s.TypeIs (.ref it) "list_reverseiterator" := hit.typeIs
  have h1 : Builtin.List.listSameRef (.ref S) (.ref it) = false := by simp [Builtin.List.listSameRef, hSi]
  unfold Builtin.List.listExtendWith
  refine wpAny_bind (wpAny_typeOf hT ?_)
  rw [if_neg (by rw [h1]; decide)]
  refine wpAny_bind (wpAny_pyIter_revIter hit ?_)
  refine wpAny_bind (wpAny_holding ?_)
  unfold Builtin.List.listLengthHint
  refine wpAny_bind (wpAny_specialOf hT RT.nolen_lri ?_)
  show wpAny _ A.in1 (specialOf (Value.ref it) (Str.ofString "__length_hint__") >>= _) _ _ _
  refine wpAny_bind (wpAny_specialOf hT RT.hint_lri ?_)
  generalize hid : ("list_reverseiterator.__length_hint__" : String) = id0
  wp_delta
  rw [show splitId id0 = some ("list_reverseiterator", "__length_hint__") from by subst hid; decide +kernel]
  subst hid
  refine wpAny_bind (wpAny_isInstance (b := true) hT (by rw [isSubtype_type]; kernel_rfl) ?_)
  refine wpAny_pure ?_
  rw [if_neg (by decide)]
  have e0 : ((items.size : Nat) : Int) - 1 - ((0 : Nat) : Int) = (items.size : Int) - 1 := by omega
  exact wpAny_pure ⟨plainId_quiet F.plain_extend_loop _, codeAny_extend_loopS W hn _ hSf _ items.size 0 _ _ _ rfl (Nat.zero_le _) ⟨Nat.zero_le _, by rw [e0]; exact hit, hl⟩ hS (ItemsOf.nil _) fun s' acc' c' hm hS' hacc => hR s' acc' c' hm hS' hacc⟩
theorem list_init_rev {it l S : Addr} {items : Array Value} (hh : A.in1.handled = none) (hit : s.heap.IsRevIter it l ((items.size : Int) - 1)) (hl : s.heap.IsList l items) (hne : l ≠ it) (hn : items.size ≤ sizeLine) (hSi : S ≠ it) (hSl : S ≠ l)
    (hS : s.heap.get? S = some { cls := .type "list", data := .seq #[] })
    (hR : ∀ (s' : Shared) (acc' : Array Value) (c' : Nat), (∀ b o, b ≠ S → b ≠ it → s.heap.get? b = some o → s'.heap.get? b = some o) → s' = { s with heap := s'.heap, toks := s'.toks } → s'.heap.get? S = some { cls := .type "list", dict := none, data := .seq acc' c', slots := #[] } → ItemsOf (fun i v => items[items.size - 1 - i]? = some v) acc' items.size → R (.ok (.ret .none)) s') :
    wpAny (model prog w) A.in1 (Builtin.«list.__init__» ⟨[.ref S, .ref it], []⟩)
      (fun fin s' => match fin with | .done f => R (.ok f) s' | .again c' => c'.quiet = true ∧ codeAny (model prog w) A c' R s') (fun e s' => R (.error e) s') s := by
  show wpAny _ A.in1 (do let old ← Builtin.List.listItems (.ref S); Builtin.List.listUpdate (.ref S) (fun _ => #[]); letGo old.toList.reverse; Builtin.List.listExtendWith (.ref S) (.ref it) .none) _ _ s
  refine wpAny_bind ?_
  unfold Builtin.List.listItems
  refine wpAny_bind (wpAny_seqItems hS rfl (wpAny_pure ?_))
  show wpAny _ A.in1 (updateSeq S (fun _ => #[]) >>= fun _ => letGo (#[] : Array Value).toList.reverse >>= fun _ => Builtin.List.listExtendWith (.ref S) (.ref it) .none) _ _ s
  refine wpAny_bind (wpAny_updateSeq hS rfl ?_)
  have hS₂ := Heap.get?_update_self (Obj.mapSeq (fun _ => (#[] : Array Value))) hS rfl
  have oth : ∀ b o, b ≠ S → s.heap.get? b = some o → (s.heap.update S (Obj.mapSeq (fun _ => (#[] : Array Value)))).get? b = some o :=
    fun b o hb e => (Heap.get?_update_other _ _ (Ne.symm hb)).trans e
  refine wpAny_bind (wpAny_letGo ?_)
  have hl' := hl
  obtain ⟨ol, hol, hlc, nl, hld⟩ := hl'
  refine extend_rev hh (hit.at fun o e => oth it o (Ne.symm hSi) e) ⟨ol, oth l _ (Ne.symm hSl) hol, hlc, nl, hld⟩ hne hn hSi hSl hS₂ fun s' acc' c' hm hS' hacc => ?_
  refine hR s' acc' c' (fun b o h1 h2 e => hm.heap b o (by simp [h1, h2]) (oth b o h1 e)) ?_ hS' hacc
  have := Moved.eq_with hm
  exact this
theorem call_list_rev {it l : Addr} {items : Array Value} {Q : Value → Shared → Prop} (hh : A.handled = none) (hit : s.heap.IsRevIter it l ((items.size : Int) - 1)) (hl : s.heap.IsList l items) (hne : l ≠ it) (hn : items.size ≤ sizeLine)
    (hQ : ∀ (h' : Heap) (tk : Nat) (acc : Array Value) (c' : Nat), (∀ b o, b ≠ it → s.heap.get? b = some o → h'.get? b = some o) → h'.get? s.heap.objs.size = some { cls := .type "list", dict := none, data := .seq acc c', slots := #[] } →
      ItemsOf (fun i v => items[items.size - 1 - i]? = some v) acc items.size → Q (.ref s.heap.objs.size) { s with heap := h', toks := tk }) :
    wpAny (model prog w) A (call (.type "list") [.ref it]) Q E s := by
  refine callType_codes (Q₁ := fun obj s₁ => obj = .ref s.heap.objs.size ∧ s₁ = { s with heap := s.heap.push { cls := .type "list", data := .seq #[] } }) F.called_list (F.typeCall_list_1 _) F.entry_list_init
    (code_list_new _ ⟨rfl, rfl⟩) fun obj s₁ h₁ => ?_
  obtain ⟨rfl, rfl⟩ := h₁
  have hS : (s.heap.push { cls := .type "list", data := .seq #[] }).get? s.heap.objs.size = some { cls := .type "list", data := .seq #[] } := Heap.get?_push_size _ rfl
  obtain ⟨oi, hoi, _⟩ := id hit
  obtain ⟨ol, hol, _⟩ := id hl
  refine ⟨⟨_, hS, rfl⟩, F.args_list_init_2 _ _, list_init_rev (A := A.in1) hh (hit.at fun o e => Heap.get?_push_of_some _ e) (hl.push _) hne hn (Nat.ne_of_gt (Heap.lt_size hoi)) (Nat.ne_of_gt (Heap.lt_size hol)) hS fun s' acc' c' k e hS' hacc => ?_⟩
  rw [e]
  exact ⟨rfl, hQ s'.heap s'.toks acc' c' (fun b o hb eo => k b o (Nat.ne_of_lt (Heap.lt_size eo)) hb (Heap.get?_push_of_some _ eo)) hS' hacc⟩
end
def tLstRev (K : PySem.W.Frag) (te : TE) : TE := fun σ H Q => te σ H fun v H1 => ∃ (a : Addr) (xs : List V), v = .ref a ∧ SqL K H1 a xs ∧ ∀ q, H1 q = none → Q (.ref q) (upd H1 q (.lst xs.reverse))
section
variable {X : Cx}
theorem pe_lstRev {e : Expr} {te : TE} {p p2 pos pos2 : Pos} (hc : X.calm = true) (hg : Gl X "list") (hm : X.mg "list" = none) (hg2 : Gl X "reversed") (hm2 : X.mg "reversed" = none) (he : PE X e te)
    (hs : starEach [e] X.env = (false, eval e X.env) :: starEach [] X.env := by rfl)
    (hs2 : starEach [.Call (.Name "reversed" p2) [e] [] pos2] X.env = (false, eval (.Call (.Name "reversed" p2) [e] [] pos2) X.env) :: starEach [] X.env := by rfl) :
    PE X (.Call (.Name "list" p) [.Call (.Name "reversed" p2) [e] [] pos2] [] pos) (tLstRev X.K te) := by
  refine ⟨fun pins s σ H Q I h => ?_⟩
  refine Call_ (ld_blt I hg hm boot_list (PyProof.Rows.callWith_type1 (args_cons (Call_ (ld_blt I hg2 hm2 PyProof.Rows.boot_reversed (PyProof.Rows.callWith_type1 (args_cons (thn (he.run pins s σ H _ I h) fun u s1 ⟨v, H1, I1, r1, q1⟩ => args_nil ?_) hs) hs rfl))) hs2) hs2 rfl))
  obtain ⟨a, xs, ev, hq, q⟩ := q1
  subst ev
  obtain rfl : u = Value.ref a := r1
  obtain ⟨its, rv, p', hz⟩ := I1.list hq
  refine call_reversed_list p'.isList (args_nil ?_)
  have k0 : ∀ b o, s1.heap.get? b = some o → (s1.heap.push (revObj a ((its.toArray.size : Int) - 1))).get? b = some o := fun b o e => Heap.get?_push_of_some _ e
  have I2 : Inv X pins σ H1 { s1 with heap := s1.heap.push (revObj a ((its.toArray.size : Int) - 1)) } := I1.kept (t' := s1.toks) k0
  obtain ⟨f0, f1, f2, f3, f4, f5⟩ := I1.fpOk (H' := H1) (b := s1.heap.objs.size) (Nat.le_refl _) (I1.hok.fresh (Nat.le_refl _))
  have hl := p'.isList
  obtain ⟨ol, hol, _⟩ := id hl
  have hn : its.toArray.size ≤ sizeLine := by rw [List.size_toArray, ← rv.length]; exact hz
  refine call_list_rev (s := { s1 with heap := s1.heap.push (revObj a ((its.toArray.size : Int) - 1)) }) (I1.ok.hd hc) ⟨_, Heap.get?_push_size _ rfl, rfl, rfl⟩ (hl.push _) (Nat.ne_of_lt (Heap.lt_size hol)) hn fun h' tk acc c' hk e' hi => ?_
  have hsz : (s1.heap.push (revObj a ((its.toArray.size : Int) - 1))).objs.size = s1.heap.objs.size + 1 := Heap.size_push ..
  rw [hsz] at e' ⊢
  refine ⟨.ref (s1.heap.objs.size + 1), upd H1 (s1.heap.objs.size + 1) (.lst xs.reverse), I1.laid (t' := tk) (fun b o e => hk b o (Nat.ne_of_lt (Heap.lt_size e)) (k0 b o e)) (Nat.le_succ _) (show ObjOk X.prog X.w _ _ _ (.lst xs.reverse) from ⟨by rw [List.length_reverse]; exact hz, acc.toList, c', RT.vals_rev rv hi, ?_⟩), rfl, q _ (I1.hok.fresh (Nat.le_succ _))⟩
  rw [Array.toArray_toList]
  exact e'
end
end TkS
set_option Elab.async false
set_option linter.all false
set_option maxRecDepth 100000
set_option maxHeartbeats 4000000
/-! how long a shown list of pairs of small numbers is -/
namespace TkS
open PySem PySem.Spec PyProof.Rows L2
theorem small_pair {a b : Int} (a0 : 0 ≤ a) (a1 : a < 5) (b0 : 0 ≤ b) (b1 : b < 5) :
    (PyData.shown (.tuple [.int a, .int b])).length ≤ 10 ∧ (PyData.shown (.list [.int a, .int b])).length ≤ 10 ∧ PyData.showable (.tuple [.int a, .int b]) = true ∧ PyData.showable (.list [.int a, .int b]) = true := by
  have ha : a = 0 ∨ a = 1 ∨ a = 2 ∨ a = 3 ∨ a = 4 := by omega
  have hb : b = 0 ∨ b = 1 ∨ b = 2 ∨ b = 3 ∨ b = 4 := by omega
  rcases ha with rfl | rfl | rfl | rfl | rfl <;> rcases hb with rfl | rfl | rfl | rfl | rfl <;> decide +kernel
theorem textFrom_le (n : Nat) : ∀ (ts : List Str) (k : Nat) (acc : Str), (∀ t ∈ ts, t.length ≤ n) → (textFrom k acc ts).length ≤ acc.length + ts.length * (n + 2)
  | [], _, acc, _ => by
    show acc.length ≤ acc.length + _
    omega
  | t :: r, k, acc, h => by
    have ih := textFrom_le n r (k + 1) (acc ++ (if k > 0 then ", " else "" : String) ++ t) fun u m => h u (List.mem_cons_of_mem _ m)
    have e : (acc ++ (if k > 0 then ", " else "" : String) ++ t).length = acc.length + (if k > 0 then 2 else 0) + t.length := by
      rw [strLen_append, strLen_append]
      split <;> rfl
    have ht := h t List.mem_cons_self
    have e3 : (t :: r).length * (n + 2) = r.length * (n + 2) + (n + 2) := by
      rw [List.length_cons, Nat.succ_mul]
    rw [e] at ih
    show (textFrom (k + 1) _ r).length ≤ _
    rw [e3]
    have hb : (if k > 0 then 2 else 0 : Nat) ≤ 2 := by split <;> omega
    omega
def SmallPair (d : PyData) : Prop := ∃ a b : Int, 0 ≤ a ∧ a < 5 ∧ 0 ≤ b ∧ b < 5 ∧ (d = .tuple [.int a, .int b] ∨ d = .list [.int a, .int b])
theorem small_show {d : PyData} (h : SmallPair d) : d.shown.length ≤ 10 ∧ d.showable = true ∧ d.hasDict = false ∧ d.depth ≤ 1 := by
  obtain ⟨a, b, a0, a1, b0, b1, rfl | rfl⟩ := h
  · obtain ⟨h1, _, h3, _⟩ := small_pair a0 a1 b0 b1
    exact ⟨h1, h3, by simp [PyData.hasDict, PyData.hasDictAll], by simp [PyData.depth, PyData.depthAll]⟩
  · obtain ⟨_, h2, _, h4⟩ := small_pair a0 a1 b0 b1
    exact ⟨h2, h4, by simp [PyData.hasDict, PyData.hasDictAll], by simp [PyData.depth, PyData.depthAll]⟩
theorem shown_pairs {ds : List PyData} (h : ∀ d ∈ ds, SmallPair d) (hl : ds.length ≤ 30) : (PyData.list ds).showable = true ∧ (PyData.list ds).hasDict = false ∧ (PyData.list ds).depth ≤ 60 ∧ (PyData.list ds).shown.length ≤ sizeLine := by
  have key : PyData.showableAll ds = true ∧ PyData.hasDictAll ds = false ∧ PyData.depthAll ds ≤ 1 ∧ (∀ t ∈ PyData.shownAll ds, t.length ≤ 10) ∧ (PyData.shownAll ds).length = ds.length := by
    clear hl
    induction ds with
    | nil => exact ⟨by simp [PyData.showableAll], by simp [PyData.hasDictAll], by simp [PyData.depthAll], by simp [PyData.shownAll], by simp [PyData.shownAll]⟩
    | cons d ds ih =>
      obtain ⟨i1, i2, i3, i4, i5⟩ := ih fun x m => h x (List.mem_cons_of_mem _ m)
      obtain ⟨s1, s2, s3, s4⟩ := small_show (h d List.mem_cons_self)
      refine ⟨by simp [PyData.showableAll, s2, i1], by simp [PyData.hasDictAll, s3, i2], by simp only [PyData.depthAll]; omega, fun t m => ?_, by simp [PyData.shownAll, i5]⟩
      rw [PyData.shownAll] at m
      rcases List.mem_cons.mp m with e | e
      · rw [e]
        exact s1
      · exact i4 t e
  obtain ⟨k1, k2, k3, k4, k5⟩ := key
  refine ⟨by simp [PyData.showable, k1], by simp [PyData.hasDict, k2], by simp only [PyData.depth]; omega, ?_⟩
  have e := textFrom_le 10 (PyData.shownAll ds) 0 "[" k4
  rw [k5] at e
  have e1 : (PyData.list ds).shown = textFrom 0 "[" (PyData.shownAll ds) ++ "]" := by
    simp only [PyData.shown, listText]
  rw [e1, strLen_append]
  have e2 : (("[" : Str)).length = 1 := rfl
  have e3 : (("]" : Str)).length = 1 := rfl
  rw [e2] at e
  rw [e3]
  have : 1000 ≤ sizeLine := by decide
  omega
end TkS
set_option Elab.async false
set_option linter.all false
set_option maxRecDepth 100000
set_option maxHeartbeats 4000000
/-! comprehensions over a list that is made on the way, and over zip -/
namespace TkS
open PySem PySem.Spec PyProof.Rows L2
theorem lc_listD {K : PySem.W.Frag} {a : Addr} {xs : List V} {ds : List PyData} {tt : TT} {te : TE} {vs : List Nat} {σ : L2.St} {H : Hp} {D : Addr} {Qd : Hp → Prop} {j : Nat} (f : PyData → Bool) (e : PyData → PyData)
    (hq : SqL K H a xs) (hx : DqAll H xs ds) (nD : H D = none) (hl : ds.length ≤ 900) (hw : ∀ x : V, wipe ((wipe σ vs).set j (some x)) vs = wipe σ vs)
    (ht : ∀ (i : Nat) (x : V) (d : PyData) (H' : Hp) (Q : Bool → Hp → Prop), ds[i]? = some d → Same H H' → Dq H' x d → (∀ H'', Same H' H'' → Q (f d) H'') → tt ((wipe σ vs).set j (some x)) H' Q)
    (he : ∀ (i : Nat) (x : V) (d : PyData) (H' : Hp) (Q : VK), ds[i]? = some d → f d = true → Same H H' → Dq H' x d → (∃ acc, H' D = some (.lst acc)) → (∀ y H'', Same H' H'' → Dq (TkS.Off D H'') y (e d) → Q y H'') → te ((wipe σ vs).set j (some x)) H' Q)
    (hd : ∀ H', Same H H' → Dq H' (.ref D) (.list ((ds.filter f).map e)) → Qd H') :
    ∃ W : Nat → Nat → Hp → Prop, (∃ m, W 0 m (upd H D (.lst []))) ∧ ∀ i m H, W i m H →
      ((Itl K a).stop i H ∧ Qd H) ∨ ((Itl K a).go i H ∧ ∃ Nx : Hp → Prop, (∀ H', Nx H' → ∃ m', m' < m ∧ W (i + 1) m' H') ∧ ∀ x H', (Itl K a).yld i H x H' → gName j x (wipe σ vs) H' fun σ2 H2 => wipe σ2 vs = wipe σ vs ∧ tt σ2 H2 fun b H3 =>
        if b = true then te σ2 H3 fun y H4 => ∃ acc, H4 D = some (.lst acc) ∧ acc.length < sizeLine ∧ Nx (upd H4 D (.lst (acc ++ [y]))) else Nx H3) := by
  refine lc_list (xs := xs) (fun i H' => Acc H D (((ds.take i).filter f).map e) H') (Acc.nil nD) (fun i H' _ hP => hP.1.seq hq) (fun i x H' hxi hP => ?_) (fun H' hP => ?_)
  · obtain ⟨d, hdi, kd⟩ := hx.get hxi
    have kd1 := kd.same hP.1
    refine ⟨hw _, ht i x d H' _ hdi hP.1 kd1 fun H2 s2 => ?_⟩
    have hP2 := hP.mv s2
    cases c : f d with
    | true =>
      refine he i x d H2 _ hdi c hP2.1 (kd1.same s2) ⟨_, hP2.2.choose_spec.1⟩ fun y H3 s3 k => ?_
      rw [filter_snoc _ _ hdi, if_pos c]
      refine hP2.put nD ?_ s3 k
      have := len_ft f e (ds.take i)
      rw [List.length_take] at this
      omega
    | false =>
      show Acc _ _ _ _
      rw [filter_snoc _ _ hdi, c, if_neg Bool.false_ne_true]
      exact hP2
  · rw [hx.len, List.take_length] at hP
    exact hd H' hP.1 hP.dq
theorem lc_zipS {t1 t2 : Bool} {K : PySem.W.Frag} {a b : Addr} {xs ys : List V} {g : TG} {tt : TT} {te : TE} {vs : List Nat} {σ : L2.St} {H1 : Hp} {D : Addr} {Qd : Hp → Prop} (hl : xs.length = ys.length) (Pv : Nat → Hp → Prop) (h0 : Pv 0 (upd H1 D (.lst []))) (hq : ∀ i H, Pv i H → RZM.SqS t1 K H a xs ∧ RZM.SqS t2 K H b ys)
    (hs : ∀ (i : Nat) (x y : V) (T : Addr) (H : Hp), xs[i]? = some x → ys[i]? = some y → Pv i H → H T = none → g (.ref T) (wipe σ vs) (upd H T (.tup [x, y])) fun σ2 H2 => wipe σ2 vs = wipe σ vs ∧ tt σ2 H2 fun b H3 =>
      if b = true then te σ2 H3 fun y H4 => ∃ acc, H4 D = some (.lst acc) ∧ acc.length < sizeLine ∧ Pv (i + 1) (upd H4 D (.lst (acc ++ [y]))) else Pv (i + 1) H3) (hd : ∀ H, Pv xs.length H → Qd H) :
    ∃ W : Nat → Nat → Hp → Prop, (∃ m, W 0 m (upd H1 D (.lst []))) ∧ ∀ i m H, W i m H →
      ((RZM.ItzS t1 t2 K a b).stop i H ∧ Qd H) ∨ ((RZM.ItzS t1 t2 K a b).go i H ∧ ∃ Nx : Hp → Prop, (∀ H', Nx H' → ∃ m', m' < m ∧ W (i + 1) m' H') ∧ ∀ x H', (RZM.ItzS t1 t2 K a b).yld i H x H' → g x (wipe σ vs) H' fun σ2 H2 => wipe σ2 vs = wipe σ vs ∧ tt σ2 H2 fun b H3 =>
        if b = true then te σ2 H3 fun y H4 => ∃ acc, H4 D = some (.lst acc) ∧ acc.length < sizeLine ∧ Nx (upd H4 D (.lst (acc ++ [y]))) else Nx H3) := by
  refine ⟨fun i m H => m = xs.length - i ∧ i ≤ xs.length ∧ Pv i H, ⟨xs.length, rfl, Nat.zero_le _, h0⟩, ?_⟩
  rintro i m H ⟨rfl, hi, p⟩
  obtain ⟨qx, qy⟩ := hq i H p
  rcases Nat.lt_or_ge i xs.length with hlt | hge
  · refine .inr ⟨⟨xs, ys, _, _, qx, qy, List.getElem?_eq_getElem hlt, List.getElem?_eq_getElem (by omega)⟩, Pv (i + 1), fun H' p' => ⟨xs.length - (i + 1), by omega, rfl, hlt, p'⟩, fun v H' y => ?_⟩
    obtain ⟨T, x', y', rfl, hT, rfl, f1, f2⟩ := y
    exact hs i x' y' T H (f1 xs qx) (f2 ys qy) p hT
  · have e : i = xs.length := by omega
    subst e
    exact .inl ⟨⟨xs, ys, qx, qy, Or.inl (Nat.le_refl _)⟩, hd H p⟩
end TkS
set_option Elab.async false
set_option linter.all false
set_option maxRecDepth 100000
set_option maxHeartbeats 4000000
set_option exponentiation.threshold 5000
namespace K00
open PySem PySem.Spec PyProof.Rows L2 TkS
/-! the text -/
def topS (i : Nat) : Stmt := PySem.Challenge.pw_sheetproofs_k00_whole_pictures_pieces_an.main.body.getD i (.Pass ⟨0, 0, 0, 0⟩)
abbrev s_BadPicture_init : Stmt := inClass (topS 2) 0
theorem sc_BadPicture_init : FnScope ["self", "what"] ["self", "what"] (defScope s_BadPicture_init) := ⟨rfl, rfl, rfl, by decide +kernel, rfl, by decide +kernel, by decide +kernel⟩
abbrev s_NotOpen_init : Stmt := inClass (topS 3) 0
theorem sc_NotOpen_init : FnScope ["self", "pair"] ["self", "pair"] (defScope s_NotOpen_init) := ⟨rfl, rfl, rfl, by decide +kernel, rfl, by decide +kernel, by decide +kernel⟩
abbrev s_is_whole : Stmt := topS 5
theorem sc_is_whole : FnScope ["thing", "low", "high"] ["thing", "low", "high"] (defScope s_is_whole) := ⟨rfl, rfl, rfl, by decide +kernel, rfl, by decide +kernel, by decide +kernel⟩
abbrev s_is_sequence : Stmt := topS 7
theorem sc_is_sequence : FnScope ["thing", "length"] ["thing", "length"] (defScope s_is_sequence) := ⟨rfl, rfl, rfl, by decide +kernel, rfl, by decide +kernel, by decide +kernel⟩
abbrev s_full_picture : Stmt := topS 10
theorem sc_full_picture : FnScope ["points", "walls", "bare", "pairs", "point", "wall"] ["points", "walls"] (defScope s_full_picture) := ⟨rfl, rfl, rfl, by decide +kernel, rfl, by decide +kernel, by decide +kernel⟩
abbrev s_merged_labels : Stmt := topS 11
theorem sc_merged_labels : FnScope ["labels", "one", "other", "least", "label"] ["labels", "one", "other"] (defScope s_merged_labels) := ⟨rfl, rfl, rfl, by decide +kernel, rfl, by decide +kernel, by decide +kernel⟩
abbrev s_piece_labels : Stmt := topS 12
theorem sc_piece_labels : FnScope ["points", "walls", "pairs", "labels", "point", "wall"] ["points", "walls", "pairs"] (defScope s_piece_labels) := ⟨rfl, rfl, rfl, by decide +kernel, rfl, by decide +kernel, by decide +kernel⟩
abbrev s_pieces_by_labels : Stmt := topS 13
theorem sc_pieces_by_labels : FnScope ["points", "labels", "pieces", "label", "corners", "inside", "corner"] ["points", "labels"] (defScope s_pieces_by_labels) := ⟨rfl, rfl, rfl, by decide +kernel, rfl, by decide +kernel, by decide +kernel⟩
abbrev s_Picture_init : Stmt := inClass (topS 14) 0
theorem sc_Picture_init : FnScope ["self", "points", "walls", "pairs", "pair", "kept", "at"] ["self", "points", "walls", "pairs"] (defScope s_Picture_init) := ⟨rfl, rfl, rfl, by decide +kernel, rfl, by decide +kernel, by decide +kernel⟩
abbrev s_Picture_eq : Stmt := inClass (topS 14) 1
theorem sc_Picture_eq : FnScope ["self", "other"] ["self", "other"] (defScope s_Picture_eq) := ⟨rfl, rfl, rfl, by decide +kernel, rfl, by decide +kernel, by decide +kernel⟩
abbrev s_Picture_len : Stmt := inClass (topS 14) 2
theorem sc_Picture_len : FnScope ["self"] ["self"] (defScope s_Picture_len) := ⟨rfl, rfl, rfl, by decide +kernel, rfl, by decide +kernel, by decide +kernel⟩
abbrev s_Picture_pieces : Stmt := inClass (topS 14) 3
theorem sc_Picture_pieces : FnScope ["self"] ["self"] (defScope s_Picture_pieces) := ⟨rfl, rfl, rfl, by decide +kernel, rfl, by decide +kernel, by decide +kernel⟩
abbrev s_Pictureis_pair : Stmt := inClass (topS 14) 4
theorem sc_Pictureis_pair : FnScope ["self", "thing"] ["self", "thing"] (defScope s_Pictureis_pair) := ⟨rfl, rfl, rfl, by decide +kernel, rfl, by decide +kernel, by decide +kernel⟩
abbrev s_Picture_place_of : Stmt := inClass (topS 14) 5
theorem sc_Picture_place_of : FnScope ["self", "pair"] ["self", "pair"] (defScope s_Picture_place_of) := ⟨rfl, rfl, rfl, by decide +kernel, rfl, by decide +kernel, by decide +kernel⟩
abbrev s_Picture_is_open : Stmt := inClass (topS 14) 6
theorem sc_Picture_is_open : FnScope ["self", "pair"] ["self", "pair"] (defScope s_Picture_is_open) := ⟨rfl, rfl, rfl, by decide +kernel, rfl, by decide +kernel, by decide +kernel⟩
abbrev s_Picture_with_pair : Stmt := inClass (topS 14) 7
theorem sc_Picture_with_pair : FnScope ["self", "pair"] ["self", "pair"] (defScope s_Picture_with_pair) := ⟨rfl, rfl, rfl, by decide +kernel, rfl, by decide +kernel, by decide +kernel⟩
abbrev s_Picture_without_pair : Stmt := inClass (topS 14) 8
theorem sc_Picture_without_pair : FnScope ["self", "pair", "place"] ["self", "pair"] (defScope s_Picture_without_pair) := ⟨rfl, rfl, rfl, by decide +kernel, rfl, by decide +kernel, by decide +kernel⟩
abbrev s_law_hand : Stmt := topS 16
theorem sc_law_hand : FnScope ["_law_script", "_law_total", "_law_cells", "_law_cell"] ["_law_script"] (defScope s_law_hand) := ⟨rfl, rfl, rfl, by decide +kernel, rfl, by decide +kernel, by decide +kernel⟩
abbrev s_law_mixed : Stmt := topS 17
theorem sc_law_mixed : FnScope ["_law_number", "_law_turn", "_law_once", "_law_twice"] ["_law_number", "_law_turn"] (defScope s_law_mixed) := ⟨rfl, rfl, rfl, by decide +kernel, rfl, by decide +kernel, by decide +kernel⟩
abbrev s_law_take : Stmt := topS 18
theorem sc_law_take : FnScope ["_law_hand_here", "_law_many", "_law_cell", "_law_rest"] ["_law_hand_here", "_law_many"] (defScope s_law_take) := ⟨rfl, rfl, rfl, by decide +kernel, rfl, by decide +kernel, by decide +kernel⟩
abbrev s_law_whole : Stmt := topS 19
theorem sc_law_whole : FnScope ["_law_thing"] ["_law_thing"] (defScope s_law_whole) := ⟨rfl, rfl, rfl, by decide +kernel, rfl, by decide +kernel, by decide +kernel⟩
abbrev s_law_full : Stmt := topS 20
theorem sc_law_full : FnScope ["_law_points", "_law_shuts", "_law_told", "_law_point", "_law_shut_here"] ["_law_points", "_law_shuts"] (defScope s_law_full) := ⟨rfl, rfl, rfl, by decide +kernel, rfl, by decide +kernel, by decide +kernel⟩
abbrev s_law_marks : Stmt := topS 21
theorem sc_law_marks : FnScope ["_law_points", "_law_shuts", "_law_pairs", "_law_marks_here", "_law_point", "_law_shut_here", "_law_one", "_law_other", "_law_mark"] ["_law_points", "_law_shuts", "_law_pairs"] (defScope s_law_marks) := ⟨rfl, rfl, rfl, by decide +kernel, rfl, by decide +kernel, by decide +kernel⟩
abbrev s_law_refused : Stmt := topS 22
theorem sc_law_refused : FnScope ["_law_points", "_law_shuts", "_law_pairs", "_law_what", "e"] ["_law_points", "_law_shuts", "_law_pairs"] (defScope s_law_refused) := ⟨rfl, rfl, rfl, by decide +kernel, rfl, by decide +kernel, by decide +kernel⟩
abbrev s_law_couple : Stmt := topS 23
theorem sc_law_couple : FnScope ["_law_points", "_law_shuts", "_law_thing", "_law_number", "_law_high"] ["_law_points", "_law_shuts", "_law_thing"] (defScope s_law_couple) := ⟨rfl, rfl, rfl, by decide +kernel, rfl, by decide +kernel, by decide +kernel⟩
abbrev s_law_due : Stmt := topS 24
theorem sc_law_due : FnScope ["_law_points", "_law_shuts", "_law_pairs", "_law_number", "_law_word", "_law_thing"] ["_law_points", "_law_shuts", "_law_pairs"] (defScope s_law_due) := ⟨rfl, rfl, rfl, by decide +kernel, rfl, by decide +kernel, by decide +kernel⟩
abbrev s_law_odd : Stmt := topS 25
theorem sc_law_odd : FnScope ["_law_hand_here", "_law_points", "_law_shuts"] ["_law_hand_here", "_law_points", "_law_shuts"] (defScope s_law_odd) := ⟨rfl, rfl, rfl, by decide +kernel, rfl, by decide +kernel, by decide +kernel⟩
abbrev s_law_pieces_due : Stmt := topS 26
theorem sc_law_pieces_due : FnScope ["_law_points", "_law_shuts", "_law_pairs", "_law_marks_here", "_law_told", "_law_mark", "_law_mine", "_law_yours", "_law_k"] ["_law_points", "_law_shuts", "_law_pairs"] (defScope s_law_pieces_due) := ⟨rfl, rfl, rfl, by decide +kernel, rfl, by decide +kernel, by decide +kernel⟩
abbrev s_law_place : Stmt := topS 27
theorem sc_law_place : FnScope ["_law_picture", "_law_pair", "_law_told", "e"] ["_law_picture", "_law_pair"] (defScope s_law_place) := ⟨rfl, rfl, rfl, by decide +kernel, rfl, by decide +kernel, by decide +kernel⟩
abbrev s_law_changed : Stmt := topS 28
theorem sc_law_changed : FnScope ["_law_picture", "_law_pair", "_law_way", "_law_told", "_law_other", "e"] ["_law_picture", "_law_pair", "_law_way"] (defScope s_law_changed) := ⟨rfl, rfl, rfl, by decide +kernel, rfl, by decide +kernel, by decide +kernel⟩
abbrev s_law_full_word : Stmt := topS 29
theorem sc_law_full_word : FnScope ["_law_points", "_law_shuts", "_law_what", "e"] ["_law_points", "_law_shuts"] (defScope s_law_full_word) := ⟨rfl, rfl, rfl, by decide +kernel, rfl, by decide +kernel, by decide +kernel⟩
abbrev s_law_refusals : Stmt := topS 30
theorem sc_law_refusals : FnScope ["_law_hand_here", "_law_points", "_law_shuts", "_law_given", "_law_at", "_law_odd_here", "_law_spoiled", "_law_again", "_law_strange", "_law_one", "_law_other", "_law_pairs"] ["_law_hand_here", "_law_points", "_law_shuts", "_law_given"] (defScope s_law_refusals) := ⟨rfl, rfl, rfl, by decide +kernel, rfl, by decide +kernel, by decide +kernel⟩
abbrev s_law_pairs_asked : Stmt := topS 31
theorem sc_law_pairs_asked : FnScope ["_law_picture", "_law_points", "_law_shuts", "_law_pairs", "_law_things", "_law_thing", "_law_open_here", "_law_told", "_law_place_here", "_law_rest", "_law_more", "_law_pair"] ["_law_picture", "_law_points", "_law_shuts", "_law_pairs", "_law_things"] (defScope s_law_pairs_asked) := ⟨rfl, rfl, rfl, by decide +kernel, rfl, by decide +kernel, by decide +kernel⟩
abbrev s_law : Stmt := topS 32
theorem sc_law : FnScope ["_law_script", "_law_hand_here", "_law_points", "_law_shuts", "_law_bare", "_law_pairs", "_law_shut", "_law_turn", "_law_ahead", "_law_given", "_law_kept", "_law_picture", "_law_due_here", "_law_things", "_law_full_here", "_law_more", "_law_wide", "_law_lacks", "_law_changed_here", "_law_pair", "_law_gone", "_law_k"] ["_law_script"] (defScope s_law) := ⟨rfl, rfl, rfl, by decide +kernel, rfl, by decide +kernel, by decide +kernel⟩
/-! what the top leaves -/
structure Txt (K : PySem.W.Frag) (mg : Str → Option Value) where
  f_BadPicture_init : Addr
  d_BadPicture_init : FuncData
  F_BadPicture_init : Fun K "__init__" "BadPicture.__init__" s_BadPicture_init f_BadPicture_init d_BadPicture_init
  b_BadPicture_init : Binds K d_BadPicture_init ["self", "what"] []
  f_NotOpen_init : Addr
  d_NotOpen_init : FuncData
  F_NotOpen_init : Fun K "__init__" "NotOpen.__init__" s_NotOpen_init f_NotOpen_init d_NotOpen_init
  b_NotOpen_init : Binds K d_NotOpen_init ["self", "pair"] []
  f_is_whole : Addr
  d_is_whole : FuncData
  F_is_whole : FunD K "is_whole" "is_whole" (defArgs s_is_whole) (defBody s_is_whole) (defScope s_is_whole) [.non, .non] [] f_is_whole d_is_whole
  g_is_whole : mg "is_whole" = some (.ref f_is_whole)
  b_is_whole : Binds K d_is_whole ["thing", "low", "high"] []
  f_is_sequence : Addr
  d_is_sequence : FuncData
  F_is_sequence : FunD K "is_sequence" "is_sequence" (defArgs s_is_sequence) (defBody s_is_sequence) (defScope s_is_sequence) [.non] [] f_is_sequence d_is_sequence
  g_is_sequence : mg "is_sequence" = some (.ref f_is_sequence)
  b_is_sequence : Binds K d_is_sequence ["thing", "length"] []
  b1_is_sequence : Binds K d_is_sequence ["thing", "length"] [.none]
  f_full_picture : Addr
  d_full_picture : FuncData
  F_full_picture : Fun K "full_picture" "full_picture" s_full_picture f_full_picture d_full_picture
  g_full_picture : mg "full_picture" = some (.ref f_full_picture)
  b_full_picture : Binds K d_full_picture ["points", "walls"] []
  f_merged_labels : Addr
  d_merged_labels : FuncData
  F_merged_labels : Fun K "merged_labels" "merged_labels" s_merged_labels f_merged_labels d_merged_labels
  g_merged_labels : mg "merged_labels" = some (.ref f_merged_labels)
  b_merged_labels : Binds K d_merged_labels ["labels", "one", "other"] []
  f_piece_labels : Addr
  d_piece_labels : FuncData
  F_piece_labels : Fun K "_piece_labels" "_piece_labels" s_piece_labels f_piece_labels d_piece_labels
  g_piece_labels : mg "_piece_labels" = some (.ref f_piece_labels)
  b_piece_labels : Binds K d_piece_labels ["points", "walls", "pairs"] []
  f_pieces_by_labels : Addr
  d_pieces_by_labels : FuncData
  F_pieces_by_labels : Fun K "_pieces_by_labels" "_pieces_by_labels" s_pieces_by_labels f_pieces_by_labels d_pieces_by_labels
  g_pieces_by_labels : mg "_pieces_by_labels" = some (.ref f_pieces_by_labels)
  b_pieces_by_labels : Binds K d_pieces_by_labels ["points", "labels"] []
  f_Picture_init : Addr
  d_Picture_init : FuncData
  F_Picture_init : Fun K "__init__" "Picture.__init__" s_Picture_init f_Picture_init d_Picture_init
  b_Picture_init : Binds K d_Picture_init ["self", "points", "walls", "pairs"] []
  f_Picture_eq : Addr
  d_Picture_eq : FuncData
  F_Picture_eq : Fun K "__eq__" "Picture.__eq__" s_Picture_eq f_Picture_eq d_Picture_eq
  b_Picture_eq : Binds K d_Picture_eq ["self", "other"] []
  f_Picture_len : Addr
  d_Picture_len : FuncData
  F_Picture_len : Fun K "__len__" "Picture.__len__" s_Picture_len f_Picture_len d_Picture_len
  b_Picture_len : Binds K d_Picture_len ["self"] []
  f_Picture_pieces : Addr
  d_Picture_pieces : FuncData
  F_Picture_pieces : Fun K "pieces" "Picture.pieces" s_Picture_pieces f_Picture_pieces d_Picture_pieces
  b_Picture_pieces : Binds K d_Picture_pieces ["self"] []
  f_Pictureis_pair : Addr
  d_Pictureis_pair : FuncData
  F_Pictureis_pair : Fun K "_is_pair" "Picture._is_pair" s_Pictureis_pair f_Pictureis_pair d_Pictureis_pair
  b_Pictureis_pair : Binds K d_Pictureis_pair ["self", "thing"] []
  f_Picture_place_of : Addr
  d_Picture_place_of : FuncData
  F_Picture_place_of : Fun K "place_of" "Picture.place_of" s_Picture_place_of f_Picture_place_of d_Picture_place_of
  b_Picture_place_of : Binds K d_Picture_place_of ["self", "pair"] []
  f_Picture_is_open : Addr
  d_Picture_is_open : FuncData
  F_Picture_is_open : Fun K "is_open" "Picture.is_open" s_Picture_is_open f_Picture_is_open d_Picture_is_open
  b_Picture_is_open : Binds K d_Picture_is_open ["self", "pair"] []
  f_Picture_with_pair : Addr
  d_Picture_with_pair : FuncData
  F_Picture_with_pair : Fun K "with_pair" "Picture.with_pair" s_Picture_with_pair f_Picture_with_pair d_Picture_with_pair
  b_Picture_with_pair : Binds K d_Picture_with_pair ["self", "pair"] []
  f_Picture_without_pair : Addr
  d_Picture_without_pair : FuncData
  F_Picture_without_pair : Fun K "without_pair" "Picture.without_pair" s_Picture_without_pair f_Picture_without_pair d_Picture_without_pair
  b_Picture_without_pair : Binds K d_Picture_without_pair ["self", "pair"] []
  f_law_hand : Addr
  d_law_hand : FuncData
  F_law_hand : Fun K "_law_hand" "_law_hand" s_law_hand f_law_hand d_law_hand
  g_law_hand : mg "_law_hand" = some (.ref f_law_hand)
  b_law_hand : Binds K d_law_hand ["_law_script"] []
  f_law_mixed : Addr
  d_law_mixed : FuncData
  F_law_mixed : Fun K "_law_mixed" "_law_mixed" s_law_mixed f_law_mixed d_law_mixed
  g_law_mixed : mg "_law_mixed" = some (.ref f_law_mixed)
  b_law_mixed : Binds K d_law_mixed ["_law_number", "_law_turn"] []
  f_law_take : Addr
  d_law_take : FuncData
  F_law_take : Fun K "_law_take" "_law_take" s_law_take f_law_take d_law_take
  g_law_take : mg "_law_take" = some (.ref f_law_take)
  b_law_take : Binds K d_law_take ["_law_hand_here", "_law_many"] []
  f_law_whole : Addr
  d_law_whole : FuncData
  F_law_whole : Fun K "_law_whole" "_law_whole" s_law_whole f_law_whole d_law_whole
  g_law_whole : mg "_law_whole" = some (.ref f_law_whole)
  b_law_whole : Binds K d_law_whole ["_law_thing"] []
  f_law_full : Addr
  d_law_full : FuncData
  F_law_full : Fun K "_law_full" "_law_full" s_law_full f_law_full d_law_full
  g_law_full : mg "_law_full" = some (.ref f_law_full)
  b_law_full : Binds K d_law_full ["_law_points", "_law_shuts"] []
  f_law_marks : Addr
  d_law_marks : FuncData
  F_law_marks : Fun K "_law_marks" "_law_marks" s_law_marks f_law_marks d_law_marks
  g_law_marks : mg "_law_marks" = some (.ref f_law_marks)
  b_law_marks : Binds K d_law_marks ["_law_points", "_law_shuts", "_law_pairs"] []
  f_law_refused : Addr
  d_law_refused : FuncData
  F_law_refused : Fun K "_law_refused" "_law_refused" s_law_refused f_law_refused d_law_refused
  g_law_refused : mg "_law_refused" = some (.ref f_law_refused)
  b_law_refused : Binds K d_law_refused ["_law_points", "_law_shuts", "_law_pairs"] []
  f_law_couple : Addr
  d_law_couple : FuncData
  F_law_couple : Fun K "_law_couple" "_law_couple" s_law_couple f_law_couple d_law_couple
  g_law_couple : mg "_law_couple" = some (.ref f_law_couple)
  b_law_couple : Binds K d_law_couple ["_law_points", "_law_shuts", "_law_thing"] []
  f_law_due : Addr
  d_law_due : FuncData
  F_law_due : Fun K "_law_due" "_law_due" s_law_due f_law_due d_law_due
  g_law_due : mg "_law_due" = some (.ref f_law_due)
  b_law_due : Binds K d_law_due ["_law_points", "_law_shuts", "_law_pairs"] []
  f_law_odd : Addr
  d_law_odd : FuncData
  F_law_odd : Fun K "_law_odd" "_law_odd" s_law_odd f_law_odd d_law_odd
  g_law_odd : mg "_law_odd" = some (.ref f_law_odd)
  b_law_odd : Binds K d_law_odd ["_law_hand_here", "_law_points", "_law_shuts"] []
  f_law_pieces_due : Addr
  d_law_pieces_due : FuncData
  F_law_pieces_due : Fun K "_law_pieces_due" "_law_pieces_due" s_law_pieces_due f_law_pieces_due d_law_pieces_due
  g_law_pieces_due : mg "_law_pieces_due" = some (.ref f_law_pieces_due)
  b_law_pieces_due : Binds K d_law_pieces_due ["_law_points", "_law_shuts", "_law_pairs"] []
  f_law_place : Addr
  d_law_place : FuncData
  F_law_place : Fun K "_law_place" "_law_place" s_law_place f_law_place d_law_place
  g_law_place : mg "_law_place" = some (.ref f_law_place)
  b_law_place : Binds K d_law_place ["_law_picture", "_law_pair"] []
  f_law_changed : Addr
  d_law_changed : FuncData
  F_law_changed : Fun K "_law_changed" "_law_changed" s_law_changed f_law_changed d_law_changed
  g_law_changed : mg "_law_changed" = some (.ref f_law_changed)
  b_law_changed : Binds K d_law_changed ["_law_picture", "_law_pair", "_law_way"] []
  f_law_full_word : Addr
  d_law_full_word : FuncData
  F_law_full_word : Fun K "_law_full_word" "_law_full_word" s_law_full_word f_law_full_word d_law_full_word
  g_law_full_word : mg "_law_full_word" = some (.ref f_law_full_word)
  b_law_full_word : Binds K d_law_full_word ["_law_points", "_law_shuts"] []
  f_law_refusals : Addr
  d_law_refusals : FuncData
  F_law_refusals : Fun K "_law_refusals" "_law_refusals" s_law_refusals f_law_refusals d_law_refusals
  g_law_refusals : mg "_law_refusals" = some (.ref f_law_refusals)
  b_law_refusals : Binds K d_law_refusals ["_law_hand_here", "_law_points", "_law_shuts", "_law_given"] []
  f_law_pairs_asked : Addr
  d_law_pairs_asked : FuncData
  F_law_pairs_asked : Fun K "_law_pairs_asked" "_law_pairs_asked" s_law_pairs_asked f_law_pairs_asked d_law_pairs_asked
  g_law_pairs_asked : mg "_law_pairs_asked" = some (.ref f_law_pairs_asked)
  b_law_pairs_asked : Binds K d_law_pairs_asked ["_law_picture", "_law_points", "_law_shuts", "_law_pairs", "_law_things"] []
  f_law : Addr
  d_law : FuncData
  F_law : Fun K "law" "law" s_law f_law d_law
  m_abs : mg "abs" = none
  m_bool : mg "bool" = none
  m_int : mg "int" = none
  m_isinstance : mg "isinstance" = none
  m_len : mg "len" = none
  m_list : mg "list" = none
  m_min : mg "min" = none
  m_range : mg "range" = none
  m_repr : mg "repr" = none
  m_reversed : mg "reversed" = none
  m_set : mg "set" = none
  m_sorted : mg "sorted" = none
  m_tuple : mg "tuple" = none
  m_zip : mg "zip" = none
  C_SheetError : Addr
  g_SheetError : mg "SheetError" = some (.ref C_SheetError)
  C_BadPicture : Addr
  g_BadPicture : mg "BadPicture" = some (.ref C_BadPicture)
  o_BadPicture : OexC K C_BadPicture
  i_BadPicture : PySem.W.findIn K (.ref C_BadPicture) "__init__" = some (some (.ref f_BadPicture_init))
  t_BadPicture : PySem.W.typeIn K (.ref f_BadPicture_init) = some (.type "function")
  n_BadPicture : PySem.W.findIn K (.ref C_BadPicture) "what" = some none
  x_BadPicture : XfC K C_BadPicture
  e_BadPicture : ExcC K C_BadPicture
  C_NotOpen : Addr
  g_NotOpen : mg "NotOpen" = some (.ref C_NotOpen)
  o_NotOpen : OexC K C_NotOpen
  i_NotOpen : PySem.W.findIn K (.ref C_NotOpen) "__init__" = some (some (.ref f_NotOpen_init))
  t_NotOpen : PySem.W.typeIn K (.ref f_NotOpen_init) = some (.type "function")
  n_NotOpen : PySem.W.findIn K (.ref C_NotOpen) "pair" = some none
  x_NotOpen : XfC K C_NotOpen
  e_NotOpen : ExcC K C_NotOpen
  mm_bb : PySem.W.exmOne K (.ref C_BadPicture) (.ref C_BadPicture) = some true
  mm_nn : PySem.W.exmOne K (.ref C_NotOpen) (.ref C_NotOpen) = some true
  mm_nb : PySem.W.exmOne K (.ref C_NotOpen) (.ref C_BadPicture) = some false
  kit_bs : PySem.W.kitOne K (.ref C_BadPicture) (.ref C_SheetError) = some true
  kit_bn : PySem.W.kitOne K (.ref C_BadPicture) (.ref C_NotOpen) = some false
  kit_ns : PySem.W.kitOne K (.ref C_NotOpen) (.ref C_SheetError) = some true
  kit_nb : PySem.W.kitOne K (.ref C_NotOpen) (.ref C_BadPicture) = some false
  C_Picture : Addr
  g_Picture : mg "Picture" = some (.ref C_Picture)
  cl_Picture : Cls K C_Picture
  M_Picture : Mk K C_Picture f_Picture_init
  na_points : NoAttr K C_Picture "points"
  na_walls : NoAttr K C_Picture "walls"
  na_pairs : NoAttr K C_Picture "pairs"
  na_pieces : NoAttr K C_Picture "_pieces"
  M_is_pair : Meth K C_Picture "_is_pair" f_Pictureis_pair
  M_place_of : Meth K C_Picture "place_of" f_Picture_place_of
  M_is_open : Meth K C_Picture "is_open" f_Picture_is_open
  M_with_pair : Meth K C_Picture "with_pair" f_Picture_with_pair
  M_without_pair : Meth K C_Picture "without_pair" f_Picture_without_pair
  p_pieces : Addr
  pr_pieces : PropOf K C_Picture "pieces" p_pieces f_Picture_pieces
  eq_at : PySem.W.findIn K (.ref C_Picture) "__eq__" = some (some (.ref f_Picture_eq))
  eq_fn : PySem.W.isFn K (.ref f_Picture_eq) = true
  len_at : PySem.W.findIn K (.ref C_Picture) "__len__" = some (some (.ref f_Picture_len))
  len_fn : PySem.W.isFn K (.ref f_Picture_len) = true
  k_class : PySem.W.findIn K (.ref C_Picture) "__class__" = some (some (.builtin "object.__class__"))
  k_get : PySem.W.specialIn K (.builtin "object.__class__") "__get__" = some (some (.builtin "getset_descriptor.__get__"))
  k_takes : PySem.W.takesIn K (.builtin "object.__class__") = some true
  k_mro : PySem.W.mroIn K C_Picture (.type "object") = some true
  k_isp : PySem.W.kitOne K (.ref C_Picture) (.ref C_Picture) = some true
  tk_most : Tok
  c_MOST_CORNERS : mg "MOST_CORNERS" = some (.int 5 tk_most)

/-! errors -/
def Raised (C : Addr) (f : Str) (v : V) (H : Hp) (E : XK) : Prop := ∀ d H', Same H H' → H d = none → H' d = some (.xd [(f, v)]) → E (.ref C) (some d) H'
/-- the promise of an error's __init__ that stores its one argument -/
def sp_exc (C : Addr) (f : Str) : Sp := fun vs H Q _ => ∃ (a : Addr) (v : V), vs = [.ref a, v] ∧ H a = some (exo a C none) ∧ ∀ dx, H dx = none → dx ≠ a → Q .non (upd (upd H dx (exd dx [(f, v)])) a (exo a C (some dx)))
theorem mk_exc {C : Addr} {f : Str} {w : V} {H : Hp} {Q : XK} (h : ∀ d H', Same H H' → H d = none → H' d = some (.xd [(f, w)]) → Q (.ref C) (some d) H') :
    [w].length ≤ 1000 ∧ ∀ a, H a = none → sp_exc C f (.ref a :: ([w] ++ [])) (upd H a (exo a C none))
      (fun v H2 => v = .non ∧ ∃ (d : Addr) (fs : List (Str × V)), H2 a = some (exo a C (some d)) ∧ H2 d = some (exd d fs) ∧ H d = none ∧ Q (.ref C) (some d) (upd (del H2 a) d (.xd fs))) (fun _ _ _ => False) := by
  refine ⟨by simp, fun a na => ⟨a, w, rfl, upd_same, fun dx nd ne => ⟨rfl, dx, _, upd_same, by rw [upd_ne ne, upd_same], ?_, ?_⟩⟩⟩
  · rw [upd_ne ne] at nd
    exact nd
  · rw [upd_ne ne] at nd
    refine h dx _ (fun b o e => ?_) nd upd_same
    have hb : b ≠ dx := ne_of_none e nd
    have hb2 : b ≠ a := ne_of_none e na
    rw [upd_ne hb, del_ne hb2, upd_ne hb2, upd_ne hb, upd_ne hb2]
    exact e
section
variable {P : Program} {w : World} {K : PySem.W.Frag} {mg : Str → Option Value} {base : Heap}
theorem ok_BadPicture_init (T : Txt K mg) : FnOk P w K mg base CX0 1 T.f_BadPicture_init T.d_BadPicture_init ["self", "what"] (sp_exc T.C_BadPicture "what") := by
  refine T.F_BadPicture_init.ok sc_BadPicture_init (fun vs H Q E h => ?_) (fun cdv A outer s H vs Q E hr h => ?_)
  · obtain ⟨a, v, rfl, _⟩ := h
    rfl
  · obtain ⟨a, v, rfl, ha, q⟩ := h
    refine ⟨_, pss_one (ps_ost (pv 0) (pv 1)), ?_⟩
    exact ⟨v, rfl, _, rfl, a, T.C_BadPicture, rfl, T.o_BadPicture, T.n_BadPicture, .inl ⟨ha, fun dx n ne => q dx n ne⟩⟩
theorem ok_NotOpen_init (T : Txt K mg) : FnOk P w K mg base CX0 1 T.f_NotOpen_init T.d_NotOpen_init ["self", "pair"] (sp_exc T.C_NotOpen "pair") := by
  refine T.F_NotOpen_init.ok sc_NotOpen_init (fun vs H Q E h => ?_) (fun cdv A outer s H vs Q E hr h => ?_)
  · obtain ⟨a, v, rfl, _⟩ := h
    rfl
  · obtain ⟨a, v, rfl, ha, q⟩ := h
    refine ⟨_, pss_one (ps_ost (pv 0) (pv 1)), ?_⟩
    exact ⟨v, rfl, _, rfl, a, T.C_NotOpen, rfl, T.o_NotOpen, T.n_NotOpen, .inl ⟨ha, fun dx n ne => q dx n ne⟩⟩
end
end K00
set_option Elab.async false
set_option linter.all false
set_option maxRecDepth 100000
set_option maxHeartbeats 4000000
set_option exponentiation.threshold 5000
namespace K00
open PySem PySem.Spec PyProof.Rows L2 TkS
/-! bounds, sequences -/
def Lim (v : V) : Prop := v = .non ∨ ∃ l : Int, v = .int l
def wholeIn : V → V → V → Bool
  | .int i, lo, hi => (match lo with | .int l => decide (l ≤ i) | _ => true) && (match hi with | .int h => decide (i ≤ h) | _ => true)
  | _, _, _ => false
theorem wi_low {i l : Int} {hi : V} : wholeIn (.int i) (.int l) hi = (decide (l ≤ i) && wholeIn (.int i) .non hi) := by
  simp [wholeIn]
theorem wi_high {i m : Int} : wholeIn (.int i) .non (.int m) = decide (i ≤ m) := by
  simp [wholeIn]
def seqIs (d : PyData) (n : V) : Bool := match itemsD d with
  | none => false
  | some ds => match n with
    | .int k => decide ((ds.length : Int) = k)
    | _ => true
theorem int_dec {a b : Int} : decide (V.int a = V.int b) = decide (a = b) := by
  by_cases h : a = b
  · subst h
    simp
  · rw [decide_eq_false h, decide_eq_false fun z => h (V.int.inj z)]
def sp_is_whole : Sp := fun vs H Q _ => ∃ x lo hi d, vs = [x, lo, hi] ∧ Dq H x d ∧ Lim lo ∧ Lim hi ∧ Q (.bl (wholeIn x lo hi)) H
def sp_is_sequence : Sp := fun vs H Q _ => ∃ x n d, vs = [x, n] ∧ Dq H x d ∧ (n = .non ∨ ∃ k : Int, n = .int k) ∧ ∀ H', Same H H' → Q (.bl (seqIs d n)) H'
section
variable {P : Program} {w : World} {K : PySem.W.Frag} {mg : Str → Option Value} {base : Heap}
theorem ok_is_whole (T : Txt K mg) : FnOk P w K mg base CX0 1 T.f_is_whole T.d_is_whole ["thing", "low", "high"] sp_is_whole := by
  refine T.F_is_whole.ok sc_is_whole (fun vs H Q E h => ?_) (fun cdv A outer s H vs Q E hr h => ?_)
  · obtain ⟨x, lo, hi, d, rfl, _⟩ := h
    rfl
  · obtain ⟨x, lo, hi, d, rfl, hk, hl, hh, q⟩ := h
    obtain ⟨t, ty, k1, k2, _⟩ := dq_ty (K := K) hk
    refine ⟨_, (pss_cons (ps_if (PW.pt (pw_or (pt_val (pe_callB call_isi (by rfl) T.m_isinstance (by decide +kernel) (pa_cons (pv 0) (pa_cons (pe_bltn (v := .ty "bool") (u := .type "bool") (by rfl) T.m_bool (by decide +kernel) rfl) pa_nil)))) (pw_or1 (pt_not (pt_val (pe_callB call_isi (by rfl) T.m_isinstance (by decide +kernel) (pa_cons (pv 0) (pa_cons (pe_bltn (v := .ty "int") (u := .type "int") (by rfl) T.m_int (by decide +kernel) rfl) pa_nil))))))))
        (pss_one (ps_ret pe_bl))
        pss_nil)
      (pss_cons (ps_if (PW.pt (pw_and (pt_cmpR op_notN (pv 1) pe_non (nomark _)) (pw_and1 (pt_cmpR op_lt (pv 0) (pv 1) (nomark _)))))
        (pss_one (ps_ret pe_bl))
        pss_nil)
      (pss_one (ps_ret (pe_or (pe_cmpR op_isN (pv 2) pe_non (nomark _)) (pe_one (pe_cmpR op_le (pv 0) (pv 2) (nomark _)))))))), ?_⟩
    refine ⟨x, rfl, x, .ty "bool", t, _, isBlV x, rfl, .ty _, ty, k1, isBlV x, rfl, ?_⟩
    have tail : ∀ i : Int, Q (.bl (wholeIn (.int i) .non hi)) H → tRet (tOrV (tOp (fun x y H Q => y = V.non ∧ Q (V.bl (decide (x = V.non))) H) (tVar 2) (tC V.non)) (tOp (rI0 fun i j => V.bl (decide (i ≤ j))) (tVar 0) (tVar 2))) { nx := fun x H' => Q V.non H', rt := Q } (L2.start ["thing", "low", "high"] [V.int i, lo, hi]) H := by
      intro i q
      rcases hh with rfl | ⟨m, rfl⟩
      · exact ⟨.non, rfl, rfl, _, rfl, iteT q⟩
      · refine ⟨.int m, rfl, rfl, _, rfl, iteF ?_⟩
        rw [wi_high] at q
        exact ⟨_, rfl, _, rfl, i, m, rfl, rfl, q⟩
    cases hk with
    | bl b => exact iteT (iteT q)
    | int i =>
      refine iteF ⟨_, rfl, _, .ty "int", t, _, true, rfl, .ty _, ty, k2, true, rfl, iteF ?_⟩
      rcases hl with rfl | ⟨l, rfl⟩
      · exact ⟨.non, rfl, rfl, _, rfl, iteF (iteF (tail i q))⟩
      · rw [wi_low] at q
        refine ⟨.int l, rfl, rfl, _, rfl, iteT ⟨.int i, rfl, .int l, rfl, i, l, rfl, rfl, _, rfl, ite2 (fun e => ?_) (fun e => ?_)⟩⟩
        · have e2 := of_decide_eq_true e
          rw [decide_eq_false (by omega : ¬ l ≤ i)] at q
          exact q
        · have e2 : l ≤ i := Int.not_lt.mp fun z => e (decide_eq_true z)
          rw [decide_eq_true e2] at q
          exact tail i q
    | non => exact iteF ⟨_, rfl, _, .ty "int", t, _, false, rfl, .ty _, ty, k2, false, rfl, iteT q⟩
    | str z => exact iteF ⟨_, rfl, _, .ty "int", t, _, false, rfl, .ty _, ty, k2, false, rfl, iteT q⟩
    | lst z y => exact iteF ⟨_, rfl, _, .ty "int", t, _, false, rfl, .ty _, ty, k2, false, rfl, iteT q⟩
    | tup z y => exact iteF ⟨_, rfl, _, .ty "int", t, _, false, rfl, .ty _, ty, k2, false, rfl, iteT q⟩
theorem ok_is_sequence (T : Txt K mg) : FnOk P w K mg base CX0 1 T.f_is_sequence T.d_is_sequence ["thing", "length"] sp_is_sequence := by
  refine T.F_is_sequence.ok sc_is_sequence (fun vs H Q E h => ?_) (fun cdv A outer s H vs Q E hr h => ?_)
  · obtain ⟨x, n, d, rfl, _⟩ := h
    rfl
  · obtain ⟨x, n, d, rfl, hk, hn, q⟩ := h
    refine ⟨_, (pss_cons (ps_if (pt_not (pt_val (pe_callB call_isiT (by rfl) T.m_isinstance (by decide +kernel) (pa_cons (pv 0) (pa_cons (pe_tup (pa_cons (pe_bltn (v := .ty "list") (u := .type "list") (by rfl) T.m_list (by decide +kernel) rfl) (pa_cons (pe_bltn (v := .ty "tuple") (u := .type "tuple") (by rfl) T.m_tuple (by decide +kernel) rfl) pa_nil))) pa_nil)))))
        (pss_one (ps_ret pe_bl))
        pss_nil)
      (pss_one (ps_ret (pe_or (pe_cmpR op_isN (pv 1) pe_non (nomark _)) (pe_one (pe_cmpR op_eq (pe_callB call_len_seq (by rfl) T.m_len (by decide +kernel) (pa_cons (pv 0) pa_nil)) (pv 1) (nomark _))))))), ?_⟩
    refine ⟨x, rfl, (by show 2 ≤ sizeLine; decide), fun u nu => ?_⟩
    have sm : Same H (upd H u (.tup [.ty "list", .ty "tuple"])) := same_new nu
    obtain ⟨t, ty, _, _, k3, _⟩ := dq_ty (K := K) (Dq.same sm d hk)
    have q' := q _ sm
    refine ⟨x, u, _, t, _, (itemsD d).isSome, rfl, upd_same, .cons (.ty _) (.cons (.ty _) .nil), ty, k3, _, rfl, ?_⟩
    have no : itemsD d = none → (if (!(itemsD d).isSome) = true then tRet (tC (V.bl false)) { nx := tRet (tOrV (tOp (fun x y H Q => y = V.non ∧ Q (V.bl (decide (x = V.non))) H) (tVar 1) (tC V.non)) (tOp rEq (tCB (fun xs H Q => ∃ p ys, xs = [V.ref p] ∧ (SqL K H p ys ∨ SqT K H p ys) ∧ Q (V.int ↑ys.length) H) (tCons (tVar 0) tNil)) (tVar 1))) { nx := fun x H' => Q V.non H', rt := Q }, rt := Q } (L2.start ["thing", "length"] [x, n]) (upd H u (.tup [.ty "list", .ty "tuple"]))
        else tNext { nx := tRet (tOrV (tOp (fun x y H Q => y = V.non ∧ Q (V.bl (decide (x = V.non))) H) (tVar 1) (tC V.non)) (tOp rEq (tCB (fun xs H Q => ∃ p ys, xs = [V.ref p] ∧ (SqL K H p ys ∨ SqT K H p ys) ∧ Q (V.int ↑ys.length) H) (tCons (tVar 0) tNil)) (tVar 1))) { nx := fun x H' => Q V.non H', rt := Q }, rt := Q } (L2.start ["thing", "length"] [x, n]) (upd H u (.tup [.ty "list", .ty "tuple"]))) := fun e => by
      unfold seqIs at q'
      rw [e] at q' ⊢
      exact iteT q'
    have yes : ∀ (a : Addr) (xs : List V) (ds : List PyData), x = .ref a → itemsD d = some ds → xs.length = ds.length → (SqL K (upd H u (.tup [.ty "list", .ty "tuple"])) a xs ∨ SqT K (upd H u (.tup [.ty "list", .ty "tuple"])) a xs) →
        tRet (tOrV (tOp (fun x y H Q => y = V.non ∧ Q (V.bl (decide (x = V.non))) H) (tVar 1) (tC V.non)) (tOp rEq (tCB (fun xs H Q => ∃ p ys, xs = [V.ref p] ∧ (SqL K H p ys ∨ SqT K H p ys) ∧ Q (V.int ↑ys.length) H) (tCons (tVar 0) tNil)) (tVar 1))) { nx := fun x H' => Q V.non H', rt := Q } (L2.start ["thing", "length"] [x, n]) (upd H u (.tup [.ty "list", .ty "tuple"])) := fun a xs ds ex ed el hs => by
      unfold seqIs at q'
      rw [ed] at q'
      rcases hn with rfl | ⟨k, rfl⟩
      · exact ⟨.non, rfl, rfl, _, rfl, iteT q'⟩
      · refine ⟨.int k, rfl, rfl, _, rfl, iteF ⟨_, rfl, a, xs, by rw [ex], hs, _, rfl, rfl, ?_⟩⟩
        rw [el, int_dec]
        exact q'
    cases hk with
    | lst h1 h2 => exact iteF (yes _ _ _ rfl rfl h2.len (.inl (SqL.of (sm _ _ h1))))
    | tup h1 h2 => exact iteF (yes _ _ _ rfl rfl h2.len (.inr (SqT.of (sm _ _ h1))))
    | non => exact no rfl
    | bl b => exact no rfl
    | int b => exact no rfl
    | str b => exact no rfl
end
/-! labels -/
def mrg (ls : List Int) (a b : Int) : List Int := ls.map fun l => if l = a ∨ l = b then (if b < a then b else a) else l
theorem mrg_len (ls : List Int) (a b : Int) : (mrg ls a b).length = ls.length := by
  unfold mrg
  rw [List.length_map]
def row0 (n : Nat) : List Int := (List.range n).map fun (i : Nat) => (i : Int)
theorem row0_len (n : Nat) : (row0 n).length = n := by
  unfold row0
  rw [List.length_map, List.length_range]
def stepM (P : Int) (ls : List Int) (p : Int × Int) : List Int := mrg ls (ls.getD p.1.toNat 0) (ls.getD (P + p.2).toNat 0)
def marks (P W : Int) (ps : List (Int × Int)) : List Int := ps.foldl (stepM P) (row0 (P + W).toNat)
theorem fold_len (P : Int) : ∀ (ps : List (Int × Int)) (ls : List Int), (ps.foldl (stepM P) ls).length = ls.length
  | [], _ => rfl
  | p :: ps, ls => by
    show (ps.foldl (stepM P) (stepM P ls p)).length = _
    rw [fold_len P ps]
    exact mrg_len _ _ _
theorem marks_len (P W : Int) (ps : List (Int × Int)) : (marks P W ps).length = (P + W).toNat := by
  unfold marks
  rw [fold_len, row0_len]
/-- the pairs lie in the picture -/
def Ins (P W : Int) (ps : List (Int × Int)) : Prop := ∀ p ∈ ps, 0 ≤ p.1 ∧ p.1 < P ∧ 0 ≤ p.2 ∧ p.2 < W
def prD (p : Int × Int) : PyData := .tuple [.int p.1, .int p.2]
theorem pr_items {H : Hp} {xs : List V} {ps : List (Int × Int)} {i : Nat} {x : V} (h : DqAll H xs (ps.map prD)) (hx : xs[i]? = some x) : ∃ (t : Addr) (p : Int × Int), x = .ref t ∧ ps[i]? = some p ∧ H t = some (.tup [.int p.1, .int p.2]) := by
  obtain ⟨d, h1, h2⟩ := h.get hx
  rw [List.getElem?_map] at h1
  obtain ⟨p, hp, rfl⟩ := Option.map_eq_some_iff.mp h1
  cases h2 with
  | tup ht ha =>
    cases ha with
    | cons u v =>
      cases v with
      | cons u' v' =>
        cases v'
        cases u
        cases u'
        exact ⟨_, p, rfl, hp, ht⟩
def sp_merged_labels (K : PySem.W.Frag) : Sp := fun vs H Q _ => ∃ (l : Addr) (ls : List Int) (a b : Int), vs = [.ref l, .int a, .int b] ∧ SqL K H l (ls.map V.int) ∧ ls.length ≤ 100 ∧ ∀ H' p, Same H H' → H p = none → H' p = some (.lst ((mrg ls a b).map V.int)) → Q (.ref p) H'
def sp_piece_labels (K : PySem.W.Frag) : Sp := fun vs H Q _ => ∃ (P W : Int) (l : Addr) (xs : List V) (ps : List (Int × Int)), vs = [.int P, .int W, .ref l] ∧ 0 ≤ P ∧ 0 ≤ W ∧ P + W ≤ 100 ∧ SqL K H l xs ∧ DqAll H xs (ps.map prD) ∧ Ins P W ps ∧
  ∀ H' p, Same H H' → H' p = some (.lst ((marks P W ps).map V.int)) → Q (.ref p) H'
theorem in2 {l a b : Int} : inV (.int l) [.int a, .int b] = decide (l = a ∨ l = b) := by
  have e : inV (.int l) [.int a, .int b] = ((a == l) || ((b == l) || false)) := rfl
  rw [e]
  by_cases h1 : l = a
  · subst h1
    simp
  · by_cases h2 : l = b
    · subst h2
      simp
    · have n1 : (a == l) = false := beq_eq_false_iff_ne.mpr fun z => h1 z.symm
      have n2 : (b == l) = false := beq_eq_false_iff_ne.mpr fun z => h2 z.symm
      rw [n1, n2, decide_eq_false (by intro z; rcases z with z | z <;> contradiction)]
      rfl
theorem map_at {ls : List Int} {i : Nat} {x : V} (h : (ls.map V.int)[i]? = some x) : ∃ n, ls[i]? = some n ∧ x = .int n := by
  rw [List.getElem?_map] at h
  obtain ⟨n, hn, e⟩ := Option.map_eq_some_iff.mp h
  exact ⟨n, hn, e.symm⟩
theorem take_snoc {α β : Type} (f : α → β) {l : List α} {i : Nat} {x : α} (h : l[i]? = some x) : (l.take (i + 1)).map f = (l.take i).map f ++ [f x] := by
  rw [List.take_add_one, h, List.map_append]
  rfl
section
variable {P : Program} {w : World} {K : PySem.W.Frag} {mg : Str → Option Value} {base : Heap}
theorem ok_merged_labels (T : Txt K mg) : FnOk P w K mg base CX0 1 T.f_merged_labels T.d_merged_labels ["labels", "one", "other"] (sp_merged_labels K) := by
  refine T.F_merged_labels.ok sc_merged_labels (fun vs H Q E h => ?_) (fun cdv A outer s H vs Q E hr h => ?_)
  · obtain ⟨l, ls, a, b, rfl, _⟩ := h
    rfl
  · obtain ⟨l, ls, a, b, rfl, hS, hlen, q⟩ := h
    refine ⟨_, (pss_cons (ps_set (i := 3) sc_merged_labels.nd rfl (.inr rfl) (pe_callB (call_min2 rfl) (by rfl) T.m_min (by decide +kernel) (pa_cons (pv 1) (pa_cons (pv 2) pa_nil))))
      (pss_one (ps_ret (pe_lc rfl sc_merged_labels.nd (pi_list (pv 0)) (blkOk_by (own := [("label", 4)]) (N := ["labels", "one", "other", "least", "label"]) (sc := defScope s_merged_labels) (by decide +kernel)) (fun _ _ _ _ _ => (pg_name (i := 4) sc_merged_labels.nd rfl (.inl rfl))) (fun _ _ _ _ _ => pts_nil) (fun _ _ _ _ _ => (pe_ifExp (pt_cmpR (show OpR _ (compareOp .In) (rIn K false) from op_in_seq) (pv 4) (pe_tup (pa_cons (pv 1) (pa_cons (pv 2) pa_nil))) rfl) (pv 3) (pv 4))))))), ?_⟩
    refine ⟨_, rfl, _, rfl, a, b, rfl, _, rfl, l, rfl, ⟨_, hS⟩, fun D nD => ?_⟩
    refine lc_list (xs := ls.map V.int) (fun i H' => Same H H' ∧ H' D = some (.lst (((ls.take i).map fun l => if l = a ∨ l = b then (if b < a then b else a) else l).map V.int)))
      ⟨same_new nD, upd_same⟩ (fun i H' _ hP => hP.1.seq hS) (fun i x H' hx hP => ?_) (fun H' hP => ?_)
    · obtain ⟨sm, hD⟩ := hP
      obtain ⟨n, hn, rfl⟩ := map_at hx
      have hi : i < ls.length := (List.getElem?_eq_some_iff.mp hn).1
      refine ⟨rfl, ?_⟩
      refine ⟨_, rfl, _, rfl, _, rfl, (by show 2 ≤ sizeLine; decide), fun u nu => ⟨u, _, rfl, .inr (SqT.of upd_same), rfl, rfl, _, rfl, ?_⟩⟩
      have nDu : D ≠ u := ne_of_none hD nu
      have sm2 : Same H (upd H' u (.tup [.int a, .int b])) := fun c o e => (same_new nu) _ _ (sm _ _ e)
      have fin : ∀ z : Int, z = (if n = a ∨ n = b then (if b < a then b else a) else n) → ∃ acc, (upd H' u (.tup [.int a, .int b])) D = some (.lst acc) ∧ acc.length < sizeLine ∧
          (Same H (upd (upd H' u (.tup [.int a, .int b])) D (.lst (acc ++ [.int z]))) ∧ (upd (upd H' u (.tup [.int a, .int b])) D (.lst (acc ++ [.int z]))) D = some (.lst (((ls.take (i + 1)).map fun l => if l = a ∨ l = b then (if b < a then b else a) else l).map V.int))) := fun z ez => by
        refine ⟨_, by rw [upd_ne nDu]; exact hD, ?_, fun c o e => ?_, ?_⟩
        · rw [List.length_map, List.length_map, List.length_take]
          exact small1000 (by omega)
        · rw [upd_ne (ne_of_none e nD)]
          exact sm2 _ _ e
        · rw [upd_same, take_snoc _ hn, List.map_append, ez]
          rfl
      by_cases c : n = a ∨ n = b
      · refine (show (if (if false = true then !inV (V.int n) [V.int a, V.int b] else inV (V.int n) [V.int a, V.int b]) = true then _ else _) from ?_)
        rw [if_neg Bool.false_ne_true, in2, decide_eq_true c]
        exact iteT ⟨_, rfl, fin _ (by rw [if_pos c])⟩
      · refine (show (if (if false = true then !inV (V.int n) [V.int a, V.int b] else inV (V.int n) [V.int a, V.int b]) = true then _ else _) from ?_)
        rw [if_neg Bool.false_ne_true, in2, decide_eq_false c]
        exact iteF ⟨_, rfl, fin _ (by rw [if_neg c])⟩
    · obtain ⟨sm, hD⟩ := hP
      rw [List.length_map, List.take_length] at hD
      exact q H' D sm nD hD
end
end K00
set_option Elab.async false
set_option linter.all false
set_option maxRecDepth 100000
set_option maxHeartbeats 4000000
set_option exponentiation.threshold 5000
namespace K00
open PySem PySem.Spec PyProof.Rows L2 TkS
/-! comprehensions of ints -/
theorem filter_snoc {α β : Type} (p : α → Bool) (f : α → β) {l : List α} {i : Nat} {x : α} (h : l[i]? = some x) :
    ((l.take (i + 1)).filter p).map f = if p x = true then ((l.take i).filter p).map f ++ [f x] else ((l.take i).filter p).map f := by
  rw [List.take_add_one, h]
  show ((l.take i ++ [x]).filter p).map f = _
  rw [List.filter_append, List.map_append, List.filter_cons]
  by_cases c : p x = true
  · rw [if_pos c, if_pos c]
    rfl
  · rw [if_neg c, if_neg c]
    show ((l.take i).filter p).map f ++ [] = _
    rw [List.append_nil]
theorem filter_range {β : Type} (p : Nat → Bool) (f : Nat → β) (i : Nat) :
    ((List.range (i + 1)).filter p).map f = if p i = true then ((List.range i).filter p).map f ++ [f i] else ((List.range i).filter p).map f := by
  rw [List.range_succ, List.filter_append, List.map_append, List.filter_cons]
  by_cases c : p i = true
  · rw [if_pos c, if_pos c]
    rfl
  · rw [if_neg c, if_neg c]
    show ((List.range i).filter p).map f ++ [] = _
    rw [List.append_nil]
theorem len_filter_take {α β : Type} (p : α → Bool) (f : α → β) (l : List α) (i : Nat) : (((l.take i).filter p).map f).length ≤ l.length := by
  rw [List.length_map]
  exact Nat.le_trans (List.length_filter_le _ _) (by rw [List.length_take]; omega)
theorem len_filter_range {β : Type} (p : Nat → Bool) (f : Nat → β) (i : Nat) : (((List.range i).filter p).map f).length ≤ i := by
  rw [List.length_map]
  exact Nat.le_trans (List.length_filter_le _ _) (by rw [List.length_range]; exact Nat.le_refl _)
/-- a comprehension over any items, each turn told by f (kept) and e (the new item), which leave the heap -/
theorem lc_vals {α : Type} {K : PySem.W.Frag} {a : Addr} {ns : List α} {h : α → V} {tt : TT} {te : TE} {vs : List Nat} {σ : L2.St} {H0 H1 : Hp} {D : Addr} {Qd : Hp → Prop} {j : Nat} (f : α → Bool) (e : α → V)
    (sm : Same H0 H1) (nD : H1 D = none) (hl : ns.length ≤ 1000) (hS : ∀ H', Same H0 H' → SqL K H' a (ns.map h)) (hw : ∀ x : V, wipe ((wipe σ vs).set j (some x)) vs = wipe σ vs)
    (ht : ∀ (i : Nat) (n : α) (H' : Hp) (Q : Bool → Hp → Prop), ns[i]? = some n → Same H0 H' → (∀ H'', Same H' H'' → Q (f n) H'') → tt ((wipe σ vs).set j (some (h n))) H' Q)
    (he : ∀ (i : Nat) (n : α) (H' : Hp) (Q : VK), ns[i]? = some n → f n = true → Same H0 H' → (∀ H'', Same H' H'' → Q (e n) H'') → te ((wipe σ vs).set j (some (h n))) H' Q)
    (hd : ∀ H', Same H0 H' → H' D = some (.lst ((ns.filter f).map e)) → Qd H') :
    ∃ W : Nat → Nat → Hp → Prop, (∃ m, W 0 m (upd H1 D (.lst []))) ∧ ∀ i m H, W i m H →
      ((Itl K a).stop i H ∧ Qd H) ∨ ((Itl K a).go i H ∧ ∃ Nx : Hp → Prop, (∀ H', Nx H' → ∃ m', m' < m ∧ W (i + 1) m' H') ∧ ∀ x H', (Itl K a).yld i H x H' → gName j x (wipe σ vs) H' fun σ2 H2 => wipe σ2 vs = wipe σ vs ∧ tt σ2 H2 fun b H3 =>
        if b = true then te σ2 H3 fun y H4 => ∃ acc, H4 D = some (.lst acc) ∧ acc.length < sizeLine ∧ Nx (upd H4 D (.lst (acc ++ [y]))) else Nx H3) := by
  refine lc_list (xs := ns.map h) (fun i H' => Same H0 H' ∧ H' D = some (.lst (((ns.take i).filter f).map e)) ∧ ∀ b o, H0 b = some o → b ≠ D) ⟨sm.trans (same_new nD), upd_same, fun b o z => ne_of_none (sm _ _ z) nD⟩ (fun i H' _ hP => hS _ hP.1) (fun i x H' hx hP => ?_) (fun H' hP => ?_)
  · obtain ⟨s, hD, ap⟩ := hP
    rw [List.getElem?_map] at hx
    obtain ⟨n, hn, rfl⟩ := Option.map_eq_some_iff.mp hx
    refine ⟨hw _, ht i n H' _ hn s fun H2 s2 => ?_⟩
    have hD2 := s2 _ _ hD
    cases c : f n with
    | true =>
      refine he i n H2 _ hn c (s.trans s2) fun H3 s3 => ⟨_, s3 _ _ hD2, ?_, fun b o z => ?_, ?_, ap⟩
      · exact small1000 (Nat.le_trans (len_filter_take _ _ _ _) hl)
      · rw [upd_ne (ap b o z)]
        exact s3 _ _ (s2 _ _ (s _ _ z))
      · rw [upd_same, filter_snoc _ _ hn, if_pos c]
    | false =>
      refine ⟨s.trans s2, ?_, ap⟩
      rw [filter_snoc _ _ hn, c, if_neg Bool.false_ne_true]
      exact hD2
  · obtain ⟨s, hD, _⟩ := hP
    rw [List.length_map, List.take_length] at hD
    exact hd H' s hD
/-- the same over a range -/
theorem lc_rng {tt : TT} {te : TE} {vs : List Nat} {σ : L2.St} {H0 H1 : Hp} {D : Addr} {Qd : Hp → Prop} {j n : Nat} (f : Nat → Bool) (e : Nat → V)
    (sm : Same H0 H1) (nD : H1 D = none) (hl : n ≤ 1000) (hw : ∀ x : V, wipe ((wipe σ vs).set j (some x)) vs = wipe σ vs)
    (ht : ∀ (i : Nat) (H' : Hp) (Q : Bool → Hp → Prop), i < n → Same H0 H' → (∀ H'', Same H' H'' → Q (f i) H'') → tt ((wipe σ vs).set j (some (.int (0 + (i : Int))))) H' Q)
    (he : ∀ (i : Nat) (H' : Hp) (Q : VK), i < n → f i = true → Same H0 H' → (∀ H'', Same H' H'' → Q (e i) H'') → te ((wipe σ vs).set j (some (.int (0 + (i : Int))))) H' Q)
    (hd : ∀ H', Same H0 H' → H' D = some (.lst (((List.range n).filter f).map e)) → Qd H') :
    ∃ W : Nat → Nat → Hp → Prop, (∃ m, W 0 m (upd H1 D (.lst []))) ∧ ∀ i m H, W i m H →
      ((Itr 0 n).stop i H ∧ Qd H) ∨ ((Itr 0 n).go i H ∧ ∃ Nx : Hp → Prop, (∀ H', Nx H' → ∃ m', m' < m ∧ W (i + 1) m' H') ∧ ∀ x H', (Itr 0 n).yld i H x H' → gName j x (wipe σ vs) H' fun σ2 H2 => wipe σ2 vs = wipe σ vs ∧ tt σ2 H2 fun b H3 =>
        if b = true then te σ2 H3 fun y H4 => ∃ acc, H4 D = some (.lst acc) ∧ acc.length < sizeLine ∧ Nx (upd H4 D (.lst (acc ++ [y]))) else Nx H3) := by
  refine lc_range (lo := 0) (n := n) (fun i H' => Same H0 H' ∧ H' D = some (.lst (((List.range i).filter f).map e)) ∧ ∀ b o, H0 b = some o → b ≠ D) ⟨sm.trans (same_new nD), upd_same, fun b o z => ne_of_none (sm _ _ z) nD⟩ (fun i H' hi hP => ?_) (fun H' hP => ?_)
  · obtain ⟨s, hD, ap⟩ := hP
    refine ⟨hw _, ht i H' _ hi s fun H2 s2 => ?_⟩
    have hD2 := s2 _ _ hD
    cases c : f i with
    | true =>
      refine he i H2 _ hi c (s.trans s2) fun H3 s3 => ⟨_, s3 _ _ hD2, ?_, fun b o z => ?_, ?_, ap⟩
      · exact small1000 (Nat.le_trans (len_filter_range _ _ _) (by omega))
      · rw [upd_ne (ap b o z)]
        exact s3 _ _ (s2 _ _ (s _ _ z))
      · rw [upd_same, filter_range, if_pos c]
    | false =>
      refine ⟨s.trans s2, ?_, ap⟩
      rw [filter_range, c, if_neg Bool.false_ne_true]
      exact hD2
  · exact hd H' hP.1 hP.2.1
/-! pieces -/
def cs (ls : List Int) (label : Nat) : List Nat := (List.range ls.length).filter fun c => decide (ls.getD c 0 = (label : Int))
def pieceD (P : Int) (c : List Nat) : PyData := .tuple [.tuple ((c.filter fun (k : Nat) => decide ((k : Int) < P)).map fun (k : Nat) => .int (k : Int)), .tuple ((c.filter fun (k : Nat) => decide (P ≤ (k : Int))).map fun (k : Nat) => .int ((k : Int) - P))]
def piecesD (P : Int) (ls : List Int) : List PyData := ((List.range ls.length).filter fun l => !(cs ls l).isEmpty).map fun l => pieceD P (cs ls l)
theorem dq_ints {H : Hp} {α : Type} (f : α → Int) : ∀ l : List α, DqAll H (l.map fun x => .int (f x)) (l.map fun x => .int (f x))
  | [] => .nil
  | _ :: l => .cons (.int _) (dq_ints f l)
theorem off_upd {h : Addr} {H : Hp} {o : HO} : TkS.Off h (upd H h o) = TkS.Off h H := by
  funext b
  unfold TkS.Off
  by_cases z : b = h
  · rw [if_pos z, if_pos z]
  · rw [if_neg z, if_neg z, upd_ne z]
theorem ix_at {ls : List Int} {z : Int} (h0 : 0 ≤ z) (h1 : z < ls.length) : atI (ls.map V.int) z = some (.int (ls.getD z.toNat 0)) := by
  have hp : z.toNat < ls.length := by omega
  refine at_of (j := z.toNat) (by omega) ?_
  rw [List.getElem?_map, List.getElem?_eq_getElem hp]
  show some (V.int ls[z.toNat]) = _
  rw [List.getD_eq_getElem?_getD, List.getElem?_eq_getElem hp]
  rfl
def sp_pieces_by_labels (K : PySem.W.Frag) : Sp := fun vs H Q _ => ∃ (P : Int) (l : Addr) (ls : List Int), vs = [.int P, .ref l] ∧ SqL K H l (ls.map V.int) ∧ ls.length ≤ 100 ∧ ∀ H' v, Same H H' → Dq H' v (.tuple (piecesD P ls)) → Q v H'
section
variable {P : Program} {w : World} {K : PySem.W.Frag} {mg : Str → Option Value} {base : Heap}
theorem rg_row {a b : Int} (h : 0 ≤ b) : rgV 0 b = (row0 b.toNat).map V.int := by
  unfold rgV row0
  rw [List.map_map, Int.sub_zero]
  refine List.map_congr_left fun i _ => ?_
  show V.int (0 + (i : Int)) = V.int (i : Int)
  rw [Int.zero_add]
theorem ok_piece_labels (T : Txt K mg) : FnOk P w K mg base CX0 2 T.f_piece_labels T.d_piece_labels ["points", "walls", "pairs"] (sp_piece_labels K) := by
  refine T.F_piece_labels.ok sc_piece_labels (fun vs H Q E h => ?_) (fun cdv A outer s H vs Q E hr h => ?_)
  · obtain ⟨P', W, l, xs, ps, rfl, _⟩ := h
    rfl
  · obtain ⟨P', W, l, xs, ps, rfl, p0, w0, pw, hS, hD, hin, q⟩ := h
    refine ⟨_, (pss_cons (ps_set (i := 3) sc_piece_labels.nd rfl (.inl rfl) (pe_listRg rfl (by rfl) T.m_list (prg_1 (by rfl) T.m_range (pe_op op_add (pv 0) (pv 1)))))
      (pss_cons (ps_for PassesOwn.never rfl (pi_list (pv 2)) (pg_tup rfl (pgs_cons (pg_name (i := 4) sc_piece_labels.nd rfl (.inl rfl)) (pgs_cons (pg_name (i := 5) sc_piece_labels.nd rfl (.inl rfl)) pgs_nil)))
        (pss_one (ps_set (i := 3) sc_piece_labels.nd rfl (.inl rfl) (pe_call (ok_merged_labels T) (hr.mono (by decide)) (by rfl) T.g_merged_labels T.F_merged_labels.kp T.b_merged_labels .nil pass0 (pa_cons (pv 3) (pa_cons (pe_ix ix_list (pv 3) (pv 4) (fun _ _ => rfl)) (pa_cons (pe_ix ix_list (pv 3) (pe_op op_add (pv 0) (pv 5)) (fun _ _ => rfl)) pa_nil)))))))
      (pss_one (ps_ret (pv 3))))), ?_⟩
    refine ⟨_, rfl, _, rfl, P', W, rfl, rfl, P' + W, rfl, RgOk.of_le (by decide) (by omega) (by decide) (by omega), fun l0 n0 => ?_⟩
    have hlen : xs.length = ps.length := by
      rw [hD.len, List.length_map]
    refine ⟨_, rfl, l, rfl, ⟨_, (same_new n0).seq hS⟩, for_list (xs := xs) (fun i σ H' => ∃ (a : Addr) (y4 y5 : Option V), σ = [some (.int P'), some (.int W), some (.ref l), some (.ref a), y4, y5] ∧ Same H H' ∧ H' a = some (.lst (((ps.take i).foldl (stepM P') (row0 (P' + W).toNat)).map V.int)))
      ⟨l0, none, none, rfl, same_new n0, ?_⟩ (fun i σ H' _ hP => by obtain ⟨_, _, _, _, sm, _⟩ := hP; exact sm.seq hS) (fun i x σ H' hx hP => ?_) (fun σ H' hP => ?_)⟩
    · rw [upd_same, rg_row (a := 0) (by omega)]
      rfl
    · obtain ⟨a, y4, y5, rfl, sm, ha⟩ := hP
      obtain ⟨t, p, rfl, hp, ht⟩ := pr_items hD hx
      obtain ⟨b1, b2, b3, b4⟩ := hin p (List.mem_of_getElem? hp)
      generalize el : (ps.take i).foldl (stepM P') (row0 (P' + W).toNat) = ls at ha
      have ll : ls.length = (P' + W).toNat := by rw [← el, fold_len, row0_len]
      refine ⟨t, _, rfl, SqT.of (sm _ _ ht), rfl, _, _, rfl, _, _, rfl, rfl, ?_⟩
      refine ⟨_, rfl, _, rfl, _, rfl, a, _, p.1, _, rfl, rfl, SqL.of ha, ix_at b1 (by omega), _, rfl, _, rfl, _, rfl, P', p.2, rfl, rfl, a, _, P' + p.2, _, rfl, rfl, SqL.of ha, ix_at (by omega) (by omega), ?_⟩
      refine ⟨a, ls, _, _, rfl, SqL.of ha, by omega, fun H2 b s2 nb hb => ⟨b, _, _, rfl, sm.trans s2, ?_⟩⟩
      rw [hb, List.take_add_one, hp, List.foldl_append, el]
      rfl
    · obtain ⟨a, y4, y5, rfl, sm, ha⟩ := hP
      refine ⟨_, rfl, q H' a sm ?_⟩
      rw [hlen, List.take_length] at ha
      exact ha
theorem ok_pieces_by_labels (T : Txt K mg) : FnOk P w K mg base CX0 1 T.f_pieces_by_labels T.d_pieces_by_labels ["points", "labels"] (sp_pieces_by_labels K) := by
  refine T.F_pieces_by_labels.ok sc_pieces_by_labels (fun vs H Q E h => ?_) (fun cdv A outer s H vs Q E hr h => ?_)
  · obtain ⟨P', l, ls, rfl, _⟩ := h
    rfl
  · obtain ⟨P', l, ls, rfl, hS, hlen, q⟩ := h
    refine ⟨_, (pss_cons (ps_set (i := 2) sc_pieces_by_labels.nd rfl (.inl rfl) (pe_lst pa_nil))
      (pss_cons (ps_for PassesOwn.never rfl (pi_range1 (by rfl) T.m_range (pa_cons (pe_callB call_len_seq (by rfl) T.m_len (by decide +kernel) (pa_cons (pv 1) pa_nil)) pa_nil)) (pg_name (i := 3) sc_pieces_by_labels.nd rfl (.inr rfl))
        (pss_cons (ps_setLc (i := 4) rfl sc_pieces_by_labels.nd rfl rfl (sw_true rfl rfl rfl (by decide +kernel)) (pi_range1 (by rfl) T.m_range (pa_cons (pe_callB call_len_seq (by rfl) T.m_len (by decide +kernel) (pa_cons (pv 1) pa_nil)) pa_nil)) (blkOk_by (own := [("corner", 6)]) (N := ["points", "labels", "pieces", "label", "corners", "inside", "corner"]) (sc := defScope s_pieces_by_labels) (by decide +kernel)) (fun _ _ _ _ _ => (pg_name (i := 6) sc_pieces_by_labels.nd rfl (.inl rfl))) (fun _ _ _ _ _ => (pts_one (pt_cmpR op_eq (pe_ix (show IxR _ (rIxL K) from ix_list) (pv 1) (pv 6) (fun _ _ => rfl)) (pv 3) (nomark _)))) (fun _ _ _ _ _ => (pv 6)))
        (pss_one (ps_if (pt_truth (pv 4) (by intro _; rfl))
          (pss_cons (ps_set (i := 5) sc_pieces_by_labels.nd rfl (.inl rfl) (pe_callTy call_tuple_of (by rfl) T.m_tuple (by decide +kernel) (pa_cons (pe_lc rfl sc_pieces_by_labels.nd (pi_list (pv 4)) (blkOk_by (own := [("corner", 6)]) (N := ["points", "labels", "pieces", "label", "corners", "inside", "corner"]) (sc := defScope s_pieces_by_labels) (by decide +kernel)) (fun _ _ _ _ _ => (pg_name (i := 6) sc_pieces_by_labels.nd rfl (.inl rfl))) (fun _ _ _ _ _ => (pts_one (pt_cmpR op_lt (pv 6) (pv 0) (nomark _)))) (fun _ _ _ _ _ => (pv 6))) pa_nil)))
          (pss_one (ps_expr (pe_bm PySem.F.plainAttrs_list PySem.F.slot_list_append PySem.F.type_list_append mt_append (pv 2) (pa_cons (pe_tup (pa_cons (pv 5) (pa_cons (pe_callTy call_tuple_of (by rfl) T.m_tuple (by decide +kernel) (pa_cons (pe_lc rfl sc_pieces_by_labels.nd (pi_list (pv 4)) (blkOk_by (own := [("corner", 6)]) (N := ["points", "labels", "pieces", "label", "corners", "inside", "corner"]) (sc := defScope s_pieces_by_labels) (by decide +kernel)) (fun _ _ _ _ _ => (pg_name (i := 6) sc_pieces_by_labels.nd rfl (.inl rfl))) (fun _ _ _ _ _ => (pts_one (pt_cmpR op_ge (pv 6) (pv 0) (nomark _)))) (fun _ _ _ _ _ => (pe_op op_sub (pv 6) (pv 0)))) pa_nil)) pa_nil))) pa_nil)))))
          pss_nil))))
      (pss_one (ps_ret (pe_callTy call_tuple_of (by rfl) T.m_tuple (by decide +kernel) (pa_cons (pv 2) pa_nil)))))), ?_⟩
    refine ⟨Nat.zero_le _, fun pp np => ?_⟩
    have sm0 : Same H (upd H pp (.lst [])) := same_new np
    refine ⟨_, rfl, l, _, rfl, .inl (sm0.seq hS), _, rfl, by omega, by rw [List.length_map]; omega, for_range (n := ((ls.map V.int).length : Int).toNat)
      (fun i σ H' => ∃ (xs : List V) (y3 y4 y5 : Option V), σ = [some (.int P'), some (.ref l), some (.ref pp), y3, y4, y5, none] ∧ Same H H' ∧ H' pp = some (.lst xs) ∧ DqAll (TkS.Off pp H') xs (((List.range i).filter fun l => !(cs ls l).isEmpty).map fun l => pieceD P' (cs ls l)))
      ⟨[], none, none, none, rfl, sm0, upd_same, .nil⟩ (fun i σ H' hi hP => ?_) (fun σ H' hP => ?_)⟩
    · obtain ⟨xs, y3, y4, y5, rfl, sm, hpp, hd⟩ := hP
      have hi' : i < ls.length := by simpa using hi
      have lx : xs.length ≤ ls.length := by
        rw [hd.len]
        exact Nat.le_trans (len_filter_range _ _ _) (by omega)
      refine ⟨_, rfl, l, _, rfl, .inl (sm.seq hS), _, rfl, by omega, by rw [List.length_map]; omega, fun D nD => ?_⟩
      refine lc_rng (fun k => decide (ls.getD k 0 = (i : Int))) (fun k => .int (k : Int)) (H0 := H') (fun _ _ h => h) nD (by rw [List.length_map]; omega) (fun _ => rfl)
        (fun k H2 Q hk s2 q2 => ?_) (fun k H2 Q hk _ s2 q2 => ?_) (fun H2 s2 hD => ?_)
      · have hk' : k < ls.length := by simpa using hk
        refine ⟨_, rfl, _, rfl, l, ls.map V.int, (k : Int), .int (ls.getD k 0), rfl, by rw [Int.zero_add], (sm.trans s2).seq hS, ix_at (z := (k : Int)) (by omega) (by omega), _, rfl, rfl, _, rfl, ?_⟩
        rw [int_dec, Int.zero_add]
        exact q2 _ (fun _ _ h => h)
      · refine ⟨_, rfl, ?_⟩
        rw [Int.zero_add]
        exact q2 _ (fun _ _ h => h)
      · have e : ((ls.map V.int).length : Int).toNat = ls.length := by simp
        rw [e] at hD
        refine ⟨_, rfl, _, .inl ⟨_, SqL.of hD, rfl⟩, ?_⟩
        have hD' : H2 D = some (.lst ((cs ls i).map fun (k : Nat) => .int (k : Int))) := hD
        have cl : (cs ls i).length ≤ 100 := Nat.le_trans (List.length_filter_le _ _) (by rw [List.length_range]; exact hlen)
        refine (show (if (!((cs ls i).map fun (k : Nat) => V.int (k : Int)).isEmpty) = true then _ else _) from ?_)
        rw [show ((cs ls i).map fun (k : Nat) => V.int (k : Int)).isEmpty = (cs ls i).isEmpty from List.isEmpty_map]
        cases hc : (cs ls i).isEmpty with
        | true =>
          refine iteF ⟨xs, _, _, _, rfl, sm.trans s2, s2 _ _ hpp, ?_⟩
          rw [filter_range, hc, if_neg (by decide)]
          exact DqAll.same (off_of s2) _ hd
        | false =>
          refine iteT ⟨_, rfl, D, rfl, ⟨_, SqL.of hD'⟩, fun D2 nD2 => ?_⟩
          refine lc_vals (ns := cs ls i) (h := fun (k : Nat) => .int (k : Int)) (fun k => decide ((k : Int) < P')) (fun k => .int (k : Int)) (H0 := H2) (fun _ _ h => h) nD2 (by omega) (fun H3 s3 => SqL.of (s3 _ _ hD')) (fun _ => rfl)
            (fun j k H3 Q hk s3 q3 => ?_) (fun j k H3 Q hk _ s3 q3 => ?_) (fun H3 s3 hD2 => ?_)
          · exact ⟨_, rfl, _, rfl, _, _, rfl, rfl, _, rfl, q3 _ (fun _ _ h => h)⟩
          · exact ⟨_, rfl, q3 _ (fun _ _ h => h)⟩
          · refine ⟨D2, _, rfl, .inl ⟨SqL.of hD2, fun t1 n1 => ?_⟩⟩
            have m1 : Same H2 (upd H3 t1 (.tup (((cs ls i).filter fun (k : Nat) => decide ((k : Int) < P')).map fun (k : Nat) => .int (k : Int)))) := s3.trans (same_new n1)
            generalize e4 : upd H3 t1 (.tup (((cs ls i).filter fun (k : Nat) => decide ((k : Int) < P')).map fun (k : Nat) => .int (k : Int))) = H4 at m1
            have t1e : H4 t1 = some (.tup (((cs ls i).filter fun (k : Nat) => decide ((k : Int) < P')).map fun (k : Nat) => .int (k : Int))) := by rw [← e4, upd_same]
            refine ⟨_, rfl, by rw [← e4]; exact .inl ⟨rfl, xs, SqL.of ((s3.trans (same_new n1)) _ _ (s2 _ _ hpp))⟩, _, rfl, _, rfl, D, rfl, ⟨_, SqL.of (m1 _ _ hD')⟩, fun D3 nD3 => ?_⟩
            refine lc_vals (ns := cs ls i) (h := fun (k : Nat) => .int (k : Int)) (fun k => decide (P' ≤ (k : Int))) (fun k => .int ((k : Int) - P')) (H0 := H4) (fun _ _ h => h) nD3 (by omega) (fun H5 s5 => SqL.of (s5 _ _ (m1 _ _ hD'))) (fun _ => rfl)
              (fun j k H5 Q hk s5 q5 => ?_) (fun j k H5 Q hk _ s5 q5 => ?_) (fun H5 s5 hD3 => ?_)
            · exact ⟨_, rfl, _, rfl, _, _, rfl, rfl, _, rfl, q5 _ (fun _ _ h => h)⟩
            · exact ⟨_, rfl, _, rfl, _, _, rfl, rfl, q5 _ (fun _ _ h => h)⟩
            · refine ⟨D3, _, rfl, .inl ⟨SqL.of hD3, fun t2 n2 => ?_⟩⟩
              generalize e6 : upd H5 t2 (.tup (((cs ls i).filter fun (k : Nat) => decide (P' ≤ (k : Int))).map fun (k : Nat) => .int ((k : Int) - P'))) = H6
              have m6 : Same H4 H6 := by rw [← e6]; exact s5.trans (same_new n2)
              have t2e : H6 t2 = some (.tup (((cs ls i).filter fun (k : Nat) => decide (P' ≤ (k : Int))).map fun (k : Nat) => .int ((k : Int) - P'))) := by rw [← e6, upd_same]
              have p4 : H4 pp = some (.lst xs) := m1 _ _ (s2 _ _ hpp)
              have p6 : H6 pp = some (.lst xs) := m6 _ _ p4
              have ne1 : t1 ≠ pp := fun z => by
                subst z
                rw [t1e] at p4
                cases p4
              have ne2 : t2 ≠ pp := fun z => by
                subst z
                rw [t2e] at p6
                cases p6
              refine ⟨(by show 2 ≤ sizeLine; decide), fun t3 n3 => ⟨pp, xs, _, rfl, rfl, (same_new n3) _ _ p6, small1000 (by omega), ?_⟩⟩
              have ne3 : t3 ≠ pp := (ne_of_none p6 n3).symm
              have all : Same H (upd H6 t3 (.tup [.ref t1, .ref t2])) := (((sm.trans s2).trans m1).trans m6).trans (same_new n3)
              refine ⟨xs ++ [.ref t3], _, _, _, rfl, fun b o z => ?_, upd_same, ?_⟩
              · rw [upd_ne (ne_of_none z np)]
                exact all b o z
              · rw [off_upd, filter_range, hc, if_pos (by decide)]
                refine (DqAll.same (off_of (((s2.trans m1).trans m6).trans (same_new n3))) _ hd).snoc (.tup (off_at ne3 upd_same) (.cons (.tup (off_at ne1 ((same_new n3) _ _ (m6 _ _ t1e))) ?_) (.cons (.tup (off_at ne2 ((same_new n3) _ _ t2e)) ?_) .nil)))
                · exact dq_ints (fun (k : Nat) => (k : Int)) _
                · exact dq_ints (fun (k : Nat) => (k : Int) - P') _
    · obtain ⟨xs, y3, y4, y5, rfl, sm, hpp, hd⟩ := hP
      refine ⟨_, rfl, pp, xs, rfl, .inl ⟨SqL.of hpp, fun t nt => ?_⟩⟩
      refine q _ _ (sm.trans (same_new nt)) (.tup upd_same ?_)
      have e : ((ls.map V.int).length : Int).toNat = ls.length := by simp
      rw [e] at hd
      exact DqAll.same ((off_same).trans (same_new nt)) _ hd
end
end K00
set_option Elab.async false
set_option linter.all false
set_option maxRecDepth 100000
set_option maxHeartbeats 4000000
set_option exponentiation.threshold 5000
namespace K00
open PySem PySem.Spec PyProof.Rows L2 TkS
/-! pairs as data -/
theorem prD_datum (p : Int × Int) : prD p = PySem.W.Datum.toD p := rfl
theorem eqv_pr (p q : Int × Int) : PyData.eqv (prD p) (prD q) = decide (p = q) := PySem.W.Datum.eqv p q
theorem eqv_prs (ps qs : List (Int × Int)) : PyData.eqvAll (ps.map prD) (qs.map prD) = decide (ps = qs) := PySem.W.eqvAll_map ps qs
theorem any_pr (ps : List (Int × Int)) (p : Int × Int) : ((ps.map prD).any fun d => PyData.eqv d (prD p)) = decide (p ∈ ps) := (PySem.W.any_datum ps p).trans (decide_eq_decide.mpr Iff.rfl)
theorem shaped_pr (p : Int × Int) : SeqAt.shaped (prD p) = true := by
  simp [SeqAt.shaped, prD, PyData.canLay0, PyData.canLayAll0, PyData.depth, PyData.depthAll]
theorem lay_prs : ∀ ps : List (Int × Int), PyData.canLayAll0 (ps.map prD) = true ∧ PyData.depthAll (ps.map prD) ≤ 1
  | [] => ⟨rfl, Nat.zero_le _⟩
  | p :: ps => by
    have h := lay_prs ps
    constructor
    · simp [PyData.canLayAll0, prD, PyData.canLay0] at h ⊢
      exact h.1
    · simp [PyData.depthAll, prD, PyData.depth] at h ⊢
      exact Nat.max_le.mpr ⟨Nat.le_refl _, h.2⟩
theorem shaped_prs (ps : List (Int × Int)) : SeqAt.shaped (.tuple (ps.map prD)) = true := by
  have h := lay_prs ps
  simp [SeqAt.shaped, PyData.canLay0, PyData.depth, h.1]
  omega
theorem shaped_prs_l (ps : List (Int × Int)) : SeqAt.shaped (.list (ps.map prD)) = true := by
  have h := lay_prs ps
  simp [SeqAt.shaped, PyData.canLay0, PyData.depth, h.1]
  omega
def wholeD (d : PyData) (lo hi : Int) : Bool := match d with | .int i => decide (lo ≤ i) && decide (i ≤ hi) | _ => false
theorem wi_dq {H : Hp} {x : V} {d : PyData} {lo hi : Int} (k : Dq H x d) : wholeIn x (.int lo) (.int hi) = wholeD d lo hi := by cases k <;> rfl
theorem wholeD_of {d : PyData} {lo hi : Int} (h : wholeD d lo hi = true) : ∃ i, d = .int i ∧ lo ≤ i ∧ i ≤ hi := by
  cases d with
  | int i =>
    have h' : (decide (lo ≤ i) && decide (i ≤ hi)) = true := h
    rw [Bool.and_eq_true, decide_eq_true_iff, decide_eq_true_iff] at h'
    exact ⟨i, rfl, h'⟩
  | _ => cases h
def isPair (P W : Int) (d : PyData) : Bool := match itemsD d with | some [a, b] => wholeD a 0 (P - 1) && wholeD b 0 (W - 1) | _ => false
def prOf (d : PyData) : Int × Int := match itemsD d with | some [.int a, .int b] => (a, b) | _ => (0, 0)
theorem prOf_prD (p : Int × Int) : prOf (prD p) = p := rfl
theorem isPair_of {P W : Int} {d : PyData} (h : isPair P W d = true) : itemsD d = some [.int (prOf d).1, .int (prOf d).2] ∧ 0 ≤ (prOf d).1 ∧ (prOf d).1 < P ∧ 0 ≤ (prOf d).2 ∧ (prOf d).2 < W := by
  unfold isPair at h
  split at h
  · rename_i a b e
    rw [Bool.and_eq_true] at h
    obtain ⟨i, rfl, h1, h2⟩ := wholeD_of h.1
    obtain ⟨j, rfl, h3, h4⟩ := wholeD_of h.2
    unfold prOf
    rw [e]
    exact ⟨rfl, h1, by show i < P; omega, h3, by show j < W; omega⟩
  · cases h
theorem isPair_prD {P W : Int} {p : Int × Int} : isPair P W (prD p) = true ↔ 0 ≤ p.1 ∧ p.1 < P ∧ 0 ≤ p.2 ∧ p.2 < W := by
  constructor
  · intro h
    exact (isPair_of h).2
  · rintro ⟨h1, h2, h3, h4⟩
    show (decide (0 ≤ p.1) && decide (p.1 ≤ P - 1) && (decide (0 ≤ p.2) && decide (p.2 ≤ W - 1))) = true
    simp
    omega
/-! sorted lists of pairs -/
def leP (p q : Int × Int) : Prop := SrtO.lexB q p = false
theorem leP_iff {p q : Int × Int} : leP p q ↔ p.1 < q.1 ∨ (p.1 = q.1 ∧ p.2 ≤ q.2) := by
  unfold leP
  rw [SrtO.lexB_no]
  omega
def leB (p q : Int × Int) : Bool := !SrtO.lexB q p
def srt (l : List (Int × Int)) : List (Int × Int) := l.mergeSort leB
theorem leB_iff {p q : Int × Int} : leB p q = true ↔ leP p q := by
  unfold leB leP
  cases SrtO.lexB q p <;> simp
theorem srt_sorted (l : List (Int × Int)) : (srt l).Pairwise leP := by
  have h := List.pairwise_mergeSort (le := leB) (fun a b c h1 h2 => leB_iff.mpr (by
    have a1 := leP_iff.mp (leB_iff.mp h1)
    have a2 := leP_iff.mp (leB_iff.mp h2)
    exact leP_iff.mpr (by omega))) (fun a b => by
    by_cases h : leB a b = true
    · rw [h]
      rfl
    · have h2 : leB b a = true := leB_iff.mpr (leP_iff.mpr (by
        have n : ¬ leP a b := fun z => h (leB_iff.mpr z)
        rw [leP_iff] at n
        omega))
      rw [h2]
      simp) l
  exact h.imp fun z => leB_iff.mp z
theorem srt_perm (l : List (Int × Int)) : (srt l).Perm l := List.mergeSort_perm l leB
theorem srt_len (l : List (Int × Int)) : (srt l).length = l.length := (srt_perm l).length_eq
theorem srt_uniq {l m : List (Int × Int)} (h : l.Pairwise leP) (p : l.Perm m) : l = srt m :=
  List.Perm.eq_of_pairwise (le := leP) (fun a b _ _ h1 h2 => by
    have a1 := leP_iff.mp h1
    have a2 := leP_iff.mp h2
    exact Prod.ext (by omega) (by omega)) h (srt_sorted m) (p.trans (srt_perm m).symm)
def Asc (l : List (Int × Int)) : Prop := l.Pairwise fun p q => SrtO.lexB p q = true
theorem asc_le {l : List (Int × Int)} (h : Asc l) : l.Pairwise leP := h.imp fun z => leP_iff.mpr (by
  have := SrtO.lexB_iff.mp z
  omega)
theorem asc_nodup {l : List (Int × Int)} (h : Asc l) : l.Nodup := h.imp fun {a b} z e => by
  subst e
  have := SrtO.lexB_iff.mp z
  omega
theorem asc_of {l : List (Int × Int)} (h : l.Pairwise leP) (n : l.Nodup) : Asc l := by
  have := List.Pairwise.and h n
  exact this.imp fun {a b} z => SrtO.lexB_iff.mpr (by
    have z1 := leP_iff.mp z.1
    have z2 : ¬ (a.1 = b.1 ∧ a.2 = b.2) := fun e => z.2 (Prod.ext e.1 e.2)
    omega)
/-- equal neighbours tell of a double -/
theorem twins {l : List (Int × Int)} (h : l.Pairwise leP) (n : ∀ i, 1 ≤ i → i < l.length → l.getD (i - 1) (0, 0) ≠ l.getD i (0, 0)) : l.Nodup := by
  induction l with
  | nil => exact .nil
  | cons a r ih =>
    cases r with
    | nil => exact List.pairwise_singleton _ _
    | cons b r =>
      have h2 := (List.pairwise_cons.mp h).2
      have nd : (b :: r).Nodup := ih h2 fun i i1 i2 => by
        have := n (i + 1) (by omega) (by simp at i2 ⊢; omega)
        have e : i + 1 - 1 = (i - 1) + 1 := by omega
        rw [e] at this
        exact this
      refine List.nodup_cons.mpr ⟨fun m => ?_, nd⟩
      have hab : a ≠ b := n 1 (by omega) (by simp)
      have l1 : leP a b := (List.pairwise_cons.mp h).1 b List.mem_cons_self
      rcases List.mem_cons.mp m with e | e
      · exact hab e
      · have l2 : leP b a := (List.pairwise_cons.mp h2).1 a e
        have z1 := leP_iff.mp l1
        have z2 := leP_iff.mp l2
        exact hab (Prod.ext (by omega) (by omega))
/-! pictures -/
structure Pic (C : Addr) (H : Hp) (a : Addr) (P W : Int) (ps : List (Int × Int)) : Prop where
  at_ : ∃ (dx t : Addr) (v : V) (xs : List V), H a = some (.ins C dx [("points", .int P), ("walls", .int W), ("pairs", .ref t), ("_pieces", v)]) ∧ Frz H t xs ∧ DqAll H xs (ps.map prD) ∧ Dq H v (.tuple (piecesD P (marks P W ps)))
  ok : 1 ≤ P ∧ P ≤ 5 ∧ 1 ≤ W ∧ W ≤ 5
  ins : Ins P W ps
  asc : Asc ps
theorem Pic.same {C : Addr} {H H' : Hp} {a : Addr} {P W : Int} {ps : List (Int × Int)} (h : Pic C H a P W ps) (s : Same H H') : Pic C H' a P W ps := by
  obtain ⟨⟨dx, t, v, xs, h1, h2, h2', h3⟩, h4, h5, h6⟩ := h
  exact ⟨⟨dx, t, v, xs, s _ _ h1, h2.same s, DqAll.same s _ h2', h3.same s⟩, h4, h5, h6⟩
def wordD (p w ps : PyData) : Option Str :=
  if wholeD p 1 5 = true then
    if wholeD w 1 5 = true then
      match p, w, itemsD ps with
      | .int P, .int W, some ds => if ds.all (isPair P W) = true then (if (ds.map prOf).Nodup then none else some "double") else some "pair"
      | _, _, _ => some "pair"
    else some "walls"
  else some "points"
def sp_is_pair (C : Addr) : Sp := fun vs H Q _ => ∃ (a dx : Addr) (x : V) (d : PyData) (P W : Int) (fs : List (Str × V)), vs = [.ref a, x] ∧ H a = some (.ins C dx fs) ∧ fs.lookup ("points" : Str) = some (.int P) ∧ fs.lookup ("walls" : Str) = some (.int W) ∧ Dq H x d ∧
  ∀ H', Same H H' → Q (.bl (isPair P W d)) H'
section
variable {P : Program} {w : World} {K : PySem.W.Frag} {mg : Str → Option Value} {base : Heap}
theorem ok_is_pair (T : Txt K mg) : FnOk P w K mg base CX0 2 T.f_Pictureis_pair T.d_Pictureis_pair ["self", "thing"] (sp_is_pair T.C_Picture) := by
  refine T.F_Pictureis_pair.ok sc_Pictureis_pair (fun vs H Q E h => ?_) (fun cdv A outer s H vs Q E hr h => ?_)
  · obtain ⟨a, dx, x, d, P', W, fs, rfl, _⟩ := h
    rfl
  · obtain ⟨a, dx, x, d, P', W, fs, rfl, ha, hp, hw, hk, q⟩ := h
    refine ⟨_, (pss_one (ps_ret (pe_and (pe_call (ok_is_sequence T) (hr.mono (by decide)) (by rfl) T.g_is_sequence T.F_is_sequence.kp T.b_is_sequence .nil pass0 (pa_cons (pv 1) (pa_cons pe_int pa_nil))) (pe_and (pe_call (ok_is_whole T) (hr.mono (by decide)) (by rfl) T.g_is_whole T.F_is_whole.kp T.b_is_whole .nil pass0 (pa_cons (pe_ix ix_seq (pv 1) pe_int (fun _ _ => rfl)) (pa_cons pe_int (pa_cons (pe_op op_sub (pe_fld (pv 0) rfl) pe_int) pa_nil)))) (pe_one (pe_call (ok_is_whole T) (hr.mono (by decide)) (by rfl) T.g_is_whole T.F_is_whole.kp T.b_is_whole .nil pass0 (pa_cons (pe_ix ix_seq (pv 1) pe_int (fun _ _ => rfl)) (pa_cons pe_int (pa_cons (pe_op op_sub (pe_fld (pv 0) rfl) pe_int) pa_nil))))))))), ?_⟩
    refine ⟨x, rfl, x, .int 2, d, rfl, hk, .inr ⟨2, rfl⟩, fun H1 s1 => ?_⟩
    have hk1 := hk.same s1
    have no : seqIs d (.int 2) = false → isPair P' W d = false := fun z => by
      unfold seqIs at z
      unfold isPair
      cases e : itemsD d with
      | none => rfl
      | some ds =>
        rw [e] at z
        match ds, z with
        | [], _ => rfl
        | [_], _ => rfl
        | [_, _], z => exact (of_decide_eq_false z rfl).elim
        | _ :: _ :: _ :: _, _ => rfl
    cases hz : seqIs d (.int 2) with
    | false =>
      have q' := q _ s1
      rw [no hz] at q'
      exact ⟨_, rfl, iteF q'⟩
    | true =>
      obtain ⟨a0, a1, e⟩ : ∃ a0 a1, itemsD d = some [a0, a1] := by
        unfold seqIs at hz
        cases e : itemsD d with
        | none =>
          rw [e] at hz
          cases hz
        | some ds =>
          rw [e] at hz
          match ds, hz with
          | [], z => exact absurd z (by decide)
          | [_], z => exact absurd (show ((1 : Nat) : Int) = 2 from of_decide_eq_true z) (by decide)
          | [a, b], _ => exact ⟨a, b, rfl⟩
          | a :: b :: c :: r, z =>
            exfalso
            have z' : ((r.length + 1 + 1 + 1 : Nat) : Int) = 2 := of_decide_eq_true z
            omega
      obtain ⟨p, xs, rfl, hxs, hsq⟩ := sq_of (K := K) hk1 e
      cases hxs with
      | cons k0 t =>
        cases t with
        | cons k1 t =>
          cases t
          rename_i v0 v1
          have ix : ∀ (i : Int) (v : V) (Q' : VK), atI [v0, v1] i = some v → Q' v H1 → rIx K (.ref p) (.int i) H1 Q' := fun i v Q' hv qv =>
            hsq.elim (fun h => .inl ⟨p, _, i, v, rfl, rfl, h, hv, qv⟩) (fun h => .inr (.inl ⟨p, _, i, v, rfl, rfl, h, hv, qv⟩))
          have e2 : isPair P' W d = (wholeD a0 0 (P' - 1) && wholeD a1 0 (W - 1)) := by
            unfold isPair
            rw [e]
          have ha1 := s1 _ _ ha
          refine ⟨_, rfl, iteT ⟨_, rfl, ix 0 v0 _ rfl ⟨_, rfl, a, T.C_Picture, dx, fs, _, rfl, ha1, T.cl_Picture, T.na_points, hp, P', 1, rfl, rfl, v0, .int 0, .int (P' - 1), a0, rfl, k0, .inr ⟨0, rfl⟩, .inr ⟨_, rfl⟩, ?_⟩⟩⟩
          rw [wi_dq k0]
          have q' := q _ s1
          rw [e2] at q'
          cases b0 : wholeD a0 0 (P' - 1) with
          | false =>
            rw [b0] at q'
            exact ⟨_, rfl, iteF q'⟩
          | true =>
            rw [b0] at q'
            refine ⟨_, rfl, iteT ⟨_, rfl, ix 1 v1 _ rfl ⟨_, rfl, a, T.C_Picture, dx, fs, _, rfl, ha1, T.cl_Picture, T.na_walls, hw, W, 1, rfl, rfl, v1, .int 0, .int (W - 1), a1, rfl, k1, .inr ⟨0, rfl⟩, .inr ⟨_, rfl⟩, ?_⟩⟩⟩
            rw [wi_dq k1]
            exact q'
end
end K00
set_option Elab.async false
set_option linter.all false
set_option maxRecDepth 100000
set_option maxHeartbeats 4000000
set_option exponentiation.threshold 5000
namespace K00
open PySem PySem.Spec PyProof.Rows L2 TkS
/-! stores to an instance leave data as it is -/
mutual
theorem dq_put {H : Hp} {a C dx : Addr} {fs : List (Str × V)} {o : HO} (h : H a = some (.ins C dx fs)) : ∀ {v : V} (d : PyData), Dq H v d → Dq (upd H a o) v d
  | _, .none, .non => .non
  | _, .bool _, .bl b => .bl b
  | _, .int _, .int i => .int i
  | _, .str _, .str x => .str x
  | _, .list _, .lst e t => .lst (by
      rw [upd_ne (fun z => by rw [z, h] at e; cases e)]
      exact e) (dqAll_put h _ t)
  | _, .tuple _, .tup e t => .tup (by
      rw [upd_ne (fun z => by rw [z, h] at e; cases e)]
      exact e) (dqAll_put h _ t)
theorem dqAll_put {H : Hp} {a C dx : Addr} {fs : List (Str × V)} {o : HO} (h : H a = some (.ins C dx fs)) : ∀ {vs : List V} (ds : List PyData), DqAll H vs ds → DqAll (upd H a o) vs ds
  | _, [], .nil => .nil
  | _, _ :: _, .cons k t => .cons (dq_put h _ k) (dqAll_put h _ t)
end
theorem sq_put {K : PySem.W.Frag} {H : Hp} {a C dx p : Addr} {fs : List (Str × V)} {o : HO} {d : PyData} {ds : List PyData} (h : H a = some (.ins C dx fs)) (k : Dq H (.ref p) d) (e : itemsD d = some ds) : ∃ xs, DqAll (upd H a o) xs ds ∧ Sq K (upd H a o) p xs := by
  obtain ⟨p', xs, z, h1, h2⟩ := sq_of (K := K) (dq_put (o := o) h _ k) e
  cases z
  exact ⟨xs, h1, h2⟩
def KeepA (a : Addr) (H H' : Hp) : Prop := ∀ b o, H b = some o → b ≠ a → H' b = some o
theorem KeepA.same {a : Addr} {H H1 H2 : Hp} (k : KeepA a H H1) (s : Same H1 H2) : KeepA a H H2 := fun b o e n => s _ _ (k b o e n)
theorem KeepA.put {a : Addr} {H H1 : Hp} {o : HO} (k : KeepA a H H1) : KeepA a H (upd H1 a o) := fun b x e n => by
  rw [upd_ne n]
  exact k b x e n
def prV (H : Hp) : V → Int × Int
  | .ref t => match H t with
    | some (.tup [.int a, .int b]) => (a, b)
    | _ => (0, 0)
  | _ => (0, 0)
theorem prV_of {H : Hp} {x : V} {p : Int × Int} (k : Dq H x (prD p)) : prV H x = p ∧ ∃ t, x = .ref t ∧ H t = some (.tup [.int p.1, .int p.2]) := by
  cases k with
  | tup e t =>
    cases t with
    | cons u v =>
      cases v with
      | cons u' v' =>
        cases v'
        cases u
        cases u'
        refine ⟨?_, _, rfl, e⟩
        unfold prV
        simp only [e]
theorem prV_map {H : Hp} : ∀ {xs : List V} {l : List (Int × Int)}, DqAll H xs (l.map prD) → xs.map (prV H) = l ∧ ∀ x ∈ xs, Dq H x (prD (prV H x)) ∧ ∃ t, x = .ref t ∧ H t = some (.tup [.int (prV H x).1, .int (prV H x).2])
  | _, [], .nil => ⟨rfl, fun x m => nomatch m⟩
  | _, p :: l, .cons k t => by
    obtain ⟨e1, t1, e2, e3⟩ := prV_of k
    obtain ⟨f1, f2⟩ := prV_map t
    refine ⟨by rw [List.map_cons, e1, f1], fun x m => ?_⟩
    rcases List.mem_cons.mp m with z | m
    · subst z
      rw [e1]
      exact ⟨k, t1, e2, e3⟩
    · exact f2 x m
theorem dqAll_by {H : Hp} {k : V → Int × Int} : ∀ {xs : List V}, (∀ x ∈ xs, Dq H x (prD (k x))) → DqAll H xs ((xs.map k).map prD)
  | [], _ => .nil
  | x :: xs, h => .cons (h x List.mem_cons_self) (dqAll_by fun y m => h y (List.mem_cons_of_mem _ m))
theorem two_ints {H H' : Hp} {xs : List V} {i j : Int} (h : DqAll H xs [.int i, .int j]) : xs = [.int i, .int j] ∧ DqAll H' xs [.int i, .int j] := by
  cases h with
  | cons u v =>
    cases v with
    | cons u' v' =>
      cases v'
      cases u
      cases u'
      exact ⟨rfl, .cons (.int _) (.cons (.int _) .nil)⟩
theorem sorted_is {k : V → Int × Int} {ys zs : List V} {l : List (Int × Int)} (e : ys.map k = l) (s : SrtO.Srtd (ltP k) zs) (b : SrtO.Stb (ltP k) zs ys) : zs.map k = srt l := by
  refine srt_uniq ?_ (by rw [← e]; exact b.perm.map k)
  rw [List.pairwise_map]
  exact s
theorem asg_cb_lc {r : List V → Hp → VK → Prop} {wi : TI} {g : TG} {tt : TT} {te : TE} {vs : List Nat} {gi : TG} {rest : TS} {D : Ends} {σ : L2.St} {H : Hp} (h : tLc wi g tt te vs σ H fun v H1 => r [v] H1 fun x H2 => gi x σ H2 fun σ' H' => rest D σ' H') :
    tSeq (tAsg (tCB r (tCons (tLc wi g tt te vs) tNil)) gi) rest D σ H := h
def sp_Picture_init (C CB : Addr) : Sp := fun vs H Q E => ∃ (a dx : Addr) (p w ps : V) (dp dw dps : PyData), vs = [.ref a, p, w, ps] ∧ H a = some (.ins C dx []) ∧ Dq H p dp ∧ Dq H w dw ∧ Dq H ps dps ∧ (∀ ds, itemsD dps = some ds → ds.length ≤ 200) ∧
  (∀ e, wordD dp dw dps = some e → ∀ d H', KeepA a H H' → H' d = some (.xd [("what", .str e)]) → E (.ref CB) (some d) H') ∧
  (∀ P W ds, dp = .int P → dw = .int W → itemsD dps = some ds → wordD dp dw dps = none → ∀ H', KeepA a H H' → Pic C H' a P W (srt (ds.map prOf)) → Q .non H')
section
variable {P : Program} {w : World} {K : PySem.W.Frag} {mg : Str → Option Value} {base : Heap}
theorem ok_Picture_init (T : Txt K mg) : FnOk P w K mg base (L2.CX P w) 4 T.f_Picture_init T.d_Picture_init ["self", "points", "walls", "pairs"] (sp_Picture_init T.C_Picture T.C_BadPicture) := by
  refine T.F_Picture_init.okX sc_Picture_init (fun vs H Q E h => ?_) (fun cdv A outer s H vs Q E hr h => ?_)
  · obtain ⟨a, dx, p, w, ps, dp, dw, dps, rfl, _⟩ := h
    rfl
  · obtain ⟨a, dx, p, w, ps, dp, dw, dps, rfl, ha, kp, kw, kps, hlen, hE, hQ⟩ := h
    refine ⟨_, (pss_cons (ps_if (pt_not (pt_val (pe_call (ok_is_whole T) (hr.mono (by decide)) (by rfl) T.g_is_whole T.F_is_whole.kp T.b_is_whole .nil pass0 (pa_cons (pv 1) (pa_cons pe_int (pa_cons (pe_glob (v := .int 5) rfl T.c_MOST_CORNERS ⟨_, rfl⟩) pa_nil))))))
        (pss_one (ps_raise (W := fun cls d _ H => E cls d H) rfl (takes_of rfl rfl rfl rfl) (pmk_oex T.o_BadPicture T.i_BadPicture T.t_BadPicture (ok_BadPicture_init T) (hr.mono (by decide)) T.b_BadPicture_init .nil pass0 (by rfl) T.g_BadPicture (pa_cons pe_str pa_nil))))
        pss_nil)
      (pss_cons (ps_if (pt_not (pt_val (pe_call (ok_is_whole T) (hr.mono (by decide)) (by rfl) T.g_is_whole T.F_is_whole.kp T.b_is_whole .nil pass0 (pa_cons (pv 2) (pa_cons pe_int (pa_cons (pe_glob (v := .int 5) rfl T.c_MOST_CORNERS ⟨_, rfl⟩) pa_nil))))))
        (pss_one (ps_raise (W := fun cls d _ H => E cls d H) rfl (takes_of rfl rfl rfl rfl) (pmk_oex T.o_BadPicture T.i_BadPicture T.t_BadPicture (ok_BadPicture_init T) (hr.mono (by decide)) T.b_BadPicture_init .nil pass0 (by rfl) T.g_BadPicture (pa_cons pe_str pa_nil))))
        pss_nil)
      (pss_cons (ps_fld (pv 0) (pv 1) rfl)
      (pss_cons (ps_fld (pv 0) (pv 2) rfl)
      (pss_cons (ps_if (pt_not (pt_val (pe_call (ok_is_sequence T) (hr.mono (by decide)) (by rfl) T.g_is_sequence T.F_is_sequence.kp T.b1_is_sequence (show L2.Vals [.non] [.none] from .cons rfl .nil) pass0 (pa_cons (pv 3) pa_nil))))
        (pss_one (ps_raise (W := fun cls d _ H => E cls d H) rfl (takes_of rfl rfl rfl rfl) (pmk_oex T.o_BadPicture T.i_BadPicture T.t_BadPicture (ok_BadPicture_init T) (hr.mono (by decide)) T.b_BadPicture_init .nil pass0 (by rfl) T.g_BadPicture (pa_cons pe_str pa_nil))))
        pss_nil)
      (pss_cons (ps_for (by exact passes_of rfl) rfl (pi_seq (pv 3)) (pg_name (i := 4) sc_Picture_init.nd rfl (.inl rfl))
        (pss_one (ps_if (pt_not (pt_val (pe_meth (pv 0) T.cl_Picture T.M_is_pair (ok_is_pair T) (hr.mono (by decide)) T.b_Pictureis_pair .nil pass0 (pa_cons (pv 4) pa_nil))))
          (pss_one (ps_raise (W := fun cls d _ H => E cls d H) rfl (takes_of rfl rfl rfl rfl) (pmk_oex T.o_BadPicture T.i_BadPicture T.t_BadPicture (ok_BadPicture_init T) (hr.mono (by decide)) T.b_BadPicture_init .nil pass0 (by rfl) T.g_BadPicture (pa_cons pe_str pa_nil))))
          pss_nil)))
      (pss_cons (ps_set (i := 5) sc_Picture_init.nd rfl (.inl rfl) (pe_callB cr_sortedPO (by rfl) T.m_sorted (by decide +kernel) (pa_cons (pe_lc rfl sc_Picture_init.nd (pi_seq (pv 3)) (blkOk_by (own := [("pair", 4)]) (N := ["self", "points", "walls", "pairs", "pair", "kept", "at"]) (sc := defScope s_Picture_init) (by decide +kernel)) (fun _ _ _ _ _ => (pg_name (i := 4) sc_Picture_init.nd rfl (.inl rfl))) (fun _ _ _ _ _ => pts_nil) (fun _ _ _ _ _ => (pe_callTy call_tupD (by rfl) T.m_tuple (by decide +kernel) (pa_cons (pv 4) pa_nil)))) pa_nil)))
      (pss_cons (ps_for (by exact passes_of rfl) rfl (pi_range2 (by rfl) T.m_range (pa_cons pe_int (pa_cons (pe_callB call_len_seq (by rfl) T.m_len (by decide +kernel) (pa_cons (pv 5) pa_nil)) pa_nil))) (pg_name (i := 6) sc_Picture_init.nd rfl (.inl rfl))
        (pss_one (ps_if (pt_cmpR (op_eqD hr.units) (pe_ix ix_list (pv 5) (pe_op op_sub (pv 6) pe_int) (fun _ _ => rfl)) (pe_ix ix_list (pv 5) (pv 6) (fun _ _ => rfl)) (nomark _))
          (pss_one (ps_raise (W := fun cls d _ H => E cls d H) rfl (takes_of rfl rfl rfl rfl) (pmk_oex T.o_BadPicture T.i_BadPicture T.t_BadPicture (ok_BadPicture_init T) (hr.mono (by decide)) T.b_BadPicture_init .nil pass0 (by rfl) T.g_BadPicture (pa_cons pe_str pa_nil))))
          pss_nil)))
      (pss_cons (ps_fld (pv 0) (pe_callTy call_tupF (by rfl) T.m_tuple (by decide +kernel) (pa_cons (pv 5) pa_nil)) rfl)
      (pss_one (ps_fld (pv 0) (pe_call (ok_pieces_by_labels T) (hr.mono (by decide)) (by rfl) T.g_pieces_by_labels T.F_pieces_by_labels.kp T.b_pieces_by_labels .nil pass0 (pa_cons (pv 1) (pa_cons (pe_call (ok_piece_labels T) (hr.mono (by decide)) (by rfl) T.g_piece_labels T.F_piece_labels.kp T.b_piece_labels .nil pass0 (pa_cons (pv 1) (pa_cons (pv 2) (pa_cons (pv 5) pa_nil)))) pa_nil))) rfl))))))))))), ?_⟩
    refine ⟨p, rfl, p, .int 1, .int 5, dp, rfl, kp, .inr ⟨_, rfl⟩, .inr ⟨_, rfl⟩, ?_⟩
    rw [wi_dq kp]
    cases b1 : wholeD dp 1 5 with
    | false =>
      exact ⟨_, rfl, iteT (mk_exc fun d H' s nd hd => hE _ (by unfold wordD; rw [b1]; rfl) d H' (fun b o e _ => s b o e) hd)⟩
    | true =>
      refine ⟨_, rfl, iteF ?_⟩
      refine ⟨w, rfl, w, .int 1, .int 5, dw, rfl, kw, .inr ⟨_, rfl⟩, .inr ⟨_, rfl⟩, ?_⟩
      rw [wi_dq kw]
      cases b2 : wholeD dw 1 5 with
      | false =>
        exact ⟨_, rfl, iteT (mk_exc fun d H' s nd hd => hE _ (by unfold wordD; rw [b1, b2]; rfl) d H' (fun b o e _ => s b o e) hd)⟩
      | true =>
        obtain ⟨P', rfl, p1, p2⟩ := wholeD_of b1
        obtain ⟨W, rfl, w1, w2⟩ := wholeD_of b2
        cases kp
        cases kw
        refine ⟨_, rfl, iteF ?_⟩
        refine ⟨_, rfl, _, rfl, a, T.C_Picture, dx, [], rfl, ha, T.cl_Picture, T.na_points, by decide, ?_⟩
        refine ⟨_, rfl, _, rfl, a, T.C_Picture, dx, _, rfl, upd_same, T.cl_Picture, T.na_walls, by simp [putF], ?_⟩
        generalize eH2 : upd (upd H a (.ins T.C_Picture dx (putF "points" (.int P') []))) a (.ins T.C_Picture dx (putF "walls" (.int W) (putF "points" (.int P') []))) = H2
        have a2 : H2 a = some (.ins T.C_Picture dx [("points", .int P'), ("walls", .int W)]) := by
          rw [← eH2, upd_same]
          rfl
        have k2 : KeepA a H H2 := by
          rw [← eH2]
          exact KeepA.put (KeepA.put fun b o e _ => e)
        have kps2 : Dq H2 ps dps := by
          rw [← eH2]
          exact dq_put upd_same _ (dq_put ha _ kps)
        refine ⟨ps, rfl, ps, .non, dps, rfl, kps2, .inl rfl, fun H3 s3 => ?_⟩
        cases e3 : itemsD dps with
        | none =>
          refine ⟨_, rfl, ?_⟩
          unfold seqIs
          rw [e3]
          exact iteT (mk_exc fun d H' s nd hd => hE _ (by unfold wordD; rw [b1, b2, e3]; rfl) d H' ((k2.same s3).same s) hd)
        | some ds =>
          have wd : wordD (.int P') (.int W) dps = if ds.all (isPair P' W) = true then (if (ds.map prOf).Nodup then (none : Option Str) else some ("double" : Str)) else some ("pair" : Str) := by
            unfold wordD
            rw [b1, b2, e3]
            rfl
          have ld := hlen ds e3
          refine ⟨_, rfl, ?_⟩
          unfold seqIs
          rw [e3]
          refine iteF ?_
          obtain ⟨pp, xs, rfl, hxs, hq⟩ := sq_of (K := K) (kps2.same s3) e3
          have a3 := s3 _ _ a2
          have k3 := k2.same s3
          have lx := hxs.len
          refine for_seq (xs := xs) (a := pp) (fun i σ H' => ∃ y4, σ = [some (.ref a), some (.int P'), some (.int W), some (.ref pp), y4, none, none] ∧ Same H3 H' ∧ ∀ d ∈ ds.take i, isPair P' W d = true) (fun Q h => ⟨_, rfl, h⟩) hq
            ⟨none, rfl, fun _ _ h => h, fun d m => by simp at m⟩ (fun i σ H' _ hP => by obtain ⟨_, _, sm, _⟩ := hP; exact sm) (fun i x σ H4 hx hP => ?_) (fun σ H4 hP => ?_)
          · obtain ⟨y4, rfl, s4, hall⟩ := hP
            obtain ⟨d, hd, kd⟩ := hxs.get hx
            refine ⟨_, rfl, a, dx, _, rfl, s4 _ _ a3, rfl, ?_⟩
            refine ⟨_, rfl, a, dx, x, d, P', W, _, rfl, s4 _ _ a3, rfl, rfl, kd.same s4, fun H5 s5 => ⟨_, rfl, ?_⟩⟩
            cases hb : isPair P' W d with
            | false =>
              refine iteT (mk_exc fun dd H' s nd hdd => hE _ ?_ dd H' ((k3.same (s4.trans s5)).same s) hdd)
              rw [wd, if_neg]
              intro z
              have := List.all_eq_true.mp z d (List.mem_of_getElem? hd)
              rw [hb] at this
              cases this
            | true =>
              refine iteF ⟨_, rfl, s4.trans s5, fun d' m => ?_⟩
              rw [List.take_add_one, hd] at m
              rcases List.mem_append.mp m with m | m
              · exact hall d' m
              · have : d' = d := by simpa using m
                rw [this]
                exact hb
          · obtain ⟨y4, rfl, s4, hall⟩ := hP
            rw [lx, List.take_length] at hall
            have k4 := k3.same s4
            have a4 := s4 _ _ a3
            have hxs4 := DqAll.same s4 _ hxs
            have hq4 := hq.same s4
            dsimp only
            refine asg_cb_lc ?_
            refine lc_seq (xs := xs) (a := pp) (fun D i H' => Same H4 H' ∧ ∃ ys, H' D = some (.lst ys) ∧ DqAll (TkS.Off D H') ys (((ds.take i).map prOf).map prD)) (fun Q h => ⟨_, rfl, h⟩) hq4
              (fun D nD => ⟨same_new nD, [], upd_same, .nil⟩) (fun D i H' nD _ hP => hP.1) (fun D i x H' nD hx hP => ?_) (fun D H' nD hP => ?_)
            · obtain ⟨s5, ys, hD, hy⟩ := hP
              obtain ⟨d, hd, kd⟩ := hxs4.get hx
              obtain ⟨f1, f2⟩ := isPair_of (hall d (List.mem_of_getElem? hd))
              have ly := hy.len
              rw [List.length_map, List.length_map, List.length_take] at ly
              refine ⟨rfl, x, rfl, x, d, _, rfl, kd.same s5, f1, fun l H6 s6 k6 => ⟨ys, s6 _ _ hD, small1000 (by omega), fun b o e => ?_, ys ++ [.ref l], upd_same, ?_⟩⟩
              · rw [upd_ne (ne_of_none e nD)]
                exact s6 _ _ (s5 _ _ e)
              · rw [off_upd, List.take_add_one, hd]
                show DqAll _ _ (((ds.take i ++ [d]).map prOf).map prD)
                rw [List.map_append, List.map_append]
                refine (DqAll.same (off_of s6) _ hy).snoc ?_
                have n6 : l ≠ D := fun z => by
                  subst z
                  have e6 := s6 _ _ hD
                  cases k6 with
                  | tup e7 _ =>
                    rw [e6] at e7
                    cases e7
                cases k6 with
                | tup e7 t7 =>
                  exact .tup (off_at n6 e7) (two_ints t7).2
            · obtain ⟨s5, ys, hD, hy⟩ := hP
              rw [lx, List.take_length] at hy
              have hy' : DqAll H' ys ((ds.map prOf).map prD) := DqAll.same off_same _ hy
              obtain ⟨m1, m2⟩ := prV_map hy'
              refine ⟨D, ys, prV H', rfl, SqL.of hD, fun x m => (m2 x m).2, fun zs p srt1 stb1 np => ?_⟩
              have hz := sorted_is m1 srt1 stb1
              have hz2 : DqAll (upd H' p (.lst zs)) zs ((srt (ds.map prOf)).map prD) := by
                rw [← hz]
                exact DqAll.same (same_new np) _ (dqAll_by fun x m => (m2 x (stb1.perm.mem_iff.mp m)).1)
              have s6 : Same H4 (upd H' p (.lst zs)) := s5.trans (same_new np)
              have hp6 : (upd H' p (.lst zs)) p = some (.lst zs) := upd_same
              generalize upd H' p (.lst zs) = H6 at hz2 s6 hp6
              have lz : zs.length = ds.length := by rw [stb1.perm.length_eq, ← lx, lx, hy'.len, List.length_map, List.length_map]
              have nds : ∀ i, 1 ≤ i → i < (srt (ds.map prOf)).length → (srt (ds.map prOf)).getD (i - 1) (0, 0) = (srt (ds.map prOf)).getD i (0, 0) → ¬ (ds.map prOf).Nodup := fun i h1 h2 he nd => by
                have nd2 : (srt (ds.map prOf)).Nodup := (srt_perm _).nodup_iff.mpr nd
                rw [List.getD_eq_getElem?_getD, List.getD_eq_getElem?_getD, List.getElem?_eq_getElem (by omega : i - 1 < _), List.getElem?_eq_getElem h2] at he
                exact List.pairwise_iff_getElem.mp nd2 (i - 1) i (by omega) h2 (by omega) he
              have kall : ds.all (isPair P' W) = true := List.all_eq_true.mpr hall
              have lsr : (srt (ds.map prOf)).length = zs.length := by rw [srt_len, List.length_map, lz]
              refine ⟨_, rfl, p, zs, rfl, .inl (SqL.of hp6), 1, (zs.length : Int), rfl, ⟨by decide, by decide, by omega, by omega⟩, for_range (lo := 1) (n := ((zs.length : Int) - 1).toNat)
                (fun i σ H7 => ∃ y6, σ = [some (.ref a), some (.int P'), some (.int W), some (.ref pp), y4, some (.ref p), y6] ∧ H6 = H7 ∧ ∀ j, 1 ≤ j → j < i + 1 → (srt (ds.map prOf)).getD (j - 1) (0, 0) ≠ (srt (ds.map prOf)).getD j (0, 0))
                ⟨none, rfl, rfl, fun j h1 h2 => by omega⟩ (fun i σ H7 hi hP => ?_) (fun σ H7 hP => ?_)⟩
              · obtain ⟨y6, rfl, rfl, nt⟩ := hP
                have hi' : i + 1 < zs.length := by omega
                have at_ : ∀ j, j < zs.length → ∃ z, zs[j]? = some z ∧ Dq H6 z (prD ((srt (ds.map prOf)).getD j (0, 0))) := fun j hj => by
                  obtain ⟨d, e1, e2⟩ := hz2.get (List.getElem?_eq_getElem hj)
                  refine ⟨_, List.getElem?_eq_getElem hj, ?_⟩
                  rw [List.getElem?_map] at e1
                  obtain ⟨q, e3, rfl⟩ := Option.map_eq_some_iff.mp e1
                  rw [List.getD_eq_getElem?_getD, e3]
                  exact e2
                obtain ⟨z0, g0, k0⟩ := at_ i (by omega)
                obtain ⟨z1, g1, k1⟩ := at_ (i + 1) hi'
                refine ⟨_, rfl, _, rfl, (1 + (i : Int)), 1, rfl, rfl, p, zs, (i : Int), z0, rfl, by show V.int (1 + (i : Int) - 1) = _; rw [show (1 + (i : Int) - 1) = (i : Int) by omega], SqL.of hp6, at_of (j := i) (by omega) g0, ?_⟩
                refine ⟨_, rfl, _, rfl, p, zs, (1 + (i : Int)), z1, rfl, rfl, SqL.of hp6, at_of (j := i + 1) (by omega) g1, ?_⟩
                refine ⟨_, _, k0.dp, k1.dp, shaped_pr _, shaped_pr _, _, rfl, ?_⟩
                rw [eqv_pr]
                by_cases c : (srt (ds.map prOf)).getD i (0, 0) = (srt (ds.map prOf)).getD (i + 1) (0, 0)
                · rw [decide_eq_true c]
                  refine iteT (mk_exc fun dd H' s nd hdd => hE _ ?_ dd H' ((k4.same s6).same s) hdd)
                  rw [wd, if_pos kall, if_neg (nds (i + 1) (by omega) (by omega) c)]
                · rw [decide_eq_false c]
                  refine iteF ⟨_, rfl, rfl, fun j h1 h2 => ?_⟩
                  by_cases e : j = i + 1
                  · subst e
                    exact c
                  · exact nt j h1 (by omega)
              · obtain ⟨y6, rfl, rfl, nt⟩ := hP
                have nd0 : (srt (ds.map prOf)).Nodup := twins (srt_sorted _) fun j h1 h2 => nt j h1 (by omega)
                have nd : (ds.map prOf).Nodup := (srt_perm _).nodup_iff.mp nd0
                have hins : Ins P' W (srt (ds.map prOf)) := fun q m => by
                  obtain ⟨d, md, rfl⟩ := List.mem_map.mp ((srt_perm _).mem_iff.mp m)
                  exact (isPair_of (hall d md)).2
                have a6 := s6 _ _ (s4 _ _ a3)
                have k6 := k4.same s6
                refine ⟨_, rfl, p, zs, rfl, SqL.of hp6, fun t H7 s7 nt ft => ?_⟩
                have a7 := s7 _ _ a6
                refine ⟨_, rfl, a, T.C_Picture, dx, _, rfl, a7, T.cl_Picture, T.na_pairs, by simp, ?_⟩
                have nta : t ≠ a := fun z => by
                  obtain ⟨o, f1, _⟩ := ft
                  rw [z, a7] at f1
                  cases f1
                have ft8 : Frz (upd H7 a (.ins T.C_Picture dx (putF "pairs" (.ref t) [("points", .int P'), ("walls", .int W)]))) t zs := by
                  obtain ⟨o, f1, f2⟩ := ft
                  exact ⟨o, by rw [upd_ne nta]; exact f1, f2⟩
                have hp8 : (upd H7 a (.ins T.C_Picture dx (putF "pairs" (.ref t) [("points", .int P'), ("walls", .int W)]))) p = some (.lst zs) := by
                  rw [upd_ne (fun z => by
                    have q9 := s7 _ _ hp6
                    rw [z, a7] at q9
                    cases q9)]
                  exact s7 _ _ hp6
                have hz8 := dqAll_put (o := .ins T.C_Picture dx (putF "pairs" (.ref t) [("points", .int P'), ("walls", .int W)])) a7 _ (DqAll.same s7 _ hz2)
                have k8 : KeepA a H (upd H7 a (.ins T.C_Picture dx (putF "pairs" (.ref t) [("points", .int P'), ("walls", .int W)]))) := (k6.same s7).put
                have a8 : (upd H7 a (.ins T.C_Picture dx (putF "pairs" (.ref t) [("points", .int P'), ("walls", .int W)]))) a = some (.ins T.C_Picture dx [("points", .int P'), ("walls", .int W), ("pairs", .ref t)]) := upd_same
                generalize upd H7 a (.ins T.C_Picture dx (putF "pairs" (.ref t) [("points", .int P'), ("walls", .int W)])) = H8 at ft8 hp8 hz8 k8 a8
                refine ⟨_, rfl, _, rfl, _, rfl, _, rfl, P', W, p, zs, srt (ds.map prOf), rfl, by omega, by omega, by omega, SqL.of hp8, hz8, hins, fun H9 q9 s9 hq9 => ?_⟩
                refine ⟨P', q9, marks P' W (srt (ds.map prOf)), rfl, SqL.of hq9, by rw [marks_len]; omega, fun H10 v s10 kv => ?_⟩
                have a10 := s10 _ _ (s9 _ _ a8)
                have s8 : Same H8 H10 := s9.trans s10
                refine ⟨_, rfl, a, T.C_Picture, dx, _, rfl, a10, T.cl_Picture, T.na_pieces, by simp, ?_⟩
                refine hQ P' W ds rfl rfl e3 (by rw [wd, if_pos kall, if_pos nd]) _ (((k8.same s9).same s10).put) ⟨⟨dx, t, v, zs, upd_same, ?_, dqAll_put a10 _ (DqAll.same s8 _ hz8), dq_put a10 _ kv⟩, ⟨p1, p2, w1, w2⟩, hins, asc_of (srt_sorted _) nd0⟩
                obtain ⟨o, f1, f2⟩ := ft8.same s8
                exact ⟨o, by rw [upd_ne nta]; exact f1, f2⟩
end
end K00
set_option Elab.async false
set_option linter.all false
set_option maxRecDepth 100000
set_option maxHeartbeats 4000000
set_option exponentiation.threshold 5000
namespace K00
open PySem PySem.Spec PyProof.Rows L2 TkS
/-- all pairs -/
def fullPs (p w : Nat) : List (Int × Int) := (List.range p).flatMap fun (i : Nat) => (List.range w).map fun (j : Nat) => ((i : Int), (j : Int))
def isOpen (P W : Int) (ps : List (Int × Int)) (d : PyData) : Bool := isPair P W d && decide (prOf d ∈ ps)
theorem isOpen_of {P W : Int} {ps : List (Int × Int)} {d : PyData} (h : isOpen P W ps d = true) : isPair P W d = true ∧ prOf d ∈ ps := by
  unfold isOpen at h
  rw [Bool.and_eq_true, decide_eq_true_iff] at h
  exact h
theorem tup_items {P W : Int} {d : PyData} (h : isPair P W d = true) : itemsD d = some [.int (prOf d).1, .int (prOf d).2] := (isPair_of h).1
theorem word_none {P W : Int} {ps : List (Int × Int)} {dps : PyData} (ok : 1 ≤ P ∧ P ≤ 5 ∧ 1 ≤ W ∧ W ≤ 5) (hi : Ins P W ps) (nd : ps.Nodup) (e : itemsD dps = some (ps.map prD)) : wordD (.int P) (.int W) dps = none := by
  have b1 : wholeD (.int P) 1 5 = true := by
    show (decide (1 ≤ P) && decide (P ≤ 5)) = true
    simp
    omega
  have b2 : wholeD (.int W) 1 5 = true := by
    show (decide (1 ≤ W) && decide (W ≤ 5)) = true
    simp
    omega
  have b3 : (ps.map prD).all (isPair P W) = true := by
    rw [List.all_map, List.all_eq_true]
    exact fun p m => isPair_prD.mpr (hi p m)
  have b4 : ((ps.map prD).map prOf) = ps := by
    rw [List.map_map, show (prOf ∘ prD) = id from rfl, List.map_id]
  unfold wordD
  rw [b1, b2, e]
  show (if (ps.map prD).all (isPair P W) = true then (if ((ps.map prD).map prOf).Nodup then (none : Option Str) else some ("double" : Str)) else some ("pair" : Str)) = none
  rw [if_pos b3, b4, if_pos nd]
theorem rm_at : ∀ {ps : List (Int × Int)} {j : Nat} {q : Int × Int}, ps.Nodup → ps[j]? = some q → ps.take j ++ ps.drop (j + 1) = ps.filter fun p => decide (p ≠ q)
  | p :: ps, 0, q, nd, e => by
    have e' : p = q := Option.some.inj e
    subst e'
    have n := (List.nodup_cons.mp nd).1
    rw [List.filter_cons_of_neg (by simp)]
    show ps = _
    exact (List.filter_eq_self.mpr fun x m => by
      simp
      intro z
      subst z
      exact n m).symm
  | p :: ps, j + 1, q, nd, e => by
    have m : q ∈ ps := List.mem_of_getElem? (i := j) (by simpa using e)
    have n : p ≠ q := fun z => (List.nodup_cons.mp nd).1 (z ▸ m)
    rw [List.filter_cons_of_pos (by simpa using n), ← rm_at (j := j) (List.nodup_cons.mp nd).2 (by simpa using e)]
    rfl
theorem asc_filter {ps : List (Int × Int)} (f : Int × Int → Bool) (h : Asc ps) : Asc (ps.filter f) := List.Pairwise.sublist List.filter_sublist h
theorem srt_asc {ps : List (Int × Int)} (h : Asc ps) : srt ps = ps := (srt_uniq (asc_le h) (List.Perm.refl _)).symm
/-- a new picture, as the caller of the class sees it -/
theorem mk_pic {C CB : Addr} {H1 : Hp} {R : Addr → Hp → Prop} {E : XK} {p w ps : V} {dp dw dps : PyData} (kp : Dq H1 p dp) (kw : Dq H1 w dw) (kps : Dq H1 ps dps) (hlen : ∀ ds, itemsD dps = some ds → ds.length ≤ 200)
    (hE : ∀ e, wordD dp dw dps = some e → ∀ d H', Same H1 H' → H' d = some (.xd [("what", .str e)]) → E (.ref CB) (some d) H')
    (hQ : ∀ P W ds, dp = .int P → dw = .int W → itemsD dps = some ds → wordD dp dw dps = none → ∀ H' y, Same H1 H' → H1 y = none → Pic C H' y P W (srt (ds.map prOf)) → R y H') :
    ∀ x dx, H1 x = none → H1 dx = none → dx ≠ x → sp_Picture_init C CB (.ref x :: ([p, w, ps] ++ [])) (upd (upd H1 dx (.own x)) x (.ins C dx [])) (fun v H2 => v = .non ∧ R x H2) E := fun x dx nx nd ne => by
  have s0 : Same H1 (upd (upd H1 dx (.own x)) x (.ins C dx [])) := Same.made nx nd fun b o e _ => e
  have sm : ∀ H', KeepA x (upd (upd H1 dx (.own x)) x (.ins C dx [])) H' → Same H1 H' := fun H' k => Same.made nx nd k
  exact ⟨x, dx, p, w, ps, dp, dw, dps, rfl, upd_same, kp.same s0, kw.same s0, kps.same s0, hlen, fun e he d H' k hd => hE e he d H' (sm H' k) hd, fun P W ds e1 e2 e3 e4 H' k hp => ⟨rfl, hQ P W ds e1 e2 e3 e4 H' x (sm H' k) nx hp⟩⟩
def sp_is_open (C : Addr) : Sp := fun vs H Q _ => ∃ (a : Addr) (x : V) (d : PyData) (P W : Int) (ps : List (Int × Int)), vs = [.ref a, x] ∧ Pic C H a P W ps ∧ Dq H x d ∧ ∀ H', Same H H' → Q (.bl (isOpen P W ps d)) H'
def sp_place_of (C CN : Addr) : Sp := fun vs H Q E => ∃ (a : Addr) (x : V) (d : PyData) (P W : Int) (ps : List (Int × Int)), vs = [.ref a, x] ∧ Pic C H a P W ps ∧ Dq H x d ∧
  (isOpen P W ps d = false → ∀ e H', Same H H' → H' e = some (.xd [("pair", x)]) → E (.ref CN) (some e) H') ∧
  (isOpen P W ps d = true → ∀ (j : Nat) H', ps[j]? = some (prOf d) → Same H H' → Q (.int (j : Int)) H')
def sp_with_pair (C CB : Addr) : Sp := fun vs H Q E => ∃ (a : Addr) (x : V) (d : PyData) (P W : Int) (ps : List (Int × Int)), vs = [.ref a, x] ∧ Pic C H a P W ps ∧ Dq H x d ∧ ps.length ≤ 100 ∧
  (∀ e, wordD (.int P) (.int W) (.tuple (ps.map prD ++ [d])) = some e → ∀ f H', Same H H' → H' f = some (.xd [("what", .str e)]) → E (.ref CB) (some f) H') ∧
  (wordD (.int P) (.int W) (.tuple (ps.map prD ++ [d])) = none → ∀ y H', Same H H' → Pic C H' y P W (srt (ps ++ [prOf d])) → Q (.ref y) H')
def sp_without_pair (C CN : Addr) : Sp := fun vs H Q E => ∃ (a : Addr) (x : V) (d : PyData) (P W : Int) (ps : List (Int × Int)), vs = [.ref a, x] ∧ Pic C H a P W ps ∧ Dq H x d ∧ ps.length ≤ 100 ∧
  (isOpen P W ps d = false → ∀ e H', Same H H' → H' e = some (.xd [("pair", x)]) → E (.ref CN) (some e) H') ∧
  (isOpen P W ps d = true → ∀ y H', Same H H' → Pic C H' y P W (ps.filter fun q => decide (q ≠ prOf d)) → Q (.ref y) H')
def sp_Picture_len (C : Addr) : Sp := fun vs H Q _ => ∃ (a : Addr) (P W : Int) (ps : List (Int × Int)), vs = [.ref a] ∧ Pic C H a P W ps ∧ ∀ H', Same H H' → Q (.int (ps.length : Int)) H'
def sp_Picture_pieces (C : Addr) : Sp := fun vs H Q _ => ∃ (a : Addr) (P W : Int) (ps : List (Int × Int)), vs = [.ref a] ∧ Pic C H a P W ps ∧ ∀ v, Dq H v (.tuple (piecesD P (marks P W ps))) → Q v H
def sp_Picture_eq (C : Addr) : Sp := fun vs H Q _ => ∃ (a b : Addr) (P W : Int) (ps : List (Int × Int)) (P' W' : Int) (ps' : List (Int × Int)), vs = [.ref a, .ref b] ∧ Pic C H a P W ps ∧ Pic C H b P' W' ps' ∧ ∀ H', Same H H' → Q (.bl (decide (P = P' ∧ W = W' ∧ ps = ps'))) H'
section
variable {P : Program} {w : World} {K : PySem.W.Frag} {mg : Str → Option Value} {base : Heap}
theorem hu65 {k : Nat} {A : Around} (hr : Room k A) : A.units + 65 < cLine := by
  have := hr.un
  omega
theorem ok_Picture_pieces (T : Txt K mg) : FnOk P w K mg base CX0 1 T.f_Picture_pieces T.d_Picture_pieces ["self"] (sp_Picture_pieces T.C_Picture) := by
  refine T.F_Picture_pieces.ok sc_Picture_pieces (fun vs H Q E h => ?_) (fun cdv A outer s H vs Q E hr h => ?_)
  · obtain ⟨a, P', W, ps, rfl, _⟩ := h
    rfl
  · obtain ⟨a, P', W, ps, rfl, pic, q⟩ := h
    obtain ⟨dx, t, v, xs, ha, ht, hx, hv⟩ := pic.at_
    refine ⟨_, (pss_one (ps_ret (pe_fld (pv 0) rfl))), ?_⟩
    exact ⟨_, rfl, a, T.C_Picture, dx, _, v, rfl, ha, T.cl_Picture, T.na_pieces, rfl, q v hv⟩
theorem ok_Picture_len (T : Txt K mg) : FnOk P w K mg base CX0 1 T.f_Picture_len T.d_Picture_len ["self"] (sp_Picture_len T.C_Picture) := by
  refine T.F_Picture_len.ok sc_Picture_len (fun vs H Q E h => ?_) (fun cdv A outer s H vs Q E hr h => ?_)
  · obtain ⟨a, P', W, ps, rfl, _⟩ := h
    rfl
  · obtain ⟨a, P', W, ps, rfl, pic, q⟩ := h
    obtain ⟨dx, t, v, xs, ha, ht, hx, hv⟩ := pic.at_
    refine ⟨_, (pss_one (ps_ret (pe_callB call_len_seq (by rfl) T.m_len (by decide +kernel) (pa_cons (pe_fld (pv 0) rfl) pa_nil)))), ?_⟩
    refine ⟨_, rfl, a, T.C_Picture, dx, _, _, rfl, ha, T.cl_Picture, T.na_pairs, rfl, t, _, rfl, .inr ht.seq, ?_⟩
    have l := hx.len
    rw [List.length_map] at l
    rw [l]
    exact q H fun _ _ z => z
theorem ok_Picture_eq (T : Txt K mg) : FnOk P w K mg base CX0 1 T.f_Picture_eq T.d_Picture_eq ["self", "other"] (sp_Picture_eq T.C_Picture) := by
  refine T.F_Picture_eq.ok sc_Picture_eq (fun vs H Q E h => ?_) (fun cdv A outer s H vs Q E hr h => ?_)
  · obtain ⟨a, b, P', W, ps, P2, W2, ps2, rfl, _⟩ := h
    rfl
  · obtain ⟨a, b, P', W, ps, P2, W2, ps2, rfl, pa, pb, q⟩ := h
    obtain ⟨dx, t, v, xs, ha, ht, hx, hv⟩ := pa.at_
    obtain ⟨dy, t2, v2, xs2, hb, ht2, hx2, hv2⟩ := pb.at_
    refine ⟨_, (pss_one (ps_ret (pe_and (pe_callB call_isi (by rfl) T.m_isinstance (by decide +kernel) (pa_cons (pv 1) (pa_cons (pe_glob (v := .ref T.C_Picture) rfl T.g_Picture rfl) pa_nil))) (pe_and (pe_cmpR op_eq (pe_fld (pv 0) rfl) (pe_fld (pv 1) rfl) (nomark _)) (pe_and (pe_cmpR op_eq (pe_fld (pv 0) rfl) (pe_fld (pv 1) rfl) (nomark _)) (pe_one (pe_cmpR (op_eqD hr.units) (pe_fld (pv 0) rfl) (pe_fld (pv 1) rfl) (nomark _)))))))), ?_⟩
    refine ⟨_, rfl, .ref b, .ref T.C_Picture, .ref T.C_Picture, .ref T.C_Picture, true, rfl, .own _, .base (.ins hb T.cl_Picture T.k_class T.k_get T.k_takes T.k_mro), T.k_isp, true, rfl, iteT ?_⟩
    refine ⟨_, rfl, a, T.C_Picture, dx, _, _, rfl, ha, T.cl_Picture, T.na_points, rfl, _, rfl, b, T.C_Picture, dy, _, _, rfl, hb, T.cl_Picture, T.na_points, rfl, rfl, _, rfl, ?_⟩
    have q' := q H fun _ _ z => z
    by_cases c1 : P' = P2
    · subst c1
      rw [decide_eq_true (rfl : V.int P' = V.int P')]
      refine iteT ?_
      refine ⟨_, rfl, a, T.C_Picture, dx, _, _, rfl, ha, T.cl_Picture, T.na_walls, rfl, _, rfl, b, T.C_Picture, dy, _, _, rfl, hb, T.cl_Picture, T.na_walls, rfl, rfl, _, rfl, ?_⟩
      by_cases c2 : W = W2
      · subst c2
        rw [decide_eq_true (rfl : V.int W = V.int W)]
        refine iteT ?_
        refine ⟨_, rfl, a, T.C_Picture, dx, _, _, rfl, ha, T.cl_Picture, T.na_pairs, rfl, _, rfl, b, T.C_Picture, dy, _, _, rfl, hb, T.cl_Picture, T.na_pairs, rfl, _, _, ht.dp hx, ht2.dp hx2, shaped_prs _, shaped_prs _, ?_⟩
        have e : PyData.eqv (.tuple (ps.map prD)) (.tuple (ps2.map prD)) = decide (P' = P' ∧ W = W ∧ ps = ps2) := by
          rw [PyData.eqv, eqv_prs]
          exact decide_eq_decide.mpr ⟨fun z => ⟨rfl, rfl, z⟩, fun z => z.2.2⟩
        rw [e]
        exact q'
      · rw [int_dec, decide_eq_false c2]
        refine iteF ?_
        rw [decide_eq_false fun z => c2 z.2.1] at q'
        exact q'
    · rw [int_dec, decide_eq_false c1]
      refine iteF ?_
      rw [decide_eq_false fun z => c1 z.1] at q'
      exact q'
theorem ok_Picture_is_open (T : Txt K mg) : FnOk P w K mg base CX0 4 T.f_Picture_is_open T.d_Picture_is_open ["self", "pair"] (sp_is_open T.C_Picture) := by
  refine T.F_Picture_is_open.ok sc_Picture_is_open (fun vs H Q E h => ?_) (fun cdv A outer s H vs Q E hr h => ?_)
  · obtain ⟨a, x, d, P', W, ps, rfl, _⟩ := h
    rfl
  · obtain ⟨a, x, d, P', W, ps, rfl, pic, hk, q⟩ := h
    obtain ⟨dx, t, v, xs, ha, ht, hx, hv⟩ := pic.at_
    refine ⟨_, (pss_one (ps_ret (pe_and (pe_meth (pv 0) T.cl_Picture T.M_is_pair (ok_is_pair T) (hr.mono (by decide)) T.b_Pictureis_pair .nil pass0 (pa_cons (pv 1) pa_nil)) (pe_one (pe_cmpR (op_inT (hu65 hr)) (pe_callTy call_tupD (by rfl) T.m_tuple (by decide +kernel) (pa_cons (pv 1) pa_nil)) (pe_fld (pv 0) rfl) rfl))))), ?_⟩
    refine ⟨_, rfl, a, dx, _, rfl, ha, rfl, _, rfl, a, dx, x, d, P', W, _, rfl, ha, rfl, rfl, hk, fun H1 s1 => ⟨_, rfl, ?_⟩⟩
    cases hb : isPair P' W d with
    | false =>
      have q' := q H1 s1
      unfold isOpen at q'
      rw [hb] at q'
      exact iteF q'
    | true =>
      refine iteT ⟨x, rfl, x, d, _, rfl, hk.same s1, tup_items hb, fun l H2 s2 kl => ?_⟩
      refine ⟨_, rfl, a, T.C_Picture, dx, _, _, rfl, s2 _ _ (s1 _ _ ha), T.cl_Picture, T.na_pairs, rfl, _, _, kl.dp, ((ht.same s1).same s2).dp (DqAll.same (s1.trans s2) _ hx), shaped_pr (prOf d), shaped_prs _, ?_⟩
      have q' := q H2 (s1.trans s2)
      unfold isOpen at q'
      rw [hb] at q'
      have e : ((ps.map prD).any fun z => PyData.eqv z (prD (prOf d))) = decide (prOf d ∈ ps) := any_pr _ _
      have e2 : ((ps.map prD).any fun z => PyData.eqv z (.tuple [.int (prOf d).1, .int (prOf d).2])) = decide (prOf d ∈ ps) := e
      rw [if_neg Bool.false_ne_true, e2]
      exact q'
theorem at_of_mem {ps : List (Int × Int)} {q : Int × Int} (h : q ∈ ps) : ∃ j : Nat, ps[j]? = some q ∧ ∀ m, m < j → ps[m]? ≠ some q := by
  induction ps with
  | nil => cases h
  | cons p ps ih =>
    by_cases e : p = q
    · exact ⟨0, by rw [e]; rfl, fun m hm => absurd hm (Nat.not_lt_zero _)⟩
    · rcases List.mem_cons.mp h with z | z
      · exact absurd z.symm e
      · obtain ⟨j, h1, h2⟩ := ih z
        refine ⟨j + 1, h1, fun m hm => ?_⟩
        cases m with
        | zero => exact fun z => e (Option.some.inj z)
        | succ m => exact h2 m (by omega)
theorem ok_Picture_place_of (T : Txt K mg) : FnOk P w K mg base (L2.CX P w) 6 T.f_Picture_place_of T.d_Picture_place_of ["self", "pair"] (sp_place_of T.C_Picture T.C_NotOpen) := by
  refine T.F_Picture_place_of.okX sc_Picture_place_of (fun vs H Q E h => ?_) (fun cdv A outer s H vs Q E hr h => ?_)
  · obtain ⟨a, x, d, P', W, ps, rfl, _⟩ := h
    rfl
  · obtain ⟨a, x, d, P', W, ps, rfl, pic, hk, hE, hQ⟩ := h
    obtain ⟨dx, t, v, xs, ha, ht, hx, hv⟩ := pic.at_
    refine ⟨_, (pss_cons (ps_if (pt_not (pt_val (pe_meth (pv 0) T.cl_Picture T.M_is_open (ok_Picture_is_open T) (hr.mono (by decide)) T.b_Picture_is_open .nil pass0 (pa_cons (pv 1) pa_nil))))
        (pss_one (ps_raise (W := fun cls d _ H => E cls d H) rfl (takes_of rfl rfl rfl rfl) (pmk_oex T.o_NotOpen T.i_NotOpen T.t_NotOpen (ok_NotOpen_init T) (hr.mono (by decide)) T.b_NotOpen_init .nil pass0 (by rfl) T.g_NotOpen (pa_cons (pv 1) pa_nil))))
        pss_nil)
      (pss_one (ps_ret (pe_bmF PySem.F.plainAttrs_tuple PySem.F.slot_tuple_index PySem.F.type_tuple_index (mt_tupIx (hu65 hr)) (pe_fld (pv 0) rfl) (pa_cons (pe_callTy call_tupD (by rfl) T.m_tuple (by decide +kernel) (pa_cons (pv 1) pa_nil)) pa_nil))))), ?_⟩
    refine ⟨_, rfl, a, dx, _, rfl, ha, rfl, _, rfl, a, x, d, P', W, ps, rfl, pic, hk, fun H1 s1 => ⟨_, rfl, ?_⟩⟩
    cases hb : isOpen P' W ps d with
    | false => exact iteT ⟨_, rfl, mk_exc fun e H' s' _ he => hE hb e H' (s1.trans s') he⟩
    | true =>
      obtain ⟨b1, b2⟩ := isOpen_of hb
      obtain ⟨j, j1, j2⟩ := at_of_mem b2
      have ht1 := ht.same s1
      have hx1 := DqAll.same s1 _ hx
      refine iteF ⟨_, rfl, a, T.C_Picture, dx, _, _, rfl, s1 _ _ ha, T.cl_Picture, T.na_pairs, rfl, ⟨t, xs, rfl, ht1⟩, x, rfl, x, d, _, rfl, hk.same s1, tup_items b1, fun l H2 s2 kl => ?_⟩
      refine ⟨t, .ref l, prD (prOf d), ps.map prD, j, prD (prOf d), rfl, rfl, (ht1.same s2).dp (DqAll.same s2 _ hx1), kl.dp, shaped_prs _, shaped_pr _, ?_, ?_, fun m z hm hz => ?_, hQ hb j H2 j1 (s1.trans s2)⟩
      · rw [List.getElem?_map, j1]
        rfl
      · rw [eqv_pr]
        simp
      · rw [List.getElem?_map] at hz
        obtain ⟨q, hq, rfl⟩ := Option.map_eq_some_iff.mp hz
        rw [eqv_pr]
        refine decide_eq_false fun z => ?_
        subst z
        exact j2 m hm hq
theorem ok_Picture_with_pair (T : Txt K mg) : FnOk P w K mg base (L2.CX P w) 6 T.f_Picture_with_pair T.d_Picture_with_pair ["self", "pair"] (sp_with_pair T.C_Picture T.C_BadPicture) := by
  refine T.F_Picture_with_pair.okX sc_Picture_with_pair (fun vs H Q E h => ?_) (fun cdv A outer s H vs Q E hr h => ?_)
  · obtain ⟨a, x, d, P', W, ps, rfl, _⟩ := h
    rfl
  · obtain ⟨a, x, d, P', W, ps, rfl, pic, hk, hl, hE, hQ⟩ := h
    obtain ⟨dx, t, v, xs, ha, ht, hx, hv⟩ := pic.at_
    refine ⟨_, (pss_one (ps_ret (pe_make T.M_Picture (ok_Picture_init T) (hr.mono (by decide)) (by rfl) T.g_Picture T.b_Picture_init .nil (passes_call (W := fun cls d _ H => E cls d H) (takes_of rfl rfl rfl rfl) (fun _ _ _ _ h => h)) (pa_cons (pe_fld (pv 0) rfl) (pa_cons (pe_fld (pv 0) rfl) (pa_cons (pe_op op_catF (pe_fld (pv 0) rfl) (pe_tup (pa_cons (pv 1) pa_nil))) pa_nil)))))), ?_⟩
    refine ⟨_, rfl, a, T.C_Picture, dx, _, _, rfl, ha, T.cl_Picture, T.na_points, rfl, _, rfl, a, T.C_Picture, dx, _, _, rfl, ha, T.cl_Picture, T.na_walls, rfl, _, rfl, a, T.C_Picture, dx, _, _, rfl, ha, T.cl_Picture, T.na_pairs, rfl, _, rfl, (by show 1 ≤ sizeLine; decide), fun u nu => ?_⟩
    have s1 : Same H (upd H u (.tup [x])) := same_new nu
    refine ⟨t, xs, ps.map prD, [d], rfl, ht.same s1, DqAll.same s1 _ hx, .tup upd_same (.cons (hk.same s1) .nil), by simp, by simp; omega, fun l H2 s2 kl => ?_⟩
    refine mk_pic (.int _) (.int _) kl (fun ds e => by cases e; simp; omega) (fun e he f H' s' hf => hE e he f H' ((s1.trans s2).trans s') hf) (fun P2 W2 ds e1 e2 e3 e4 H' y s' ny hp => ?_)
    cases e1
    cases e2
    cases e3
    refine hQ e4 y H' ((s1.trans s2).trans s') ?_
    have e : (ps.map prD ++ [d]).map prOf = ps ++ [prOf d] := by
      rw [List.map_append, List.map_map, show (prOf ∘ prD) = id from rfl, List.map_id]
      rfl
    rw [e] at hp
    exact hp
theorem ok_Picture_without_pair (T : Txt K mg) : FnOk P w K mg base (L2.CX P w) 8 T.f_Picture_without_pair T.d_Picture_without_pair ["self", "pair"] (sp_without_pair T.C_Picture T.C_NotOpen) := by
  refine T.F_Picture_without_pair.okX sc_Picture_without_pair (fun vs H Q E h => ?_) (fun cdv A outer s H vs Q E hr h => ?_)
  · obtain ⟨a, x, d, P', W, ps, rfl, _⟩ := h
    rfl
  · obtain ⟨a, x, d, P', W, ps, rfl, pic, hk, hl, hE, hQ⟩ := h
    obtain ⟨dx, t, v, xs, ha, ht, hx, hv⟩ := pic.at_
    refine ⟨_, (pss_cons (ps_set (i := 2) sc_Picture_without_pair.nd rfl (.inl rfl) (pe_meth (pv 0) T.cl_Picture T.M_place_of (ok_Picture_place_of T) (hr.mono (by decide)) T.b_Picture_place_of .nil (passes_call (W := fun cls d _ H => E cls d H) (takes_of rfl rfl rfl rfl) (fun _ _ _ _ h => h)) (pa_cons (pv 1) pa_nil)))
      (pss_one (ps_ret (pe_make T.M_Picture (ok_Picture_init T) (hr.mono (by decide)) (by rfl) T.g_Picture T.b_Picture_init .nil (passes_call (W := fun cls d _ H => E cls d H) (takes_of rfl rfl rfl rfl) (fun _ _ _ _ h => h)) (pa_cons (pe_fld (pv 0) rfl) (pa_cons (pe_fld (pv 0) rfl) (pa_cons (pe_op op_catD (pe_slice sl_tupF (pe_fld (pv 0) rfl) po_none (po_some (pv 2))) (pe_slice sl_tupF (pe_fld (pv 0) rfl) (po_some (pe_op op_add (pv 2) pe_int)) po_none)) pa_nil))))))), ?_⟩
    refine ⟨_, rfl, a, dx, _, rfl, ha, rfl, _, rfl, a, x, d, P', W, ps, rfl, pic, hk, hE, fun hb j H1 hj s1 => ?_⟩
    have ha1 := s1 _ _ ha
    have ht1 := ht.same s1
    have hx1 := DqAll.same s1 _ hx
    have hj' : j < ps.length := (List.getElem?_eq_some_iff.mp hj).1
    refine ⟨_, rfl, a, T.C_Picture, dx, _, _, rfl, ha1, T.cl_Picture, T.na_points, rfl, _, rfl, a, T.C_Picture, dx, _, _, rfl, ha1, T.cl_Picture, T.na_walls, rfl, _, rfl, a, T.C_Picture, dx, _, _, rfl, ha1, T.cl_Picture, T.na_pairs, rfl, _, rfl, (j : Int), rfl, t, xs, ps.map prD, rfl, ht1, hx1, ?_, fun l1 H2 s2 k1 => ?_⟩
    · rw [HT.sIx_none, HT.sIx_nat, List.length_map]
      omega
    rw [cutD_hi] at k1
    have ha2 := s2 _ _ ha1
    refine ⟨_, rfl, a, T.C_Picture, dx, _, _, rfl, ha2, T.cl_Picture, T.na_pairs, rfl, _, rfl, (j : Int), 1, rfl, rfl, ((j + 1 : Nat) : Int), rfl, t, xs, ps.map prD, rfl, ht1.same s2, DqAll.same s2 _ hx1, ?_, fun l2 H3 s3 k2 => ?_⟩
    · rw [HT.sIx_none, HT.sIx_nat, List.length_map]
      omega
    rw [cutD_lo] at k2
    refine ⟨_, _, k1.same s3, k2, ?_, fun l H4 s4 kl => ?_⟩
    · rw [List.length_take, List.length_drop, List.length_map]
      omega
    have e : (ps.map prD).take j ++ (ps.map prD).drop (j + 1) = (ps.filter fun q => decide (q ≠ prOf d)).map prD := by
      rw [← List.map_take, ← List.map_drop, ← List.map_append, rm_at (asc_nodup pic.asc) hj]
    rw [e] at kl
    have hi2 : Ins P' W (ps.filter fun q => decide (q ≠ prOf d)) := fun p m => pic.ins p (List.mem_filter.mp m).1
    have wn : wordD (.int P') (.int W) (.tuple ((ps.filter fun q => decide (q ≠ prOf d)).map prD)) = none := word_none pic.ok hi2 (asc_nodup (asc_filter _ pic.asc)) rfl
    refine mk_pic (.int _) (.int _) kl (fun ds e => ?_) (fun e he => by rw [wn] at he; cases he) (fun P2 W2 ds e1 e2 e3 e4 H' y s' ny hp => ?_)
    · cases e
      rw [List.length_map]
      exact Nat.le_trans (List.length_filter_le _ _) (by omega)
    cases e1
    cases e2
    cases e3
    refine hQ hb y H' ((((s1.trans s2).trans s3).trans s4).trans s') ?_
    rw [List.map_map, show (prOf ∘ prD) = id from rfl, List.map_id, srt_asc (asc_filter _ pic.asc)] at hp
    exact hp
def sp_full_picture (C CB : Addr) : Sp := fun vs H Q E => ∃ (p w : V) (dp dw : PyData), vs = [p, w] ∧ Dq H p dp ∧ Dq H w dw ∧
  (∀ e, wordD dp dw (.tuple []) = some e → ∀ f H', Same H H' → H' f = some (.xd [("what", .str e)]) → E (.ref CB) (some f) H') ∧
  (∀ P W, dp = .int P → dw = .int W → wordD dp dw (.tuple []) = none → ∀ y H', Same H H' → Pic C H' y P W (fullPs P.toNat W.toNat) → Q (.ref y) H')
end
end K00
set_option Elab.async false
set_option linter.all false
set_option maxRecDepth 100000
set_option maxHeartbeats 4000000
set_option exponentiation.threshold 5000
namespace K00
open PySem PySem.Spec PyProof.Rows L2 TkS
def rowPs (i w : Nat) : List (Int × Int) := (List.range w).map fun (j : Nat) => ((i : Int), (j : Int))
theorem fullPs_eq (p w : Nat) : fullPs p w = (List.range p).flatMap fun i => rowPs i w := rfl
theorem fullPs_succ (p w : Nat) : fullPs (p + 1) w = fullPs p w ++ rowPs p w := by
  rw [fullPs_eq, fullPs_eq, List.range_succ, List.flatMap_append]
  simp
theorem rowPs_succ (i j : Nat) : rowPs i (j + 1) = rowPs i j ++ [((i : Int), (j : Int))] := by
  unfold rowPs
  rw [List.range_succ, List.map_append]
  rfl
theorem fullPs_len (p w : Nat) : (fullPs p w).length = p * w := by
  induction p with
  | zero => simp [fullPs]
  | succ p ih =>
    rw [fullPs_succ, List.length_append, ih, Nat.succ_mul]
    congr 1
    unfold rowPs
    simp
theorem mem_fullPs {p w : Nat} {q : Int × Int} : q ∈ fullPs p w ↔ 0 ≤ q.1 ∧ q.1 < p ∧ 0 ≤ q.2 ∧ q.2 < w := by
  unfold fullPs
  simp only [List.mem_flatMap, List.mem_map, List.mem_range]
  constructor
  · rintro ⟨i, hi, j, hj, rfl⟩
    refine ⟨?_, ?_, ?_, ?_⟩ <;> simp <;> omega
  · rintro ⟨h1, h2, h3, h4⟩
    exact ⟨q.1.toNat, by omega, q.2.toNat, by omega, Prod.ext (by simp; omega) (by simp; omega)⟩
theorem fullPs_asc (p w : Nat) : Asc (fullPs p w) := by
  unfold fullPs Asc
  rw [List.pairwise_flatMap]
  refine ⟨fun i _ => ?_, ?_⟩
  · rw [List.pairwise_map]
    refine List.Pairwise.imp (R := fun (a b : Nat) => a < b) ?_ List.pairwise_lt_range
    intro a b h
    exact SrtO.lexB_iff.mpr (.inr ⟨rfl, Int.ofNat_lt.mpr h⟩)
  · refine List.pairwise_lt_range.imp fun {a b} h => ?_
    intro x hx y hy
    obtain ⟨j, _, rfl⟩ := List.mem_map.mp hx
    obtain ⟨k, _, rfl⟩ := List.mem_map.mp hy
    exact SrtO.lexB_iff.mpr (.inl (Int.ofNat_lt.mpr h))
theorem fullPs_ins {P W : Int} (p0 : 0 ≤ P) (w0 : 0 ≤ W) : Ins P W (fullPs P.toNat W.toNat) := fun q m => by
  have := mem_fullPs.mp m
  omega
/-- two ranges in a comprehension -/
theorem lc2_rr {n m : Nat} {g g1 : TG} {tt tt1 : TT} {te : TE} {vs vs1 : List Nat} {wi wi1 : TI} {σ : L2.St} {H : Hp} {Q : VK} (Pv : Addr → Nat → Nat → Hp → Prop)
    (hi : ∀ R, R (Itr 0 n) H → wi σ H R) (h0 : ∀ D, H D = none → Pv D 0 0 (upd H D (.lst [])))
    (hs : ∀ D i H', H D = none → i < n → Pv D i 0 H' → g (.int (0 + (i : Int))) (wipe σ vs) H' fun σ2 H2 => wipe σ2 vs = wipe σ vs ∧ tt σ2 H2 fun b H3 => b = true ∧ wi1 σ2 H3 fun J1 H4 => J1 = Itr 0 m ∧ Pv D i 0 H4 ∧
      ∀ j H5, j < m → Pv D i j H5 → g1 (.int (0 + (j : Int))) (wipe σ2 vs1) H5 fun σ3 H6 => wipe σ3 vs1 = wipe σ2 vs1 ∧ tt1 σ3 H6 fun b H7 => b = true ∧ te σ3 H7 fun y H8 => ∃ acc, H8 D = some (.lst acc) ∧ acc.length < sizeLine ∧ Pv D i (j + 1) (upd H8 D (.lst (acc ++ [y]))))
    (hrow : ∀ D i H', i < n → Pv D i m H' → Pv D (i + 1) 0 H') (hd : ∀ D H', H D = none → Pv D n 0 H' → Q (.ref D) H')
    (mono : ∀ σ H (R R' : It → Hp → Prop), (∀ J H, R J H → R' J H) → wi1 σ H R → wi1 σ H R')
    (mg : ∀ x σ H (R R' : L2.St → Hp → Prop), (∀ σ H, R σ H → R' σ H) → g x σ H R → g x σ H R') (mg1 : ∀ x σ H (R R' : L2.St → Hp → Prop), (∀ σ H, R σ H → R' σ H) → g1 x σ H R → g1 x σ H R')
    (mt : ∀ σ H (R R' : Bool → Hp → Prop), (∀ b H, R b H → R' b H) → tt σ H R → tt σ H R') (mt1 : ∀ σ H (R R' : Bool → Hp → Prop), (∀ b H, R b H → R' b H) → tt1 σ H R → tt1 σ H R') :
    tLc2 wi g tt wi1 g1 tt1 te vs vs1 σ H Q := by
  refine hi _ fun D nD => ⟨fun i k H' => k = n - i ∧ i ≤ n ∧ Pv D i 0 H', ⟨n, by simp, Nat.zero_le _, h0 D nD⟩, ?_⟩
  rintro i k H' ⟨rfl, hin, p⟩
  by_cases hlt : i < n
  · refine .inr ⟨hlt, Pv D (i + 1) 0, fun H2 p' => ⟨n - (i + 1), by omega, rfl, hlt, p'⟩, fun x H2 y => ?_⟩
    obtain ⟨e, y⟩ := y
    subst e y
    refine mg _ _ _ _ _ (fun σ2 H3 h => ⟨h.1, mt _ _ _ _ (fun b H4 h => ?_) h.2⟩) (hs D i _ nD hlt p)
    obtain ⟨rfl, h⟩ := h
    rw [if_pos rfl]
    refine mono _ _ _ _ (fun J H5 h => ?_) h
    obtain ⟨rfl, q0, h⟩ := h
    refine ⟨fun j k H6 => k = m - j ∧ j ≤ m ∧ Pv D i j H6, ⟨m, by simp, Nat.zero_le _, q0⟩, ?_⟩
    rintro j k H6 ⟨rfl, hjm, p2⟩
    by_cases hj : j < m
    · refine .inr ⟨hj, Pv D i (j + 1), fun H7 p' => ⟨m - (j + 1), by omega, rfl, hj, p'⟩, fun x H7 y => ?_⟩
      obtain ⟨e, y⟩ := y
      subst e y
      refine mg1 _ _ _ _ _ (fun σ3 H8 h => ⟨h.1, mt1 _ _ _ _ (fun b H9 h => ?_) h.2⟩) (h j _ hj p2)
      obtain ⟨rfl, h⟩ := h
      rw [if_pos rfl]
      exact h
    · have e : j = m := by omega
      subst e
      exact .inl ⟨Nat.le_refl _, hrow D i _ hlt p2⟩
  · have e : i = n := by omega
    subst e
    exact .inl ⟨Nat.le_refl _, hd D _ nD p⟩
theorem asg_next {i : Nat} {x : V} {t : TE} {g : TG} {rest : TS} {D : Ends} {σ : L2.St} {H : Hp} (h : t (σ.set i (some x)) H fun y H2 => g y (σ.set i (some x)) H2 (rest D)) : gName i x σ H (tSeq (tAsg t g) rest D) := h
section
variable {P : Program} {w : World} {K : PySem.W.Frag} {mg : Str → Option Value} {base : Heap}
theorem ok_full_picture (T : Txt K mg) : FnOk P w K mg base (L2.CX P w) 6 T.f_full_picture T.d_full_picture ["points", "walls"] (sp_full_picture T.C_Picture T.C_BadPicture) := by
  refine T.F_full_picture.okX sc_full_picture (fun vs H Q E h => ?_) (fun cdv A outer s H vs Q E hr h => ?_)
  · obtain ⟨p, w, dp, dw, rfl, _⟩ := h
    rfl
  · obtain ⟨p, w, dp, dw, rfl, kp, kw, hE, hQ⟩ := h
    refine ⟨_, (pss_cons (ps_set (i := 2) sc_full_picture.nd rfl (.inl rfl) (pe_make T.M_Picture (ok_Picture_init T) (hr.mono (by decide)) (by rfl) T.g_Picture T.b_Picture_init .nil (passes_call (W := fun cls d _ H => E cls d H) (takes_of rfl rfl rfl rfl) (fun _ _ _ _ h => h)) (pa_cons (pv 0) (pa_cons (pv 1) (pa_cons (pe_tup pa_nil) pa_nil)))))
      (pss_cons (ps_setLc2 (i := 3) rfl sc_full_picture.nd rfl rfl (sw_true rfl rfl rfl (by decide +kernel)) (pi_range1 (by rfl) T.m_range (pa_cons (pv 0) pa_nil)) (blkOk_by (own := [("point", 4), ("wall", 5)]) (N := ["points", "walls", "bare", "pairs", "point", "wall"]) (sc := defScope s_full_picture) (by decide +kernel)) (vs1 := [5]) (by decide) (fun _ _ _ _ _ => (pg_name (i := 4) sc_full_picture.nd rfl (.inl rfl))) (fun _ _ _ _ _ => pts_nil) (fun _ _ _ _ _ => (pi_range1 (by rfl) T.m_range (pa_cons (pv 1) pa_nil))) (fun _ _ _ _ _ => (pg_name (i := 5) sc_full_picture.nd rfl (.inl rfl))) (fun _ _ _ _ _ => pts_nil) (fun _ _ _ _ _ => (pe_tup (pa_cons (pv 4) (pa_cons (pv 5) pa_nil)))))
      (pss_one (ps_ret (pe_make T.M_Picture (ok_Picture_init T) (hr.mono (by decide)) (by rfl) T.g_Picture T.b_Picture_init .nil (passes_call (W := fun cls d _ H => E cls d H) (takes_of rfl rfl rfl rfl) (fun _ _ _ _ h => h)) (pa_cons (pe_fld (pv 2) rfl) (pa_cons (pe_fld (pv 2) rfl) (pa_cons (pv 3) pa_nil)))))))), ?_⟩
    refine ⟨_, rfl, _, rfl, (by show 0 ≤ sizeLine; decide), fun u nu => ?_⟩
    have s1 : Same H (upd H u (.tup [])) := same_new nu
    refine mk_pic (kp.same s1) (kw.same s1) (.tup upd_same .nil) (fun ds e => by cases e; simp) (fun e he f H' s' hf => hE e he f H' (s1.trans s') hf) (fun P' W ds e1 e2 e3 e4 H2 b s2 nb pic => ?_)
    cases e1
    cases e2
    cases kp
    cases kw
    obtain ⟨p1, p2, w1, w2⟩ := pic.ok
    obtain ⟨bx, bt, bv, bxs, hb, _⟩ := pic.at_
    have sm2 := s1.trans s2
    dsimp only
    cases e3
    have rest : ∀ (D : Addr) (H3 : Hp), Same H2 H3 → Dq H3 (.ref D) (.list ((fullPs P'.toNat W.toNat).map prD)) → tRet (tMake T.C_Picture (sp_Picture_init T.C_Picture T.C_BadPicture) [] E (tCons (tFld K (tVar 2) "points") (tCons (tFld K (tVar 2) "walls") (tCons (tVar 3) tNil))))
        { nx := fun x H' => Q .non H', rt := Q } [some (.int P'), some (.int W), some (.ref b), some (.ref D), none, none] H3 := fun D H3 s3 kD => by
      have hb3 := s3 _ _ hb
      refine ⟨_, rfl, b, T.C_Picture, bx, _, _, rfl, hb3, T.cl_Picture, T.na_points, rfl, _, rfl, b, T.C_Picture, bx, _, _, rfl, hb3, T.cl_Picture, T.na_walls, rfl, _, rfl, ?_⟩
      have hi := fullPs_ins (P := P') (W := W) (by omega) (by omega)
      have wn : wordD (.int P') (.int W) (.list ((fullPs P'.toNat W.toNat).map prD)) = none := word_none pic.ok hi (asc_nodup (fullPs_asc _ _)) rfl
      refine mk_pic (.int _) (.int _) kD (fun ds e => ?_) (fun e he => by rw [wn] at he; cases he) (fun P2 W2 ds e1 e2 e3 _ H' y s' ny hp => ?_)
      · cases e
        rw [List.length_map, fullPs_len]
        have a1 : P'.toNat ≤ 5 := by omega
        have a2 : W.toNat ≤ 5 := by omega
        exact Nat.le_trans (Nat.mul_le_mul a1 a2) (by decide)
      · cases e1
        cases e2
        cases e3
        rw [List.map_map, show (prOf ∘ prD) = id from rfl, List.map_id, srt_asc (fullPs_asc _ _)] at hp
        exact hQ P' W rfl rfl e4 y H' ((sm2.trans s3).trans s') hp
    have hsz : P'.toNat * W.toNat ≤ 25 := Nat.mul_le_mul (by omega : P'.toNat ≤ 5) (by omega : W.toNat ≤ 5)
    refine asg_next ?_
    refine lc2_rr (g := gName 4) (g1 := gName 5) (tt := tYes) (tt1 := tYes) (n := P'.toNat) (m := W.toNat) (fun D i j H3 => Same H2 H3 ∧ i ≤ P'.toNat ∧ ∃ ys, H3 D = some (.lst ys) ∧ DqAll (TkS.Off D H3) ys ((fullPs i W.toNat ++ rowPs i j).map prD)) (fun R r => ?_) (fun D nD => ⟨same_new nD, Nat.zero_le _, [], upd_same, .nil⟩)
      (fun D i H3 nD hi hP => ?_) (fun D i H3 hi hP => ?_) (fun D H3 nD hP => ?_) (fun σ H R R' m h => ?_) (fun x σ H R R' m h => m _ _ h) (fun x σ H R R' m h => m _ _ h) (fun σ H R R' m h => m _ _ h) (fun σ H R R' m h => m _ _ h)
    · exact ⟨_, rfl, P', rfl, by omega, by omega, r⟩
    · refine ⟨rfl, rfl, _, rfl, W, rfl, by omega, by omega, rfl, hP, fun j H5 hj hP5 => ⟨rfl, rfl, _, rfl, _, rfl, (by show 2 ≤ sizeLine; decide), fun t nt => ?_⟩⟩
      obtain ⟨s5, hi5, ys, h1, h2⟩ := hP5
      have ne5 : t ≠ D := (ne_of_none h1 nt).symm
      have l5 := h2.len
      rw [List.length_map, List.length_append, fullPs_len] at l5
      have lr : (rowPs i j).length = j := by
        unfold rowPs
        simp
      have lm : i * W.toNat ≤ P'.toNat * W.toNat := Nat.mul_le_mul (by omega) (Nat.le_refl _)
      refine ⟨ys, by rw [upd_ne ne5.symm]; exact h1, small1000 (by omega), fun c o e => ?_, hi5, ys ++ [.ref t], upd_same, ?_⟩
      · rw [upd_ne (ne_of_none e nD)]
        exact (same_new nt) _ _ (s5 _ _ e)
      · rw [off_upd, rowPs_succ, ← List.append_assoc, List.map_append]
        refine (DqAll.same (off_of (same_new nt)) _ h2).snoc (.tup (off_at ne5 upd_same) ?_)
        rw [show (0 : Int) + (i : Int) = (i : Int) by omega, show (0 : Int) + (j : Int) = (j : Int) by omega]
        exact .cons (.int _) (.cons (.int _) .nil)
    · obtain ⟨s3, hi3, ys, h1, h2⟩ := hP
      refine ⟨s3, hi, ys, h1, ?_⟩
      rw [fullPs_succ]
      have e : fullPs i W.toNat ++ rowPs i W.toNat ++ rowPs (i + 1) 0 = fullPs i W.toNat ++ rowPs i W.toNat := List.append_nil _
      rw [e]
      exact h2
    · obtain ⟨s3, hi, ys, h1, h2⟩ := hP
      refine rest D H3 s3 (.lst h1 (DqAll.same (off_same (h := D)) _ ?_))
      have e : fullPs P'.toNat W.toNat ++ rowPs P'.toNat 0 = fullPs P'.toNat W.toNat := List.append_nil _
      rw [e] at h2
      exact h2
    · obtain ⟨x, hx, j, e, h1, h2, h3⟩ := h
      exact ⟨x, hx, j, e, h1, h2, m _ _ h3⟩
end
end K00
set_option Elab.async false
set_option linter.all false
set_option maxRecDepth 100000
set_option maxHeartbeats 4000000
set_option exponentiation.threshold 5000
namespace K00
open PySem PySem.Spec PyProof.Rows L2 TkS
/-! the hand -/
structure Hand (H : Hp) (h : Addr) : Prop where
  ex : ∃ (c : Addr) (cells : List Int) (p r t : Int), H h = some (.lst [.ref c, .int p, .int r, .int t]) ∧ H c = some (.lst (cells.map V.int)) ∧ c ≠ h ∧ 0 ≤ p ∧ 0 ≤ r ∧ ∀ z ∈ cells, (0 : Int) ≤ z
structure Keep (h : Addr) (H H' : Hp) : Prop where
  kp : ∀ b o, b ≠ h → H b = some o → H' b = some o
  cc : ∀ (c : Addr) (p r t : Int), H h = some (.lst [.ref c, .int p, .int r, .int t]) → ∃ p' r' t' : Int, H' h = some (.lst [.ref c, .int p', .int r', .int t'])
instance {h : Addr} {H H' : Hp} : CoeFun (Keep h H H') (fun _ => ∀ b o, b ≠ h → H b = some o → H' b = some o) := ⟨Keep.kp⟩
theorem Keep.trans {h : Addr} {H H1 H2 : Hp} (a : Keep h H H1) (b : Keep h H1 H2) : Keep h H H2 := ⟨fun c o n e => b c o n (a c o n e), fun c p r t e => by
  obtain ⟨p', r', t', e'⟩ := a.cc c p r t e
  exact b.cc c p' r' t' e'⟩
theorem Keep.refl {h : Addr} {H : Hp} : Keep h H H := ⟨fun _ _ _ e => e, fun c p r t e => ⟨p, r, t, e⟩⟩
theorem Keep.of {h : Addr} {H H' : Hp} (s : Same H H') : Keep h H H' := ⟨fun b o _ e => s b o e, fun c p r t e => ⟨p, r, t, s _ _ e⟩⟩
theorem keep_put {h : Addr} {H : Hp} {c : Addr} {p r t p' r' t' : Int} (e : H h = some (.lst [.ref c, .int p, .int r, .int t])) : Keep h H (upd H h (.lst [.ref c, .int p', .int r', .int t'])) :=
  ⟨fun b u n e => by rw [upd_ne n]; exact e, fun c2 p2 r2 t2 e2 => by
    rw [e] at e2
    cases e2
    exact ⟨p', r', t', upd_same⟩⟩
theorem Hand.same {H H' : Hp} {h : Addr} (e : Same H H') (x : Hand H h) : Hand H' h := by
  obtain ⟨c, cells, p, r, t, h1, h2, q⟩ := x.ex
  exact ⟨c, cells, p, r, t, e _ _ h1, e _ _ h2, q⟩
def sp_law_hand (K : PySem.W.Frag) : Sp := fun vs H Q _ => ∃ (a : Addr) (ns : List Int), vs = [.ref a] ∧ SqL K H a (ns.map V.int) ∧ ns.length ≤ 63 ∧ ∀ H' h, Same H H' → H h = none → Hand H' h → Q (.ref h) H'
def sp_law_mixed (K : PySem.W.Frag) : Sp := fun vs H Q _ => ∃ a b : Int, vs = [.int a, .int b] ∧ ∀ r : Int, 0 ≤ r → Q (.int r) H
def sp_law_take (K : PySem.W.Frag) : Sp := fun vs H Q _ => ∃ (h : Addr) (m : Int), vs = [.ref h, .int m] ∧ Hand H h ∧ 0 < m ∧ m.natAbs < 2 ^ 100 ∧ ∀ H' r, Keep h H H' → Hand H' h → 0 ≤ r → r < m → Q (.int r) H'
section
variable {P : Program} {w : World} {K : PySem.W.Frag} {mg : Str → Option Value} {base : Heap}
theorem ok_law_mixed (T : Txt K mg) : FnOk P w K mg base CX0 1 T.f_law_mixed T.d_law_mixed ["_law_number", "_law_turn"] (sp_law_mixed K) := by
  refine T.F_law_mixed.ok sc_law_mixed (fun vs H Q E h => ?_) (fun cdv A outer s H vs Q E hr h => ?_)
  · obtain ⟨a, b, rfl, _⟩ := h
    rfl
  · obtain ⟨a, b, rfl, q⟩ := h
    refine ⟨_, (pss_cons (ps_set (i := 2) sc_law_mixed.nd rfl (.inl rfl) (pe_op op_mod (pe_callTy call_int1 (by rfl) T.m_int (by decide +kernel) (pa_cons (pe_op op_add (pe_op op_add (pe_op op_mul (pv 0) pe_int) (pe_op op_mul (pv 1) pe_int)) pe_int) pa_nil)) pe_int))
      (pss_cons (ps_set (i := 3) sc_law_mixed.nd rfl (.inl rfl) (pe_op op_mod (pe_callTy call_int1 (by rfl) T.m_int (by decide +kernel) (pa_cons (pe_op op_add (pe_op op_add (pe_op op_mul (pv 2) (pv 2)) (pe_op op_mul (pv 1) pe_int)) (pe_op op_fdiv (pv 2) pe_int)) pa_nil)) pe_int))
      (pss_one (ps_ret (pe_op op_fdiv (pe_callTy call_int1 (by rfl) T.m_int (by decide +kernel) (pa_cons (pe_op op_mod (pe_callTy call_int1 (by rfl) T.m_int (by decide +kernel) (pa_cons (pe_op op_add (pe_op op_mul (pv 3) pe_int) (pe_op op_fdiv (pv 2) pe_int)) pa_nil)) pe_int) pa_nil)) pe_int))))), ?_⟩
    refine ⟨_, rfl, a, 40692, rfl, rfl, .inr (by decide), _, rfl, b, 7177, rfl, rfl, .inr (by decide), _, _, rfl, rfl, _, _, rfl, rfl, .inl ⟨_, rfl, _, _, rfl, rfl, (by show (0 : Int) < _; decide), ?_⟩⟩
    generalize (a * 40692 + b * 7177 + 60013 : Int) = z
    have z0 : (0 : Int) ≤ z % 2147483399 := Int.emod_nonneg _ (by decide)
    have z1 : z % 2147483399 < 2147483399 := Int.emod_lt_of_pos _ (by decide)
    refine ⟨_, rfl, _, rfl, z % 2147483399, z % 2147483399, rfl, rfl, .inl ⟨by omega, by omega⟩, _, rfl, b, 90523, rfl, rfl, .inr (by decide), _, _, rfl, rfl, _, rfl, z % 2147483399, 149, rfl, rfl, ⟨by decide, by decide⟩, _, _, rfl, rfl, .inl ⟨_, rfl, _, _, rfl, rfl, (by show (0 : Int) < _; decide), ?_⟩⟩
    generalize (z % 2147483399 * (z % 2147483399) + b * 90523 + z % 2147483399 / 149 : Int) = y
    have y0 : (0 : Int) ≤ y % 2147483629 := Int.emod_nonneg _ (by decide)
    have y1 : y % 2147483629 < 2147483629 := Int.emod_lt_of_pos _ (by decide)
    refine ⟨_, rfl, y % 2147483629, 52774, rfl, rfl, .inl ⟨by omega, by omega⟩, _, rfl, z % 2147483399, 13, rfl, rfl, ⟨by decide, by decide⟩, _, _, rfl, rfl, .inl ⟨_, rfl, _, _, rfl, rfl, (by show (0 : Int) < _; decide), .inl ⟨_, rfl, _, _, rfl, rfl, ⟨by decide, by decide⟩, q _ ?_⟩⟩⟩
    have x0 : (0 : Int) ≤ (y % 2147483629 * 52774 + z % 2147483399 / 13) % 2147483587 := Int.emod_nonneg _ (by decide)
    exact Int.ediv_nonneg x0 (by decide)
theorem all_push {cells : List Int} {z : Int} (h : ∀ x ∈ cells, (0 : Int) ≤ x) (hz : 0 ≤ z) : ∀ x ∈ cells ++ [z], (0 : Int) ≤ x := by
  intro x hx
  rcases List.mem_append.mp hx with e | e
  · exact h x e
  · rw [List.mem_singleton.mp e]
    exact hz
theorem ok_law_hand (T : Txt K mg) : FnOk P w K mg base CX0 1 T.f_law_hand T.d_law_hand ["_law_script"] (sp_law_hand K) := by
  refine T.F_law_hand.ok sc_law_hand (fun vs H Q E h => ?_) (fun cdv A outer s H vs Q E hr h => ?_)
  · obtain ⟨a, b, rfl, _⟩ := h
    rfl
  · obtain ⟨a, ns, rfl, hS, hlen, q⟩ := h
    refine ⟨_, (pss_cons (ps_set (i := 1) sc_law_hand.nd rfl (.inl rfl) (pe_op op_add (pe_callB call_len_seq (by rfl) T.m_len (by decide +kernel) (pa_cons (pv 0) pa_nil)) pe_int))
      (pss_cons (ps_set (i := 2) sc_law_hand.nd rfl (.inl rfl) (pe_lst pa_nil))
      (pss_cons (ps_for PassesOwn.never rfl (pi_list (pv 0)) (pg_name (i := 3) sc_law_hand.nd rfl (.inl rfl))
        (pss_cons (ps_set (i := 1) sc_law_hand.nd rfl (.inl rfl) (pe_op op_mod (pe_callTy call_int1 (by rfl) T.m_int (by decide +kernel) (pa_cons (pe_op op_add (pe_op op_mul (pv 1) pe_int) (pe_callTy call_int1 (by rfl) T.m_int (by decide +kernel) (pa_cons (pv 3) pa_nil))) pa_nil)) pe_int))
        (pss_one (ps_expr (pe_bm PySem.F.plainAttrs_list PySem.F.slot_list_append PySem.F.type_list_append mt_append (pv 2) (pa_cons (pe_callB call_abs (by rfl) T.m_abs (by decide +kernel) (pa_cons (pe_callTy call_int1 (by rfl) T.m_int (by decide +kernel) (pa_cons (pv 3) pa_nil)) pa_nil)) pa_nil))))))
      (pss_one (ps_ret (pe_lst (pa_cons (pv 2) (pa_cons pe_int (pa_cons pe_int (pa_cons (pv 1) pa_nil)))))))))), ?_⟩
    refine ⟨_, rfl, a, _, rfl, .inl hS, _, _, rfl, rfl, Nat.zero_le _, fun c nc => ?_⟩
    have s1 : Same H (upd H c (.lst [])) := fun b x e => by
      rw [upd_ne (ne_of_none e nc)]
      exact e
    refine ⟨_, rfl, a, rfl, ⟨_, s1.seq hS⟩, for_list (xs := ns.map V.int) (fun i σ H' => ∃ (t : Int) (y : Option V) (cells : List Int), σ = [some (.ref a), some (.int t), some (.ref c), y] ∧ Same H H' ∧ H' c = some (.lst (cells.map V.int)) ∧ cells.length = i ∧ ∀ z ∈ cells, (0 : Int) ≤ z)
      ⟨_, none, [], rfl, s1, upd_same, rfl, fun z hz => by cases hz⟩ (fun i σ H' _ hP => by obtain ⟨_, _, _, _, sm, _⟩ := hP; exact sm.seq hS) (fun i x σ H' hx hP => ?_) (fun σ H' hP => ?_)⟩
    · obtain ⟨t, y, cells, rfl, sm, ec, el, hz⟩ := hP
      obtain ⟨n, hn, rfl⟩ : ∃ n, ns[i]? = some n ∧ V.int n = x := by
        rw [List.getElem?_map] at hx
        exact Option.map_eq_some_iff.mp hx
      have hi : i < ns.length := (List.getElem?_eq_some_iff.mp hn).1
      have nca : c ≠ a → True := fun _ => trivial
      refine ⟨_, rfl, t, 2011, rfl, rfl, .inr (by decide), _, rfl, .inl ⟨_, rfl, _, _, rfl, rfl, .inl ⟨_, rfl, _, _, rfl, rfl, (by show (0 : Int) < _; decide), ?_⟩⟩⟩
      refine ⟨_, rfl, .inl ⟨rfl, _, .inl (.inl ec)⟩, _, rfl, .inl ⟨_, rfl, _, rfl, c, _, _, rfl, rfl, ec, ?_, ?_⟩⟩
      · rw [List.length_map, el]
        exact small1000 (by omega)
      · refine ⟨_, _, cells ++ [(if n < 0 then -n else n)], rfl, fun b u e => ?_, ?_, ?_, all_push hz (by split <;> omega)⟩
        · rw [upd_ne (ne_of_none e nc)]
          exact sm _ _ e
        · rw [upd_same, List.map_append]
          rfl
        · rw [List.length_append, el]
          rfl
    · obtain ⟨t, y, cells, rfl, sm, ec, el, hz⟩ := hP
      refine ⟨_, rfl, _, rfl, (by show 4 ≤ sizeLine; decide), fun h nh => ?_⟩
      have nch : c ≠ h := ne_of_none ec nh
      refine q _ h (fun b u e => ?_) (sm.free nh) ⟨c, cells, 0, 0, t, upd_same, ?_, nch, Int.le_refl _, Int.le_refl _, hz⟩
      · rw [upd_ne (ne_of_none (sm _ _ e) nh)]
        exact sm _ _ e
      · rw [upd_ne nch]
        exact ec
theorem cells_at {cells : List Int} {p : Int} (h0 : 0 ≤ p) (h : p < ((cells.map V.int).length : Int)) : ∃ z, z ∈ cells ∧ atI (cells.map V.int) p = some (.int z) := by
  rw [List.length_map] at h
  have hp : p.toNat < cells.length := by omega
  refine ⟨cells[p.toNat], List.getElem_mem hp, at_of (j := p.toNat) (by omega) ?_⟩
  rw [List.getElem?_map, List.getElem?_eq_getElem hp]
  rfl
theorem ok_law_take (T : Txt K mg) : FnOk P w K mg base CX0 2 T.f_law_take T.d_law_take ["_law_hand_here", "_law_many"] (sp_law_take K) := by
  refine T.F_law_take.ok sc_law_take (fun vs H Q E h => ?_) (fun cdv A outer s H vs Q E hr h => ?_)
  · obtain ⟨a, b, rfl, _⟩ := h
    rfl
  · obtain ⟨h, m, rfl, ⟨c, cells, p, r, t, hh, hc, nch, hp, hr0, hz⟩, hm, hmb, q⟩ := h
    refine ⟨_, (Evl.pss_cut (ps_if (PW.pt (pw_and (pt_cmpR op_eq (pe_ix ix_list (pv 0) pe_int (fun _ _ => rfl)) pe_int (nomark _)) (pw_and1 (pt_cmpR op_lt (pe_ix ix_list (pv 0) pe_int (fun _ _ => rfl)) (pe_callB call_len_seq (by rfl) T.m_len (by decide +kernel) (pa_cons (pe_ix ix_list (pv 0) pe_int (fun _ _ => rfl)) pa_nil)) (nomark _)))))
        (pss_cons (ps_set (i := 2) sc_law_take.nd rfl (.inl rfl) (pe_ix ix_list (pe_ix ix_list (pv 0) pe_int (fun _ _ => rfl)) (pe_ix ix_list (pv 0) pe_int (fun _ _ => rfl)) (fun _ _ => rfl)))
        (pss_cons (ps_asg (pe_op op_add (pe_ix ix_list (pv 0) pe_int (fun _ _ => rfl)) pe_int) (pg_sub (pv 0) pe_int set_list))
        (pss_cons (ps_if (pt_cmpR op_lt (pv 2) (pe_op op_pow pe_int pe_int) (nomark _))
          (pss_one (ps_ret (pe_op op_mod (pe_callTy call_int1 (by rfl) T.m_int (by decide +kernel) (pa_cons (pe_call (ok_law_mixed T) (hr.mono (by decide)) (by rfl) T.g_law_mixed T.F_law_mixed.kp T.b_law_mixed .nil pass0 (pa_cons (pe_op op_mod (pe_callTy call_int1 (by rfl) T.m_int (by decide +kernel) (pa_cons (pv 2) pa_nil)) pe_int) (pa_cons (pe_ix ix_list (pv 0) pe_int (fun _ _ => rfl)) pa_nil))) pa_nil)) (pv 1))))
          pss_nil)
        (pss_one (ps_asg (pv 2) (pg_sub (pv 0) pe_int set_list))))))
        pss_nil)
      (pss_cons (ps_if (pt_cmpR op_gt (pe_ix ix_list (pv 0) pe_int (fun _ _ => rfl)) pe_int (nomark _))
        (pss_cons (ps_set (i := 3) sc_law_take.nd rfl (.inl rfl) (pe_ix ix_list (pv 0) pe_int (fun _ _ => rfl)))
        (pss_cons (ps_asg (pe_op op_fdivW (pe_callTy call_int1 (by rfl) T.m_int (by decide +kernel) (pa_cons (pv 3) pa_nil)) (pv 1)) (pg_sub (pv 0) pe_int set_list))
        (pss_one (ps_ret (pe_op op_mod (pe_callTy call_int1 (by rfl) T.m_int (by decide +kernel) (pa_cons (pv 3) pa_nil)) (pv 1))))))
        pss_nil)
      (pss_cons (ps_asg (pe_op op_mod (pe_callTy call_int1 (by rfl) T.m_int (by decide +kernel) (pa_cons (pe_op op_add (pe_ix ix_list (pv 0) pe_int (fun _ _ => rfl)) pe_int) pa_nil)) pe_int) (pg_sub (pv 0) pe_int set_list))
      (pss_one (ps_ret (pe_op op_mod (pe_callTy call_int1 (by rfl) T.m_int (by decide +kernel) (pa_cons (pe_call (ok_law_mixed T) (hr.mono (by decide)) (by rfl) T.g_law_mixed T.F_law_mixed.kp T.b_law_mixed .nil pass0 (pa_cons (pe_ix ix_list (pv 0) pe_int (fun _ _ => rfl)) (pa_cons (pe_ix ix_list (pv 0) pe_int (fun _ _ => rfl)) pa_nil))) pa_nil)) (pv 1))))))), ?_⟩
    refine ⟨fun σ' H' => ∃ (y : Option V) (p r t : Int), σ' = [some (.ref h), some (.int m), y, none] ∧ Keep h H H' ∧ H' h = some (.lst [.ref c, .int p, .int r, .int t]) ∧ 0 ≤ p ∧ 0 ≤ r, ?_, fun σ' H' hM => ?_⟩
    · -- the first if
      refine ⟨_, rfl, h, _, 2, .int r, rfl, rfl, SqL.of hh, rfl, rfl, _, rfl, ite2 (fun c1 => ?_) (fun c1 => ?_)⟩
      · refine ⟨_, rfl, h, _, 1, .int p, rfl, rfl, SqL.of hh, rfl, _, rfl, h, _, 0, .ref c, rfl, rfl, SqL.of hh, rfl, c, _, rfl, .inl (SqL.of hc), p, _, rfl, rfl, _, rfl, ite2 (fun c2 => ?_) (fun c2 => ?_)⟩
        · obtain ⟨z, hzm, hza⟩ := cells_at hp (of_decide_eq_true c2)
          refine ⟨_, rfl, h, _, 0, .ref c, rfl, rfl, SqL.of hh, rfl, _, rfl, h, _, 1, .int p, rfl, rfl, SqL.of hh, rfl, c, _, p, .int z, rfl, rfl, SqL.of hc, hza, ?_⟩
          refine ⟨_, rfl, h, _, 1, .int p, rfl, rfl, SqL.of hh, rfl, p, 1, rfl, rfl, _, rfl, h, _, 1, 1, rfl, rfl, hh, rfl, ?_⟩
          have e1 : (upd H h (.lst ([V.ref c, .int p, .int r, .int t].set 1 (.int (p + 1))))) h = some (.lst [.ref c, .int (p + 1), .int r, .int t]) := upd_same
          refine ⟨_, rfl, 10, 18, rfl, rfl, ⟨by decide, by decide, by decide⟩, _, _, rfl, rfl, _, rfl, ite2 (fun c3 => ?_) (fun c3 => ?_)⟩
          · refine ⟨_, rfl, .inl ⟨_, rfl, z, 2147483399, rfl, rfl, (by show (0 : Int) < _; decide), _, rfl, h, _, 1, .int (p + 1), rfl, rfl, SqL.of e1, rfl, _, _, rfl, fun x hx => .inl ⟨x, rfl, _, rfl, x, m, rfl, rfl, hm, ?_⟩⟩⟩
            refine q _ _ (keep_put hh) ⟨c, cells, p + 1, r, t, e1, ?_, nch, by omega, hr0, hz⟩ (Int.emod_nonneg _ (by omega)) (Int.emod_lt_of_pos _ hm)
            rw [upd_ne nch]
            exact hc
          · refine ⟨_, rfl, _, rfl, h, _, 2, 2, rfl, rfl, e1, rfl, some (.int z), p + 1, z, t, rfl, ?_, upd_same, by omega, hz z hzm⟩
            rw [upd_upd]
            exact (keep_put hh)
        · exact ⟨none, p, r, t, rfl, Keep.refl, hh, hp, hr0⟩
      · exact ⟨none, p, r, t, rfl, Keep.refl, hh, hp, hr0⟩
    · -- what follows it
      obtain ⟨y, p, r, t, rfl, kp, hh, hp, hr0⟩ := hM
      have hc' : H' c = some (.lst (cells.map V.int)) := kp _ _ nch hc
      have hcu : ∀ o, (upd H' h o) c = some (.lst (cells.map V.int)) := fun o => by
        rw [upd_ne nch]
        exact hc'
      refine ⟨_, rfl, h, _, 2, .int r, rfl, rfl, SqL.of hh, rfl, r, 0, rfl, rfl, _, rfl, ite2 (fun c1 => ?_) (fun c1 => ?_)⟩
      · have hrp : 0 < r := of_decide_eq_true c1
        refine ⟨_, rfl, h, _, 2, .int r, rfl, rfl, SqL.of hh, rfl, ?_⟩
        refine ⟨_, rfl, .inl ⟨_, rfl, _, rfl, r, m, rfl, rfl, wide_div hm hmb (by decide) (by decide), _, rfl, h, _, 2, 2, rfl, rfl, hh, rfl, ?_⟩⟩
        refine ⟨_, rfl, .inl ⟨_, rfl, _, rfl, r, m, rfl, rfl, hm, ?_⟩⟩
        exact q _ _ (kp.trans (keep_put hh)) ⟨c, cells, p, r / m, t, upd_same, hcu _, nch, hp, Int.ediv_nonneg hr0 (by omega), hz⟩ (Int.emod_nonneg _ (by omega)) (Int.emod_lt_of_pos _ hm)
      · refine ⟨_, rfl, h, _, 3, .int t, rfl, rfl, SqL.of hh, rfl, t, 1, rfl, rfl, .inl ⟨_, rfl, _, _, rfl, rfl, (by show (0 : Int) < _; decide), _, rfl, h, _, 3, 3, rfl, rfl, hh, rfl, ?_⟩⟩
        have e1 : (upd H' h (.lst ([V.ref c, .int p, .int r, .int t].set 3 (.int ((t + 1) % 2147483549))))) h = some (.lst [.ref c, .int p, .int r, .int ((t + 1) % 2147483549)]) := upd_same
        refine ⟨_, rfl, h, _, 3, _, rfl, rfl, SqL.of e1, rfl, _, rfl, h, _, 1, _, rfl, rfl, SqL.of e1, rfl, _, _, rfl, fun x hx => .inl ⟨x, rfl, _, rfl, x, m, rfl, rfl, hm, ?_⟩⟩
        exact q _ _ (kp.trans (keep_put hh)) ⟨c, cells, p, r, _, e1, hcu _, nch, hp, hr0, hz⟩ (Int.emod_nonneg _ (by omega)) (Int.emod_lt_of_pos _ hm)
end
end K00
set_option Elab.async false
set_option linter.all false
set_option maxRecDepth 100000
set_option maxHeartbeats 4000000
set_option exponentiation.threshold 5000
namespace K00
open PySem PySem.Spec PyProof.Rows L2 TkS
def isIntD : PyData → Bool
  | .int _ => true
  | _ => false
def sp_law_whole : Sp := fun vs H Q _ => ∃ x d, vs = [x] ∧ Dq H x d ∧ Q (.bl (isIntD d)) H
def sp_law_full : Sp := fun vs H Q _ => ∃ (p s : Int), vs = [.int p, .int s] ∧ 0 ≤ p ∧ p ≤ 5 ∧ 0 ≤ s ∧ s ≤ 5 ∧ ∀ l H', Same H H' → H l = none → Dq H' (.ref l) (.list ((fullPs p.toNat s.toNat).map prD)) → Q (.ref l) H'
def sp_law_couple : Sp := fun vs H Q _ => ∃ (P W : Int) (x : V) (d : PyData), vs = [.int P, .int W, x] ∧ Dq H x d ∧ ∀ H', Same H H' → Q (.bl (isPair P W d)) H'
theorem noList_pr (p : Int × Int) : noList (prD p) = true := rfl
theorem range_full (n : Nat) : (List.range n).filter (fun _ => true) = List.range n := List.filter_eq_self.mpr fun _ _ => rfl
section
variable {P : Program} {w : World} {K : PySem.W.Frag} {mg : Str → Option Value} {base : Heap}
theorem ok_law_whole (T : Txt K mg) : FnOk P w K mg base CX0 1 T.f_law_whole T.d_law_whole ["_law_thing"] sp_law_whole := by
  refine T.F_law_whole.ok sc_law_whole (fun vs H Q E h => ?_) (fun cdv A outer s H vs Q E hr h => ?_)
  · obtain ⟨x, d, rfl, _⟩ := h
    rfl
  · obtain ⟨x, d, rfl, hk, q⟩ := h
    obtain ⟨t, ty, k1, k2, _⟩ := dq_ty (K := K) hk
    refine ⟨_, (pss_one (ps_ret (pe_and (pe_callB call_isi (by rfl) T.m_isinstance (by decide +kernel) (pa_cons (pv 0) (pa_cons (pe_bltn (v := .ty "int") (u := .type "int") (by rfl) T.m_int (by decide +kernel) rfl) pa_nil))) (pe_one (pe_not (pe_callB call_isi (by rfl) T.m_isinstance (by decide +kernel) (pa_cons (pv 0) (pa_cons (pe_bltn (v := .ty "bool") (u := .type "bool") (by rfl) T.m_bool (by decide +kernel) rfl) pa_nil)))))))), ?_⟩
    refine ⟨x, rfl, x, .ty "int", t, _, isNumV x, rfl, .ty _, ty, k2, _, rfl, ?_⟩
    have two : Q (.bl (!isBlV x)) H → tNotV (tCB (rIsi K) (tCons (tVar 0) (tCons (tC (.ty "bool")) tNil))) (L2.start ["_law_thing"] [x]) H Q := fun z => ⟨x, rfl, x, .ty "bool", t, _, isBlV x, rfl, .ty _, ty, k1, _, rfl, z⟩
    cases hk with
    | non => exact iteF q
    | bl b => exact iteT (two q)
    | int i => exact iteT (two q)
    | str z => exact iteF q
    | lst z y => exact iteF q
    | tup z y => exact iteF q
theorem ok_law_full (T : Txt K mg) : FnOk P w K mg base CX0 1 T.f_law_full T.d_law_full ["_law_points", "_law_shuts"] sp_law_full := by
  refine T.F_law_full.ok sc_law_full (fun vs H Q E h => ?_) (fun cdv A outer s H vs Q E hr h => ?_)
  · obtain ⟨p, s, rfl, _⟩ := h
    rfl
  · obtain ⟨p, s', rfl, p0, p1, s0, s1, q⟩ := h
    refine ⟨_, (pss_cons (ps_set (i := 2) sc_law_full.nd rfl (.inl rfl) (pe_lst pa_nil))
      (pss_cons (ps_for PassesOwn.never rfl (pi_range1 (by rfl) T.m_range (pa_cons (pv 0) pa_nil)) (pg_name (i := 3) sc_law_full.nd rfl (.inr rfl))
        (pss_one (ps_set (i := 2) sc_law_full.nd rfl (.inl rfl) (pe_op op_catDL (pv 2) (pe_lc rfl sc_law_full.nd (pi_range1 (by rfl) T.m_range (pa_cons (pv 1) pa_nil)) (blkOk_by (own := [("_law_shut_here", 4)]) (N := ["_law_points", "_law_shuts", "_law_told", "_law_point", "_law_shut_here"]) (sc := defScope s_law_full) (by decide +kernel)) (fun _ _ _ _ _ => (pg_name (i := 4) sc_law_full.nd rfl (.inl rfl))) (fun _ _ _ _ _ => pts_nil) (fun _ _ _ _ _ => (pe_tup (pa_cons (pv 3) (pa_cons (pv 4) pa_nil)))))))))
      (pss_one (ps_ret (pv 2))))), ?_⟩
    refine ⟨Nat.zero_le _, fun t0 n0 => ⟨_, rfl, p, rfl, by omega, by omega, for_range (n := p.toNat) (fun i σ H' => ∃ (t : Addr) (y3 : Option V), σ = [some (.int p), some (.int s'), some (.ref t), y3, none] ∧ Same H H' ∧ H t = none ∧ Dq H' (.ref t) (.list ((fullPs i s'.toNat).map prD)))
      ⟨t0, none, rfl, same_new n0, n0, .lst upd_same .nil⟩ (fun i σ H' hi hP => ?_) (fun σ H' hP => ?_)⟩⟩
    · obtain ⟨t, y3, rfl, sm, nt, kt⟩ := hP
      refine ⟨_, rfl, _, rfl, s', rfl, by omega, by omega, fun D nD => ?_⟩
      refine lc_rngD (fun _ => true) (fun j => prD ((i : Int), (j : Int))) nD (by omega) (fun _ => rfl) (fun j H2 Q2 hj s2 q2 => q2 _ (fun _ _ z => z)) (fun j H2 Q2 hj _ s2 hD q2 => ?_) (fun H2 s2 kD => ?_)
      · refine ⟨_, rfl, _, rfl, (by show 2 ≤ sizeLine; decide), fun u nu => q2 _ _ (same_new nu) ?_⟩
        obtain ⟨acc, hD⟩ := hD
        rw [Int.zero_add, Int.zero_add]
        exact .tup (off_at (ne_of_none hD nu).symm upd_same) (.cons (.int _) (.cons (.int _) .nil))
      · rw [range_full] at kD
        have kD' : Dq H2 (.ref D) (.list ((rowPs i s'.toNat).map prD)) := by
          unfold rowPs
          rw [List.map_map]
          exact kD
        have hsz : i * s'.toNat ≤ 5 * 5 := Nat.mul_le_mul (by omega) (by omega)
        refine ⟨_, _, kt.same s2, kD', ?_, fun l H3 s3 nl kl => ⟨l, _, rfl, (sm.trans s2).trans s3, (sm.trans s2).free nl, ?_⟩⟩
        · rw [List.length_map, List.length_map, fullPs_len]
          have : (rowPs i s'.toNat).length = s'.toNat := by
            unfold rowPs
            simp
          omega
        · rw [fullPs_succ, List.map_append]
          exact kl
    · obtain ⟨t, y3, rfl, sm, nt, kt⟩ := hP
      exact ⟨_, rfl, q t H' sm nt kt⟩
end
end K00
set_option Elab.async false
set_option linter.all false
set_option maxRecDepth 100000
set_option maxHeartbeats 4000000
set_option exponentiation.threshold 5000
namespace K00
open PySem PySem.Spec PyProof.Rows L2 TkS
section
variable {P : Program} {w : World} {K : PySem.W.Frag} {mg : Str → Option Value} {base : Heap}
theorem asg_last {i : Nat} {x : V} {t : TE} {g : TG} {D : Ends} {σ : L2.St} {H : Hp} (h : t (σ.set i (some x)) H fun y H2 => g y (σ.set i (some x)) H2 D.nx) : gName i x σ H (tAsg t g D) := h
def mrgD (a b : Int) : PyData → PyData
  | .int n => .int (if n = a ∨ n = b then (if b < a then b else a) else n)
  | d => d
theorem mrgD_int {a b n : Int} : mrgD a b (.int n) = .int (if n = a ∨ n = b then (if b < a then b else a) else n) := rfl
theorem dq_intl {H : Hp} : ∀ ls : List Int, DqAll H (ls.map V.int) (ls.map PyData.int)
  | [] => .nil
  | _ :: ls => .cons (.int _) (dq_intl ls)
theorem intl_dq {H : Hp} : ∀ {ls : List Int} {xs : List V}, DqAll H xs (ls.map PyData.int) → xs = ls.map V.int
  | [], _, .nil => rfl
  | _ :: ls, _, .cons k t => by
    cases k
    rw [intl_dq t]
    rfl
theorem mrg_data (ls : List Int) (a b : Int) : ((ls.map PyData.int).filter fun _ => true).map (mrgD a b) = (mrg ls a b).map PyData.int := by
  rw [List.filter_eq_self.mpr fun _ _ => rfl]
  unfold mrg
  rw [List.map_map, List.map_map]
  rfl
theorem ok_law_marks (T : Txt K mg) : FnOk P w K mg base CX0 1 T.f_law_marks T.d_law_marks ["_law_points", "_law_shuts", "_law_pairs"] (sp_piece_labels K) := by
  refine T.F_law_marks.ok sc_law_marks (fun vs H Q E h => ?_) (fun cdv A outer s H vs Q E hr h => ?_)
  · obtain ⟨P', W, l, xs, ps, rfl, _⟩ := h
    rfl
  · obtain ⟨P', W, l, xs, ps, rfl, p0, w0, pw, hS, hD, hin, q⟩ := h
    refine ⟨_, (pss_cons (ps_set (i := 3) sc_law_marks.nd rfl (.inl rfl) (pe_listRg rfl (by rfl) T.m_list (prg_1 (by rfl) T.m_range (pe_op op_add (pv 0) (pv 1)))))
      (pss_cons (ps_for PassesOwn.never rfl (pi_list (pv 2)) (pg_tup rfl (pgs_cons (pg_name (i := 4) sc_law_marks.nd rfl (.inl rfl)) (pgs_cons (pg_name (i := 5) sc_law_marks.nd rfl (.inl rfl)) pgs_nil)))
        (pss_cons (ps_set (i := 6) sc_law_marks.nd rfl (.inr rfl) (pe_ix ix_list (pv 3) (pv 4) (fun _ _ => rfl)))
        (pss_cons (ps_set (i := 7) sc_law_marks.nd rfl (.inr rfl) (pe_ix ix_list (pv 3) (pe_op op_add (pv 0) (pv 5)) (fun _ _ => rfl)))
        (pss_one (ps_setLc (i := 3) rfl sc_law_marks.nd rfl rfl (sw_true rfl rfl rfl (by decide +kernel)) (pi_seq (pv 3)) (blkOk_by (own := [("_law_mark", 8)]) (N := ["_law_points", "_law_shuts", "_law_pairs", "_law_marks_here", "_law_point", "_law_shut_here", "_law_one", "_law_other", "_law_mark"]) (sc := defScope s_law_marks) (by decide +kernel)) (fun _ _ _ _ _ => (pg_name (i := 8) sc_law_marks.nd rfl (.inl rfl))) (fun _ _ _ _ _ => pts_nil) (fun _ _ _ _ _ => (pe_ifExp (pt_cmpR (show OpR _ (compareOp .In) (rIn K false) from op_in_seq) (pv 8) (pe_tup (pa_cons (pv 6) (pa_cons (pv 7) pa_nil))) rfl) (pe_callB (call_min2 rfl) (by rfl) T.m_min (by decide +kernel) (pa_cons (pv 6) (pa_cons (pv 7) pa_nil))) (pv 8))))))))
      (pss_one (ps_ret (pv 3))))), ?_⟩
    refine ⟨_, rfl, _, rfl, P', W, rfl, rfl, P' + W, rfl, RgOk.of_le (by decide) (by omega) (by decide) (by omega), fun l0 n0 => ?_⟩
    have hlen : xs.length = ps.length := by
      rw [hD.len, List.length_map]
    refine ⟨_, rfl, l, rfl, ⟨_, (same_new n0).seq hS⟩, for_list (xs := xs) (fun i σ H' => ∃ (a : Addr) (y4 y5 y6 y7 : Option V), σ = [some (.int P'), some (.int W), some (.ref l), some (.ref a), y4, y5, y6, y7, none] ∧ Same H H' ∧ H' a = some (.lst (((ps.take i).foldl (stepM P') (row0 (P' + W).toNat)).map V.int)))
      ⟨l0, none, none, none, none, rfl, same_new n0, ?_⟩ (fun i σ H' _ hP => by obtain ⟨_, _, _, _, _, _, sm, _⟩ := hP; exact sm.seq hS) (fun i x σ H' hx hP => ?_) (fun σ H' hP => ?_)⟩
    · rw [upd_same, rg_row (a := 0) (by omega)]
      rfl
    · obtain ⟨a, y4, y5, y6, y7, rfl, sm, ha⟩ := hP
      obtain ⟨t, p, rfl, hp, ht⟩ := pr_items hD hx
      obtain ⟨b1, b2, b3, b4⟩ := hin p (List.mem_of_getElem? hp)
      generalize el : (ps.take i).foldl (stepM P') (row0 (P' + W).toNat) = ls at ha
      have ll : ls.length = (P' + W).toNat := by rw [← el, fold_len, row0_len]
      refine ⟨t, _, rfl, SqT.of (sm _ _ ht), rfl, _, _, rfl, _, _, rfl, rfl, ?_⟩
      refine ⟨_, rfl, _, rfl, a, _, p.1, _, rfl, rfl, SqL.of ha, ix_at b1 (by omega), ?_⟩
      refine ⟨_, rfl, _, rfl, _, rfl, P', p.2, rfl, rfl, a, _, P' + p.2, _, rfl, rfl, SqL.of ha, ix_at (by omega) (by omega), ?_⟩
      dsimp only
      refine asg_last ?_
      refine lc_seqD (a := a) (j := 8) (ds := ls.map PyData.int) (fun _ => true) (mrgD (ls.getD p.1.toNat 0) (ls.getD (P' + p.2).toNat 0)) (fun Q2 z => ⟨_, rfl, z⟩) (.inl (SqL.of ha)) (dq_intl ls) (by rw [List.length_map]; omega) (fun _ => rfl)
        (fun i x d H2 Q2 _ _ _ q2 => q2 _ (fun _ _ z => z)) (fun D i x d H2 Q2 nD hd _ s2 kd hDl q2 => ?_) (fun D H2 nD s2 kD => ?_)
      · rw [List.getElem?_map] at hd
        obtain ⟨n, _, rfl⟩ := Option.map_eq_some_iff.mp hd
        cases kd
        refine ⟨_, rfl, _, rfl, _, rfl, (by show 2 ≤ sizeLine; decide), fun u nu => ⟨u, _, rfl, .inr (SqT.of upd_same), rfl, rfl, _, rfl, ?_⟩⟩
        refine (show (if (if false = true then !inV (V.int n) [V.int (ls.getD p.1.toNat 0), V.int (ls.getD (P' + p.2).toNat 0)] else inV (V.int n) [V.int (ls.getD p.1.toNat 0), V.int (ls.getD (P' + p.2).toNat 0)]) = true then _ else _) from ?_)
        rw [if_neg Bool.false_ne_true, in2]
        by_cases c : n = ls.getD p.1.toNat 0 ∨ n = ls.getD (P' + p.2).toNat 0
        · rw [decide_eq_true c]
          refine iteT ⟨_, rfl, _, rfl, _, _, rfl, q2 _ _ (same_new nu) ?_⟩
          rw [mrgD_int, if_pos c]
          exact .int _
        · rw [decide_eq_false c]
          refine iteF ⟨_, rfl, q2 _ _ (same_new nu) ?_⟩
          rw [mrgD_int, if_neg c]
          exact .int _
      · rw [mrg_data] at kD
        cases kD with
        | lst e1 e2 =>
          rw [intl_dq e2] at e1
          refine ⟨D, _, _, _, _, rfl, sm.trans s2, ?_⟩
          rw [e1, List.take_add_one, hp, List.foldl_append, el]
          rfl
    · obtain ⟨a, y4, y5, y6, y7, rfl, sm, ha⟩ := hP
      refine ⟨_, rfl, q H' a sm ?_⟩
      rw [hlen, List.take_length] at ha
      exact ha
theorem ok_law_couple (T : Txt K mg) : FnOk P w K mg base CX0 2 T.f_law_couple T.d_law_couple ["_law_points", "_law_shuts", "_law_thing"] sp_law_couple := by
  refine T.F_law_couple.ok sc_law_couple (fun vs H Q E h => ?_) (fun cdv A outer s H vs Q E hr h => ?_)
  · obtain ⟨P', W, x, d, rfl, _⟩ := h
    rfl
  · obtain ⟨P', W, x, d, rfl, hk, q⟩ := h
    refine ⟨_, (pss_cons (ps_if (PW.pt (pw_or (pt_not (pt_val (pe_callB call_isiT (by rfl) T.m_isinstance (by decide +kernel) (pa_cons (pv 2) (pa_cons (pe_tup (pa_cons (pe_bltn (v := .ty "list") (u := .type "list") (by rfl) T.m_list (by decide +kernel) rfl) (pa_cons (pe_bltn (v := .ty "tuple") (u := .type "tuple") (by rfl) T.m_tuple (by decide +kernel) rfl) pa_nil))) pa_nil))))) (pw_or1 (pt_cmpR op_ne (pe_callB call_len_seq (by rfl) T.m_len (by decide +kernel) (pa_cons (pv 2) pa_nil)) pe_int (nomark _)))))
        (pss_one (ps_ret pe_bl))
        pss_nil)
      (pss_cons (ps_for PassesOwn.never rfl (RZM.pi_zipS (by rfl) T.m_zip (pa_cons (pv 2) (pa_cons (pe_tup (pa_cons (pv 0) (pa_cons (pv 1) pa_nil))) pa_nil))) (pg_tup rfl (pgs_cons (pg_name (i := 3) sc_law_couple.nd rfl (.inl rfl)) (pgs_cons (pg_name (i := 4) sc_law_couple.nd rfl (.inl rfl)) pgs_nil)))
        (pss_one (ps_if (PW.pt (pw_or (pt_not (pt_val (pe_call (ok_law_whole T) (hr.mono (by decide)) (by rfl) T.g_law_whole T.F_law_whole.kp T.b_law_whole .nil pass0 (pa_cons (pv 3) pa_nil)))) (pw_or (pt_cmpR op_lt (pv 3) pe_int (nomark _)) (pw_or1 (pt_cmpR op_ge (pv 3) (pv 4) (nomark _))))))
          (pss_one (ps_ret pe_bl))
          pss_nil)))
      (pss_one (ps_ret pe_bl)))), ?_⟩
    refine ⟨x, rfl, (by show 2 ≤ sizeLine; decide), fun u nu => ?_⟩
    have sm : Same H (upd H u (.tup [.ty "list", .ty "tuple"])) := same_new nu
    obtain ⟨t, ty, _, _, k3, _⟩ := dq_ty (K := K) (Dq.same sm d hk)
    have hk1 := hk.same sm
    have q1 := q _ sm
    refine ⟨x, u, _, t, _, (itemsD d).isSome, rfl, upd_same, .cons (.ty _) (.cons (.ty _) .nil), ty, k3, _, rfl, ?_⟩
    generalize upd H u (.tup [.ty "list", .ty "tuple"]) = H1 at sm hk1 q1
    cases e : itemsD d with
    | none =>
      have e2 : isPair P' W d = false := by
        unfold isPair
        rw [e]
      rw [e2] at q1
      exact iteT q1
    | some ds =>
      obtain ⟨p, xs, rfl, hxs, hsq⟩ := sq_of (K := K) hk1 e
      refine iteF ⟨_, rfl, p, xs, rfl, hsq, rfl, _, rfl, ?_⟩
      have hlx := hxs.len
      rw [int_dec]
      by_cases c : ((xs.length : Nat) : Int) = 2
      · have c2 : xs.length = 2 := by omega
        rw [decide_eq_true c]
        refine iteF ⟨_, rfl, _, rfl, _, rfl, (by show 2 ≤ sizeLine; decide), fun u2 nu2 => ?_⟩
        have sm2 : Same H1 (upd H1 u2 (.tup [.int P', .int W])) := same_new nu2
        have hu2 : (upd H1 u2 (.tup [.int P', .int W])) u2 = some (.tup [.int P', .int W]) := upd_same
        generalize upd H1 u2 (.tup [.int P', .int W]) = H2 at sm2 hu2
        have e2 : isPair P' W d = true ↔ ∀ (k : Nat) (d' : PyData) (h' : Int), ds[k]? = some d' → [P', W][k]? = some h' → wholeD d' 0 (h' - 1) = true := by
          match ds, (hlx.symm.trans c2 : ds.length = 2), e with
          | [a0, a1], _, e =>
            unfold isPair
            rw [e]
            show (wholeD a0 0 (P' - 1) && wholeD a1 0 (W - 1)) = true ↔ _
            rw [Bool.and_eq_true]
            constructor
            · rintro ⟨h1, h2⟩ k d' h' k1 k2
              match k, k1, k2 with
              | 0, k1, k2 =>
                cases k1
                cases k2
                exact h1
              | 1, k1, k2 =>
                cases k1
                cases k2
                exact h2
            · intro h
              exact ⟨h 0 a0 P' rfl rfl, h 1 a1 W rfl rfl⟩
        obtain ⟨t1, ht1⟩ : ∃ t1, RZM.SqS t1 K H2 p xs := (hsq.same sm2).elim (fun z => ⟨false, z⟩) (fun z => ⟨true, z⟩)
        have q2 : ∀ H3 b, Same H2 H3 → isPair P' W d = b → Q (.bl b) H3 := fun H3 b s3 eb => by
          subst eb
          exact q _ ((sm.trans sm2).trans s3)
        refine ⟨t1, true, p, u2, xs, [.int P', .int W], rfl, ht1, SqT.of hu2, RZM.for_zipS (xs := xs) (ys := [.int P', .int W]) c2 (fun i σ H3 => ∃ y3 y4, σ = [some (.int P'), some (.int W), some (.ref p), y3, y4] ∧ Same H2 H3 ∧ ∀ (k : Nat) (d' : PyData) (h' : Int), k < i → ds[k]? = some d' → [P', W][k]? = some h' → wholeD d' 0 (h' - 1) = true)
          ⟨none, none, rfl, fun _ _ z => z, fun k _ _ hk => absurd hk (Nat.not_lt_zero _)⟩ (fun i σ H3 hP => ?_) (fun i x y Z σ H3 hx hy hP nZ => ?_) (fun σ H3 hP => ?_)⟩
        · obtain ⟨_, _, _, s3, _⟩ := hP
          refine ⟨?_, SqT.of (s3 _ _ hu2)⟩
          cases t1 with
          | true => exact seqT_same s3 ht1
          | false => exact s3.seq ht1
        · obtain ⟨y3, y4, rfl, s3, hall⟩ := hP
          obtain ⟨d', hd', kd'⟩ := hxs.get hx
          obtain ⟨hi, hhi, rfl⟩ : ∃ hi, [P', W][i]? = some hi ∧ V.int hi = y := by
            have e9 : ([V.int P', V.int W] : List V) = [P', W].map V.int := rfl
            rw [e9, List.getElem?_map] at hy
            exact Option.map_eq_some_iff.mp hy
          have s4 : Same H2 (upd H3 Z (.tup [x, .int hi])) := s3.trans (same_new nZ)
          have kx : Dq (upd H3 Z (.tup [x, .int hi])) x d' := (kd'.same sm2).same s4
          have bad : wholeD d' 0 (hi - 1) = false → Q (.bl false) (upd H3 Z (.tup [x, .int hi])) := fun z => q2 _ _ s4 (by
            cases hb : isPair P' W d with
            | false => rfl
            | true =>
              rw [e2.mp hb i d' hi hd' hhi] at z
              cases z)
          refine ⟨Z, _, rfl, SqT.of upd_same, rfl, _, _, rfl, _, _, rfl, rfl, ?_⟩
          refine ⟨x, rfl, x, d', rfl, kx, _, rfl, ?_⟩
          cases kx with
          | int n =>
            refine iteF ⟨_, rfl, n, 0, rfl, rfl, _, rfl, ite2 (fun c1 => ?_) (fun c1 => ?_)⟩
            · have c1' := of_decide_eq_true c1
              refine bad ?_
              show (decide (0 ≤ n) && decide (n ≤ hi - 1)) = false
              rw [decide_eq_false (by omega)]
              rfl
            · have c1' : 0 ≤ n := Int.not_lt.mp fun z => c1 (decide_eq_true z)
              refine ⟨_, rfl, _, rfl, n, hi, rfl, rfl, _, rfl, ite2 (fun c3 => ?_) (fun c3 => ?_)⟩
              · have c3' := of_decide_eq_true c3
                refine bad ?_
                show (decide (0 ≤ n) && decide (n ≤ hi - 1)) = false
                rw [decide_eq_false (by omega : ¬ n ≤ hi - 1), Bool.and_false]
              · have c3' : n < hi := Int.not_le.mp fun z => c3 (decide_eq_true z)
                refine ⟨_, _, rfl, s4, fun k d2 h2 hk k1 k2 => ?_⟩
                rcases Nat.lt_or_ge k i with z | z
                · exact hall k d2 h2 z k1 k2
                · have : k = i := by omega
                  subst this
                  rw [hd'] at k1
                  rw [hhi] at k2
                  cases k1
                  cases k2
                  show (decide (0 ≤ n) && decide (n ≤ hi - 1)) = true
                  rw [decide_eq_true c1', decide_eq_true (by omega : n ≤ hi - 1)]
                  rfl
          | non => exact iteT (bad rfl)
          | bl b => exact iteT (bad rfl)
          | str z => exact iteT (bad rfl)
          | lst z1 z2 => exact iteT (bad rfl)
          | tup z1 z2 => exact iteT (bad rfl)
        · obtain ⟨y3, y4, rfl, s3, hall⟩ := hP
          refine q2 _ _ s3 (e2.mpr fun k d' h' k1 k2 => hall k d' h' ?_ k1 k2)
          rw [c2]
          exact (List.getElem?_eq_some_iff.mp k2).1
      · rw [decide_eq_false c]
        refine iteT ?_
        have e2 : isPair P' W d = false := by
          unfold isPair
          rw [e]
          have : ds.length ≠ 2 := fun z => c (by rw [hlx, z]; rfl)
          match ds, this with
          | [], _ => rfl
          | [_], _ => rfl
          | [_, _], z => exact absurd rfl z
          | _ :: _ :: _ :: _, _ => rfl
        rw [e2] at q1
        exact q1
end
end K00
set_option Elab.async false
set_option linter.all false
set_option maxRecDepth 100000
set_option maxHeartbeats 4000000
set_option exponentiation.threshold 5000
namespace K00
open PySem PySem.Spec PyProof.Rows L2 TkS
def wordV : Option Str → V
  | none => .non
  | some s => .str s
def sp_law_due : Sp := fun vs H Q _ => ∃ (p w ps : V) (dp dw dps : PyData), vs = [p, w, ps] ∧ Dq H p dp ∧ Dq H w dw ∧ Dq H ps dps ∧ (∀ ds, itemsD dps = some ds → ds.length ≤ 60) ∧ ∀ H', Same H H' → Q (wordV (wordD dp dw dps)) H'
theorem if_lc {r1 r2 : List V → Hp → VK → Prop} {r : R2} {wi : TI} {g : TG} {tt : TT} {te : TE} {vs : List Nat} {tb : TE} {t1 t2 rest : TS} {D : Ends} {σ : L2.St} {H : Hp}
    (h : tLc wi g tt te vs σ H fun v H1 => r1 [v] H1 fun x H2 => r2 [x] H2 fun y H3 => tb σ H3 fun z H4 => r y z H4 fun b H5 => ∃ k, b = V.bl k ∧ (if k = true then t1 { D with nx := rest D } σ H5 else t2 { D with nx := rest D } σ H5)) :
    tSeq (tIfS (tTest (tOp r (tCB r2 (tCons (tCB r1 (tCons (tLc wi g tt te vs) tNil)) tNil)) tb)) t1 t2) rest D σ H := h
theorem ix_two {K : PySem.W.Frag} {H : Hp} {x : V} {d : PyData} {i j : Int} (k : Dq H x d) (e : itemsD d = some [.int i, .int j]) : ∃ p, x = .ref p ∧ ∀ Q : VK, (Q (.int i) H → rIx K (.ref p) (.int 0) H Q) ∧ (Q (.int j) H → rIx K (.ref p) (.int 1) H Q) := by
  obtain ⟨p, xs, rfl, h1, h2⟩ := sq_of (K := K) k e
  obtain ⟨rfl, _⟩ := two_ints (H' := H) h1
  refine ⟨p, rfl, fun Q => ⟨fun q => ?_, fun q => ?_⟩⟩
  · exact h2.elim (fun h => .inl ⟨p, _, 0, _, rfl, rfl, h, rfl, q⟩) (fun h => .inr (.inl ⟨p, _, 0, _, rfl, rfl, h, rfl, q⟩))
  · exact h2.elim (fun h => .inl ⟨p, _, 1, _, rfl, rfl, h, rfl, q⟩) (fun h => .inr (.inl ⟨p, _, 1, _, rfl, rfl, h, rfl, q⟩))
def adV : V → Addr
  | .ref a => a
  | _ => 0
theorem wholeD_int {n lo hi : Int} : wholeD (.int n) lo hi = (decide (lo ≤ n) && decide (n ≤ hi)) := rfl
section
variable {P : Program} {w : World} {K : PySem.W.Frag} {mg : Str → Option Value} {base : Heap}
theorem ok_law_due (T : Txt K mg) : FnOk P w K mg base CX0 3 T.f_law_due T.d_law_due ["_law_points", "_law_shuts", "_law_pairs"] sp_law_due := by
  refine T.F_law_due.ok sc_law_due (fun vs H Q E h => ?_) (fun cdv A outer s H vs Q E hr h => ?_)
  · obtain ⟨p, w, ps, dp, dw, dps, rfl, _⟩ := h
    rfl
  · obtain ⟨p, w', ps, dp, dw, dps, rfl, kp, kw, kps, hlen, q⟩ := h
    refine ⟨_, (pss_cons (ps_for PassesOwn.never rfl (pi_tup (pe_tup (pa_cons (pe_tup (pa_cons (pv 0) (pa_cons pe_str pa_nil))) (pa_cons (pe_tup (pa_cons (pv 1) (pa_cons pe_str pa_nil))) pa_nil)))) (pg_tup rfl (pgs_cons (pg_name (i := 3) sc_law_due.nd rfl (.inl rfl)) (pgs_cons (pg_name (i := 4) sc_law_due.nd rfl (.inl rfl)) pgs_nil)))
        (pss_one (ps_if (PW.pt (pw_or (pt_not (pt_val (pe_call (ok_law_whole T) (hr.mono (by decide)) (by rfl) T.g_law_whole T.F_law_whole.kp T.b_law_whole .nil pass0 (pa_cons (pv 3) pa_nil)))) (pw_or (pt_cmpR op_lt (pv 3) pe_int (nomark _)) (pw_or1 (pt_cmpR op_gt (pv 3) pe_int (nomark _))))))
          (pss_one (ps_ret (pv 4)))
          pss_nil)))
      (pss_cons (ps_if (pt_not (pt_val (pe_callB call_isiT (by rfl) T.m_isinstance (by decide +kernel) (pa_cons (pv 2) (pa_cons (pe_tup (pa_cons (pe_bltn (v := .ty "list") (u := .type "list") (by rfl) T.m_list (by decide +kernel) rfl) (pa_cons (pe_bltn (v := .ty "tuple") (u := .type "tuple") (by rfl) T.m_tuple (by decide +kernel) rfl) pa_nil))) pa_nil)))))
        (pss_one (ps_ret pe_str))
        pss_nil)
      (pss_cons (ps_for PassesOwn.never rfl (pi_seq (pv 2)) (pg_name (i := 5) sc_law_due.nd rfl (.inl rfl))
        (pss_one (ps_if (pt_not (pt_val (pe_call (ok_law_couple T) (hr.mono (by decide)) (by rfl) T.g_law_couple T.F_law_couple.kp T.b_law_couple .nil pass0 (pa_cons (pv 0) (pa_cons (pv 1) (pa_cons (pv 5) pa_nil))))))
          (pss_one (ps_ret pe_str))
          pss_nil)))
      (pss_cons (ps_if (pt_cmpR op_ne (pe_callB call_lenSetT (by rfl) T.m_len (by decide +kernel) (pa_cons (pe_callTy (cr_setOfT rfl hr.units) (by rfl) T.m_set (by decide +kernel) (pa_cons (pe_lc rfl sc_law_due.nd (pi_seq (pv 2)) (blkOk_by (own := [("_law_thing", 5)]) (N := ["_law_points", "_law_shuts", "_law_pairs", "_law_number", "_law_word", "_law_thing"]) (sc := defScope s_law_due) (by decide +kernel)) (fun _ _ _ _ _ => (pg_name (i := 5) sc_law_due.nd rfl (.inl rfl))) (fun _ _ _ _ _ => pts_nil) (fun _ _ _ _ _ => (pe_tup (pa_cons (pe_ix (show IxR _ (rIx K) from ix_seq) (pv 5) pe_int (fun _ _ => rfl)) (pa_cons (pe_ix (show IxR _ (rIx K) from ix_seq) (pv 5) pe_int (fun _ _ => rfl)) pa_nil))))) pa_nil)) pa_nil)) (pe_callB call_len_seq (by rfl) T.m_len (by decide +kernel) (pa_cons (pv 2) pa_nil)) (nomark _))
        (pss_one (ps_ret pe_str))
        pss_nil)
      (pss_one (ps_ret pe_non)))))), ?_⟩
    refine ⟨_, rfl, (by show 2 ≤ sizeLine; decide), fun ta na => ⟨_, rfl, (by show 2 ≤ sizeLine; decide), fun tb nb => ⟨(by show 2 ≤ sizeLine; decide), fun t0 n0 => ?_⟩⟩⟩
    have sa : Same H (upd H ta (.tup [p, .str "points"])) := same_new na
    have sb := same_new (o := .tup [w', .str "walls"]) nb
    have s0 := same_new (o := .tup [.ref ta, .ref tb]) n0
    have hta : (upd (upd (upd H ta (.tup [p, .str "points"])) tb (.tup [w', .str "walls"])) t0 (.tup [.ref ta, .ref tb])) ta = some (.tup [p, .str "points"]) := s0 _ _ (sb _ _ upd_same)
    have htb : (upd (upd (upd H ta (.tup [p, .str "points"])) tb (.tup [w', .str "walls"])) t0 (.tup [.ref ta, .ref tb])) tb = some (.tup [w', .str "walls"]) := s0 _ _ upd_same
    have ht0 : (upd (upd (upd H ta (.tup [p, .str "points"])) tb (.tup [w', .str "walls"])) t0 (.tup [.ref ta, .ref tb])) t0 = some (.tup [.ref ta, .ref tb]) := upd_same
    have sm : Same H (upd (upd (upd H ta (.tup [p, .str "points"])) tb (.tup [w', .str "walls"])) t0 (.tup [.ref ta, .ref tb])) := (sa.trans sb).trans s0
    generalize upd (upd (upd H ta (.tup [p, .str "points"])) tb (.tup [w', .str "walls"])) t0 (.tup [.ref ta, .ref tb]) = H1 at hta htb ht0 sm
    refine ⟨t0, rfl, ⟨_, SqT.of ht0⟩, for_tup (xs := [.ref ta, .ref tb]) (fun i σ H' => ∃ y3 y4, σ = [some p, some w', some ps, y3, y4, none] ∧ Same H1 H' ∧ (1 ≤ i → wholeD dp 1 5 = true) ∧ (2 ≤ i → wholeD dw 1 5 = true))
      ⟨none, none, rfl, fun _ _ z => z, fun z => absurd z (by decide), fun z => absurd z (by decide)⟩ (fun i σ H' _ hP => by obtain ⟨_, _, _, s2, _⟩ := hP; exact SqT.of (s2 _ _ ht0)) (fun i x σ H' hx hP => ?_) (fun σ H' hP => ?_)⟩
    · obtain ⟨y3, y4, rfl, s2, g1, g2⟩ := hP
      obtain ⟨ti, xi, di, wd, rfl, hti, ki, bad, good⟩ : ∃ (ti : Addr) (xi : V) (di : PyData) (wd : Str), x = .ref ti ∧ H1 ti = some (.tup [xi, .str wd]) ∧ Dq H1 xi di ∧ (wholeD di 1 5 = false → wordD dp dw dps = some wd) ∧ (wholeD di 1 5 = true → (1 ≤ i + 1 → wholeD dp 1 5 = true) ∧ (2 ≤ i + 1 → wholeD dw 1 5 = true)) := by
        match i, hx, g1 with
        | 0, hx, g1 =>
          cases hx
          refine ⟨ta, p, dp, "points", rfl, hta, kp.same sm, fun z => ?_, fun z => ⟨fun _ => z, fun h => absurd h (by decide)⟩⟩
          unfold wordD
          rw [z]
          rfl
        | 1, hx, g1 =>
          cases hx
          refine ⟨tb, w', dw, "walls", rfl, htb, kw.same sm, fun z => ?_, fun z => ⟨fun _ => g1 (by decide), fun _ => z⟩⟩
          unfold wordD
          rw [g1 (by decide), z]
          rfl
      have fin : wholeD di 1 5 = false → Q (.str wd) H' := fun z => by
        have := q H' (sm.trans s2)
        rw [bad z] at this
        exact this
      have ki' := ki.same s2
      refine ⟨ti, _, rfl, SqT.of (s2 _ _ hti), rfl, _, _, rfl, _, _, rfl, rfl, ?_⟩
      refine ⟨xi, rfl, xi, di, rfl, ki', _, rfl, ?_⟩
      cases ki' with
      | int n =>
        refine iteF ⟨_, rfl, n, 1, rfl, rfl, _, rfl, ite2 (fun c1 => ?_) (fun c1 => ?_)⟩
        · have c1' := of_decide_eq_true c1
          refine ⟨_, rfl, fin ?_⟩
          rw [wholeD_int, decide_eq_false (by omega)]
          rfl
        · have c1' : 1 ≤ n := Int.not_lt.mp fun z => c1 (decide_eq_true z)
          refine ⟨_, rfl, n, 5, rfl, rfl, _, rfl, ite2 (fun c3 => ?_) (fun c3 => ?_)⟩
          · have c3' := of_decide_eq_true c3
            refine ⟨_, rfl, fin ?_⟩
            rw [wholeD_int, decide_eq_false (by omega : ¬ n ≤ 5), Bool.and_false]
          · have c3' : n ≤ 5 := Int.not_lt.mp fun z => c3 (decide_eq_true z)
            refine ⟨_, _, rfl, s2, good ?_⟩
            rw [wholeD_int, decide_eq_true c1', decide_eq_true c3']
            rfl
      | non => exact iteT ⟨_, rfl, fin rfl⟩
      | bl b => exact iteT ⟨_, rfl, fin rfl⟩
      | str z => exact iteT ⟨_, rfl, fin rfl⟩
      | lst z1 z2 => exact iteT ⟨_, rfl, fin rfl⟩
      | tup z1 z2 => exact iteT ⟨_, rfl, fin rfl⟩
    · obtain ⟨y3, y4, rfl, s2, g1, g2⟩ := hP
      have b1 := g1 (by show 1 ≤ 2; decide)
      have b2 := g2 (by show 2 ≤ 2; decide)
      obtain ⟨P', rfl, p1, p2⟩ := wholeD_of b1
      obtain ⟨W, rfl, w1, w2⟩ := wholeD_of b2
      cases kp
      cases kw
      have sm2 := sm.trans s2
      refine ⟨ps, rfl, (by show 2 ≤ sizeLine; decide), fun u nu => ?_⟩
      have s3 : Same H' (upd H' u (.tup [.ty "list", .ty "tuple"])) := same_new nu
      have kps3 := (kps.same sm2).same s3
      obtain ⟨t, ty, _, _, k3, _⟩ := dq_ty (K := K) kps3
      refine ⟨ps, u, _, t, _, (itemsD dps).isSome, rfl, upd_same, .cons (.ty _) (.cons (.ty _) .nil), ty, k3, _, rfl, ?_⟩
      have sm3 := sm2.trans s3
      generalize upd H' u (.tup [.ty "list", .ty "tuple"]) = H3 at sm3 kps3
      cases e3 : itemsD dps with
      | none =>
        refine iteT ?_
        have q3 := q _ sm3
        have wd : wordD (.int P') (.int W) dps = some "pair" := by
          unfold wordD
          rw [b1, b2, e3]
          rfl
        rw [wd] at q3
        exact q3
      | some ds =>
        have wd : wordD (.int P') (.int W) dps = if ds.all (isPair P' W) = true then (if (ds.map prOf).Nodup then (none : Option Str) else some ("double" : Str)) else some ("pair" : Str) := by
          unfold wordD
          rw [b1, b2, e3]
          rfl
        have ld := hlen ds e3
        obtain ⟨pp, xs, rfl, hxs, hq⟩ := sq_of (K := K) kps3 e3
        have lx := hxs.len
        refine iteF ?_
        refine for_seq (xs := xs) (a := pp) (fun i σ H4 => ∃ y5, σ = [some (.int P'), some (.int W), some (.ref pp), y3, y4, y5] ∧ Same H3 H4 ∧ ∀ d ∈ ds.take i, isPair P' W d = true) (fun Q h => ⟨_, rfl, h⟩) hq
          ⟨none, rfl, fun _ _ h => h, fun d m => by simp at m⟩ (fun i σ H' _ hP => by obtain ⟨_, _, sm, _⟩ := hP; exact sm) (fun i x σ H4 hx hP => ?_) (fun σ H4 hP => ?_)
        · obtain ⟨y5, rfl, s4, hall⟩ := hP
          obtain ⟨d, hd, kd⟩ := hxs.get hx
          refine ⟨_, rfl, _, rfl, _, rfl, P', W, x, d, rfl, kd.same s4, fun H5 s5 => ⟨_, rfl, ?_⟩⟩
          cases hb : isPair P' W d with
          | false =>
            refine iteT ?_
            have q5 := q H5 ((sm3.trans s4).trans s5)
            rw [wd, if_neg] at q5
            · exact q5
            · intro z
              have := List.all_eq_true.mp z d (List.mem_of_getElem? hd)
              rw [hb] at this
              cases this
          | true =>
            refine iteF ⟨_, rfl, s4.trans s5, fun d' m => ?_⟩
            rw [List.take_add_one, hd] at m
            rcases List.mem_append.mp m with m | m
            · exact hall d' m
            · have : d' = d := by simpa using m
              rw [this]
              exact hb
        · obtain ⟨y5, rfl, s4, hall⟩ := hP
          rw [lx, List.take_length] at hall
          have kall : ds.all (isPair P' W) = true := List.all_eq_true.mpr hall
          rw [if_pos kall] at wd
          dsimp only
          refine if_lc ?_
          refine lc_seqD (a := pp) (ds := ds) (j := 5) (fun _ => true) (fun d => prD (prOf d)) (fun Q2 z => ⟨_, rfl, z⟩) (hq.same s4) (DqAll.same s4 _ hxs) (by omega) (fun _ => rfl)
            (fun i x d H5 Q2 _ _ _ q2 => q2 _ (fun _ _ z => z)) (fun D i x d H5 Q2 nD hd _ s5 kd hDl q2 => ?_) (fun D H5 nD s5 kD => ?_)
          · obtain ⟨f1, f2⟩ := isPair_of (hall d (List.mem_of_getElem? hd))
            obtain ⟨px, rfl, ix⟩ := ix_two (K := K) kd f1
            obtain ⟨acc, hDa⟩ := hDl
            refine ⟨_, rfl, (ix _).1 ⟨_, rfl, (ix _).2 ⟨(by show 2 ≤ sizeLine; decide), fun u2 nu2 => q2 _ _ (same_new nu2) ?_⟩⟩⟩
            exact .tup (off_at (ne_of_none hDa nu2).symm upd_same) (.cons (.int _) (.cons (.int _) .nil))
          · have ef : (ds.filter fun _ => true).map (fun d => prD (prOf d)) = (ds.map prOf).map prD := by
              rw [List.filter_eq_self.mpr fun _ _ => rfl, List.map_map]
              rfl
            rw [ef] at kD
            cases kD with
            | lst e1 e2 =>
              rename_i ys
              obtain ⟨m1, m2⟩ := prV_map e2
              have ly : ys.length = ds.length := by rw [e2.len, List.length_map, List.length_map]
              have eks : (ys.map fun x => (adV x, [(prV H5 x).1, (prV H5 x).2])).map (fun p => V.ref p.1) = ys := by
                rw [List.map_map]
                refine (List.map_congr_left fun x m => ?_).trans (List.map_id _)
                obtain ⟨_, tx, rfl, _⟩ := m2 x m
                rfl
              have hks : ∀ p ∈ (ys.map fun x => (adV x, [(prV H5 x).1, (prV H5 x).2])), H5 p.1 = some (.tup (p.2.map V.int)) := fun p m => by
                obtain ⟨x, mx, rfl⟩ := List.mem_map.mp m
                obtain ⟨_, tx, rfl, h9⟩ := m2 x mx
                exact h9
              refine ⟨D, ys.map fun x => (adV x, [(prV H5 x).1, (prV H5 x).2]), rfl, by rw [eks]; exact SqL.of e1, fun p m => SqT.of (hks p m), by rw [List.length_map]; omega, fun sa L nsa hL1 hL2 => ?_⟩
              have s6 : Same H5 (upd H5 sa (SetTO P w sa L)) := same_new nsa
              refine ⟨sa, L, rfl, upd_same, fun p m => ⟨_, s6 _ _ (hks p (hL1 p m)), rfl⟩, fun hnd => ?_⟩
              have sm6 := (sm3.trans (s4.trans s5)).trans s6
              refine ⟨_, rfl, pp, xs, rfl, hq.same ((s4.trans s5).trans s6), rfl, _, rfl, ?_⟩
              have key : ((L.length : Int) = (xs.length : Int)) ↔ (ds.map prOf).Nodup := by
                have e3' : (ys.map fun x => (adV x, [(prV H5 x).1, (prV H5 x).2])).map (·.2) = (ds.map prOf).map fun q => [q.1, q.2] := by
                  rw [List.map_map, ← m1, List.map_map]
                  rfl
                have s1' : ∀ x ∈ L.map (·.2), x ∈ (ds.map prOf).map fun q => [q.1, q.2] := fun x m => by
                  obtain ⟨p, mp, rfl⟩ := List.mem_map.mp m
                  rw [← e3']
                  exact List.mem_map.mpr ⟨p, hL1 p mp, rfl⟩
                have s2' : ∀ x ∈ (ds.map prOf).map fun q => [q.1, q.2], x ∈ L.map (·.2) := fun x m => by
                  rw [← e3'] at m
                  obtain ⟨p, mp, rfl⟩ := List.mem_map.mp m
                  exact hL2 p mp
                have n1 := nd_iff hnd s1' s2'
                rw [List.length_map, List.length_map, List.length_map] at n1
                have n2 : ((ds.map prOf).map fun q => [q.1, q.2]).Nodup ↔ (ds.map prOf).Nodup := by
                  constructor
                  · intro z
                    rw [List.Nodup, List.pairwise_map] at z
                    exact z.imp fun {a b} h e => h (by rw [e])
                  · intro z
                    rw [List.Nodup, List.pairwise_map]
                    exact z.imp fun {a b} h e => h (by
                      have e1 := (List.cons.inj e)
                      have e2 := (List.cons.inj e1.2).1
                      exact Prod.ext e1.1 e2)
                rw [← n2, ← n1, lx]
                omega
              have q6 := q _ sm6
              rw [wd] at q6
              rw [int_dec]
              by_cases c : (ds.map prOf).Nodup
              · rw [decide_eq_true (key.mpr c)]
                rw [if_pos c] at q6
                exact iteF q6
              · rw [decide_eq_false fun z => c (key.mp z)]
                rw [if_neg c] at q6
                exact iteT q6
end
end K00
set_option Elab.async false
set_option linter.all false
set_option maxRecDepth 100000
set_option maxHeartbeats 4000000
set_option exponentiation.threshold 5000
namespace K00
open PySem PySem.Spec PyProof.Rows L2 TkS
theorem name_if {i : Nat} {x : V} {σ : L2.St} {H : Hp} {tt : TT} {t1 t2 : TS} {D : Ends} (h : tt (σ.set i (some x)) H fun b H' => if b = true then t1 D (σ.set i (some x)) H' else t2 D (σ.set i (some x)) H') : gName i x σ H (tIfS tt t1 t2 D) := h
def mineD (ls : List Int) (p l : Nat) : List PyData := ((List.range p).filter fun k => decide (ls.getD k 0 = (l : Int))).map fun (k : Nat) => PyData.int (k : Int)
def yoursD (ls : List Int) (p w l : Nat) : List PyData := ((List.range w).filter fun k => decide (ls.getD (p + k) 0 = (l : Int))).map fun (k : Nat) => PyData.int (k : Int)
theorem range_split (p w : Nat) : List.range (p + w) = List.range p ++ (List.range w).map fun k => p + k := List.range_add
theorem cs_split {ls : List Int} {p w l : Nat} (h : ls.length = p + w) : cs ls l = ((List.range p).filter fun k => decide (ls.getD k 0 = (l : Int))) ++ (((List.range w).filter fun k => decide (ls.getD (p + k) 0 = (l : Int))).map fun k => p + k) := by
  unfold cs
  rw [h, range_split, List.filter_append, List.filter_map]
  rfl
theorem pieceD_split {ls : List Int} {p w l : Nat} (h : ls.length = p + w) : pieceD (p : Int) (cs ls l) = .tuple [.tuple (mineD ls p l), .tuple (yoursD ls p w l)] := by
  unfold pieceD mineD yoursD
  rw [cs_split h, List.filter_append, List.filter_append]
  have e1 : ((List.range p).filter fun k => decide (ls.getD k 0 = (l : Int))).filter (fun (k : Nat) => decide ((k : Int) < (p : Int))) = (List.range p).filter fun k => decide (ls.getD k 0 = (l : Int)) :=
    List.filter_eq_self.mpr fun x m => by
      have := List.mem_range.mp (List.mem_filter.mp m).1
      simp
      omega
  have e2 : ((((List.range w).filter fun k => decide (ls.getD (p + k) 0 = (l : Int))).map fun k => p + k)).filter (fun (k : Nat) => decide ((k : Int) < (p : Int))) = [] :=
    List.filter_eq_nil_iff.mpr fun x m => by
      obtain ⟨y, _, rfl⟩ := List.mem_map.mp m
      simp
      omega
  have e3 : ((List.range p).filter fun k => decide (ls.getD k 0 = (l : Int))).filter (fun (k : Nat) => decide ((p : Int) ≤ (k : Int))) = [] :=
    List.filter_eq_nil_iff.mpr fun x m => by
      have := List.mem_range.mp (List.mem_filter.mp m).1
      simp
      omega
  have e4 : ((((List.range w).filter fun k => decide (ls.getD (p + k) 0 = (l : Int))).map fun k => p + k)).filter (fun (k : Nat) => decide ((p : Int) ≤ (k : Int))) = (((List.range w).filter fun k => decide (ls.getD (p + k) 0 = (l : Int))).map fun k => p + k) :=
    List.filter_eq_self.mpr fun x m => by
      obtain ⟨y, _, rfl⟩ := List.mem_map.mp m
      simp
      omega
  rw [e1, e2, e3, e4, List.append_nil, List.nil_append, List.map_map]
  congr 3
  refine congrArg PyData.tuple (List.map_congr_left fun x m => ?_)
  show PyData.int (((p + x : Nat) : Int) - (p : Int)) = PyData.int (x : Int)
  congr 1
  omega
theorem cs_empty {ls : List Int} {p w l : Nat} (h : ls.length = p + w) : (!(cs ls l).isEmpty) = (!(mineD ls p l).isEmpty || !(yoursD ls p w l).isEmpty) := by
  rw [cs_split h]
  unfold mineD yoursD
  cases ((List.range p).filter fun k => decide (ls.getD k 0 = (l : Int))) <;> cases ((List.range w).filter fun k => decide (ls.getD (p + k) 0 = (l : Int))) <;> rfl
theorem shaped_ints {α : Type} (f : α → Int) (l : List α) : SeqAt.shaped (.tuple (l.map fun x => PyData.int (f x))) = true := by
  have h : PyData.canLayAll0 (l.map fun x => PyData.int (f x)) = true ∧ PyData.depthAll (l.map fun x => PyData.int (f x)) = 0 := by
    induction l with
    | nil => exact ⟨rfl, rfl⟩
    | cons a l ih => simp [PyData.canLayAll0, PyData.depthAll, PyData.canLay0, PyData.depth, ih.1, ih.2]
  simp [SeqAt.shaped, PyData.canLay0, PyData.depth, h.1, h.2]
theorem noList_ints {α : Type} (f : α → Int) : ∀ l : List α, noLists (l.map fun x => PyData.int (f x)) = true
  | [] => rfl
  | _ :: l => noList_ints f l
theorem eqv_empty (ds : List PyData) : PyData.eqv (.tuple ds) (.tuple []) = ds.isEmpty := by
  cases ds <;> simp [PyData.eqv, PyData.eqvAll]
def sp_law_pieces_due (K : PySem.W.Frag) : Sp := fun vs H Q _ => ∃ (P W : Int) (l : Addr) (ps : List (Int × Int)), vs = [.int P, .int W, .ref l] ∧ 0 ≤ P ∧ P ≤ 5 ∧ 0 ≤ W ∧ W ≤ 5 ∧ Dq H (.ref l) (.list (ps.map prD)) ∧ Ins P W ps ∧
  ∀ H' v, Same H H' → Dq H' v (.tuple (piecesD P (marks P W ps))) → Q v H'
section
variable {P : Program} {w : World} {K : PySem.W.Frag} {mg : Str → Option Value} {base : Heap}
theorem ok_law_pieces_due (T : Txt K mg) : FnOk P w K mg base CX0 2 T.f_law_pieces_due T.d_law_pieces_due ["_law_points", "_law_shuts", "_law_pairs"] (sp_law_pieces_due K) := by
  refine T.F_law_pieces_due.ok sc_law_pieces_due (fun vs H Q E h => ?_) (fun cdv A outer s H vs Q E hr h => ?_)
  · obtain ⟨P', W, l, ps, rfl, _⟩ := h
    rfl
  · obtain ⟨P', W, l, ps, rfl, p0, p1, w0, w1, kl, hin, q⟩ := h
    refine ⟨_, (pss_cons (ps_set (i := 3) sc_law_pieces_due.nd rfl (.inr rfl) (pe_call (ok_law_marks T) (hr.mono (by decide)) (by rfl) T.g_law_marks T.F_law_marks.kp T.b_law_marks .nil pass0 (pa_cons (pv 0) (pa_cons (pv 1) (pa_cons (pv 2) pa_nil)))))
      (pss_cons (ps_set (i := 4) sc_law_pieces_due.nd rfl (.inl rfl) (pe_lst pa_nil))
      (pss_cons (ps_for PassesOwn.never rfl (pi_range1 (by rfl) T.m_range (pa_cons (pe_op op_add (pv 0) (pv 1)) pa_nil)) (pg_name (i := 5) sc_law_pieces_due.nd rfl (.inr rfl))
        (pss_cons (ps_set (i := 6) sc_law_pieces_due.nd rfl (.inl rfl) (pe_callTy call_tupD (by rfl) T.m_tuple (by decide +kernel) (pa_cons (pe_lc rfl sc_law_pieces_due.nd (pi_range1 (by rfl) T.m_range (pa_cons (pv 0) pa_nil)) (blkOk_by (own := [("_law_k", 8)]) (N := ["_law_points", "_law_shuts", "_law_pairs", "_law_marks_here", "_law_told", "_law_mark", "_law_mine", "_law_yours", "_law_k"]) (sc := defScope s_law_pieces_due) (by decide +kernel)) (fun _ _ _ _ _ => (pg_name (i := 8) sc_law_pieces_due.nd rfl (.inl rfl))) (fun _ _ _ _ _ => (pts_one (pt_cmpR op_eq (pe_ix (show IxR _ (rIxL K) from ix_list) (pv 3) (pv 8) (fun _ _ => rfl)) (pv 5) (nomark _)))) (fun _ _ _ _ _ => (pv 8))) pa_nil)))
        (pss_cons (ps_set (i := 7) sc_law_pieces_due.nd rfl (.inl rfl) (pe_callTy call_tupD (by rfl) T.m_tuple (by decide +kernel) (pa_cons (pe_lc rfl sc_law_pieces_due.nd (pi_range1 (by rfl) T.m_range (pa_cons (pv 1) pa_nil)) (blkOk_by (own := [("_law_k", 8)]) (N := ["_law_points", "_law_shuts", "_law_pairs", "_law_marks_here", "_law_told", "_law_mark", "_law_mine", "_law_yours", "_law_k"]) (sc := defScope s_law_pieces_due) (by decide +kernel)) (fun _ _ _ _ _ => (pg_name (i := 8) sc_law_pieces_due.nd rfl (.inl rfl))) (fun _ _ _ _ _ => (pts_one (pt_cmpR op_eq (pe_ix (show IxR _ (rIxL K) from ix_list) (pv 3) (pe_op op_add (pv 0) (pv 8)) (fun _ _ => rfl)) (pv 5) (nomark _)))) (fun _ _ _ _ _ => (pv 8))) pa_nil)))
        (pss_one (ps_if (PW.pt (pw_or (pt_cmpR (op_neD hr.units) (pv 6) (pe_tup pa_nil) (nomark _)) (pw_or1 (pt_cmpR (op_neD hr.units) (pv 7) (pe_tup pa_nil) (nomark _)))))
          (pss_one (ps_expr (pe_bm PySem.F.plainAttrs_list PySem.F.slot_list_append PySem.F.type_list_append mt_append (pv 4) (pa_cons (pe_tup (pa_cons (pv 6) (pa_cons (pv 7) pa_nil))) pa_nil))))
          pss_nil)))))
      (pss_one (ps_ret (pe_callTy call_tupD (by rfl) T.m_tuple (by decide +kernel) (pa_cons (pv 4) pa_nil))))))), ?_⟩
    cases kl with
    | lst hl hps =>
      rename_i xs
      refine ⟨_, rfl, _, rfl, _, rfl, P', W, l, xs, ps, rfl, p0, w0, by omega, SqL.of hl, hps, hin, fun H1 m s1 hm => ?_⟩
      have lm : (marks P' W ps).length = P'.toNat + W.toNat := by
        rw [marks_len]
        omega
      generalize marks P' W ps = ls at q hm lm
      refine ⟨Nat.zero_le _, fun tt nt => ?_⟩
      have hm1 := (same_new (o := .lst []) nt) _ _ hm
      have smt : Same H (upd H1 tt (.lst [])) := s1.trans (same_new nt)
      refine ⟨_, rfl, _, rfl, P', W, rfl, rfl, P' + W, rfl, by omega, by omega, for_range (n := (P' + W).toNat)
        (fun i σ H' => ∃ (y5 y6 y7 : Option V), σ = [some (.int P'), some (.int W), some (.ref l), some (.ref m), some (.ref tt), y5, y6, y7, none] ∧ H' m = some (.lst (ls.map V.int)) ∧ Acc H1 tt (((List.range i).filter fun l => !(cs ls l).isEmpty).map fun l => pieceD P' (cs ls l)) H')
        ⟨none, none, none, rfl, hm1, Acc.nil nt⟩ (fun i σ H' hi hP => ?_) (fun σ H' hP => ?_)⟩
      · obtain ⟨y5, y6, y7, rfl, hm2, acc⟩ := hP
        refine ⟨_, rfl, P', rfl, by omega, by omega, fun D nD => ?_⟩
        refine lc_rngD (fun k => decide (ls.getD k 0 = (i : Int))) (fun k => .int (k : Int)) nD (by omega) (fun _ => rfl) (fun k H2 Q2 hk s2 q2 => ?_) (fun k H2 Q2 hk _ s2 _ q2 => ?_) (fun H2 s2 kD => ?_)
        · refine ⟨_, rfl, _, rfl, m, ls.map V.int, (k : Int), .int (ls.getD k 0), rfl, by rw [Int.zero_add], SqL.of (s2 _ _ hm2), ix_at (z := (k : Int)) (by omega) (by omega), _, rfl, rfl, _, rfl, ?_⟩
          rw [int_dec, Int.zero_add]
          exact q2 _ (fun _ _ h => h)
        · refine ⟨_, rfl, q2 _ _ (fun _ _ h => h) ?_⟩
          rw [Int.zero_add]
          exact .int _
        · have hm3 := s2 _ _ hm2
          refine ⟨_, _, _, rfl, kD, rfl, fun t6 H3 s3 k6 => ?_⟩
          have hm4 := s3 _ _ hm3
          refine ⟨_, rfl, W, rfl, by omega, by omega, fun D2 nD2 => ?_⟩
          refine lc_rngD (fun k => decide (ls.getD (P'.toNat + k) 0 = (i : Int))) (fun k => .int (k : Int)) nD2 (by omega) (fun _ => rfl) (fun k H4 Q2 hk s4 q2 => ?_) (fun k H4 Q2 hk _ s4 _ q2 => ?_) (fun H4 s4 kD2 => ?_)
          · refine ⟨_, rfl, _, rfl, _, rfl, P', 0 + (k : Int), rfl, rfl, m, ls.map V.int, P' + (0 + (k : Int)), .int (ls.getD (P'.toNat + k) 0), rfl, rfl, SqL.of (s4 _ _ hm4), ?_, _, rfl, rfl, _, rfl, ?_⟩
            · have := ix_at (ls := ls) (z := P' + (0 + (k : Int))) (by omega) (by omega)
              rw [this]
              congr 3
              omega
            · rw [int_dec, Int.zero_add]
              exact q2 _ (fun _ _ h => h)
          · refine ⟨_, rfl, q2 _ _ (fun _ _ h => h) ?_⟩
            rw [Int.zero_add]
            exact .int _
          · have hm5 := s4 _ _ hm4
            refine ⟨_, _, _, rfl, kD2, rfl, fun t7 H5 s5 k7 => ?_⟩
            have k6' := (k6.same s4).same s5
            have acc5 := acc.mv (((s2.trans s3).trans s4).trans s5)
            have hm6 := s5 _ _ hm5
            rw [show (List.range P'.toNat).filter (fun k => decide (ls.getD k 0 = (i : Int))) = (List.range P'.toNat).filter (fun k => decide (ls.getD k 0 = (i : Int))) from rfl] at k6'
            have k6m : Dq H5 (.ref t6) (.tuple (mineD ls P'.toNat i)) := k6'
            have k7m : Dq H5 (.ref t7) (.tuple (yoursD ls P'.toNat W.toNat i)) := k7
            have test : ∀ (R : Bool → Hp → Prop), (∀ H6, Same H5 H6 → R (!(mineD ls P'.toNat i).isEmpty || !(yoursD ls P'.toNat W.toNat i).isEmpty) H6) →
                tOr (tTest (tOp (rNeD K) (tVar 6) (tTup tNil))) (tTest (tOp (rNeD K) (tVar 7) (tTup tNil))) [some (.int P'), some (.int W), some (.ref l), some (.ref m), some (.ref tt), some (.int (0 + (i : Int))), some (.ref t6), some (.ref t7), none] H5 R := fun R r => by
              refine ⟨_, rfl, (by show 0 ≤ sizeLine; decide), fun u nu => ⟨_, _, (k6m.same (same_new nu)).dp, .tup (SqT.of upd_same) .nil, shaped_ints _ _, by decide, _, rfl, ?_⟩⟩
              rw [eqv_empty]
              cases c6 : (mineD ls P'.toNat i).isEmpty with
              | false =>
                have := r _ (same_new (o := .tup []) nu)
                rw [c6] at this
                exact iteT this
              | true =>
                refine iteF ⟨_, rfl, (by show 0 ≤ sizeLine; decide), fun u2 nu2 => ⟨_, _, ((k7m.same (same_new nu)).same (same_new nu2)).dp, .tup (SqT.of upd_same) .nil, shaped_ints _ _, by decide, _, rfl, ?_⟩⟩
                rw [eqv_empty]
                have := r _ ((same_new (o := .tup []) nu).trans (same_new (o := .tup []) nu2))
                rw [c6] at this
                exact this
            dsimp only
            refine name_if ?_
            refine test _ fun H6 s6 => ?_
            have ce := cs_empty (ls := ls) (p := P'.toNat) (w := W.toNat) (l := i) lm
            have acc6 := acc5.mv s6
            have hm7 := s6 _ _ hm6
            have hr2 := filter_range (fun l => !(cs ls l).isEmpty) (fun l => pieceD P' (cs ls l)) i
            rw [← ce]
            cases c : (!(cs ls i).isEmpty) with
            | false =>
              rw [c, if_neg Bool.false_ne_true] at hr2
              refine iteF ⟨_, _, _, rfl, hm7, ?_⟩
              rw [hr2]
              exact acc6
            | true =>
              rw [c, if_pos rfl] at hr2
              obtain ⟨ys, hys, hya⟩ := acc6.2
              refine iteT ⟨_, rfl, .inl ⟨rfl, ys, SqL.of hys⟩, _, rfl, _, rfl, (by show 2 ≤ sizeLine; decide), fun t8 n8 => ?_⟩
              have ne8 : t8 ≠ tt := (ne_of_none hys n8).symm
              have k8 : Dq (TkS.Off tt (upd H6 t8 (.tup [.ref t6, .ref t7]))) (.ref t8) (pieceD P' (cs ls i)) := by
                have e0 : P' = ((P'.toNat : Nat) : Int) := by omega
                have e9 := pieceD_split (ls := ls) (p := P'.toNat) (w := W.toNat) (l := i) lm
                rw [← e0] at e9
                rw [e9]
                have hy8 := (same_new (o := .tup [.ref t6, .ref t7]) n8) _ _ hys
                exact .tup (off_at ne8 upd_same) (.cons (dq_noL hy8 _ (noList_ints _ _) ((k6m.same s6).same (same_new n8))) (.cons (dq_noL hy8 _ (noList_ints _ _) ((k7m.same s6).same (same_new n8))) .nil))
              obtain ⟨acc7, h71, h72, h73⟩ := acc6.put nt (by rw [List.length_map]; exact Nat.le_trans (List.length_filter_le _ _) (by rw [List.length_range]; omega)) (same_new n8) k8
              refine ⟨tt, acc7, _, rfl, rfl, h71, h72, _, _, _, rfl, ?_, ?_⟩
              · rw [upd_ne (fun z => by
                  have q8 := (same_new (o := .tup [.ref t6, .ref t7]) n8) _ _ hm7
                  have nmt : m ≠ tt := ne_of_none hm nt
                  exact nmt z)]
                exact (same_new n8) _ _ hm7
              · rw [hr2]
                exact h73
      · obtain ⟨y5, y6, y7, rfl, hm2, acc⟩ := hP
        refine ⟨_, rfl, _, _, _, rfl, acc.dq, rfl, fun v H2 s2 kv => q H2 _ ((s1.trans acc.1).trans s2) ?_⟩
        have e : (P' + W).toNat = ls.length := by omega
        rw [e] at kv
        exact kv
end
end K00
set_option Elab.async false
set_option linter.all false
set_option maxRecDepth 100000
set_option maxHeartbeats 4000000
set_option exponentiation.threshold 5000
namespace K00
open PySem PySem.Spec PyProof.Rows L2 TkS
def sp_law_refused : Sp := fun vs H Q _ => ∃ (p w ps : V) (dp dw dps : PyData), vs = [p, w, ps] ∧ Dq H p dp ∧ Dq H w dw ∧ Dq H ps dps ∧ (∀ ds, itemsD dps = some ds → ds.length ≤ 200) ∧ ∀ H', Same H H' → Q (wordV (wordD dp dw dps)) H'
def sp_law_full_word : Sp := fun vs H Q _ => ∃ (p w : V) (dp dw : PyData), vs = [p, w] ∧ Dq H p dp ∧ Dq H w dw ∧ ∀ H', Same H H' → Q (wordV (wordD dp dw (.tuple []))) H'
section
variable {P : Program} {w : World} {K : PySem.W.Frag} {mg : Str → Option Value} {base : Heap}
theorem ok_law_refused (T : Txt K mg) : FnOk P w K mg base CX0 7 T.f_law_refused T.d_law_refused ["_law_points", "_law_shuts", "_law_pairs"] sp_law_refused := by
  refine T.F_law_refused.ok sc_law_refused (fun vs H Q E h => ?_) (fun cdv A outer s H vs Q E hr h => ?_)
  · obtain ⟨p, w, ps, dp, dw, dps, rfl, _⟩ := h
    rfl
  · obtain ⟨p, w', ps, dp, dw, dps, rfl, kp, kw, kps, hlen, q⟩ := h
    refine ⟨_, (pss_cons (ps_set (i := 3) sc_law_refused.nd rfl (.inl rfl) pe_non)
      (pss_cons (ps_try_as (i := 4) (Wout := fun _ _ _ _ => False) rfl rfl sc_law_refused.nd rfl rfl ⟨rfl, by decide, Or.inl T.g_BadPicture⟩ takes0
        (fun W pn xe tk _ => pss_one (ps_expr (pe_makeSD T.M_Picture (ok_Picture_init T) (hr.mono (by decide)) (by rfl) T.g_Picture T.b_Picture_init .nil (fun σ => passAt tk σ) (pa_cons (pv 0) (pa_cons (pv 1) (pa_cons (pv 2) pa_nil))))))
        (fun a oe cls d pn hz hf => pss_one (ps_set (i := 3) sc_law_refused.nd rfl (.inl rfl) (pe_ifExp (PW.pt (pw_and (pt_val (pe_callB (call_isD T.e_BadPicture hz hf) (by rfl) T.m_isinstance (by decide +kernel) (pa_cons (pv 4) (pa_cons (pe_glob (v := .ref T.C_SheetError) rfl T.g_SheetError rfl) pa_nil)))) (pw_and1 (pt_not (pt_val (pe_callB (call_isD T.e_BadPicture hz hf) (by rfl) T.m_isinstance (by decide +kernel) (pa_cons (pv 4) (pa_cons (pe_glob (v := .ref T.C_NotOpen) rfl T.g_NotOpen rfl) pa_nil)))))))) (pe_xf T.x_BadPicture T.n_BadPicture hz hf (pv 4)) pe_str))))
      (pss_one (ps_ret (pv 3))))), ?_⟩
    refine ⟨_, rfl, _, rfl, _, rfl, mk_pic kp kw kps hlen (fun e he d H' s' hd => ⟨true, T.mm_bb, fun _ a0 _ => ?_, fun z => Bool.noConfusion z⟩) (fun P' W ds e1 e2 e3 e4 H' y s' ny pic => ?_)⟩
    · refine ⟨_, rfl, rfl, d, _, _, _, true, rfl, hd, rfl, fun u h => h, T.kit_bs, _, rfl, iteT ⟨_, rfl, rfl, d, _, _, _, false, rfl, hd, rfl, fun u h => h, T.kit_bn, _, rfl, iteT ⟨_, rfl, rfl, rfl, d, _, _, rfl, hd, rfl, ⟨_, rfl, ?_⟩⟩⟩⟩
      have := q H' s'
      rw [he] at this
      exact this
    · refine ⟨_, rfl, ?_⟩
      have := q H' s'
      rw [e4] at this
      exact this
theorem ok_law_full_word (T : Txt K mg) : FnOk P w K mg base CX0 8 T.f_law_full_word T.d_law_full_word ["_law_points", "_law_shuts"] sp_law_full_word := by
  refine T.F_law_full_word.ok sc_law_full_word (fun vs H Q E h => ?_) (fun cdv A outer s H vs Q E hr h => ?_)
  · obtain ⟨p, w, dp, dw, rfl, _⟩ := h
    rfl
  · obtain ⟨p, w', dp, dw, rfl, kp, kw, q⟩ := h
    refine ⟨_, (pss_cons (ps_set (i := 2) sc_law_full_word.nd rfl (.inl rfl) pe_non)
      (pss_cons (ps_try_as (i := 3) (Wout := fun _ _ _ _ => False) rfl rfl sc_law_full_word.nd rfl rfl ⟨rfl, by decide, Or.inl T.g_BadPicture⟩ takes0
        (fun W pn xe tk _ => pss_one (ps_expr (pe_callS (ok_full_picture T) (hr.mono (by decide)) (by rfl) T.g_full_picture T.F_full_picture.kp T.b_full_picture (fun σ => passAt tk σ) (pa_cons (pv 0) (pa_cons (pv 1) pa_nil)))))
        (fun a oe cls d pn hz hf => pss_one (ps_set (i := 2) sc_law_full_word.nd rfl (.inl rfl) (pe_xf T.x_BadPicture T.n_BadPicture hz hf (pv 3)))))
      (pss_one (ps_ret (pv 2))))), ?_⟩
    refine ⟨_, rfl, _, rfl, p, w', dp, dw, rfl, kp, kw, fun e he d H' s' hd => ⟨true, T.mm_bb, fun _ a0 _ => ?_, fun z => Bool.noConfusion z⟩, fun P' W e1 e2 e4 y H' s' pic => ?_⟩
    · refine ⟨_, rfl, rfl, rfl, d, _, _, rfl, hd, rfl, ⟨_, rfl, ?_⟩⟩
      have := q H' s'
      rw [he] at this
      exact this
    · refine ⟨_, rfl, ?_⟩
      have := q H' s'
      rw [e4] at this
      exact this
def sp_law_place (C : Addr) : Sp := fun vs H Q _ => ∃ (a : Addr) (x : V) (d : PyData) (P W : Int) (ps : List (Int × Int)), vs = [.ref a, x] ∧ Pic C H a P W ps ∧ Dq H x d ∧
  (isOpen P W ps d = false → ∀ v H', Same H H' → Dq H' v (.tuple [.str "closed", d]) → Q v H') ∧
  (isOpen P W ps d = true → ∀ (j : Nat) H', ps[j]? = some (prOf d) → Same H H' → Q (.int (j : Int)) H')
theorem ok_law_place (T : Txt K mg) : FnOk P w K mg base CX0 8 T.f_law_place T.d_law_place ["_law_picture", "_law_pair"] (sp_law_place T.C_Picture) := by
  refine T.F_law_place.ok sc_law_place (fun vs H Q E h => ?_) (fun cdv A outer s H vs Q E hr h => ?_)
  · obtain ⟨a, x, d, P', W, ps, rfl, _⟩ := h
    rfl
  · obtain ⟨a, x, d, P', W, ps, rfl, pic, hk, hc, ho⟩ := h
    obtain ⟨dx, t, v, xs, ha, ht, hx, hv⟩ := pic.at_
    refine ⟨_, (pss_cons (ps_set (i := 2) sc_law_place.nd rfl (.inl rfl) pe_non)
      (pss_cons (ps_try_as (i := 3) (Wout := fun _ _ _ _ => False) rfl rfl sc_law_place.nd rfl rfl ⟨rfl, by decide, Or.inl T.g_NotOpen⟩ takes0
        (fun W pn xe tk _ => pss_one (ps_set (i := 2) sc_law_place.nd rfl (.inl rfl) (pe_methSD (pv 0) T.cl_Picture T.M_place_of (ok_Picture_place_of T) (hr.mono (by decide)) T.b_Picture_place_of .nil (fun σ => passAt tk σ) (pa_cons (pv 1) pa_nil))))
        (fun a oe cls d pn hz hf => pss_one (ps_set (i := 2) sc_law_place.nd rfl (.inl rfl) (pe_ifExp (PW.pt (pw_and (pt_val (pe_callB (call_isD T.e_NotOpen hz hf) (by rfl) T.m_isinstance (by decide +kernel) (pa_cons (pv 3) (pa_cons (pe_glob (v := .ref T.C_SheetError) rfl T.g_SheetError rfl) pa_nil)))) (pw_and1 (pt_not (pt_val (pe_callB (call_isD T.e_NotOpen hz hf) (by rfl) T.m_isinstance (by decide +kernel) (pa_cons (pv 3) (pa_cons (pe_glob (v := .ref T.C_BadPicture) rfl T.g_BadPicture rfl) pa_nil)))))))) (pe_tup (pa_cons pe_str (pa_cons (pe_xf T.x_NotOpen T.n_NotOpen hz hf (pv 3)) pa_nil))) pe_str))))
      (pss_one (ps_ret (pv 2))))), ?_⟩
    refine ⟨_, rfl, a, dx, _, rfl, ha, rfl, _, rfl, a, x, d, P', W, ps, rfl, pic, hk, fun hb e H' s' he => ⟨true, T.mm_nn, fun _ a0 _ => ?_, fun z => Bool.noConfusion z⟩, fun hb j H' hj s' => ?_⟩
    · refine ⟨_, rfl, rfl, e, _, _, _, true, rfl, he, rfl, fun u h => h, T.kit_ns, _, rfl, iteT ⟨_, rfl, rfl, e, _, _, _, false, rfl, he, rfl, fun u h => h, T.kit_nb, _, rfl, iteT ⟨_, rfl, rfl, rfl, e, _, _, rfl, he, rfl, (by show 2 ≤ sizeLine; decide), fun u nu => ⟨_, rfl, ?_⟩⟩⟩⟩
      refine hc hb _ _ (s'.trans (same_new nu)) (.tup upd_same (.cons (.str _) (.cons ((hk.same s').same (same_new nu)) .nil)))
    · exact ⟨_, rfl, ho hb j H' hj s'⟩
end
end K00
set_option Elab.async false
set_option linter.all false
set_option maxRecDepth 100000
set_option maxHeartbeats 4000000
set_option exponentiation.threshold 5000
namespace K00
open PySem PySem.Spec PyProof.Rows L2 TkS
def ChD (H : Hp) (v : V) (P W : Int) (qs : List (Int × Int)) : Prop := ∃ (a t : Addr) (xs : List V), v = .ref a ∧ H a = some (.tup [.int P, .int W, .ref t]) ∧ Frz H t xs ∧ DqAll H xs (qs.map prD)
theorem ChD.dp {K : PySem.W.Frag} {H : Hp} {v : V} {P W : Int} {qs : List (Int × Int)} (h : ChD H v P W qs) : Dp K H v (.tuple [.int P, .int W, .tuple (qs.map prD)]) := by
  obtain ⟨a, t, xs, rfl, h1, h2, h3⟩ := h
  exact .tup (SqT.of h1) (.cons (.int _) (.cons (.int _) (.cons (h2.dp h3) .nil)))
theorem ChD.same {H H' : Hp} {v : V} {P W : Int} {qs : List (Int × Int)} (h : ChD H v P W qs) (s : Same H H') : ChD H' v P W qs := by
  obtain ⟨a, t, xs, rfl, h1, h2, h3⟩ := h
  exact ⟨a, t, xs, rfl, s _ _ h1, h2.same s, DqAll.same s _ h3⟩
def sp_law_changed (C : Addr) : Sp := fun vs H Q _ => ∃ (a : Addr) (x : V) (d : PyData) (P W way : Int) (ps : List (Int × Int)), vs = [.ref a, x, .int way] ∧ Pic C H a P W ps ∧ Dq H x d ∧ ps.length ≤ 100 ∧
  (way = 1 → ∀ e, wordD (.int P) (.int W) (.tuple (ps.map prD ++ [d])) = some e → ∀ H', Same H H' → Q (.str e) H') ∧
  (way = 1 → wordD (.int P) (.int W) (.tuple (ps.map prD ++ [d])) = none → ∀ v H', Same H H' → ChD H' v P W (srt (ps ++ [prOf d])) → Q v H') ∧
  (way ≠ 1 → isOpen P W ps d = false → ∀ v H', Same H H' → Dq H' v (.tuple [.str "closed", d]) → Q v H') ∧
  (way ≠ 1 → isOpen P W ps d = true → ∀ v H', Same H H' → ChD H' v P W (ps.filter fun q => decide (q ≠ prOf d)) → Q v H')
section
variable {P : Program} {w : World} {K : PySem.W.Frag} {mg : Str → Option Value} {base : Heap}
theorem ok_law_changed (T : Txt K mg) : FnOk P w K mg base CX0 10 T.f_law_changed T.d_law_changed ["_law_picture", "_law_pair", "_law_way"] (sp_law_changed T.C_Picture) := by
  refine T.F_law_changed.ok sc_law_changed (fun vs H Q E h => ?_) (fun cdv A outer s H vs Q E hr h => ?_)
  · obtain ⟨a, x, d, P', W, way, ps, rfl, _⟩ := h
    rfl
  · obtain ⟨a, x, d, P', W, way, ps, rfl, pic, hk, hl, h1, h2, h3, h4⟩ := h
    obtain ⟨dx, t, v, xs, ha, ht, hx, hv⟩ := pic.at_
    refine' ⟨_, (pss_cons (ps_set (i := 3) sc_law_changed.nd rfl (.inl rfl) pe_non) (pss_cons ?tr (pss_one (ps_ret (pv 3))))), ?_⟩
    case tr =>
      exact ps_try_asM (i := 5) (Wout := fun _ _ _ _ => False) rfl rfl sc_law_changed.nd rfl rfl takes0
        (fun W pn xe tk _ => pss_cons (ps_set (i := 4) sc_law_changed.nd rfl (.inl rfl) (pe_ifExp (pt_cmpR op_eq (pv 2) pe_int (nomark _)) (pe_methSD (pv 0) T.cl_Picture T.M_with_pair (ok_Picture_with_pair T) (hr.mono (by decide)) T.b_Picture_with_pair .nil (fun σ => passAt tk σ) (pa_cons (pv 1) pa_nil)) (pe_methSD (pv 0) T.cl_Picture T.M_without_pair (ok_Picture_without_pair T) (hr.mono (by decide)) T.b_Picture_without_pair .nil (fun σ => passAt tk σ) (pa_cons (pv 1) pa_nil))))
          (pss_one (ps_set (i := 3) sc_law_changed.nd rfl (.inl rfl) (pe_tup (pa_cons (show PE _ _ (tFld K (tVar 4) "points") from pe_fld (pv 4) rfl) (pa_cons (show PE _ _ (tFld K (tVar 4) "walls") from pe_fld (pv 4) rfl) (pa_cons (show PE _ _ (tFld K (tVar 4) "pairs") from pe_fld (pv 4) rfl) pa_nil)))))))
        (.cons ⟨rfl, by decide, Or.inl T.g_BadPicture⟩ (fun a oe cls d pn hz hf => pss_one (ps_set (i := 3) sc_law_changed.nd rfl (.inl rfl) (pe_xf T.x_BadPicture T.n_BadPicture hz hf (pv 5))))
          (.cons ⟨rfl, by decide, Or.inl T.g_NotOpen⟩ (fun a oe cls d pn hz hf => pss_one (ps_set (i := 3) sc_law_changed.nd rfl (.inl rfl) (pe_tup (pa_cons pe_str (pa_cons (pe_xf T.x_NotOpen T.n_NotOpen hz hf (pv 5)) pa_nil))))) .nil))
    have fin : ∀ (y : Addr) (H' : Hp) (qs : List (Int × Int)) (R : V → Hp → Prop), Pic T.C_Picture H' y P' W qs → (∀ v H2, Same H' H2 → ChD H2 v P' W qs → R v H2) →
        tTup (tCons (tFld K (tVar 4) "points") (tCons (tFld K (tVar 4) "walls") (tCons (tFld K (tVar 4) "pairs") tNil))) [some (.ref a), some x, some (.int way), some .non, some (.ref y), none] H' R := fun y H' qs R pic r => by
      obtain ⟨ex, et, ev, exs, ea, ef, ed, _⟩ := pic.at_
      refine ⟨_, rfl, y, T.C_Picture, ex, _, _, rfl, ea, T.cl_Picture, T.na_points, rfl, _, rfl, y, T.C_Picture, ex, _, _, rfl, ea, T.cl_Picture, T.na_walls, rfl, _, rfl, y, T.C_Picture, ex, _, _, rfl, ea, T.cl_Picture, T.na_pairs, rfl, (by show 3 ≤ sizeLine; decide), fun u nu => r _ _ (same_new nu) ?_⟩
      exact ⟨u, et, exs, rfl, upd_same, ef.same (same_new nu), DqAll.same (same_new nu) _ ed⟩
    refine ⟨_, rfl, rfl, _, rfl, ?_⟩
    by_cases c : way = 1
    · subst c
      rw [int_dec, decide_eq_true rfl]
      refine iteT ⟨_, rfl, a, dx, _, rfl, ha, rfl, _, rfl, a, x, d, P', W, ps, rfl, pic, hk, hl, fun e he f H' s' hf => ?_, fun he y H' s' pic' => ?_⟩
      · refine ⟨true, T.mm_bb, fun _ a0 _ => ?_, fun z => Bool.noConfusion z⟩
        exact ⟨_, rfl, rfl, rfl, f, _, _, rfl, hf, rfl, ⟨_, rfl, h1 rfl e he H' s'⟩⟩
      · dsimp only
        refine asg_last ?_
        exact fin y H' _ _ pic' fun v H2 s2 cd => ⟨_, rfl, h2 rfl he v H2 (s'.trans s2) cd⟩
    · rw [int_dec, decide_eq_false c]
      refine iteF ⟨_, rfl, a, dx, _, rfl, ha, rfl, _, rfl, a, x, d, P', W, ps, rfl, pic, hk, hl, fun hb e H' s' he => ?_, fun hb y H' s' pic' => ?_⟩
      · refine ⟨false, T.mm_nb, fun z => Bool.noConfusion z, fun _ => ⟨true, T.mm_nn, fun _ a0 _ => ?_, fun z => Bool.noConfusion z⟩⟩
        refine ⟨_, rfl, rfl, rfl, e, _, _, rfl, he, rfl, (by show 2 ≤ sizeLine; decide), fun u nu => ⟨_, rfl, ?_⟩⟩
        exact h3 c hb _ _ (s'.trans (same_new nu)) (.tup upd_same (.cons (.str _) (.cons ((hk.same s').same (same_new nu)) .nil)))
      · dsimp only
        refine asg_last ?_
        exact fin y H' _ _ pic' fun v H2 s2 cd => ⟨_, rfl, h4 c hb v H2 (s'.trans s2) cd⟩
end
end K00
set_option Elab.async false
set_option linter.all false
set_option maxRecDepth 100000
set_option maxHeartbeats 4000000
set_option exponentiation.threshold 5000
namespace K00
open PySem PySem.Spec PyProof.Rows L2 TkS
def odds (P W : Int) : List PyData := [.tuple [.int P, .int 0], .tuple [.int 0, .int W], .tuple [.int (-1), .int 0], .list [.int 0, .int (-1)], .tuple [.bool true, .int 0], .tuple [.int 0, .bool false], .none, .int 5, .tuple [.int 0], .tuple [.int 0, .int 0, .int 0], .str "00", .list [], .tuple [.int 0, .none]]
theorem step_tup {H H0 : Hp} {u : Addr} {xs vs : List V} {ds es : List PyData} (A : DqAll H0 vs es) (s : Same H H0) (nu : H0 u = none) (k : DqAll H0 xs ds) :
    Same H (upd H0 u (.tup xs)) ∧ DqAll (upd H0 u (.tup xs)) (vs ++ [.ref u]) (es ++ [.tuple ds]) :=
  ⟨s.trans (same_new nu), (DqAll.same (same_new nu) _ A).snoc (.tup upd_same (DqAll.same (same_new nu) _ k))⟩
theorem step_lst {H H0 : Hp} {u : Addr} {xs vs : List V} {ds es : List PyData} (A : DqAll H0 vs es) (s : Same H H0) (nu : H0 u = none) (k : DqAll H0 xs ds) :
    Same H (upd H0 u (.lst xs)) ∧ DqAll (upd H0 u (.lst xs)) (vs ++ [.ref u]) (es ++ [.list ds]) :=
  ⟨s.trans (same_new nu), (DqAll.same (same_new nu) _ A).snoc (.lst upd_same (DqAll.same (same_new nu) _ k))⟩
/-- what is new in G beside H -/
def Rem (H G : Hp) : Hp := fun b => if (H b).isSome = true then none else G b
theorem rem_same {H G : Hp} : Same (Rem H G) G := fun b o e => by
  unfold Rem at e
  by_cases c : (H b).isSome = true
  · rw [if_pos c] at e
    cases e
  · rw [if_neg c] at e
    exact e
theorem rem_new {H G : Hp} {u : Addr} {o : HO} (s : Same H G) (nu : G u = none) : Rem H (upd G u o) u = some o := by
  unfold Rem
  rw [if_neg (by rw [s.free nu]; simp), upd_same]
theorem rem_put {H G : Hp} {u : Addr} {o : HO} (nu : G u = none) : Same (Rem H G) (Rem H (upd G u o)) := fun b x e => by
  have e2 := rem_same b x e
  unfold Rem at e ⊢
  by_cases c : (H b).isSome = true
  · rw [if_pos c] at e
    cases e
  · rw [if_neg c, upd_ne (ne_of_none e2 nu)]
    exact e2
theorem rem_keep {H G G' : Hp} {h : Addr} {o : HO} (hh : H h = some o) (k : ∀ b o, b ≠ h → G b = some o → G' b = some o) : Same (Rem H G) (Rem H G') := fun b x e => by
  have e2 := rem_same b x e
  unfold Rem at e ⊢
  by_cases c : (H b).isSome = true
  · rw [if_pos c] at e
    cases e
  · rw [if_neg c]
    exact k b x (fun z => c (by rw [z, hh]; rfl)) e2
theorem stepR_tup {H H0 : Hp} {u : Addr} {xs vs : List V} {ds es : List PyData} (A : DqAll (Rem H H0) vs es) (s : Same H H0) (nu : H0 u = none) (k : DqAll (Rem H H0) xs ds) :
    Same H (upd H0 u (.tup xs)) ∧ DqAll (Rem H (upd H0 u (.tup xs))) (vs ++ [.ref u]) (es ++ [.tuple ds]) :=
  ⟨s.trans (same_new nu), (DqAll.same (rem_put nu) _ A).snoc (.tup (rem_new s nu) (DqAll.same (rem_put nu) _ k))⟩
theorem stepR_lst {H H0 : Hp} {u : Addr} {xs vs : List V} {ds es : List PyData} (A : DqAll (Rem H H0) vs es) (s : Same H H0) (nu : H0 u = none) (k : DqAll (Rem H H0) xs ds) :
    Same H (upd H0 u (.lst xs)) ∧ DqAll (Rem H (upd H0 u (.lst xs))) (vs ++ [.ref u]) (es ++ [.list ds]) :=
  ⟨s.trans (same_new nu), (DqAll.same (rem_put nu) _ A).snoc (.lst (rem_new s nu) (DqAll.same (rem_put nu) _ k))⟩
theorem dq_keep {H H' : Hp} {h : Addr} {v : V} {d : PyData} (hd : Hand H h) (k : Keep h H H') (n : noHand d = true) (q : Dq H v d) : Dq H' v d := by
  obtain ⟨c, cells, p, r, t, h1, _⟩ := hd.ex
  exact dq_hand h1 k.kp d n q
theorem dqs_keep {H H' : Hp} {h : Addr} {v : List V} {d : List PyData} (hd : Hand H h) (k : Keep h H H') (n : noHands d = true) (q : DqAll H v d) : DqAll H' v d := by
  obtain ⟨c, cells, p, r, t, h1, _⟩ := hd.ex
  exact dqs_hand h1 k.kp d n q
theorem at_nat {xs : List V} {ds : List PyData} {H : Hp} {r : Int} (k : DqAll H xs ds) (r0 : 0 ≤ r) (r1 : r < (ds.length : Int)) : ∃ v d, atI xs r = some v ∧ d ∈ ds ∧ ds[r.toNat]? = some d ∧ Dq H v d := by
  have hl := k.len
  have hr : r.toNat < xs.length := by omega
  obtain ⟨d, h1, h2⟩ := k.get (List.getElem?_eq_getElem hr)
  exact ⟨_, d, at_of (j := r.toNat) (by omega) (List.getElem?_eq_getElem hr), List.mem_of_getElem? h1, h1, h2⟩
def sp_law_odd : Sp := fun vs H Q _ => ∃ (h : Addr) (P W : Int), vs = [.ref h, .int P, .int W] ∧ Hand H h ∧ ∀ H' v d, Keep h H H' → Hand H' h → d ∈ odds P W → Dq H' v d → Dq (Rem H H') v d → Q v H'
section
variable {P : Program} {w : World} {K : PySem.W.Frag} {mg : Str → Option Value} {base : Heap}
theorem ok_law_odd (T : Txt K mg) : FnOk P w K mg base CX0 3 T.f_law_odd T.d_law_odd ["_law_hand_here", "_law_points", "_law_shuts"] sp_law_odd := by
  refine T.F_law_odd.ok sc_law_odd (fun vs H Q E h => ?_) (fun cdv A outer s H vs Q E hr h => ?_)
  · obtain ⟨h, P', W, rfl, _⟩ := h
    rfl
  · obtain ⟨h, P', W, rfl, hd, q⟩ := h
    refine ⟨_, (pss_one (ps_ret (pe_ix ix_tup (pe_tup (pa_cons (pe_tup (pa_cons (pv 1) (pa_cons pe_int pa_nil))) (pa_cons (pe_tup (pa_cons pe_int (pa_cons (pv 2) pa_nil))) (pa_cons (pe_tup (pa_cons (pe_un un_neg pe_int) (pa_cons pe_int pa_nil))) (pa_cons (pe_lst (pa_cons pe_int (pa_cons (pe_un un_neg pe_int) pa_nil))) (pa_cons (pe_tup (pa_cons pe_bl (pa_cons pe_int pa_nil))) (pa_cons (pe_tup (pa_cons pe_int (pa_cons pe_bl pa_nil))) (pa_cons pe_non (pa_cons pe_int (pa_cons (pe_tup (pa_cons pe_int pa_nil)) (pa_cons (pe_tup (pa_cons pe_int (pa_cons pe_int (pa_cons pe_int pa_nil)))) (pa_cons pe_str (pa_cons (pe_lst pa_nil) (pa_cons (pe_tup (pa_cons pe_int (pa_cons pe_non pa_nil))) pa_nil)))))))))))))) (pe_call (ok_law_take T) (hr.mono (by decide)) (by rfl) T.g_law_take T.F_law_take.kp T.b_law_take .nil pass0 (pa_cons (pv 0) (pa_cons pe_int pa_nil))) (fun _ _ => rfl)))), ?_⟩
    refine ⟨_, rfl, (by show 2 ≤ sizeLine; decide), fun u1 n1 => ?_⟩
    obtain ⟨s1, A1⟩ := stepR_tup (DqAll.nil) (fun _ _ z => z) n1 (.cons (.int P') (.cons (.int 0) .nil))
    generalize upd H u1 (.tup [.int P', .int 0]) = H1 at s1 A1 ⊢
    refine ⟨_, rfl, (by show 2 ≤ sizeLine; decide), fun u2 n2 => ?_⟩
    obtain ⟨s2, A2⟩ := stepR_tup A1 s1 n2 (.cons (.int 0) (.cons (.int W) .nil))
    generalize upd H1 u2 (.tup [.int 0, .int W]) = H2 at s2 A2 ⊢
    refine ⟨1, rfl, (by show 2 ≤ sizeLine; decide), fun u3 n3 => ?_⟩
    dsimp only
    obtain ⟨s3, A3⟩ := stepR_tup (xs := [.int (-1), .int 0]) A2 s2 n3 (.cons (.int (-1)) (.cons (.int 0) .nil))
    generalize upd H2 u3 (.tup [.int (-1), .int 0]) = H3 at s3 A3 ⊢
    refine ⟨1, rfl, (by show 2 ≤ sizeLine; decide), fun u4 n4 => ?_⟩
    dsimp only
    obtain ⟨s4, A4⟩ := stepR_lst (xs := [.int 0, .int (-1)]) A3 s3 n4 (.cons (.int 0) (.cons (.int (-1)) .nil))
    generalize upd H3 u4 (.lst [.int 0, .int (-1)]) = H4 at s4 A4 ⊢
    refine ⟨(by show 2 ≤ sizeLine; decide), fun u5 n5 => ?_⟩
    dsimp only
    obtain ⟨s5, A5⟩ := stepR_tup (xs := [.bl true, .int 0]) A4 s4 n5 (.cons (.bl true) (.cons (.int 0) .nil))
    generalize upd H4 u5 (.tup [.bl true, .int 0]) = H5 at s5 A5 ⊢
    refine ⟨(by show 2 ≤ sizeLine; decide), fun u6 n6 => ?_⟩
    dsimp only
    obtain ⟨s6, A6⟩ := stepR_tup (xs := [.int 0, .bl false]) A5 s5 n6 (.cons (.int 0) (.cons (.bl false) .nil))
    generalize upd H5 u6 (.tup [.int 0, .bl false]) = H6 at s6 A6 ⊢
    have A7 := (A6.snoc .non).snoc (.int 5)
    refine ⟨(by show 1 ≤ sizeLine; decide), fun u8 n8 => ?_⟩
    obtain ⟨s8, A8⟩ := stepR_tup (xs := [.int 0]) A7 s6 n8 (.cons (.int 0) .nil)
    generalize upd H6 u8 (.tup [.int 0]) = H8 at s8 A8 ⊢
    refine ⟨(by show 3 ≤ sizeLine; decide), fun u9 n9 => ?_⟩
    dsimp only
    obtain ⟨s9, A9⟩ := stepR_tup (xs := [.int 0, .int 0, .int 0]) A8 s8 n9 (.cons (.int 0) (.cons (.int 0) (.cons (.int 0) .nil)))
    generalize upd H8 u9 (.tup [.int 0, .int 0, .int 0]) = H9 at s9 A9 ⊢
    have A10 := A9.snoc (.str "00")
    refine ⟨(by show 0 ≤ sizeLine; decide), fun u11 n11 => ?_⟩
    obtain ⟨s11, A11⟩ := stepR_lst (xs := []) A10 s9 n11 .nil
    generalize upd H9 u11 (.lst []) = H11 at s11 A11 ⊢
    refine ⟨(by show 2 ≤ sizeLine; decide), fun u12 n12 => ?_⟩
    dsimp only
    obtain ⟨s12, A12⟩ := stepR_tup (xs := [.int 0, .non]) A11 s11 n12 (.cons (.int 0) (.cons .non .nil))
    generalize upd H11 u12 (.tup [.int 0, .non]) = H12 at s12 A12 ⊢
    have A13 : DqAll (Rem H H12) _ (odds P' W) := A12
    refine ⟨(by show 13 ≤ sizeLine; decide), fun T0 nT => ?_⟩
    have sT : Same H (upd H12 T0 (.tup [.ref u1, .ref u2, .ref u3, .ref u4, .ref u5, .ref u6, .non, .int 5, .ref u8, .ref u9, .str "00", .ref u11, .ref u12])) := s12.trans (same_new nT)
    have kT : Dq (Rem H (upd H12 T0 (.tup [.ref u1, .ref u2, .ref u3, .ref u4, .ref u5, .ref u6, .non, .int 5, .ref u8, .ref u9, .str "00", .ref u11, .ref u12]))) (.ref T0) (.tuple (odds P' W)) := .tup (rem_new s12 nT) (DqAll.same (rem_put nT) _ A13)
    generalize upd H12 T0 (.tup [.ref u1, .ref u2, .ref u3, .ref u4, .ref u5, .ref u6, .non, .int 5, .ref u8, .ref u9, .str "00", .ref u11, .ref u12]) = HT at sT kT ⊢
    have hdT := hd.same sT
    refine ⟨_, rfl, h, 13, rfl, hdT, by decide, by decide, fun H' r kp hd' r0 r1 => ?_⟩
    obtain ⟨c0, cells0, p0', r0', t0', hh0, _⟩ := id hd.ex
    have kT' := kT.same (rem_keep hh0 kp.kp)
    cases kT' with
    | tup e1 e2 =>
      rename_i xs
      obtain ⟨v, d, e3, e4, _, e5⟩ := at_nat e2 r0 r1
      refine ⟨T0, xs, r, v, rfl, rfl, SqT.of (rem_same _ _ e1), e3, ?_⟩
      exact q H' v d ((Keep.of sT).trans kp) hd' e4 (e5.same rem_same) e5
end
end K00
set_option Elab.async false
set_option linter.all false
set_option maxRecDepth 100000
set_option maxHeartbeats 4000000
set_option exponentiation.threshold 5000
namespace K00
open PySem PySem.Spec PyProof.Rows L2 TkS
/-! lists beside the hand -/
def LD (H : Hp) (h l : Addr) (ds : List PyData) : Prop := ∃ xs, H l = some (.lst xs) ∧ l ≠ h ∧ DqAll H xs ds ∧ noHands ds = true
theorem LD.dq {H : Hp} {h l : Addr} {ds : List PyData} (x : LD H h l ds) : Dq H (.ref l) (.list ds) := by
  obtain ⟨xs, h1, _, h2, _⟩ := x
  exact .lst h1 h2
theorem LD.keep {H H' : Hp} {h l : Addr} {ds : List PyData} (x : LD H h l ds) (hd : Hand H h) (k : Keep h H H') : LD H' h l ds := by
  obtain ⟨xs, h1, n, h2, h3⟩ := x
  exact ⟨xs, k _ _ n h1, n, dqs_keep hd k h3 h2, h3⟩
theorem LD.same {H H' : Hp} {h l : Addr} {ds : List PyData} (x : LD H h l ds) (s : Same H H') : LD H' h l ds := by
  obtain ⟨xs, h1, n, h2, h3⟩ := x
  exact ⟨xs, s _ _ h1, n, DqAll.same s _ h2, h3⟩
theorem LD.new {H H' : Hp} {h l : Addr} {ds : List PyData} (hd : Hand H h) (nl : H l = none) (k : Dq H' (.ref l) (.list ds)) (n : noHands ds = true) : LD H' h l ds := by
  cases k with
  | lst h1 h2 =>
    obtain ⟨c, cells, p, r, t, e1, _⟩ := hd.ex
    exact ⟨_, h1, fun z => (ne_of_none e1 nl) z.symm, h2, n⟩
theorem LD.nh {H : Hp} {h l : Addr} {ds : List PyData} (x : LD H h l ds) : noHands ds = true := x.choose_spec.2.2.2
theorem noHands_app : ∀ {a b : List PyData}, noHands a = true → noHands b = true → noHands (a ++ b) = true
  | [], _, _, h => h
  | d :: a, b, h1, h2 => by
    have h1' : (noHand d && noHands a) = true := h1
    obtain ⟨n1, n2⟩ := Bool.and_eq_true_iff.mp h1'
    show (noHand d && noHands (a ++ b)) = true
    rw [n1, noHands_app n2 h2]
    rfl
theorem noHands_all {ds : List PyData} : noHands ds = true ↔ ∀ d ∈ ds, noHand d = true := by
  induction ds with
  | nil => exact ⟨fun _ d m => (nomatch m), fun _ => rfl⟩
  | cons d ds ih =>
    have e : noHands (d :: ds) = (noHand d && noHands ds) := rfl
    rw [e, Bool.and_eq_true, ih]
    simp
theorem noHands_sub {a b : List PyData} (h : noHands b = true) (s : ∀ d ∈ a, d ∈ b) : noHands a = true := noHands_all.mpr fun d m => noHands_all.mp h d (s d m)
theorem odds_nh {P W : Int} {d : PyData} (m : d ∈ odds P W) : noHand d = true := by
  have h : noHands (odds P W) = true := rfl
  exact noHands_all.mp h d m
theorem odds_len {P W : Int} {d : PyData} (m : d ∈ odds P W) : ∀ ds, itemsD d = some ds → ds.length ≤ 3 := by
  intro ds e
  simp only [odds, List.mem_cons, List.not_mem_nil, or_false] at m
  rcases m with rfl | rfl | rfl | rfl | rfl | rfl | rfl | rfl | rfl | rfl | rfl | rfl | rfl <;> (first | (cases e; simp) | cases e)
/-- list(x), x a list or a tuple of data -/
def rListD : List V → Hp → VK → Prop := fun xs H Q => ∃ x d ds, xs = [x] ∧ Dq H x d ∧ itemsD d = some ds ∧ ∀ l H', Same H H' → H l = none → Dq H' (.ref l) (.list ds) → Q (.ref l) H'
theorem call_listD {X : Cx} : CallR X (.type "list") rListD := by
  intro pins s σ H vs us Q I r h
  refine call_list_of pins s σ H vs us Q I r ?_
  obtain ⟨x, d, ds, rfl, k, e, q⟩ := h
  cases k with
  | lst h1 h2 =>
    cases e
    exact ⟨_, _, rfl, .inl (SqL.of h1), fun l nl => q l _ (same_new nl) nl (.lst upd_same (DqAll.same (same_new nl) _ h2))⟩
  | tup h1 h2 =>
    cases e
    exact ⟨_, _, rfl, .inr (SqT.of h1), fun l nl => q l _ (same_new nl) nl (.lst upd_same (DqAll.same (same_new nl) _ h2))⟩
  | _ => cases e
theorem pair_items {P W : Int} {d : PyData} (h : isPair P W d = true) : noHand d = true := by
  have e := (isPair_of h).1
  cases d with
  | list ds =>
    have e2 := Option.some.inj e
    rw [e2]
    rfl
  | tuple ds =>
    have e2 := Option.some.inj e
    rw [e2]
    rfl
  | _ => cases e
def strg : List PyData := [.int 0, .int 6, .int (-1), .bool true, .none, .str "2", .int ((10 : Int) ^ ((12 : Int).toNat))]
theorem ne_word {o : Option Str} {H : Hp} {Q : VK} (q : Q (.bl false) H) : rNe (wordV o) (wordV o) H Q := by
  refine ⟨by cases o <;> rfl, ?_⟩
  rw [decide_eq_true rfl]
  exact q
def sp_law_refusals : Sp := fun vs H Q _ => ∃ (h g : Addr) (P W : Int) (ds : List PyData), vs = [.ref h, .int P, .int W, .ref g] ∧ Hand H h ∧ LD H h g ds ∧ ds.length ≤ 25 ∧ (∀ d ∈ ds, isPair P W d = true) ∧ ∀ H', Keep h H H' → Hand H' h → Q (.bl true) H'
section
variable {P : Program} {w : World} {K : PySem.W.Frag} {mg : Str → Option Value} {base : Heap}
theorem ok_law_refusals (T : Txt K mg) : FnOk P w K mg base CX0 9 T.f_law_refusals T.d_law_refusals ["_law_hand_here", "_law_points", "_law_shuts", "_law_given"] sp_law_refusals := by
  refine T.F_law_refusals.ok sc_law_refusals (fun vs H Q E h => ?_) (fun cdv A outer s H vs Q E hr h => ?_)
  · obtain ⟨h, g, P', W, ds, rfl, _⟩ := h
    rfl
  · obtain ⟨h, g, P', W, ds, rfl, hd, lg, ld, hp, q⟩ := h
    refine ⟨_, (pss_cons (ps_set (i := 4) sc_law_refusals.nd rfl (.inl rfl) (pe_call (ok_law_take T) (hr.mono (by decide)) (by rfl) T.g_law_take T.F_law_take.kp T.b_law_take .nil pass0 (pa_cons (pv 0) (pa_cons (pe_op op_add (pe_callB call_len_seq (by rfl) T.m_len (by decide +kernel) (pa_cons (pv 3) pa_nil)) pe_int) pa_nil))))
      (pss_cons (ps_set (i := 5) sc_law_refusals.nd rfl (.inl rfl) (pe_call (ok_law_odd T) (hr.mono (by decide)) (by rfl) T.g_law_odd T.F_law_odd.kp T.b_law_odd .nil pass0 (pa_cons (pv 0) (pa_cons (pv 1) (pa_cons (pv 2) pa_nil)))))
      (pss_cons (ps_set (i := 6) sc_law_refusals.nd rfl (.inl rfl) (pe_op op_catDL (pe_op op_catDL (pe_callTy call_listD (by rfl) T.m_list (by decide +kernel) (pa_cons (pe_slice sl_listD (pv 3) po_none (po_some (pv 4))) pa_nil)) (pe_lst (pa_cons (pv 5) pa_nil))) (pe_callTy call_listD (by rfl) T.m_list (by decide +kernel) (pa_cons (pe_slice sl_listD (pv 3) (po_some (pv 4)) po_none) pa_nil))))
      (Evl.pss_cut (ps_set (i := 7) sc_law_refusals.nd rfl (.inl rfl) (pe_ifExp (pt_truth (pv 3) (by intro _; rfl)) (pe_op op_catDL (pe_callTy call_listD (by rfl) T.m_list (by decide +kernel) (pa_cons (pv 3) pa_nil)) (pe_lst (pa_cons (pe_callTy call_listD (by rfl) T.m_list (by decide +kernel) (pa_cons (pe_ix ix_list (pv 3) (pe_call (ok_law_take T) (hr.mono (by decide)) (by rfl) T.g_law_take T.F_law_take.kp T.b_law_take .nil pass0 (pa_cons (pv 0) (pa_cons (pe_callB call_len_seq (by rfl) T.m_len (by decide +kernel) (pa_cons (pv 3) pa_nil)) pa_nil))) (fun _ _ => rfl)) pa_nil)) pa_nil))) (pe_lst (pa_cons (pe_tup (pa_cons pe_int (pa_cons pe_int pa_nil))) (pa_cons (pe_lst (pa_cons pe_int (pa_cons pe_int pa_nil))) pa_nil)))))
      (pss_cons (ps_set (i := 8) sc_law_refusals.nd rfl (.inl rfl) (pe_ix ix_tup (pe_tup (pa_cons pe_int (pa_cons pe_int (pa_cons (pe_un un_neg pe_int) (pa_cons pe_bl (pa_cons pe_non (pa_cons pe_str (pa_cons (pe_op op_pow pe_int pe_int) pa_nil)))))))) (pe_call (ok_law_take T) (hr.mono (by decide)) (by rfl) T.g_law_take T.F_law_take.kp T.b_law_take .nil pass0 (pa_cons (pv 0) (pa_cons pe_int pa_nil))) (fun _ _ => rfl)))
      (pss_cons (ps_for PassesOwn.never rfl (pi_tup (pe_tup (pa_cons (pv 1) (pa_cons (pv 8) pa_nil)))) (pg_name (i := 9) sc_law_refusals.nd rfl (.inl rfl))
        (pss_one (ps_for PassesOwn.never rfl (pi_tup (pe_tup (pa_cons (pv 2) (pa_cons (pv 8) pa_nil)))) (pg_name (i := 10) sc_law_refusals.nd rfl (.inl rfl))
          (pss_cons (ps_for PassesOwn.never rfl (pi_tup (pe_tup (pa_cons (pv 3) (pa_cons (pe_callTy call_tupD (by rfl) T.m_tuple (by decide +kernel) (pa_cons (pv 3) pa_nil)) (pa_cons (pv 6) (pa_cons (pv 7) (pa_cons (pe_op op_catDL (pv 7) (pe_lst (pa_cons (pv 5) pa_nil))) (pa_cons (pv 5) (pa_cons pe_non pa_nil))))))))) (pg_name (i := 11) sc_law_refusals.nd rfl (.inl rfl))
            (pss_one (ps_if (pt_cmpR op_ne (pe_call (ok_law_refused T) (hr.mono (by decide)) (by rfl) T.g_law_refused T.F_law_refused.kp T.b_law_refused .nil pass0 (pa_cons (pv 9) (pa_cons (pv 10) (pa_cons (pv 11) pa_nil)))) (pe_call (ok_law_due T) (hr.mono (by decide)) (by rfl) T.g_law_due T.F_law_due.kp T.b_law_due .nil pass0 (pa_cons (pv 9) (pa_cons (pv 10) (pa_cons (pv 11) pa_nil)))) (nomark _))
              (pss_one (ps_ret pe_bl))
              pss_nil)))
          (pss_one (ps_if (pt_cmpR op_ne (pe_call (ok_law_full_word T) (hr.mono (by decide)) (by rfl) T.g_law_full_word T.F_law_full_word.kp T.b_law_full_word .nil pass0 (pa_cons (pv 9) (pa_cons (pv 10) pa_nil))) (pe_call (ok_law_due T) (hr.mono (by decide)) (by rfl) T.g_law_due T.F_law_due.kp T.b_law_due .nil pass0 (pa_cons (pv 9) (pa_cons (pv 10) (pa_cons (pe_tup pa_nil) pa_nil)))) (nomark _))
            (pss_one (ps_ret pe_bl))
            pss_nil))))))
      (pss_one (ps_ret pe_bl)))))))), ?_⟩
    obtain ⟨gxs, hg, ng, hgx, hgn⟩ := id lg
    refine ⟨_, rfl, _, rfl, g, gxs, rfl, .inl (SqL.of hg), _, _, rfl, rfl, h, _, rfl, hd, by omega, by rw [hgx.len]; omega, fun H1 r1 k1 hd1 r10 r11 => ?_⟩
    rw [hgx.len] at r11
    have lg1 := lg.keep hd k1
    refine ⟨_, rfl, _, rfl, _, rfl, h, P', W, rfl, hd1, fun H2 ov od k2 hd2 om ko _ => ?_⟩
    have lg2 := lg1.keep hd1 k2
    have K2 := k1.trans k2
    have ont := odds_nh om
    -- spoiled
    refine ⟨_, rfl, _, rfl, r1, rfl, ds, lg2.dq, fun l1 H3 s3 n3 q3 => ?_⟩
    refine ⟨_, _, _, rfl, q3, rfl, fun l2 H4 s4 n4 q4 => ?_⟩
    refine ⟨_, rfl, (by show 1 ≤ sizeLine; decide), fun l3 n5 => ?_⟩
    have s5 := same_new (o := .lst [ov]) n5
    have ko5 := ((ko.same s3).same s4).same s5
    have e1 : ((r1.toNat : Nat) : Int) = r1 := by omega
    rw [← e1, cutD_hi] at q4
    refine ⟨_, _, q4.same s5, .lst upd_same (.cons ko5 .nil), by rw [List.length_take]; simp; omega, fun l4 H6 s6 n6 q6 => ?_⟩
    have sA : Same H2 H6 := ((s3.trans s4).trans s5).trans s6
    refine ⟨_, rfl, _, rfl, r1, rfl, ds, (lg2.same sA).dq, fun l5 H7 s7 n7 q7 => ?_⟩
    refine ⟨_, _, _, rfl, q7, rfl, fun l6 H8 s8 n8 q8 => ?_⟩
    rw [← e1, cutD_lo] at q8
    refine ⟨_, _, (q6.same s7).same s8, q8, by simp; omega, fun l7 H9 s9 n9 q9 => ?_⟩
    have sB : Same H2 H9 := ((sA.trans s7).trans s8).trans s9
    have hd9 := hd2.same sB
    have lg9 := lg2.same sB
    have ko9 := ko.same sB
    have lsp : LD H9 h l7 (ds.take r1.toNat ++ [od] ++ ds.drop r1.toNat) := LD.new (hd2.same ((sA.trans s7).trans s8)) n9 q9 (noHands_app (noHands_app (noHands_sub hgn fun d m => List.mem_of_mem_take m) (by show (noHand od && true) = true; rw [ont]; rfl)) (noHands_sub hgn fun d m => List.mem_of_mem_drop m))
    have K9 : Keep h H H9 := K2.trans (Keep.of sB)
    have lsl : (ds.take r1.toNat ++ [od] ++ ds.drop r1.toNat).length ≤ 26 := by simp; omega
    generalize ds.take r1.toNat ++ [od] ++ ds.drop r1.toNat = sp at lsp lsl
    refine ⟨fun σ' G => ∃ la agd, σ' = [some (.ref h), some (.int P'), some (.int W), some (.ref g), some (.int r1), some ov, some (.ref l7), some (.ref la), none, none, none, none] ∧ Keep h H G ∧ Hand G h ∧ LD G h g ds ∧ Dq G ov od ∧ LD G h l7 sp ∧ LD G h la agd ∧ agd.length ≤ 26, ?_, fun σ' G hG => ?_⟩
    · obtain ⟨ys, hy, _, hyx, _⟩ := id lg9
      have ly := hyx.len
      refine ⟨_, rfl, _, .inl ⟨ys, SqL.of hy, rfl⟩, ?_⟩
      by_cases c : ys.isEmpty = true
      · rw [c]
        refine iteF ⟨(by show 2 ≤ sizeLine; decide), fun u1 m1 => ⟨(by show 2 ≤ sizeLine; decide), fun u2 m2 => ⟨(by show 2 ≤ sizeLine; decide), fun u3 m3 => ?_⟩⟩⟩
        obtain ⟨t1, A1⟩ := step_tup (xs := [.int 0, .int 0]) (DqAll.nil) (fun _ _ z => z) m1 (.cons (.int 0) (.cons (.int 0) .nil))
        obtain ⟨t2, A2⟩ := step_lst (xs := [.int 0, .int 0]) A1 t1 m2 (.cons (.int 0) (.cons (.int 0) .nil))
        have t3 := t2.trans (same_new (o := .lst [.ref u1, .ref u2]) m3)
        have A3 : Dq (upd (upd (upd H9 u1 (.tup [.int 0, .int 0])) u2 (.lst [.int 0, .int 0])) u3 (.lst [.ref u1, .ref u2])) (.ref u3) (.list [.tuple [.int 0, .int 0], .list [.int 0, .int 0]]) := .lst upd_same (DqAll.same (same_new m3) _ A2)
        exact ⟨u3, _, rfl, K9.trans (Keep.of t3), hd9.same t3, lg9.same t3, ko9.same t3, lsp.same t3, LD.new (hd9.same t2) m3 A3 rfl, by simp⟩
      · rw [Bool.eq_false_iff.mpr c]
        have l0 : 0 < ds.length := by
          rw [← ly]
          cases ys with
          | nil => exact absurd rfl c
          | cons _ _ => exact Nat.succ_pos _
        refine iteT ⟨_, rfl, _, _, _, rfl, lg9.dq, rfl, fun v1 G1 t1 m1 p1 => ?_⟩
        have L1 := LD.new hd9 m1 p1 hgn
        have hdG1 := hd9.same t1
        refine ⟨_, rfl, _, rfl, _, rfl, g, ys, rfl, .inl (SqL.of (t1 _ _ hy)), h, _, rfl, hdG1, by omega, by rw [ly]; omega, fun G2 r2 k2' hdG2 r20 r21 => ?_⟩
        have hy2 := k2' _ _ ng (t1 _ _ hy)
        have hyx2 := dqs_keep hdG1 k2' hgn (DqAll.same t1 _ hyx)
        obtain ⟨v, d, e3, e4, _, e5⟩ := at_nat hyx2 r20 (by rw [ly] at r21; exact r21)
        refine ⟨g, ys, r2, v, rfl, rfl, SqL.of hy2, e3, v, d, _, rfl, e5, (isPair_of (hp d e4)).1, fun v3 G3 t3 m3 p3 => ?_⟩
        refine ⟨(by show 1 ≤ sizeLine; decide), fun v4 m4 => ?_⟩
        have L3 := ((L1.keep hdG1 k2').same t3).same (same_new (o := .lst [.ref v3]) m4)
        refine ⟨_, _, L3.dq, .lst upd_same (.cons (p3.same (same_new m4)) .nil), by simp; omega, fun v5 G5 t5 m5 p5 => ?_⟩
        have tt := (t3.trans (same_new (o := .lst [.ref v3]) m4)).trans t5
        have hdG5 := hdG2.same tt
        have kk : Keep h H9 G5 := ((Keep.of t1).trans k2').trans (Keep.of tt)
        refine ⟨v5, _, rfl, K9.trans kk, hdG5, lg9.keep hd9 kk, dq_keep hd9 kk ont ko9, lsp.keep hd9 kk, LD.new (hdG2.same (t3.trans (same_new (o := .lst [.ref v3]) m4))) m5 p5 (noHands_app hgn rfl), by simp; omega⟩
    · obtain ⟨la, agd, rfl, KG, hdG, lgG, koG, lsG, laG, lal⟩ := hG
      refine ⟨1, rfl, 10, 12, rfl, rfl, ⟨by decide, by decide, by decide⟩, (by show 7 ≤ sizeLine; decide), fun T0 nT => ?_⟩
      have sT : Same G (upd G T0 (.tup [.int 0, .int 6, .int (-1), .bl true, .non, .str "2", .int ((10 : Int) ^ ((12 : Int).toNat))])) := same_new nT
      have kT : Dq (upd G T0 (.tup [.int 0, .int 6, .int (-1), .bl true, .non, .str "2", .int ((10 : Int) ^ ((12 : Int).toNat))])) (.ref T0) (.tuple strg) := .tup upd_same (.cons (.int _) (.cons (.int _) (.cons (.int _) (.cons (.bl _) (.cons .non (.cons (.str _) (.cons (.int _) .nil)))))))
      dsimp only
      generalize upd G T0 (.tup [.int 0, .int 6, .int (-1), .bl true, .non, .str "2", .int ((10 : Int) ^ ((12 : Int).toNat))]) = GT at sT kT ⊢
      have hdT := hdG.same sT
      refine ⟨_, rfl, h, 7, rfl, hdT, by decide, by decide, fun G1 r kp hd1' r0 r1' => ?_⟩
      have kT' := dq_keep hdT kp rfl kT
      have kk : Keep h G G1 := (Keep.of sT).trans kp
      have KG1 := KG.trans kk
      have lg1' := (lgG.keep hdG kk).dq
      have ko1 := dq_keep hdG kk ont koG
      have ls1 := (lsG.keep hdG kk).dq
      have la1 := (laG.keep hdG kk).dq
      obtain ⟨sv, sd, esv, ksv⟩ : ∃ sv sd, (∃ xs, SqT K G1 T0 xs ∧ atI xs r = some sv) ∧ Dq G1 sv sd := by
        cases kT' with
        | tup e1 e2 =>
          obtain ⟨v, d, e3, e4, _, e5⟩ := at_nat e2 r0 r1'
          exact ⟨v, d, ⟨_, SqT.of e1, e3⟩, e5⟩
      obtain ⟨txs, et1, et2⟩ := esv
      refine ⟨T0, txs, r, sv, rfl, rfl, et1, et2, ?_⟩
      have fin : ∀ G2, Same G1 G2 → Q (.bl true) G2 := fun G2 s2 => q G2 (KG1.trans (Keep.of s2)) (hd1'.same s2)
      refine ⟨_, rfl, _, rfl, (by show 2 ≤ sizeLine; decide), fun t1 n1 => ⟨t1, rfl, ⟨_, SqT.of upd_same⟩, for_tup (xs := [.int P', sv]) (fun i σ G2 => ∃ y9 y10 y11, σ = [some (.ref h), some (.int P'), some (.int W), some (.ref g), some (.int r1), some ov, some (.ref l7), some (.ref la), some sv, y9, y10, y11] ∧ Same (upd G1 t1 (.tup [.int P', sv])) G2)
        ⟨none, none, none, rfl, fun _ _ z => z⟩ (fun i σ G2 _ hP => by obtain ⟨_, _, _, _, z⟩ := hP; exact SqT.of (z _ _ upd_same)) (fun i x σ G2 hx hP => ?_) (fun σ G2 hP => ?_)⟩⟩
      · obtain ⟨y9, y10, y11, rfl, sa⟩ := hP
        have sm2 : Same G1 G2 := (same_new n1).trans sa
        obtain ⟨dx, kx⟩ : ∃ dx, Dq G2 x dx := by
          match i, hx with
          | 0, hx =>
            cases hx
            exact ⟨_, .int _⟩
          | 1, hx =>
            cases hx
            exact ⟨_, ksv.same sm2⟩
        refine ⟨_, rfl, _, rfl, (by show 2 ≤ sizeLine; decide), fun t2 n2 => ⟨t2, rfl, ⟨_, SqT.of upd_same⟩, for_tup (xs := [.int W, sv]) (fun i σ G3 => ∃ y10 y11, σ = [some (.ref h), some (.int P'), some (.int W), some (.ref g), some (.int r1), some ov, some (.ref l7), some (.ref la), some sv, some x, y10, y11] ∧ Same (upd G2 t2 (.tup [.int W, sv])) G3)
          ⟨y10, y11, rfl, fun _ _ z => z⟩ (fun i σ G3 _ hP => by obtain ⟨_, _, _, z⟩ := hP; exact SqT.of (z _ _ upd_same)) (fun j y σ G3 hy hP => ?_) (fun σ G3 hP => ?_)⟩⟩
        · obtain ⟨y10, y11, rfl, sb⟩ := hP
          have sb2 : Same G2 G3 := (same_new n2).trans sb
          have sm3 := sm2.trans sb2
          have kx3 := kx.same sb2
          obtain ⟨dy, ky⟩ : ∃ dy, Dq G3 y dy := by
            match j, hy with
            | 0, hy =>
              cases hy
              exact ⟨_, .int _⟩
            | 1, hy =>
              cases hy
              exact ⟨_, ksv.same sm3⟩
          refine ⟨_, rfl, _, rfl, _, _, _, rfl, lg1'.same sm3, rfl, fun lt G4 s4' kt4 => ?_⟩
          have sm4 := sm3.trans s4'
          refine ⟨_, rfl, _, rfl, _, rfl, _, rfl, (by show 1 ≤ sizeLine; decide), fun u5 n5' => ?_⟩
          have s5' := same_new (o := .lst [ov]) n5'
          have sm5 := sm4.trans s5'
          refine ⟨_, _, la1.same sm5, .lst upd_same (.cons (ko1.same sm5) .nil), by simp; omega, fun l5' G6 s6' _ kl6 => ?_⟩
          have sm6 := sm5.trans s6'
          refine ⟨_, rfl, (by show 7 ≤ sizeLine; decide), fun t3 n3' => ?_⟩
          have s7' := same_new (o := .tup [.ref g, .ref lt, .ref l7, .ref la, .ref l5', ov, .non]) n3'
          have A7 : DqAll (upd G6 t3 (.tup [.ref g, .ref lt, .ref l7, .ref la, .ref l5', ov, .non])) [.ref g, .ref lt, .ref l7, .ref la, .ref l5', ov, .non] [.list ds, .tuple ds, .list sp, .list agd, .list (agd ++ [od]), od, .none] :=
            DqAll.same s7' _ (.cons (lg1'.same sm6) (.cons ((kt4.same s5').same s6') (.cons (ls1.same sm6) (.cons (la1.same sm6) (.cons kl6 (.cons (ko1.same sm6) (.cons .non .nil)))))))
          have len7 : ∀ d ∈ [PyData.list ds, .tuple ds, .list sp, .list agd, .list (agd ++ [od]), od, .none], ∀ es, itemsD d = some es → es.length ≤ 60 := by
            intro d m es e
            simp only [List.mem_cons, List.not_mem_nil, or_false] at m
            rcases m with rfl | rfl | rfl | rfl | rfl | rfl | rfl
            · cases e
              omega
            · cases e
              omega
            · cases e
              omega
            · cases e
              omega
            · cases e
              simp
              omega
            · have := odds_len om es e
              omega
            · cases e
          have s37 : Same G3 (upd G6 t3 (.tup [.ref g, .ref lt, .ref l7, .ref la, .ref l5', ov, .non])) := ((s4'.trans s5').trans s6').trans s7'
          have ht3 : (upd G6 t3 (.tup [.ref g, .ref lt, .ref l7, .ref la, .ref l5', ov, .non])) t3 = some (.tup [.ref g, .ref lt, .ref l7, .ref la, .ref l5', ov, .non]) := upd_same
          generalize upd G6 t3 (.tup [.ref g, .ref lt, .ref l7, .ref la, .ref l5', ov, .non]) = G7 at A7 s37 ht3 ⊢
          refine ⟨t3, rfl, ⟨_, SqT.of ht3⟩, for_tup (xs := [.ref g, .ref lt, .ref l7, .ref la, .ref l5', ov, .non]) (fun i σ G8 => ∃ y11, σ = [some (.ref h), some (.int P'), some (.int W), some (.ref g), some (.int r1), some ov, some (.ref l7), some (.ref la), some sv, some x, some y, y11] ∧ Same G7 G8)
            ⟨y11, rfl, fun _ _ z => z⟩ (fun i σ G8 _ hP => by obtain ⟨_, _, z⟩ := hP; exact SqT.of (z _ _ ht3)) (fun k z σ G8 hz hP => ?_) (fun σ G8 hP => ?_)⟩
          · obtain ⟨y11, rfl, s8'⟩ := hP
            obtain ⟨dz, hdz, kz⟩ := A7.get hz
            have lz := len7 dz (List.mem_of_getElem? hdz)
            have s38 := s37.trans s8'
            refine ⟨_, rfl, _, rfl, _, rfl, x, y, z, dx, dy, dz, rfl, kx3.same s38, ky.same s38, kz.same s8', fun es e => by have := lz es e; omega, fun G9 s9' => ?_⟩
            refine ⟨_, rfl, _, rfl, _, rfl, x, y, z, dx, dy, dz, rfl, (kx3.same s38).same s9', (ky.same s38).same s9', (kz.same s8').same s9', lz, fun G10 s10' => ne_word ⟨_, rfl, iteF ⟨_, rfl, (s8'.trans s9').trans s10'⟩⟩⟩
          · obtain ⟨y11, rfl, s8'⟩ := hP
            have s38 := s37.trans s8'
            refine ⟨_, rfl, _, rfl, x, y, dx, dy, rfl, kx3.same s38, ky.same s38, fun G9 s9' => ?_⟩
            refine ⟨_, rfl, _, rfl, (by show 0 ≤ sizeLine; decide), fun u9 n9' => ?_⟩
            have s9b := s9'.trans (same_new (o := .tup []) n9')
            refine ⟨x, y, .ref u9, dx, dy, .tuple [], rfl, (kx3.same s38).same s9b, (ky.same s38).same s9b, .tup upd_same .nil, fun es e => by cases e; simp, fun G10 s10' => ne_word ⟨_, rfl, iteF ⟨_, _, rfl, sb.trans ((s38.trans s9b).trans s10')⟩⟩⟩
        · obtain ⟨y10, y11, rfl, sb⟩ := hP
          exact ⟨_, _, _, rfl, sa.trans ((same_new n2).trans sb)⟩
      · obtain ⟨y9, y10, y11, rfl, sa⟩ := hP
        exact fin _ ((same_new n1).trans sa)
end
end K00
set_option Elab.async false
set_option linter.all false
set_option maxRecDepth 100000
set_option maxHeartbeats 4000000
set_option exponentiation.threshold 5000
namespace K00
open PySem PySem.Spec PyProof.Rows L2 TkS
theorem ne_same {K : PySem.W.Frag} {H : Hp} {x y : V} {d : PyData} {Q : VK} (hx : Dp K H x d) (hy : Dp K H y d) (s : SeqAt.shaped d = true) (q : Q (.bl false) H) : rNeD K x y H Q :=
  ⟨d, d, hx, hy, s, s, by rw [PySem.SeqAt.eqv_refl d (SeqAt.canLay_of_shaped s)]; exact q⟩
theorem shaped_ch (P W : Int) (qs : List (Int × Int)) : SeqAt.shaped (.tuple [.int P, .int W, .tuple (qs.map prD)]) = true := by
  have h := lay_prs qs
  simp [SeqAt.shaped, PyData.canLay0, PyData.canLayAll0, PyData.depth, PyData.depthAll, h.1]
  omega
def okT (d : PyData) : Prop := SeqAt.shaped (.tuple [.str "closed", d]) = true
theorem okT_pr (p : Int × Int) : okT (prD p) := by
  have e : PyData.canLay0 (.str "closed") = true := by decide +kernel
  simp [okT, SeqAt.shaped, prD, PyData.canLay0, PyData.canLayAll0, PyData.depth, PyData.depthAll] at e ⊢
  exact e
theorem uniq_at {ps : List (Int × Int)} (n : ps.Nodup) {i j : Nat} {q : Int × Int} (h1 : ps[i]? = some q) (h2 : ps[j]? = some q) : i = j := by
  obtain ⟨hi, e1⟩ := List.getElem?_eq_some_iff.mp h1
  obtain ⟨hj, e2⟩ := List.getElem?_eq_some_iff.mp h2
  rcases Nat.lt_trichotomy i j with z | z | z
  · exact absurd (e1.trans e2.symm) (List.pairwise_iff_getElem.mp n i j hi hj z)
  · exact z
  · exact absurd (e2.trans e1.symm) (List.pairwise_iff_getElem.mp n j i hj hi z)
theorem word_more {P W : Int} {ps : List (Int × Int)} {d : PyData} (ok : 1 ≤ P ∧ P ≤ 5 ∧ 1 ≤ W ∧ W ≤ 5) (hi : Ins P W ps) (nd : ps.Nodup) :
    wordD (.int P) (.int W) (.tuple (ps.map prD ++ [d])) = if isPair P W d = true then (if prOf d ∈ ps then some ("double" : Str) else none) else some ("pair" : Str) := by
  have b1 : wholeD (.int P) 1 5 = true := by
    rw [wholeD_int, decide_eq_true ok.1, decide_eq_true ok.2.1]
    rfl
  have b2 : wholeD (.int W) 1 5 = true := by
    rw [wholeD_int, decide_eq_true ok.2.2.1, decide_eq_true ok.2.2.2]
    rfl
  have b4 : ((ps.map prD ++ [d]).map prOf) = ps ++ [prOf d] := by
    rw [List.map_append, List.map_map, show (prOf ∘ prD) = id from rfl, List.map_id]
    rfl
  have b3 : (ps.map prD ++ [d]).all (isPair P W) = isPair P W d := by
    rw [List.all_append]
    have : (ps.map prD).all (isPair P W) = true := by
      rw [List.all_map, List.all_eq_true]
      exact fun p m => isPair_prD.mpr (hi p m)
    rw [this]
    simp
  unfold wordD
  rw [b1, b2]
  show (if (ps.map prD ++ [d]).all (isPair P W) = true then (if ((ps.map prD ++ [d]).map prOf).Nodup then (none : Option Str) else some ("double" : Str)) else some ("pair" : Str)) = _
  rw [b3, b4]
  by_cases c : isPair P W d = true
  · rw [if_pos c, if_pos c]
    by_cases e : prOf d ∈ ps
    · rw [if_pos e, if_neg]
      intro z
      exact (List.nodup_append.mp z).2.2 _ e _ (List.mem_singleton.mpr rfl) rfl
    · rw [if_neg e, if_pos]
      rw [List.nodup_append]
      exact ⟨nd, List.pairwise_singleton _ _, fun a ma b mb z => by
        rw [List.mem_singleton.mp mb] at z
        subst z
        exact e ma⟩
  · rw [if_neg c, if_neg c]
theorem filter_pr (ps : List (Int × Int)) (q : Int × Int) : ((ps.map prD).filter fun d => !PyData.eqv d (prD q)).map id = (ps.filter fun p => decide (p ≠ q)).map prD := by
  rw [List.map_id, List.filter_map]
  congr 1
  refine List.filter_congr fun x _ => ?_
  show (!PyData.eqv (prD x) (prD q)) = _
  rw [eqv_pr]
  by_cases c : x = q
  · rw [decide_eq_true c]
    simp [c]
  · rw [decide_eq_false c]
    simp [c]
def sp_law_pairs_asked (C : Addr) : Sp := fun vs H Q _ => ∃ (a lp lt : Addr) (P W : Int) (ps : List (Int × Int)) (ts : List PyData), vs = [.ref a, .int P, .int W, .ref lp, .ref lt] ∧ Pic C H a P W ps ∧ Dq H (.ref lp) (.list (ps.map prD)) ∧ ps.length ≤ 25 ∧ Dq H (.ref lt) (.list ts) ∧ ts.length ≤ 40 ∧ (∀ t ∈ ts, okT t) ∧
  ∀ H', Same H H' → Q (.bl true) H'
section
variable {P : Program} {w : World} {K : PySem.W.Frag} {mg : Str → Option Value} {base : Heap}
theorem ok_law_pairs_asked (T : Txt K mg) : FnOk P w K mg base CX0 11 T.f_law_pairs_asked T.d_law_pairs_asked ["_law_picture", "_law_points", "_law_shuts", "_law_pairs", "_law_things"] (sp_law_pairs_asked T.C_Picture) := by
  refine T.F_law_pairs_asked.ok sc_law_pairs_asked (fun vs H Q E h => ?_) (fun cdv A outer s H vs Q E hr h => ?_)
  · obtain ⟨a, lp, lt, P', W, ps, ts, rfl, _⟩ := h
    rfl
  · obtain ⟨a, lp, lt, P', W, ps, ts, rfl, pic, klp, lps, klt, lts, hts, q⟩ := h
    refine ⟨_, (pss_cons (ps_for PassesOwn.never rfl (pi_list (pe_op op_catDL (pe_call (ok_law_full T) (hr.mono (by decide)) (by rfl) T.g_law_full T.F_law_full.kp T.b_law_full .nil pass0 (pa_cons (pv 1) (pa_cons (pv 2) pa_nil))) (pv 4))) (pg_name (i := 5) sc_law_pairs_asked.nd rfl (.inr rfl))
        (Evl.pss_cut (ps_set (i := 6) sc_law_pairs_asked.nd rfl (.inl rfl) (pe_and (pe_call (ok_law_couple T) (hr.mono (by decide)) (by rfl) T.g_law_couple T.F_law_couple.kp T.b_law_couple .nil pass0 (pa_cons (pv 1) (pa_cons (pv 2) (pa_cons (pv 5) pa_nil)))) (pe_one (pe_cmpR (op_inD (hu65 hr)) (pe_tup (pa_cons (pe_ix ix_seq (pv 5) pe_int (fun _ _ => rfl)) (pa_cons (pe_ix ix_seq (pv 5) pe_int (fun _ _ => rfl)) pa_nil))) (pv 3) rfl))))
        (pss_cons (ps_set (i := 7) sc_law_pairs_asked.nd rfl (.inl rfl) (pe_meth (pv 0) T.cl_Picture T.M_is_open (ok_Picture_is_open T) (hr.mono (by decide)) T.b_Picture_is_open .nil pass0 (pa_cons (pv 5) pa_nil)))
        (pss_cons (ps_if (PW.pt (pw_or (pt_not (pt_val (pe_callB call_isi (by rfl) T.m_isinstance (by decide +kernel) (pa_cons (pv 7) (pa_cons (pe_bltn (v := .ty "bool") (u := .type "bool") (by rfl) T.m_bool (by decide +kernel) rfl) pa_nil))))) (pw_or1 (pt_cmpR op_ne (pv 7) (pv 6) (nomark _)))))
          (pss_one (ps_ret pe_bl))
          pss_nil)
        (pss_cons (ps_set (i := 8) sc_law_pairs_asked.nd rfl (.inl rfl) (pe_call (ok_law_place T) (hr.mono (by decide)) (by rfl) T.g_law_place T.F_law_place.kp T.b_law_place .nil pass0 (pa_cons (pv 0) (pa_cons (pv 5) pa_nil))))
        (pss_cons (ps_if (pt_truth (pv 6) (by intro _; rfl))
          (pss_cons (ps_if (PW.pt (pw_or (pt_not (pt_val (pe_call (ok_law_whole T) (hr.mono (by decide)) (by rfl) T.g_law_whole T.F_law_whole.kp T.b_law_whole .nil pass0 (pa_cons (pv 8) pa_nil)))) (pw_or1 (pt_cmpR op_ne (pv 8) (pe_bm PySem.F.plainAttrs_list PySem.F.slot_list_index PySem.F.type_list_index (mt_indexD (hu65 hr)) (pv 3) (pa_cons (pe_tup (pa_cons (pe_ix ix_seq (pv 5) pe_int (fun _ _ => rfl)) (pa_cons (pe_ix ix_seq (pv 5) pe_int (fun _ _ => rfl)) pa_nil))) pa_nil)) (nomark _)))))
            (pss_one (ps_ret pe_bl))
            pss_nil)
          (pss_cons (ps_set (i := 9) sc_law_pairs_asked.nd rfl (.inl rfl) (pe_callTy call_tupD (by rfl) T.m_tuple (by decide +kernel) (pa_cons (pe_lc rfl sc_law_pairs_asked.nd (pi_seq (pv 3)) (blkOk_by (own := [("_law_pair", 11)]) (N := ["_law_picture", "_law_points", "_law_shuts", "_law_pairs", "_law_things", "_law_thing", "_law_open_here", "_law_told", "_law_place_here", "_law_rest", "_law_more", "_law_pair"]) (sc := defScope s_law_pairs_asked) (by decide +kernel)) (fun _ _ _ _ _ => (pg_name (i := 11) sc_law_pairs_asked.nd rfl (.inl rfl))) (fun _ _ _ _ _ => (pts_one (pt_cmpR (show OpR _ (compareOp .NotEq) (rNeD K) from op_neD hr.units) (pv 11) (pe_tup (pa_cons (pe_ix (show IxR _ (rIx K) from ix_seq) (pv 5) pe_int (fun _ _ => rfl)) (pa_cons (pe_ix (show IxR _ (rIx K) from ix_seq) (pv 5) pe_int (fun _ _ => rfl)) pa_nil))) (nomark _)))) (fun _ _ _ _ _ => (pv 11))) pa_nil)))
          (pss_cons (ps_if (PW.pt (pw_or (pt_cmpR (op_neD hr.units) (pe_call (ok_law_changed T) (hr.mono (by decide)) (by rfl) T.g_law_changed T.F_law_changed.kp T.b_law_changed .nil pass0 (pa_cons (pv 0) (pa_cons (pv 5) (pa_cons pe_int pa_nil)))) (pe_tup (pa_cons (pv 1) (pa_cons (pv 2) (pa_cons (pv 9) pa_nil)))) (nomark _)) (pw_or1 (pt_cmpR op_ne (pe_call (ok_law_changed T) (hr.mono (by decide)) (by rfl) T.g_law_changed T.F_law_changed.kp T.b_law_changed .nil pass0 (pa_cons (pv 0) (pa_cons (pv 5) (pa_cons pe_int pa_nil)))) pe_str (nomark _)))))
            (pss_one (ps_ret pe_bl))
            pss_nil)
          (pss_one ps_continue))))
          pss_nil)
        (pss_cons (ps_if (PW.pt (pw_or (pt_cmpR (op_neD hr.units) (pv 8) (pe_tup (pa_cons pe_str (pa_cons (pv 5) pa_nil))) (nomark _)) (pw_or1 (pt_cmpR (op_neD hr.units) (pe_call (ok_law_changed T) (hr.mono (by decide)) (by rfl) T.g_law_changed T.F_law_changed.kp T.b_law_changed .nil pass0 (pa_cons (pv 0) (pa_cons (pv 5) (pa_cons pe_int pa_nil)))) (pe_tup (pa_cons pe_str (pa_cons (pv 5) pa_nil))) (nomark _)))))
          (pss_one (ps_ret pe_bl))
          pss_nil)
        (pss_cons (ps_set (i := 10) sc_law_pairs_asked.nd rfl (.inl rfl) (pe_ifExp (pt_val (pe_call (ok_law_couple T) (hr.mono (by decide)) (by rfl) T.g_law_couple T.F_law_couple.kp T.b_law_couple .nil pass0 (pa_cons (pv 1) (pa_cons (pv 2) (pa_cons (pv 5) pa_nil))))) (pe_tup (pa_cons (pv 1) (pa_cons (pv 2) (pa_cons (pe_callTy call_tupD (by rfl) T.m_tuple (by decide +kernel) (pa_cons (pe_callB cr_sortedPO (by rfl) T.m_sorted (by decide +kernel) (pa_cons (pe_op op_catDL (pv 3) (pe_lst (pa_cons (pe_callTy call_tupD (by rfl) T.m_tuple (by decide +kernel) (pa_cons (pv 5) pa_nil)) pa_nil))) pa_nil)) pa_nil)) pa_nil)))) pe_str))
        (pss_one (ps_if (pt_cmpR (op_neD hr.units) (pe_call (ok_law_changed T) (hr.mono (by decide)) (by rfl) T.g_law_changed T.F_law_changed.kp T.b_law_changed .nil pass0 (pa_cons (pv 0) (pa_cons (pv 5) (pa_cons pe_int pa_nil)))) (pv 10) (nomark _))
          (pss_one (ps_ret pe_bl))
          pss_nil))))))))))
      (pss_one (ps_ret pe_bl))), ?_⟩
    obtain ⟨p1, p2, w1, w2⟩ := pic.ok
    refine ⟨_, rfl, _, rfl, P', W, rfl, by omega, by omega, by omega, by omega, fun l1 H1 s1 n1 k1 => ?_⟩
    refine ⟨_, rfl, _, _, k1, klt.same s1, ?_, fun l2 H2 s2 n2 k2 => ?_⟩
    · rw [List.length_map, fullPs_len]
      have : P'.toNat * W.toNat ≤ 5 * 5 := Nat.mul_le_mul (by omega) (by omega)
      omega
    have hok : ∀ d ∈ (fullPs P'.toNat W.toNat).map prD ++ ts, okT d := fun d m => by
      rcases List.mem_append.mp m with m | m
      · obtain ⟨p, _, rfl⟩ := List.mem_map.mp m
        exact okT_pr p
      · exact hts d m
    have sm := s1.trans s2
    cases k2 with
    | lst h2 x2 =>
      rename_i xs
      generalize (fullPs P'.toNat W.toNat).map prD ++ ts = ds at hok x2
      refine ⟨l2, rfl, ⟨_, SqL.of h2⟩, for_list (xs := xs) (fun i σ H3 => ∃ y5 y6 y7 y8 y9 y10, σ = [some (.ref a), some (.int P'), some (.int W), some (.ref lp), some (.ref lt), y5, y6, y7, y8, y9, y10, none] ∧ Same H2 H3)
        ⟨none, none, none, none, none, none, rfl, fun _ _ z => z⟩ (fun i σ H3 _ hP => by obtain ⟨_, _, _, _, _, _, _, z⟩ := hP; exact SqL.of (z _ _ h2)) (fun i x σ H3 hx hP => ?_) (fun σ H3 hP => ?_)⟩
      · obtain ⟨y5, y6, y7, y8, y9, y10, rfl, s3⟩ := hP
        obtain ⟨d, hd, kd⟩ := x2.get hx
        have kd3 := kd.same s3
        have od := hok d (List.mem_of_getElem? hd)
        have sm3 := sm.trans s3
        refine ⟨fun σ' H4 => σ' = [some (.ref a), some (.int P'), some (.int W), some (.ref lp), some (.ref lt), some x, some (.bl (isOpen P' W ps d)), y7, y8, y9, y10, none] ∧ Same H3 H4, ?_, fun σ' H4 hM => ?_⟩
        · refine ⟨_, rfl, _, rfl, _, rfl, P', W, x, d, rfl, kd3, fun H4 s4 => ⟨_, rfl, ?_⟩⟩
          cases hb : isPair P' W d with
          | false =>
            refine iteF ⟨?_, s4⟩
            unfold isOpen
            rw [hb]
            rfl
          | true =>
            obtain ⟨px, rfl, ix⟩ := ix_two (K := K) (kd3.same s4) (isPair_of hb).1
            refine iteT ⟨_, rfl, (ix _).1 ⟨_, rfl, (ix _).2 ⟨(by show 2 ≤ sizeLine; decide), fun u nu => ⟨_, rfl, ?_⟩⟩⟩⟩
            have s5 := same_new (o := .tup [.int (prOf d).1, .int (prOf d).2]) nu
            refine ⟨prD (prOf d), ps.map prD, .tup (SqT.of upd_same) (.cons (.int _) (.cons (.int _) .nil)), (((klp.same sm3).same s4).same s5).dp, shaped_pr _, shaped_prs_l _, ?_, s4.trans s5⟩
            have e := any_pr ps (prOf d)
            unfold isOpen
            rw [hb, e]
            rfl
        · obtain ⟨rfl, s4⟩ := hM
          have sm4 := sm3.trans s4
          have kd4 := kd3.same s4
          have pic4 := pic.same sm4
          obtain ⟨dx, pt, pv', pxs, ha4, _, _, _⟩ := pic4.at_
          refine ⟨_, rfl, a, dx, _, rfl, ha4, rfl, _, rfl, a, x, d, P', W, ps, rfl, pic4, kd4, fun H5 s5 => ?_⟩
          refine ⟨_, rfl, _, .ty "bool", .type "bool", _, true, rfl, .ty _, .base (.bl _), ?_, _, rfl, iteF ⟨_, rfl, _, rfl, rfl, _, rfl, ?_⟩⟩
          · exact kit_ty (show kitB "bool" "bool" = some true by decide +kernel)
          rw [decide_eq_true rfl]
          refine iteF ?_
          have sm5 := sm4.trans s5
          have pic5 := pic.same sm5
          have kd5 := kd4.same s5
          have nd := asc_nodup pic.asc
          have wm := word_more (d := d) pic.ok pic.ins nd
          refine ⟨_, rfl, _, rfl, a, x, d, P', W, ps, rfl, pic5, kd5, fun hb v H6 s6 kv => ?_, fun hb j H6 hj s6 => ?_⟩
          · -- no open pair
            have sm6 := sm5.trans s6
            have kd6 := kd5.same s6
            refine ⟨_, rfl, _, rfl, ?_⟩
            rw [hb]
            refine iteF ?_
            refine ⟨_, rfl, _, rfl, (by show 2 ≤ sizeLine; decide), fun u nu => ?_⟩
            have s7 := same_new (o := .tup [.str "closed", x]) nu
            have sm7 := sm6.trans s7
            have kd7 := kd6.same s7
            refine ne_same (kv.same s7).dp (.tup (SqT.of upd_same) (.cons (.str _) (.cons kd7.dp .nil))) od ⟨_, rfl, iteF ?_⟩
            refine ⟨_, rfl, _, rfl, a, x, d, P', W, 0, ps, rfl, pic.same sm7, kd7, by omega, fun z => absurd z (by decide), fun z => absurd z (by decide), fun _ _ v2 H8 s8 kv2 => ?_, fun _ hb' => by rw [hb] at hb'; cases hb'⟩
            have sm8 := sm7.trans s8
            have kd8 := kd7.same s8
            refine ⟨_, rfl, (by show 2 ≤ sizeLine; decide), fun u2 nu2 => ?_⟩
            have s9 := same_new (o := .tup [.str "closed", x]) nu2
            have sm9 := sm8.trans s9
            have kd9 := kd8.same s9
            refine ne_same (kv2.same s9).dp (.tup (SqT.of upd_same) (.cons (.str _) (.cons kd9.dp .nil))) od ⟨_, rfl, iteF ?_⟩
            refine ⟨_, rfl, _, rfl, _, rfl, P', W, x, d, rfl, kd9, fun H10 s10 => ⟨_, rfl, ?_⟩⟩
            have sm10 := sm9.trans s10
            have kd10 := kd9.same s10
            cases hpb : isPair P' W d with
            | true =>
              have hno : prOf d ∉ ps := fun z => by
                unfold isOpen at hb
                rw [hpb, decide_eq_true z] at hb
                cases hb
              rw [if_pos hpb, if_neg hno] at wm
              refine iteT ⟨_, rfl, _, rfl, _, rfl, _, rfl, x, d, _, rfl, kd10, (isPair_of hpb).1, fun l G1 t1 kl => ⟨(by show 1 ≤ sizeLine; decide), fun u3 nu3 => ?_⟩⟩
              have t2 := same_new (o := .lst [.ref l]) nu3
              have kl' : Dq (upd G1 u3 (.lst [.ref l])) (.ref l) (prD (prOf d)) := kl.same t2
              refine ⟨ps.map prD, [prD (prOf d)], ((klp.same sm10).same t1).same t2, .lst upd_same (.cons kl' .nil), by simp; omega, fun l3 G3 t3 n3 k3 => ?_⟩
              have e9 : ps.map prD ++ [prD (prOf d)] = (ps ++ [prOf d]).map prD := by rw [List.map_append]; rfl
              rw [e9] at k3
              cases k3 with
              | lst e1 e2 =>
                rename_i ys
                obtain ⟨m1, m2⟩ := prV_map e2
                refine ⟨l3, ys, prV G3, rfl, SqL.of e1, fun z m => (m2 z m).2, fun zs p srt1 stb1 np => ?_⟩
                have hz := sorted_is m1 srt1 stb1
                have t4 := same_new (o := .lst zs) np
                have hz2 : DqAll (upd G3 p (.lst zs)) zs ((srt (ps ++ [prOf d])).map prD) := by
                  rw [← hz]
                  exact DqAll.same t4 _ (dqAll_by fun z m => (m2 z (stb1.perm.mem_iff.mp m)).1)
                refine ⟨.ref p, .list ((srt (ps ++ [prOf d])).map prD), _, rfl, .lst upd_same hz2, rfl, fun l5 G5 t5 k5 => ⟨(by show 3 ≤ sizeLine; decide), fun u6 nu6 => ?_⟩⟩
                have t6 := same_new (o := .tup [.int P', .int W, .ref l5]) nu6
                have tt := ((((t1.trans t2).trans t3).trans t4).trans t5).trans t6
                have smT := sm10.trans tt
                have kmore : Dp K (upd G5 u6 (.tup [.int P', .int W, .ref l5])) (.ref u6) (.tuple [.int P', .int W, .tuple ((srt (ps ++ [prOf d])).map prD)]) := .tup (SqT.of upd_same) (.cons (.int _) (.cons (.int _) (.cons (k5.same t6).dp .nil)))
                have hu6 : (upd G5 u6 (.tup [.int P', .int W, .ref l5])) u6 = some (.tup [.int P', .int W, .ref l5]) := upd_same
                refine ⟨_, rfl, _, rfl, a, x, d, P', W, 1, ps, rfl, pic.same smT, kd10.same tt, by omega, fun _ e he => (by rw [wm] at he; cases he), fun _ _ v3 G7 t7 cd => ?_, fun z => absurd rfl z, fun z => absurd rfl z⟩
                refine ⟨_, rfl, ne_same cd.dp ?_ (shaped_ch _ _ _) ⟨_, rfl, iteF ⟨_, _, _, _, _, _, rfl, ?_⟩⟩⟩
                · exact .tup (SqT.of (t7 _ _ hu6)) (.cons (.int _) (.cons (.int _) (.cons ((k5.same t6).same t7).dp .nil)))
                · exact s4.trans (s5.trans (s6.trans (s7.trans (s8.trans (s9.trans (s10.trans (tt.trans t7))))))) |> s3.trans
            | false =>
              rw [if_neg (by rw [hpb]; decide)] at wm
              refine iteF ?_
              refine ⟨_, rfl, _, rfl, a, x, d, P', W, 1, ps, rfl, pic.same sm10, kd10, by omega, fun _ e he G7 t7 => ?_, fun _ he => (by rw [wm] at he; cases he), fun z => absurd rfl z, fun z => absurd rfl z⟩
              rw [wm] at he
              cases he
              refine ⟨_, rfl, ne_same (.str _) (.str _) (by decide +kernel) ⟨_, rfl, iteF ⟨_, _, _, _, _, _, rfl, ?_⟩⟩⟩
              exact s4.trans (s5.trans (s6.trans (s7.trans (s8.trans (s9.trans (s10.trans t7)))))) |> s3.trans
          · -- an open pair
            obtain ⟨hpb, hin⟩ := isOpen_of hb
            rw [if_pos hpb, if_pos hin] at wm
            have sm6 := sm5.trans s6
            have kd6 := kd5.same s6
            refine ⟨_, rfl, _, rfl, ?_⟩
            rw [hb]
            refine iteT ⟨_, rfl, .int (j : Int), .int (j : Int), rfl, .int _, _, rfl, iteF ?_⟩
            obtain ⟨px, rfl, ix⟩ := ix_two (K := K) kd6 (isPair_of hpb).1
            have klp6 := klp.same sm6
            obtain ⟨lxs, hlx⟩ : ∃ lxs, H6 lp = some (.lst lxs) := by
              cases klp6 with
              | lst z _ => exact ⟨_, z⟩
            refine ⟨_, rfl, _, rfl, .inl ⟨rfl, lxs, SqL.of hlx⟩, _, rfl, (ix _).1 ⟨_, rfl, (ix _).2 ⟨(by show 2 ≤ sizeLine; decide), fun u nu => ?_⟩⟩⟩
            have s7 := same_new (o := .tup [.int (prOf d).1, .int (prOf d).2]) nu
            have sm7 := sm6.trans s7
            have kd7 := kd6.same s7
            refine ⟨lp, .ref u, prD (prOf d), ps.map prD, j, prD (prOf d), rfl, rfl, (klp6.same s7).dp, .tup (SqT.of upd_same) (.cons (.int _) (.cons (.int _) .nil)), shaped_prs_l _, shaped_pr _, by rw [List.getElem?_map, hj]; rfl, by rw [eqv_pr]; simp, fun m z hm hz => ?_, rfl, _, rfl, ?_⟩
            · rw [List.getElem?_map] at hz
              obtain ⟨q', hq', rfl⟩ := Option.map_eq_some_iff.mp hz
              rw [eqv_pr]
              refine decide_eq_false fun z => ?_
              subst z
              exact absurd (uniq_at nd hq' hj) (by omega)
            rw [decide_eq_true rfl]
            refine iteF ?_
            dsimp only [tNext]
            refine asg_cb_lc ?_
            have klp7 := klp6.same s7
            generalize upd H6 u (.tup [.int (prOf d).1, .int (prOf d).2]) = H7 at s7 sm7 kd7 klp7 ⊢
            obtain ⟨p9, xs9, e9, hx9, hq9⟩ := sq_of (K := K) klp7 rfl
            cases e9
            refine lc_seqD (a := lp) (ds := ps.map prD) (j := 11) (fun d' => !PyData.eqv d' (prD (prOf d))) id (fun Q2 z => ⟨_, rfl, z⟩) hq9 hx9 (by simp; omega) (fun _ => rfl)
              (fun i x' d' H8 Q2 hd' s8 kd' q2 => ?_) (fun D i x' d' H8 Q2 nD hd' _ s8 kd' hDl q2 => ?_) (fun D H8 nD s8 kD => ?_)
            · rw [List.getElem?_map] at hd'
              obtain ⟨q', hq', rfl⟩ := Option.map_eq_some_iff.mp hd'
              obtain ⟨px', ex', ix'⟩ := ix_two (K := K) (kd7.same s8) (isPair_of hpb).1
              cases ex'
              refine ⟨_, rfl, _, rfl, (ix' _).1 ⟨_, rfl, (ix' _).2 ⟨(by show 2 ≤ sizeLine; decide), fun u8 nu8 => ?_⟩⟩⟩
              have t8 := same_new (o := .tup [.int (prOf d).1, .int (prOf d).2]) nu8
              exact ⟨prD q', prD (prOf d), (kd'.same t8).dp, .tup (SqT.of upd_same) (.cons (.int _) (.cons (.int _) .nil)), shaped_pr _, shaped_pr _, _, rfl, q2 _ t8⟩
            · rw [List.getElem?_map] at hd'
              obtain ⟨q', hq', rfl⟩ := Option.map_eq_some_iff.mp hd'
              obtain ⟨acc, hDa⟩ := hDl
              exact ⟨_, rfl, q2 _ _ (fun _ _ z => z) (dq_noL hDa _ (noList_pr _) kd')⟩
            · rw [filter_pr] at kD
              have sm8 := sm7.trans s8
              have kd8 := kd7.same s8
              refine ⟨_, _, _, rfl, kD, rfl, fun t9 H9 s9 k9 => ?_⟩
              have sm9 := sm8.trans s9
              have kd9 := kd8.same s9
              refine ⟨_, rfl, _, rfl, a, .ref px, d, P', W, 0, ps, rfl, pic.same sm9, kd9, by omega, fun z => absurd z (by decide), fun z => absurd z (by decide), fun _ hb' => (by rw [hb] at hb'; cases hb'), fun _ _ v G1 t1 cd => ?_⟩
              refine ⟨_, rfl, _, rfl, _, rfl, (by show 3 ≤ sizeLine; decide), fun u2 nu2 => ?_⟩
              have t2 := same_new (o := .tup [.int P', .int W, .ref t9]) nu2
              refine ne_same (cd.same t2).dp (.tup (SqT.of upd_same) (.cons (.int _) (.cons (.int _) (.cons ((k9.same t1).same t2).dp .nil)))) (shaped_ch _ _ _) ⟨_, rfl, iteF ?_⟩
              have tt := t1.trans t2
              refine ⟨_, rfl, _, rfl, a, .ref px, d, P', W, 1, ps, rfl, pic.same (sm9.trans tt), kd9.same tt, by omega, fun _ e he G3 t3 => ?_, fun _ he => (by rw [wm] at he; cases he), fun z => absurd rfl z, fun z => absurd rfl z⟩
              rw [wm] at he
              cases he
              refine ⟨rfl, _, rfl, ?_⟩
              rw [decide_eq_true rfl]
              refine iteF ⟨_, _, _, _, _, _, rfl, ?_⟩
              exact s4.trans (s5.trans (s6.trans (s7.trans (s8.trans (s9.trans (tt.trans t3)))))) |> s3.trans
      · obtain ⟨y5, y6, y7, y8, y9, y10, rfl, s3⟩ := hP
        exact q _ (sm.trans s3)
end
end K00
set_option Elab.async false
set_option linter.all false
set_option maxRecDepth 100000
set_option maxHeartbeats 8000000
set_option exponentiation.threshold 5000
namespace K00
open PySem PySem.Spec PyProof.Rows L2 TkS
def sp_law (K : PySem.W.Frag) : Sp := fun vs H Q _ => ∃ (a : Addr) (ns : List Int), vs = [.ref a] ∧ SqL K H a (ns.map V.int) ∧ ns.length ≤ 63 ∧ ∀ H', Q (.bl true) H'
theorem noHand_pr : ∀ ps : List (Int × Int), noHands (ps.map prD) = true
  | [] => rfl
  | _ :: ps => noHand_pr ps
structure Facts (H : Hp) (h lp g : Addr) (P W : Int) (ps : List (Int × Int)) (gs : List PyData) : Prop where
  hand : Hand H h
  lp : LD H h lp (ps.map prD)
  g : LD H h g gs
theorem Facts.keep {H H' : Hp} {h lp g : Addr} {P W : Int} {ps : List (Int × Int)} {gs : List PyData} (x : Facts H h lp g P W ps gs) (k : Keep h H H') (hd : Hand H' h) : Facts H' h lp g P W ps gs :=
  ⟨hd, x.lp.keep x.hand k, x.g.keep x.hand k⟩
theorem Facts.same {H H' : Hp} {h lp g : Addr} {P W : Int} {ps : List (Int × Int)} {gs : List PyData} (x : Facts H h lp g P W ps gs) (s : Same H H') : Facts H' h lp g P W ps gs :=
  ⟨x.hand.same s, x.lp.same s, x.g.same s⟩
theorem hand_ne {H : Hp} {h D : Addr} (hd : Hand H h) (nD : H D = none) : D ≠ h := fun z => by
  obtain ⟨c, cells, p, r, t, e1, _⟩ := hd.ex
  rw [z, e1] at nD
  cases nD
theorem Hand.putD {H0 G : Hp} {D h : Addr} {o : HO} (hd0 : Hand H0 h) (nD : H0 D = none) (k : Keep h H0 G) (hd : Hand G h) : Hand (upd G D o) h := by
  have nh := hand_ne hd0 nD
  obtain ⟨c0, cells0, p0, r0, t0, e1, e2, _⟩ := hd0.ex
  obtain ⟨c, cells, p, r, t, f1, f2, f3⟩ := hd.ex
  obtain ⟨p', r', t', g⟩ := k.cc _ _ _ _ e1
  rw [f1] at g
  cases g
  have nc : c0 ≠ D := ne_of_none e2 nD
  exact ⟨c0, cells, _, _, _, by rw [upd_ne (Ne.symm nh)]; exact f1, by rw [upd_ne nc]; exact f2, f3⟩
theorem Keep.putD {H0 G : Hp} {D h : Addr} {o : HO} (hd0 : Hand H0 h) (nD : H0 D = none) (k : Keep h H0 G) : Keep h H0 (upd G D o) :=
  ⟨fun b u n e => by rw [upd_ne (ne_of_none e nD)]; exact k b u n e, fun c p r t e => by
    obtain ⟨p', r', t', g⟩ := k.cc _ _ _ _ e
    exact ⟨p', r', t', by rw [upd_ne (Ne.symm (hand_ne hd0 nD))]; exact g⟩⟩
theorem small_of {P W : Int} {d : PyData} (p : P ≤ 5) (w : W ≤ 5) (h : isPair P W d = true) : SmallPair d := by
  obtain ⟨e, a, b, c, f⟩ := isPair_of h
  refine ⟨(prOf d).1, (prOf d).2, a, by omega, c, by omega, ?_⟩
  cases d with
  | list ds =>
    have e2 := Option.some.inj e
    exact .inr (congrArg PyData.list e2)
  | tuple ds =>
    have e2 := Option.some.inj e
    exact .inl (congrArg PyData.tuple e2)
  | _ => cases e
/-- what is drawn -/
structure Pure (P W : Int) (ps : List (Int × Int)) (gs : List PyData) : Prop where
  ok : 1 ≤ P ∧ P ≤ 5 ∧ 1 ≤ W ∧ W ≤ 5
  asc : Asc ps
  ins : Ins P W ps
  len : ps.length ≤ 25
  perm : (gs.map prOf).Perm ps
  prs : ∀ d ∈ gs, isPair P W d = true
theorem pic_keep {C : Addr} {H H' : Hp} {h a : Addr} {P W : Int} {ps : List (Int × Int)} (x : Pic C H a P W ps) (hd : Hand H h) (k : Keep h H H') (n : noHand (.tuple (piecesD P (marks P W ps))) = true) : Pic C H' a P W ps := by
  obtain ⟨⟨dx, t, v, xs, h1, ⟨o, h2, h3⟩, h4, h5⟩, h6, h7, h8⟩ := x
  obtain ⟨c, cells, p, r, tt, e1, _⟩ := hd.ex
  refine ⟨⟨dx, t, v, xs, k _ _ (fun z => by rw [z, e1] at h1; cases h1) h1, ⟨o, k _ _ (fun z => by rw [z, e1] at h2; cases h2) h2, h3⟩, dqs_keep hd k (noHand_pr _) h4, dq_keep hd k n h5⟩, h6, h7, h8⟩
theorem noHand_ints {α : Type} (f : α → Int) : ∀ l : List α, noHands (l.map fun x => PyData.int (f x)) = true
  | [] => rfl
  | _ :: l => noHand_ints f l
theorem noHand_pieces (P : Int) (ls : List Int) : noHand (.tuple (piecesD P ls)) = true := by
  refine noHands_all.mpr fun d m => ?_
  obtain ⟨l, _, rfl⟩ := List.mem_map.mp m
  show (noHands _ && (noHands _ && true)) = true
  rw [noHand_ints (fun (k : Nat) => (k : Int)), noHand_ints (fun (k : Nat) => (k : Int) - P)]
  rfl
theorem shaped_pieces (P : Int) (ls : List Int) : SeqAt.shaped (.tuple (piecesD P ls)) = true := by
  have key : ∀ L : List Nat, PyData.canLayAll0 (L.map fun l => pieceD P (cs ls l)) = true ∧ PyData.depthAll (L.map fun l => pieceD P (cs ls l)) ≤ 2 := by
    intro L
    induction L with
    | nil => exact ⟨rfl, Nat.zero_le _⟩
    | cons l L ih =>
      have a1 : ∀ {α : Type} (f : α → Int) (l : List α), PyData.canLayAll0 (l.map fun x => PyData.int (f x)) = true ∧ PyData.depthAll (l.map fun x => PyData.int (f x)) = 0 := by
        intro α f l
        induction l with
        | nil => exact ⟨rfl, rfl⟩
        | cons a l ih => simp [PyData.canLayAll0, PyData.depthAll, PyData.canLay0, PyData.depth, ih.1, ih.2]
      have b1 := a1 (fun (k : Nat) => (k : Int)) ((cs ls l).filter fun (k : Nat) => decide ((k : Int) < P))
      have b2 := a1 (fun (k : Nat) => (k : Int) - P) ((cs ls l).filter fun (k : Nat) => decide (P ≤ (k : Int)))
      have c1 : (pieceD P (cs ls l)).canLay0 = true := by
        unfold pieceD
        simp [PyData.canLay0, PyData.canLayAll0, b1.1, b2.1]
      have c2 : (pieceD P (cs ls l)).depth ≤ 2 := by
        unfold pieceD
        simp [PyData.depth, PyData.depthAll, b1.2, b2.2]
      refine ⟨?_, ?_⟩
      · show ((pieceD P (cs ls l)).canLay0 && PyData.canLayAll0 (L.map fun l => pieceD P (cs ls l))) = true
        rw [c1, ih.1]
        rfl
      · show max (pieceD P (cs ls l)).depth (PyData.depthAll (L.map fun l => pieceD P (cs ls l))) ≤ 2
        exact Nat.max_le.mpr ⟨c2, ih.2⟩
  have k := key ((List.range ls.length).filter fun l => !(cs ls l).isEmpty)
  show ((PyData.canLayAll0 (piecesD P ls)) && decide ((PyData.tuple (piecesD P ls)).depth ≤ 64)) = true
  have k1 : PyData.canLayAll0 (piecesD P ls) = true := k.1
  have k2 : PyData.depthAll (piecesD P ls) ≤ 2 := k.2
  rw [k1]
  simp [PyData.depth]
  omega
theorem word_gs {P W : Int} {ps : List (Int × Int)} {gs : List PyData} (pu : Pure P W ps gs) : wordD (.int P) (.int W) (.list gs) = none ∧ srt (gs.map prOf) = ps ∧ gs.length ≤ 25 := by
  obtain ⟨ok, asc, ins, len, perm, prs⟩ := pu
  have b1 : wholeD (.int P) 1 5 = true := by
    rw [wholeD_int, decide_eq_true ok.1, decide_eq_true ok.2.1]
    rfl
  have b2 : wholeD (.int W) 1 5 = true := by
    rw [wholeD_int, decide_eq_true ok.2.2.1, decide_eq_true ok.2.2.2]
    rfl
  refine ⟨?_, (srt_uniq (asc_le asc) perm.symm).symm, ?_⟩
  · unfold wordD
    rw [b1, b2]
    show (if gs.all (isPair P W) = true then (if (gs.map prOf).Nodup then (none : Option Str) else some ("double" : Str)) else some ("pair" : Str)) = none
    rw [if_pos (List.all_eq_true.mpr prs), if_pos (perm.nodup_iff.mpr (asc_nodup asc))]
  · have := perm.length_eq
    rw [List.length_map] at this
    omega
theorem rem_off {G G2 : Hp} {D : Addr} {o : HO} (e : G D = some o) : Same (Rem G G2) (TkS.Off D G2) := fun b x h => by
  have h2 := rem_same b x h
  refine off_at (fun z => ?_) h2
  unfold Rem at h
  rw [z, e] at h
  cases (show (none : Option HO) = some x from h)
theorem okT_odds {P W : Int} {d : PyData} (m : d ∈ odds P W) : okT d := by
  have e : PyData.canLay0 (.str "closed") = true := by decide +kernel
  have e2 : PyData.canLay0 (.str "00") = true := by decide +kernel
  simp only [odds, List.mem_cons, List.not_mem_nil, or_false] at m
  rcases m with rfl | rfl | rfl | rfl | rfl | rfl | rfl | rfl | rfl | rfl | rfl | rfl | rfl <;>
    simp [okT, SeqAt.shaped, PyData.canLay0, PyData.canLayAll0, PyData.depth, PyData.depthAll] at e e2 ⊢ <;> simp [e, e2]
theorem okT_pl (p : Int × Int) : okT (.list [.int p.1, .int p.2]) := by
  have e : PyData.canLay0 (.str "closed") = true := by decide +kernel
  simp [okT, SeqAt.shaped, PyData.canLay0, PyData.canLayAll0, PyData.depth, PyData.depthAll] at e ⊢
  exact e
/-- a pair as it is handed in -/
def givD (d : PyData) : PyData := if ((prOf d).1 + (prOf d).2) % 2 = 0 then .list [.int (prOf d).1, .int (prOf d).2] else d
theorem giv_pr (p : Int × Int) : prOf (givD (prD p)) = p ∧ noHand (givD (prD p)) = true ∧ ∀ P W : Int, isPair P W (givD (prD p)) = isPair P W (prD p) := by
  unfold givD
  rw [prOf_prD]
  by_cases c : (p.1 + p.2) % 2 = 0
  · rw [if_pos c]
    exact ⟨rfl, rfl, fun _ _ => rfl⟩
  · rw [if_neg c]
    exact ⟨rfl, rfl, fun _ _ => rfl⟩
theorem giv_list (as : List (Int × Int)) : ((as.map prD).filter fun _ => true).map givD = as.map fun p => givD (prD p) := by
  rw [List.filter_eq_self.mpr fun _ _ => rfl, List.map_map]
  rfl
def lawN : List Str := ["_law_script", "_law_hand_here", "_law_points", "_law_shuts", "_law_bare", "_law_pairs", "_law_shut", "_law_turn", "_law_ahead", "_law_given", "_law_kept", "_law_picture", "_law_due_here", "_law_things", "_law_full_here", "_law_more", "_law_wide", "_law_lacks", "_law_changed_here", "_law_pair", "_law_gone", "_law_k"]
theorem isPair_mono {P W P2 W2 : Int} {d : PyData} (h : isPair P W d = true) (hp : P ≤ P2) (hw : W ≤ W2) : isPair P2 W2 d = true := by
  obtain ⟨e, a, b, c, f⟩ := isPair_of h
  unfold isPair
  rw [e]
  show (wholeD (.int (prOf d).1) 0 (P2 - 1) && wholeD (.int (prOf d).2) 0 (W2 - 1)) = true
  rw [wholeD_int, wholeD_int, decide_eq_true a, decide_eq_true c, decide_eq_true (by omega : (prOf d).1 ≤ P2 - 1), decide_eq_true (by omega : (prOf d).2 ≤ W2 - 1)]
  rfl
theorem pure_up {P W P2 W2 : Int} {ps : List (Int × Int)} {gs : List PyData} (pu : Pure P W ps gs) (hp : P ≤ P2) (hp5 : P2 ≤ 5) (hw : W ≤ W2) (hw5 : W2 ≤ 5) : Pure P2 W2 ps gs := by
  obtain ⟨ok, asc, ins, len, perm, prs⟩ := pu
  exact ⟨⟨by omega, hp5, by omega, hw5⟩, asc, fun p m => by have := ins p m; omega, len, perm, fun d m => isPair_mono (prs d m) hp hw⟩
theorem full_iff {P W : Int} {ps : List (Int × Int)} {gs : List PyData} (pu : Pure P W ps gs) : fullPs P.toNat W.toNat = ps ↔ (ps.length : Int) = P * W := by
  obtain ⟨p1, p2, w1, w2⟩ := pu.ok
  have e : ((P.toNat * W.toNat : Nat) : Int) = P * W := by
    rw [Int.natCast_mul, Int.toNat_of_nonneg (by omega), Int.toNat_of_nonneg (by omega)]
  constructor
  · intro z
    rw [← z, fullPs_len]
    exact e
  · intro z
    have hl : ps.length = (fullPs P.toNat W.toNat).length := by
      rw [fullPs_len]
      omega
    have sub : ∀ x ∈ ps, x ∈ fullPs P.toNat W.toNat := fun x m => by
      have := pu.ins x m
      exact mem_fullPs.mpr (by omega)
    have pm := nd_perm (asc_nodup pu.asc) sub hl
    have h1 := srt_uniq (asc_le pu.asc) pm
    rw [srt_asc (fullPs_asc _ _)] at h1
    exact h1.symm
theorem noLists_prs : ∀ ps : List (Int × Int), noLists (ps.map prD) = true
  | [] => rfl
  | _ :: ps => noLists_prs ps
/-- a store to a list leaves data without lists as it is -/
theorem pic_app {C : Addr} {H : Hp} {l a : Addr} {P W : Int} {ps : List (Int × Int)} {ys zs : List V} (x : Pic C H a P W ps) (hl : H l = some (.lst ys)) (n : noList (.tuple (piecesD P (marks P W ps))) = true) : Pic C (upd H l (.lst zs)) a P W ps := by
  obtain ⟨⟨dx, t, v, xs, h1, ⟨o, h2, h3⟩, h4, h5⟩, h6, h7, h8⟩ := x
  have up : Same (TkS.Off l H) (upd H l (.lst zs)) := fun b o e => by
    unfold TkS.Off at e
    by_cases z : b = l
    · rw [if_pos z] at e
      cases e
    · rw [if_neg z] at e
      rw [upd_ne z]
      exact e
  have nps : ∀ ps : List (Int × Int), noLists (ps.map prD) = true := fun ps => by
    induction ps with
    | nil => rfl
    | cons p ps ih => exact ih
  refine ⟨⟨dx, t, v, xs, ?_, ⟨o, ?_, h3⟩, DqAll.same up _ (dqs_noL hl _ (nps ps) h4), (dq_noL hl _ n h5).same up⟩, h6, h7, h8⟩
  · rw [upd_ne (fun z => by rw [z, hl] at h1; cases h1)]
    exact h1
  · rw [upd_ne (fun z => by rw [z, hl] at h2; cases h2)]
    exact h2
theorem noList_pieces (P : Int) (ls : List Int) : noList (.tuple (piecesD P ls)) = true := by
  have a1 : ∀ {α : Type} (f : α → Int) (l : List α), noLists (l.map fun x => PyData.int (f x)) = true := fun f l => noList_ints f l
  have key : ∀ L : List Nat, noLists (L.map fun l => pieceD P (cs ls l)) = true := by
    intro L
    induction L with
    | nil => rfl
    | cons l L ih =>
      show (noList (pieceD P (cs ls l)) && noLists (L.map fun l => pieceD P (cs ls l))) = true
      rw [ih]
      unfold pieceD
      show ((noLists _ && (noLists _ && true)) && true) = true
      rw [a1 (fun (k : Nat) => (k : Int)), a1 (fun (k : Nat) => (k : Int) - P)]
      rfl
  exact key _
theorem lacks_is (fs ps : List (Int × Int)) : ((fs.map prD).filter fun d => !((ps.map prD).any fun z => PyData.eqv z d)).map id = (fs.filter fun p => !decide (p ∈ ps)).map prD := by
  rw [List.map_id, List.filter_map]
  congr 1
  refine List.filter_congr fun x _ => ?_
  show (!((ps.map prD).any fun z => PyData.eqv z (prD x))) = _
  rw [any_pr]
end K00
set_option Elab.async false
set_option linter.all false
set_option maxRecDepth 100000
set_option maxHeartbeats 8000000
set_option exponentiation.threshold 5000
namespace K00
open PySem PySem.Spec PyProof.Rows L2 TkS
section
variable {P : Program} {w : World} {K : PySem.W.Frag} {mg : Str → Option Value} {base : Heap}
theorem ok_law (T : Txt K mg) : TopOk P w K mg base CX0 T.f_law T.d_law ["_law_script"] (sp_law K) := by
  obtain ⟨oc, od, kV, doc, pm, an, cdv, ct, osl, ed, lk, hcd⟩ := T.F_law.ex
  rw [ed] at lk ⊢
  refine top_of lk hcd sc_law (fun vs H Q E h => ?_) (fun outer s H vs Q E hr h => ?_)
  · obtain ⟨a, ns, rfl, _⟩ := h
    rfl
  · obtain ⟨sa, ns, rfl, hS, hl, q⟩ := h
    suffices hh : ∃ t, PSs (cxOf CX0 P w K mg base ["_law_script", "_law_hand_here", "_law_points", "_law_shuts", "_law_bare", "_law_pairs", "_law_shut", "_law_turn", "_law_ahead", "_law_given", "_law_kept", "_law_picture", "_law_due_here", "_law_things", "_law_full_here", "_law_more", "_law_wide", "_law_lacks", "_law_changed_here", "_law_pair", "_law_gone", "_law_k"] "law" (defScope s_law) T.f_law cdv callerA outer s H E).nox (defBody s_law) t ∧ t { nx := fun _ H' => Q .non H', rt := Q } (start ["_law_script", "_law_hand_here", "_law_points", "_law_shuts", "_law_bare", "_law_pairs", "_law_shut", "_law_turn", "_law_ahead", "_law_given", "_law_kept", "_law_picture", "_law_due_here", "_law_things", "_law_full_here", "_law_more", "_law_wide", "_law_lacks", "_law_changed_here", "_law_pair", "_law_gone", "_law_k"] [.ref sa]) H by
      obtain ⟨t, h1, h2⟩ := hh
      exact ⟨t, h1.nox, h2⟩
    have hr5 : Room 40 (callerA.deeper (envOfC "law" (defScope s_law) s.heap.objs.size T.f_law cdv)) := hr.mono (by decide)
    refine ⟨_, (pss_cons (ps_set (i := 1) sc_law.nd rfl (.inr rfl) (pe_call (ok_law_hand T) (hr5.mono (by decide)) (by rfl) T.g_law_hand T.F_law_hand.kp T.b_law_hand .nil pass0 (pa_cons (pv 0) pa_nil)))
      (pss_cons (ps_set (i := 2) sc_law.nd rfl (.inr rfl) (pe_op op_add pe_int (pe_call (ok_law_take T) (hr5.mono (by decide)) (by rfl) T.g_law_take T.F_law_take.kp T.b_law_take .nil pass0 (pa_cons (pv 1) (pa_cons pe_int pa_nil)))))
      (pss_cons (ps_set (i := 3) sc_law.nd rfl (.inr rfl) (pe_op op_add pe_int (pe_call (ok_law_take T) (hr5.mono (by decide)) (by rfl) T.g_law_take T.F_law_take.kp T.b_law_take .nil pass0 (pa_cons (pv 1) (pa_cons pe_int pa_nil)))))
      (pss_cons (ps_set (i := 4) sc_law.nd rfl (.inr rfl) (pe_cmpR op_eq (pe_call (ok_law_take T) (hr5.mono (by decide)) (by rfl) T.g_law_take T.F_law_take.kp T.b_law_take .nil pass0 (pa_cons (pv 1) (pa_cons pe_int pa_nil))) pe_int (nomark _)))
      (pss_cons (ps_set (i := 5) sc_law.nd rfl (.inr rfl) (pe_lc rfl sc_law.nd (pi_list (pe_call (ok_law_full T) (hr5.mono (by decide)) (by rfl) T.g_law_full T.F_law_full.kp T.b_law_full .nil pass0 (pa_cons (pv 2) (pa_cons (pv 3) pa_nil)))) (blkOk_by (own := [("_law_pair", 19)]) (N := lawN) (sc := defScope s_law) (by decide +kernel)) (fun _ _ _ _ _ => (pg_name (i := 19) sc_law.nd rfl (.inl rfl))) (fun _ _ _ _ _ => (pts_one (pt_not (show PT _ _ (fun σ H Q => tVar 4 σ H fun x H' => ∃ k, TruV K x H' k ∧ Q k H') from pt_truth (pv 4) (by intro _; rfl))))) (fun _ _ _ _ _ => (pv 19))))
      (pss_cons (ps_setLc (i := 6) rfl sc_law.nd rfl rfl (sw_true rfl rfl rfl (by decide +kernel)) (pi_list (pv 5)) (blkOk_by (own := [("_law_pair", 19)]) (N := lawN) (sc := defScope s_law) (by decide +kernel)) (fun _ _ _ _ _ => (pg_name (i := 19) sc_law.nd rfl (.inl rfl))) (fun _ _ _ _ _ => pts_nil) (fun _ _ _ _ _ => (pe_cmpR op_eq (pe_call (ok_law_take T) (hr5.mono (by decide)) (by rfl) T.g_law_take T.F_law_take.kp T.b_law_take .nil pass0 (pa_cons (pv 1) (pa_cons pe_int pa_nil))) pe_int (nomark _))))
      (pss_cons (ps_set (i := 5) sc_law.nd rfl (.inr rfl) (pe_lc rfl sc_law.nd (RZM.pi_zipS (by rfl) T.m_zip (pa_cons (pv 5) (pa_cons (pv 6) pa_nil))) (blkOk_by (own := [("_law_pair", 19), ("_law_gone", 20)]) (N := lawN) (sc := defScope s_law) (by decide +kernel)) (fun _ _ _ _ _ => (show PG _ _ (gTup K 2 (gCons (gName 19) (gCons (gName 20) gNil))) from pg_tup rfl (pgs_cons (pg_name (i := 19) sc_law.nd rfl (.inl rfl)) (pgs_cons (pg_name (i := 20) sc_law.nd rfl (.inl rfl)) pgs_nil)))) (fun _ _ _ _ _ => (pts_one (pt_not (show PT _ _ (fun σ H Q => tVar 20 σ H fun x H' => ∃ k, TruV K x H' k ∧ Q k H') from pt_truth (pv 20) (by intro _; rfl))))) (fun _ _ _ _ _ => (pv 19))))
      (pss_cons (ps_set (i := 7) sc_law.nd rfl (.inl rfl) (pe_call (ok_law_take T) (hr5.mono (by decide)) (by rfl) T.g_law_take T.F_law_take.kp T.b_law_take .nil pass0 (pa_cons (pv 1) (pa_cons (pe_op op_add (pe_callB call_len_seq (by rfl) T.m_len (by decide +kernel) (pa_cons (pv 5) pa_nil)) pe_int) pa_nil))))
      (pss_cons (ps_set (i := 8) sc_law.nd rfl (.inl rfl) (pe_op op_catDL (pe_slice sl_listD (pv 5) (po_some (pv 7)) po_none) (pe_slice sl_listD (pv 5) po_none (po_some (pv 7)))))
      (Evl.pss_cut (ps_set (i := 8) sc_law.nd rfl (.inl rfl) (pe_ifExp (pt_cmpR op_eq (pe_call (ok_law_take T) (hr5.mono (by decide)) (by rfl) T.g_law_take T.F_law_take.kp T.b_law_take .nil pass0 (pa_cons (pv 1) (pa_cons pe_int pa_nil))) pe_int (nomark _)) (pe_lstRev rfl (by rfl) T.m_list (by rfl) T.m_reversed (pv 8)) (pv 8)))
      (Evl.pss_cut (ps_setLc (i := 9) rfl sc_law.nd rfl rfl (sw_true rfl rfl rfl (by decide +kernel)) (pi_seq (pv 8)) (blkOk_by (own := [("_law_pair", 19)]) (N := lawN) (sc := defScope s_law) (by decide +kernel)) (fun _ _ _ _ _ => (pg_name (i := 19) sc_law.nd rfl (.inl rfl))) (fun _ _ _ _ _ => pts_nil) (fun _ _ _ _ _ => (pe_ifExp (pt_cmpR op_eq (pe_op op_mod (pe_callTy call_int1 (by rfl) T.m_int (by decide +kernel) (pa_cons (pe_op op_add (pe_ix (show IxR _ (rIx K) from ix_seq) (pv 19) pe_int (fun _ _ => rfl)) (pe_ix (show IxR _ (rIx K) from ix_seq) (pv 19) pe_int (fun _ _ => rfl))) pa_nil)) pe_int) pe_int (nomark _)) (pe_callTy call_listD (by rfl) T.m_list (by decide +kernel) (pa_cons (pv 19) pa_nil)) (pv 19))))
      (pss_cons (ps_set (i := 10) sc_law.nd rfl (.inl rfl) (pe_callB (call_reprD rfl (hu65 hr5)) (by rfl) T.m_repr (by decide +kernel) (pa_cons (pv 9) pa_nil)))
      (pss_cons (ps_set (i := 11) sc_law.nd rfl (.inl rfl) (pe_make T.M_Picture (ok_Picture_init T) (hr5.mono (by decide)) (by rfl) T.g_Picture T.b_Picture_init .nil passL (pa_cons (pv 2) (pa_cons (pv 3) (pa_cons (pv 9) pa_nil)))))
      (pss_cons (ps_if (PW.pt (pw_or (pt_not (pt_val (pe_callB call_isi (by rfl) T.m_isinstance (by decide +kernel) (pa_cons (pe_fld (pv 11) rfl) (pa_cons (pe_bltn (v := .ty "tuple") (u := .type "tuple") (by rfl) T.m_tuple (by decide +kernel) rfl) pa_nil))))) (pw_or (pt_cmpR (op_neD hr5.units) (pe_fld (pv 11) rfl) (pe_callTy call_tupD (by rfl) T.m_tuple (by decide +kernel) (pa_cons (pv 5) pa_nil)) (nomark _)) (pw_or1 (pt_cmpR op_ne (pe_callB (call_lenOwn (ok_Picture_len T) (hr5.mono (by decide)) T.len_at T.len_fn T.b_Picture_len pass0) (by rfl) T.m_len (by decide +kernel) (pa_cons (pv 11) pa_nil)) (pe_callB call_len_seq (by rfl) T.m_len (by decide +kernel) (pa_cons (pv 5) pa_nil)) (nomark _))))))
        (pss_one (ps_ret pe_bl))
        pss_nil)
      (pss_cons (ps_if (PW.pt (pw_or (pt_cmpR op_ne (pe_fld (pv 11) rfl) (pv 2) (nomark _)) (pw_or (pt_cmpR op_ne (pe_fld (pv 11) rfl) (pv 3) (nomark _)) (pw_or1 (pt_cmpR op_ne (pe_callB (call_reprD rfl (hu65 hr5)) (by rfl) T.m_repr (by decide +kernel) (pa_cons (pv 9) pa_nil)) (pv 10) (nomark _))))))
        (pss_one (ps_ret pe_bl))
        pss_nil)
      (pss_cons (ps_set (i := 12) sc_law.nd rfl (.inl rfl) (pe_call (ok_law_pieces_due T) (hr5.mono (by decide)) (by rfl) T.g_law_pieces_due T.F_law_pieces_due.kp T.b_law_pieces_due .nil pass0 (pa_cons (pv 2) (pa_cons (pv 3) (pa_cons (pv 5) pa_nil)))))
      (pss_cons (ps_if (pt_cmpR (op_neD hr5.units) (pe_prop (pv 11) T.cl_Picture T.pr_pieces (ok_Picture_pieces T) (hr5.mono (by decide)) T.b_Picture_pieces .nil pass0 rfl) (pv 12) (nomark _))
        (pss_one (ps_ret pe_bl))
        pss_nil)
      (Evl.pss_cut (ps_set (i := 13) sc_law.nd rfl (.inl rfl) (pe_op op_catDL (pe_lc rfl sc_law.nd (pi_range1 (by rfl) T.m_range (pa_cons pe_int pa_nil)) (blkOk_by (own := [("_law_k", 21)]) (N := lawN) (sc := defScope s_law) (by decide +kernel)) (fun _ _ _ _ _ => (pg_name (i := 21) sc_law.nd rfl (.inl rfl))) (fun _ _ _ _ _ => pts_nil) (fun _ _ _ _ _ => (pe_call (ok_law_odd T) (hr5.mono (by decide)) (by rfl) T.g_law_odd T.F_law_odd.kp T.b_law_odd .nil pass0 (pa_cons (pv 1) (pa_cons (pv 2) (pa_cons (pv 3) pa_nil)))))) (pe_lc rfl sc_law.nd (pi_seq (pv 5)) (blkOk_by (own := [("_law_pair", 19)]) (N := lawN) (sc := defScope s_law) (by decide +kernel)) (fun _ _ _ _ _ => (pg_name (i := 19) sc_law.nd rfl (.inl rfl))) (fun _ _ _ _ _ => pts_nil) (fun _ _ _ _ _ => (pe_callTy call_listD (by rfl) T.m_list (by decide +kernel) (pa_cons (pv 19) pa_nil))))))
      (pss_cons (ps_if (pt_not (pt_val (pe_call (ok_law_pairs_asked T) (hr5.mono (by decide)) (by rfl) T.g_law_pairs_asked T.F_law_pairs_asked.kp T.b_law_pairs_asked .nil pass0 (pa_cons (pv 11) (pa_cons (pv 2) (pa_cons (pv 3) (pa_cons (pv 5) (pa_cons (pv 13) pa_nil))))))))
        (pss_one (ps_ret pe_bl))
        pss_nil)
      (pss_cons (ps_if (pt_not (pt_val (pe_call (ok_law_refusals T) (hr5.mono (by decide)) (by rfl) T.g_law_refusals T.F_law_refusals.kp T.b_law_refusals .nil pass0 (pa_cons (pv 1) (pa_cons (pv 2) (pa_cons (pv 3) (pa_cons (pv 9) pa_nil)))))))
        (pss_one (ps_ret pe_bl))
        pss_nil)
      (pss_cons (ps_set (i := 14) sc_law.nd rfl (.inl rfl) (pe_call (ok_full_picture T) (hr5.mono (by decide)) (by rfl) T.g_full_picture T.F_full_picture.kp T.b_full_picture .nil passL (pa_cons (pv 2) (pa_cons (pv 3) pa_nil))))
      (pss_cons (ps_if (PW.pt (pw_or (pt_cmpR (op_neD hr5.units) (pe_fld (pv 14) rfl) (pe_callTy call_tupD (by rfl) T.m_tuple (by decide +kernel) (pa_cons (pe_call (ok_law_full T) (hr5.mono (by decide)) (by rfl) T.g_law_full T.F_law_full.kp T.b_law_full .nil pass0 (pa_cons (pv 2) (pa_cons (pv 3) pa_nil))) pa_nil)) (nomark _)) (pw_or1 (pt_cmpR op_ne (pe_cmpR (op_eqOwn (ok_Picture_eq T) (hr5.mono (by decide)) T.eq_at T.eq_fn T.b_Picture_eq pass0) (pv 14) (pv 11) (nomark _)) (pe_cmpR op_eq (pe_callB call_len_seq (by rfl) T.m_len (by decide +kernel) (pa_cons (pv 5) pa_nil)) (pe_op op_mul (pv 2) (pv 3)) (nomark _)) (nomark _)))))
        (pss_one (ps_ret pe_bl))
        pss_nil)
      (Evl.pss_cut (ps_set (i := 15) sc_law.nd rfl (.inl rfl) (pe_ifExp (pt_cmpR op_lt (pv 2) pe_int (nomark _)) (pe_make T.M_Picture (ok_Picture_init T) (hr5.mono (by decide)) (by rfl) T.g_Picture T.b_Picture_init .nil passL (pa_cons (pe_op op_add (pv 2) pe_int) (pa_cons (pv 3) (pa_cons (pv 9) pa_nil)))) (pe_make T.M_Picture (ok_Picture_init T) (hr5.mono (by decide)) (by rfl) T.g_Picture T.b_Picture_init .nil passL (pa_cons (pe_op op_sub (pv 2) pe_int) (pa_cons (pv 3) (pa_cons (pe_lst pa_nil) pa_nil))))))
      (Evl.pss_cut (ps_set (i := 16) sc_law.nd rfl (.inl rfl) (pe_ifExp (pt_cmpR op_lt (pv 3) pe_int (nomark _)) (pe_make T.M_Picture (ok_Picture_init T) (hr5.mono (by decide)) (by rfl) T.g_Picture T.b_Picture_init .nil passL (pa_cons (pv 2) (pa_cons (pe_op op_add (pv 3) pe_int) (pa_cons (pv 9) pa_nil)))) (pe_make T.M_Picture (ok_Picture_init T) (hr5.mono (by decide)) (by rfl) T.g_Picture T.b_Picture_init .nil passL (pa_cons (pv 2) (pa_cons (pe_op op_sub (pv 3) pe_int) (pa_cons (pe_lst pa_nil) pa_nil))))))
      (pss_cons (ps_if (PW.pt (pw_or (pt_cmpR (op_eqOwn (ok_Picture_eq T) (hr5.mono (by decide)) T.eq_at T.eq_fn T.b_Picture_eq pass0) (pv 11) (pv 15) (nomark _)) (pw_or (pt_cmpR (op_eqOwn (ok_Picture_eq T) (hr5.mono (by decide)) T.eq_at T.eq_fn T.b_Picture_eq pass0) (pv 11) (pv 16) (nomark _)) (pw_or1 (pt_not (pt_cmpR (op_eqOwn (ok_Picture_eq T) (hr5.mono (by decide)) T.eq_at T.eq_fn T.b_Picture_eq pass0) (pv 11) (pe_make T.M_Picture (ok_Picture_init T) (hr5.mono (by decide)) (by rfl) T.g_Picture T.b_Picture_init .nil passL (pa_cons (pv 2) (pa_cons (pv 3) (pa_cons (pe_callTy call_tupD (by rfl) T.m_tuple (by decide +kernel) (pa_cons (pv 5) pa_nil)) pa_nil)))) (nomark _)))))))
        (pss_one (ps_ret pe_bl))
        pss_nil)
      (Evl.pss_cut (ps_if (PW.pt (pw_and (pt_truth (pv 5) (by intro _; rfl)) (pw_and1 (pt_cmpR op_lt (pe_callB call_len_seq (by rfl) T.m_len (by decide +kernel) (pa_cons (pv 5) pa_nil)) (pe_op op_mul (pv 2) (pv 3)) (nomark _)))))
        (pss_cons (ps_setLc (i := 17) rfl sc_law.nd rfl rfl (sw_true rfl rfl rfl (by decide +kernel)) (pi_list (pe_call (ok_law_full T) (hr5.mono (by decide)) (by rfl) T.g_law_full T.F_law_full.kp T.b_law_full .nil pass0 (pa_cons (pv 2) (pa_cons (pv 3) pa_nil)))) (blkOk_by (own := [("_law_pair", 19)]) (N := lawN) (sc := defScope s_law) (by decide +kernel)) (fun _ _ _ _ _ => (pg_name (i := 19) sc_law.nd rfl (.inl rfl))) (fun _ _ _ _ _ => (pts_one (pt_cmpR (show OpR _ (compareOp .NotIn) (rNotInD K) from op_notInD (hu65 hr5)) (pv 19) (pv 5) rfl))) (fun _ _ _ _ _ => (pv 19)))
        (pss_cons (ps_set (i := 18) sc_law.nd rfl (.inl rfl) (pe_make T.M_Picture (ok_Picture_init T) (hr5.mono (by decide)) (by rfl) T.g_Picture T.b_Picture_init .nil passL (pa_cons (pv 2) (pa_cons (pv 3) (pa_cons (pe_op op_catDL (pe_slice sl_listD (pv 5) (po_some pe_int) po_none) (pe_lst (pa_cons (pe_ix ix_list (pv 17) (pe_call (ok_law_take T) (hr5.mono (by decide)) (by rfl) T.g_law_take T.F_law_take.kp T.b_law_take .nil pass0 (pa_cons (pv 1) (pa_cons (pe_callB call_len_seq (by rfl) T.m_len (by decide +kernel) (pa_cons (pv 17) pa_nil)) pa_nil))) (fun _ _ => rfl)) pa_nil))) pa_nil)))))
        (pss_one (ps_if (PW.pt (pw_or (pt_cmpR (op_eqOwn (ok_Picture_eq T) (hr5.mono (by decide)) T.eq_at T.eq_fn T.b_Picture_eq pass0) (pv 11) (pv 18) (nomark _)) (pw_or1 (pt_cmpR (op_eqOwn (ok_Picture_eq T) (hr5.mono (by decide)) T.eq_at T.eq_fn T.b_Picture_eq pass0) (pv 18) (pv 11) (nomark _)))))
          (pss_one (ps_ret pe_bl))
          pss_nil))))
        pss_nil)
      (pss_cons (ps_expr (pe_bm PySem.F.plainAttrs_list PySem.F.slot_list_append PySem.F.type_list_append mt_append (pv 9) (pa_cons (pe_lst (pa_cons pe_int (pa_cons pe_int pa_nil))) pa_nil)))
      (pss_one (ps_ret (pe_and (pe_cmpR (op_eqD hr5.units) (pe_fld (pv 11) rfl) (pe_callTy call_tupD (by rfl) T.m_tuple (by decide +kernel) (pa_cons (pv 5) pa_nil)) (nomark _)) (pe_one (pe_cmpR (op_eqD hr5.units) (pe_prop (pv 11) T.cl_Picture T.pr_pieces (ok_Picture_pieces T) (hr5.mono (by decide)) T.b_Picture_pieces .nil pass0 rfl) (pv 12) (nomark _))))))))))))))))))))))))))))))))), ?_⟩
    refine ⟨_, rfl, sa, ns, rfl, hS, hl, fun H1 h s1 nh hd1 => ?_⟩
    refine ⟨_, rfl, h, 5, rfl, hd1, by decide, by decide, fun H2 r1 k2 hd2 a0 a1 => ⟨1, r1, rfl, rfl, ?_⟩⟩
    refine ⟨_, rfl, h, 5, rfl, hd2, by decide, by decide, fun H3 r2 k3 hd3 b0 b1 => ⟨1, r2, rfl, rfl, ?_⟩⟩
    refine ⟨_, rfl, h, 12, rfl, hd3, by decide, by decide, fun H4 r3 k4 hd4 c0 c1 => ⟨rfl, ?_⟩⟩
    refine ⟨_, rfl, _, rfl, 1 + r1, 1 + r2, rfl, by omega, by omega, by omega, by omega, fun l5 H5 s5 n5 q5 => ?_⟩
    have hfull : (fullPs (1 + r1).toNat (1 + r2).toNat).length ≤ 25 := by
      rw [fullPs_len]
      exact Nat.le_trans (Nat.mul_le_mul (by omega : (1 + r1).toNat ≤ 5) (by omega : (1 + r2).toNat ≤ 5)) (by decide)
    cases q5 with
    | lst e5 x5 =>
      rename_i xs5
      refine ⟨l5, rfl, ⟨_, SqL.of e5⟩, fun D5 nD5 => ?_⟩
      have hd5 := hd4.same s5
      refine lc_listD (fun _ => !decide (V.int r3 = V.int 0)) id (SqL.of e5) x5 nD5 (by rw [List.length_map]; omega) (fun _ => rfl) (fun i x d H' Q2 hd' s' kd' q2 => ?_) (fun i x d H' Q2 hd' _ s' kd' hDl q2 => ?_) (fun H6 s6 k6 => ?_)
      · exact ⟨_, rfl, _, rfl, q2 _ (fun _ _ z => z)⟩
      · rw [List.getElem?_map] at hd'
        obtain ⟨q', hq', rfl⟩ := Option.map_eq_some_iff.mp hd'
        obtain ⟨acc, hDa⟩ := hDl
        exact ⟨_, rfl, q2 _ _ (fun _ _ z => z) (dq_noL hDa _ (noList_pr _) kd')⟩
      obtain ⟨ps0, eps0, asc0, ins0, len0⟩ : ∃ ps0 : List (Int × Int), (((fullPs (1 + r1).toNat (1 + r2).toNat).map prD).filter fun _ => !decide (V.int r3 = V.int 0)).map id = ps0.map prD ∧ Asc ps0 ∧ Ins (1 + r1) (1 + r2) ps0 ∧ ps0.length ≤ 25 := by
        by_cases c : (!decide (V.int r3 = V.int 0)) = true
        · refine ⟨fullPs (1 + r1).toNat (1 + r2).toNat, ?_, fullPs_asc _ _, fullPs_ins (by omega) (by omega), hfull⟩
          rw [List.filter_eq_self.mpr fun _ _ => c, List.map_id]
        · refine ⟨[], ?_, .nil, (fun _ m => nomatch m), by simp⟩
          rw [List.filter_eq_nil_iff.mpr fun _ _ => c]
          rfl
      rw [eps0] at k6
      have hd6 := hd5.same s6
      have L6 : LD H6 h D5 (ps0.map prD) := LD.new hd5 nD5 k6 (noHand_pr _)
      obtain ⟨ys, hy, hyn, hyx, _⟩ := id L6
      refine ⟨_, rfl, D5, rfl, ⟨_, SqL.of hy⟩, fun D6 nD6 => ?_⟩
      have n6 := hand_ne hd6 nD6
      refine lc_list (xs := ys) (fun i G => Keep h H6 G ∧ Hand G h ∧ ∃ bs : List Bool, bs.length = i ∧ G D6 = some (.lst (bs.map V.bl))) ⟨Keep.of (same_new nD6), hd6.same (same_new nD6), [], rfl, upd_same⟩ (fun i G _ hP => SqL.of (hP.1 _ _ hyn hy)) (fun i x G hx hP => ?_) (fun G hP => ?_)
      · obtain ⟨kG, hdG, bs, eb, hb⟩ := hP
        have hil : i < ys.length := (List.getElem?_eq_some_iff.mp hx).1
        rw [hyx.len, List.length_map] at hil
        refine ⟨rfl, _, rfl, h, 4, rfl, hdG, by decide, by decide, fun G2 r kk hdd r0 r1' => ⟨rfl, _, kk _ _ n6 hb, ?_, (kG.trans kk).putD hd6 nD6, hd6.putD nD6 (kG.trans kk) hdd, bs ++ [decide (V.int r = V.int 0)], ?_, ?_⟩⟩
        · rw [List.length_map, eb]
          exact small1000 (by omega)
        · rw [List.length_append, eb]
          rfl
        · rw [upd_same, List.map_append]
          rfl
      obtain ⟨kG, hdG, bs, eb, hb⟩ := hP
      have LG := L6.keep hd6 kG
      obtain ⟨zs, hz, hzn, hzx, _⟩ := id LG
      have ezy : zs.length = bs.length := by rw [hzx.len, eb, hyx.len]
      refine ⟨_, rfl, _, rfl, false, false, D5, D6, zs, bs.map V.bl, rfl, SqL.of hz, SqL.of hb, fun D7 nD7 => ?_⟩

      refine lc_zipS (xs := zs) (ys := bs.map V.bl) (by rw [List.length_map]; exact ezy) (fun i G' => Same G G' ∧ ∃ ws qs, qs.Sublist (ps0.take i) ∧ G' D7 = some (.lst ws) ∧ DqAll (TkS.Off D7 G') ws (qs.map prD)) ⟨same_new nD7, [], [], List.Sublist.refl _, upd_same, .nil⟩
        (fun i G' hP => ⟨SqL.of (hP.1 _ _ hz), SqL.of (hP.1 _ _ hb)⟩) (fun i x y Z G' hx hy hP nZ => ?_) (fun G' hP => ?_)
      · obtain ⟨sG, ws, qs, hsub, hw7, hq7⟩ := hP
        obtain ⟨d, hd', kd'⟩ := hzx.get hx
        rw [List.getElem?_map] at hd' hy
        obtain ⟨p', hp', rfl⟩ := Option.map_eq_some_iff.mp hd'
        obtain ⟨b', hb', rfl⟩ := Option.map_eq_some_iff.mp hy
        have sZ := same_new (o := .tup [x, .bl b']) nZ
        have lw := hq7.len
        rw [List.length_map] at lw
        have lsub := hsub.length_le
        rw [List.length_take] at lsub
        refine ⟨Z, _, rfl, SqT.of upd_same, rfl, _, _, rfl, _, _, rfl, rfl, rfl, _, rfl, _, rfl, ?_⟩
        have esub : (ps0.take (i + 1)) = ps0.take i ++ [p'] := by
          rw [List.take_add_one, hp']
          rfl
        cases b' with
        | false =>
          refine iteT ⟨_, rfl, ws, sZ _ _ hw7, small1000 (by omega), fun c o e => ?_, ws ++ [x], qs ++ [p'], ?_, upd_same, ?_⟩
          · rw [upd_ne (ne_of_none e nD7)]
            exact sZ _ _ (sG _ _ e)
          · rw [esub]
            exact hsub.append (List.Sublist.refl _)
          · rw [off_put, List.map_append]
            exact (DqAll.same (off_of sZ) _ hq7).snoc (dq_noL (sZ _ _ hw7) _ (noList_pr _) ((kd'.same sG).same sZ))
        | true =>
          refine iteF ⟨sG.trans sZ, ws, qs, ?_, sZ _ _ hw7, DqAll.same (off_of sZ) _ hq7⟩
          rw [esub]
          exact hsub.trans (List.sublist_append_left _ _)
      obtain ⟨sG, ws, ps, hsub, hw7, hq7⟩ := hP
      rw [hzx.len, List.length_map, List.take_length] at hsub
      have asc : Asc ps := List.Pairwise.sublist hsub asc0
      have ins : Ins (1 + r1) (1 + r2) ps := fun p m => ins0 p (hsub.subset m)
      have len : ps.length ≤ 25 := Nat.le_trans hsub.length_le len0
      have hdg := hdG.same sG
      have L7 : LD G' h D7 (ps.map prD) := LD.new hdG nD7 (.lst hw7 (DqAll.same (off_same (h := D7)) _ hq7)) (noHand_pr _)
      have lws : ws.length = ps.length := by rw [hq7.len, List.length_map]
      clear hsub hq7 hzx LG hz hb hyx L6 k6 hy eps0 x5 e5
      refine ⟨_, rfl, _, rfl, D7, ws, rfl, .inl (SqL.of hw7), _, _, rfl, rfl, h, _, rfl, hdg, by omega, by rw [lws]; omega, fun H8 r4 k8 hd8 t0 t1 => ?_⟩
      have L8 := L7.keep hdg k8
      rw [lws] at t1
      refine ⟨_, rfl, _, rfl, r4, rfl, _, L8.dq, fun l8 H9 s9 n9 q9 => ⟨_, rfl, _, rfl, r4, rfl, _, (L8.same s9).dq, fun l9 H10 s10 n10 q10 => ?_⟩⟩
      have e4 : ((r4.toNat : Nat) : Int) = r4 := by omega
      rw [← e4, cutD_lo] at q9
      rw [← e4, cutD_hi] at q10
      refine ⟨_, _, q9.same s10, q10, by simp; omega, fun l10 H11 s11 n11 q11 => ?_⟩
      have eas : (ps.map prD).drop r4.toNat ++ (ps.map prD).take r4.toNat = (ps.drop r4.toNat ++ ps.take r4.toNat).map prD := by
        rw [← List.map_drop, ← List.map_take, ← List.map_append]
      rw [eas] at q11
      have pas : (ps.drop r4.toNat ++ ps.take r4.toNat).Perm ps := by
        have := List.perm_append_comm (l₁ := ps.drop r4.toNat) (l₂ := ps.take r4.toNat)
        rw [List.take_append_drop] at this
        exact this
      generalize ps.drop r4.toNat ++ ps.take r4.toNat = as at q11 pas
      have sM := (s9.trans s10).trans s11
      have hd11 := hd8.same sM
      have L11 := L8.same sM
      have A11 : LD H11 h l10 (as.map prD) := LD.new (hd8.same (s9.trans s10)) n11 q11 (noHand_pr _)
      clear eas q9 q10 q11
      refine ⟨fun σ' G1 => ∃ (la : Addr) (as : List (Int × Int)), σ' = [some (.ref sa), some (.ref h), some (.int (1 + r1)), some (.int (1 + r2)), some (.bl (decide (V.int r3 = V.int 0))), some (.ref D7), some (.ref D6), some (.int r4), some (.ref la), none, none, none, none, none, none, none, none, none, none, none, none, none] ∧ Hand G1 h ∧ LD G1 h D7 (ps.map prD) ∧ LD G1 h la (as.map prD) ∧ as.Perm ps, ?_, fun σ' G1 hM => ?_⟩
      · refine ⟨_, rfl, h, 2, rfl, hd11, by decide, by decide, fun H12 r5 k12 hd12 _ _ => ⟨rfl, _, rfl, ite2 (fun _ => ?_) (fun _ => ?_)⟩⟩
        · have A12 := A11.keep hd11 k12
          obtain ⟨xs, hxs, _, hxx, _⟩ := id A12
          refine ⟨_, rfl, l10, xs, rfl, SqL.of hxs, fun q' nq => ⟨q', as.reverse, rfl, hd12.same (same_new nq), (L11.keep hd11 k12).same (same_new nq), LD.new hd12 nq ?_ (noHand_pr _), (List.reverse_perm as).trans pas⟩⟩
          rw [List.map_reverse]
          exact .lst upd_same (DqAll.same (same_new nq) _ hxx.rev)
        · exact ⟨_, rfl, l10, as, rfl, hd12, L11.keep hd11 k12, A11.keep hd11 k12, pas⟩
      obtain ⟨la, as, rfl, hdM, LM, AM, pas⟩ := hM
      refine ⟨fun σ' G2 => ∃ (lg : Addr) (gs : List PyData), σ' = [some (.ref sa), some (.ref h), some (.int (1 + r1)), some (.int (1 + r2)), some (.bl (decide (V.int r3 = V.int 0))), some (.ref D7), some (.ref D6), some (.int r4), some (.ref la), some (.ref lg), none, none, none, none, none, none, none, none, none, none, none, none] ∧ Facts G2 h D7 lg (1 + r1) (1 + r2) ps gs ∧ Pure (1 + r1) (1 + r2) ps gs ∧ D7 ≠ lg, ?_, fun σ' G2 hM => ?_⟩
      · obtain ⟨xs, hxs, _, hxx, _⟩ := id AM
        have lx : as.length = ps.length := pas.length_eq
        refine lc_seqD (a := la) (ds := as.map prD) (j := 19) (fun _ => true) givD (fun Q2 z => ⟨_, rfl, z⟩) (.inl (SqL.of hxs)) hxx (by rw [List.length_map]; omega) (fun _ => rfl)
          (fun i x d H' Q2 _ _ _ q2 => q2 _ (fun _ _ z => z)) (fun D i x d H' Q2 nD hd' _ s' kd' hDl q2 => ?_) (fun D H' nD s' kD => ?_)
        · rw [List.getElem?_map] at hd'
          obtain ⟨p', hp', rfl⟩ := Option.map_eq_some_iff.mp hd'
          obtain ⟨acc, hDa⟩ := hDl
          obtain ⟨px, rfl, ix⟩ := ix_two (K := K) kd' (show itemsD (prD p') = some [.int p'.1, .int p'.2] from rfl)
          refine ⟨_, rfl, (ix _).1 ⟨_, rfl, (ix _).2 ⟨_, _, rfl, rfl, .inl ⟨_, rfl, _, _, rfl, rfl, (by show (0 : Int) < _; decide), rfl, _, rfl, ?_⟩⟩⟩⟩
          have eI : decide ((fun (i j : Int) => V.int (i % j)) (p'.1 + p'.2) 2 = V.int 0) = decide ((p'.1 + p'.2) % 2 = 0) := int_dec
          rw [eI]
          by_cases c : (p'.1 + p'.2) % 2 = 0
          · rw [decide_eq_true c]
            refine iteT ⟨_, rfl, _, _, _, rfl, kd', rfl, fun l H2 s2 nl kl => q2 _ _ s2 ?_⟩
            have eg : givD (prD p') = .list [.int p'.1, .int p'.2] := by
              unfold givD
              rw [prOf_prD, if_pos c]
            rw [eg]
            cases kl with
            | lst e1 e2 => exact .lst (off_at (ne_of_none hDa nl).symm e1) (two_ints e2).2
          · rw [decide_eq_false c]
            refine iteF ⟨_, rfl, q2 _ _ (fun _ _ z => z) ?_⟩
            have eg : givD (prD p') = prD p' := by
              unfold givD
              rw [prOf_prD, if_neg c]
            rw [eg]
            exact dq_noL hDa _ (noList_pr _) kd'
        · rw [giv_list] at kD
          refine ⟨D, _, rfl, ⟨hdM.same s', LM.same s', LD.new hdM nD kD (noHands_all.mpr fun d m => ?_)⟩, ⟨⟨by omega, by omega, by omega, by omega⟩, asc, ins, len, ?_, fun d m => ?_⟩, ne_of_none LM.choose_spec.1 nD⟩
          · obtain ⟨p', _, rfl⟩ := List.mem_map.mp m
            exact (giv_pr p').2.1
          · rw [List.map_map]
            have : (as.map (prOf ∘ fun p => givD (prD p))) = as := (List.map_congr_left fun p _ => (giv_pr p).1).trans (List.map_id _)
            rw [this]
            exact pas
          · obtain ⟨p', mp', rfl⟩ := List.mem_map.mp m
            rw [(giv_pr p').2.2]
            exact isPair_prD.mpr (ins p' (pas.mem_iff.mp mp'))
      obtain ⟨lg, gs, rfl, F, pu, nlg⟩ := hM
      clear AM LM hdM pas asc ins len
      generalize 1 + r1 = P' at F pu ⊢
      generalize 1 + r2 = W at F pu ⊢
      obtain ⟨p1, p2, w1, w2⟩ := pu.ok
      obtain ⟨wgs, sgs, lgs⟩ := word_gs pu
      obtain ⟨v1, v2, v3, v4⟩ := shown_pairs (ds := gs) (fun d m => small_of p2 w2 (pu.prs d m)) (by omega)
      refine ⟨_, rfl, lg, .list gs, rfl, F.g.dq.dp, v1, v2, v3, v4, ?_⟩
      refine ⟨_, rfl, _, rfl, _, rfl, mk_pic (.int _) (.int _) F.g.dq (fun ds e => by cases e; omega) (fun e he => by rw [wgs] at he; cases he) (fun P2 W2 ds e1 e2 e3 _ G3 pa s3 npa pic => ?_)⟩
      cases e1
      cases e2
      cases e3
      rw [sgs] at pic
      have F3 := F.same s3
      obtain ⟨dx, pt, pv', pxs, ha, hf, hx, hv⟩ := pic.at_
      obtain ⟨xs7, h7, _, x7, _⟩ := id F3.lp
      have l7 : xs7.length = ps.length := by rw [x7.len, List.length_map]
      -- its pairs, its length
      refine ⟨_, rfl, pa, T.C_Picture, dx, _, _, rfl, ha, T.cl_Picture, T.na_pairs, rfl, _, .ty "tuple", .type "tuple", _, true, rfl, .ty _, hf.ty, kit_ty (show kitB "tuple" "tuple" = some true by decide +kernel), _, rfl, iteF ?_⟩
      refine ⟨_, rfl, pa, T.C_Picture, dx, _, _, rfl, ha, T.cl_Picture, T.na_pairs, rfl, _, rfl, .ref D7, .list (ps.map prD), _, rfl, F3.lp.dq, rfl, fun lt G4 s4 k4 => ?_⟩
      refine ne_same ((hf.same s4).dp (DqAll.same s4 _ hx)) k4.dp (shaped_prs _) ⟨_, rfl, iteF ?_⟩
      refine ⟨_, rfl, pa, dx, _, ps.length, rfl, s4 _ _ ha, by have := pu.len; omega, pa, P', W, ps, rfl, pic.same s4, fun G5 s5 => ⟨rfl, _, rfl, D7, xs7, rfl, .inl (SqL.of (s5 _ _ (s4 _ _ h7))), rfl, _, rfl, ?_⟩⟩
      rw [l7, decide_eq_true rfl]
      refine iteF ?_
      have s45 := s4.trans s5
      have ha5 := s45 _ _ ha
      refine ⟨_, rfl, pa, T.C_Picture, dx, _, _, rfl, ha5, T.cl_Picture, T.na_points, rfl, _, rfl, rfl, _, rfl, ?_⟩
      rw [decide_eq_true rfl]
      refine iteF ⟨_, rfl, pa, T.C_Picture, dx, _, _, rfl, ha5, T.cl_Picture, T.na_walls, rfl, _, rfl, rfl, _, rfl, ?_⟩
      rw [decide_eq_true rfl]
      refine iteF ⟨_, rfl, lg, .list gs, rfl, (F3.same s45).g.dq.dp, v1, v2, v3, v4, _, rfl, rfl, _, rfl, ?_⟩
      rw [decide_eq_true rfl]
      refine iteF ?_
      -- the pieces
      have F5 := F3.same s45
      refine ⟨_, rfl, _, rfl, _, rfl, P', W, D7, ps, rfl, by omega, by omega, by omega, by omega, F5.lp.dq, pu.ins, fun G6 v12 s6 k12 => ?_⟩
      have pic6 := (pic.same s45).same s6
      have F6 := F5.same s6
      obtain ⟨ex, et, ev, exs, ha6, _⟩ := pic6.at_
      refine ⟨_, rfl, pa, ex, _, rfl, ha6, pa, P', W, ps, rfl, pic6, fun vv kv => ⟨_, rfl, ne_same kv.dp k12.dp (shaped_pieces _ _) ⟨_, rfl, iteF ?_⟩⟩⟩
      refine ⟨fun σ' G => ∃ (lt : Addr) (ts : List PyData), σ' = [some (.ref sa), some (.ref h), some (.int P'), some (.int W), some (.bl (decide (V.int r3 = V.int 0))), some (.ref D7), some (.ref D6), some (.int r4), some (.ref la), some (.ref lg), some (.str (PyData.list gs).shown), some (.ref pa), some v12, some (.ref lt), none, none, none, none, none, none, none, none] ∧ Facts G h D7 lg P' W ps gs ∧ Pic T.C_Picture G pa P' W ps ∧ Dq G v12 (.tuple (piecesD P' (marks P' W ps))) ∧ Dq G (.ref lt) (.list ts) ∧ ts.length ≤ 40 ∧ ∀ t ∈ ts, okT t, ?_, fun σ' G hM => ?_⟩
      · refine ⟨3, rfl, by decide, by decide, fun D nD => ?_⟩
        have hd6 := F6.hand
        have nh := hand_ne hd6 nD
        refine lc_range (lo := 0) (n := (3 : Int).toNat) (fun i G => Keep h G6 G ∧ Hand G h ∧ ∃ xs ds, G D = some (.lst xs) ∧ DqAll (TkS.Off D G) xs ds ∧ ds.length = i ∧ noHands ds = true ∧ ∀ d ∈ ds, okT d)
          ⟨Keep.of (same_new nD), hd6.same (same_new nD), [], [], upd_same, .nil, rfl, rfl, fun _ m => (nomatch m)⟩ (fun i G hi hP => ?_) (fun G hP => ?_)
        · obtain ⟨kG, hdG, xs, ds, hD, hx', hl', hn, hok⟩ := hP
          refine ⟨rfl, _, rfl, _, rfl, _, rfl, h, P', W, rfl, hdG, fun G2 v d k2 hd2 om _ kr => ?_⟩
          have hD2 := k2 _ _ nh hD
          obtain ⟨c, cells, cp, cr, ct', ce, _⟩ := hdG.ex
          have hx2 : DqAll (TkS.Off D G2) xs ds := dqs_hand (off_at (Ne.symm nh) ce) (fun b o n e => off_at (fun z => by
            unfold TkS.Off at e
            rw [if_pos z] at e
            cases e) (k2 b o n (off_same b o e))) ds hn hx'
          have lx := hx'.len
          have hi' : i < 3 := hi
          refine ⟨xs, hD2, small1000 (by omega), (kG.trans k2).putD hd6 nD, hd6.putD nD (kG.trans k2) hd2, xs ++ [v], ds ++ [d], upd_same, ?_, by rw [List.length_append, hl']; rfl, noHands_app hn (by show (noHand d && true) = true; rw [odds_nh om]; rfl), fun d' m => ?_⟩
          · rw [off_put]
            exact hx2.snoc (kr.same (rem_off hD))
          · rcases List.mem_append.mp m with m | m
            · exact hok d' m
            · rw [List.mem_singleton.mp m]
              exact okT_odds om
        obtain ⟨kG, hdG, xs, ds, hD, hx', hl', hn, hok⟩ := hP
        have FG := F6.keep kG hdG
        have LD' : LD G h D ds := ⟨xs, hD, nh, DqAll.same (off_same (h := D)) _ hx', hn⟩
        obtain ⟨zs, hz, _, hzx, _⟩ := id FG.lp
        refine lc_seqD (a := D7) (ds := ps.map prD) (j := 19) (fun _ => true) (fun d => .list [.int (prOf d).1, .int (prOf d).2]) (fun Q2 z => ⟨_, rfl, z⟩) (.inl (SqL.of hz)) hzx (by rw [List.length_map]; have := pu.len; omega) (fun _ => rfl)
          (fun i x d H' Q2 _ _ _ q2 => q2 _ (fun _ _ z => z)) (fun D' i x d H' Q2 nD' hd' _ s' kd' hDl q2 => ?_) (fun D' H' nD' s' kD => ?_)
        · rw [List.getElem?_map] at hd'
          obtain ⟨p', hp', rfl⟩ := Option.map_eq_some_iff.mp hd'
          obtain ⟨acc, hDa⟩ := hDl
          refine ⟨_, rfl, _, _, _, rfl, kd', rfl, fun l H2 s2 nl kl => q2 _ _ s2 ?_⟩
          cases kl with
          | lst e1 e2 => exact .lst (off_at (ne_of_none hDa nl).symm e1) (two_ints e2).2
        · have e9 : ((ps.map prD).filter fun _ => true).map (fun d => PyData.list [.int (prOf d).1, .int (prOf d).2]) = ps.map fun p => .list [.int p.1, .int p.2] := by
            rw [List.filter_eq_self.mpr fun _ _ => rfl, List.map_map]
            rfl
          rw [e9] at kD
          have lps := pu.len
          have hl3 : ds.length = 3 := hl'
          refine ⟨ds, _, (LD'.same s').dq, kD, by rw [List.length_map]; omega, fun l5 H5 s5' n5' k5' => ⟨l5, _, rfl, (FG.same s').same s5', ((pic_keep pic6 hd6 kG (noHand_pieces _ _)).same s').same s5', ((dq_keep hd6 kG (noHand_pieces _ _) k12).same s').same s5', k5', by rw [List.length_append, List.length_map]; omega, fun t m => ?_⟩⟩
          rcases List.mem_append.mp m with m | m
          · exact hok t m
          · obtain ⟨p', _, rfl⟩ := List.mem_map.mp m
            exact okT_pl p'
      obtain ⟨lt3, ts, rfl, FM, picM, k12M, ktM, lts, hts⟩ := hM
      clear F3 F5 F6 pic6 pic ha ha5 ha6 hf hx hv x7 h7 k12 k4
      refine ⟨_, rfl, _, rfl, _, rfl, _, rfl, _, rfl, pa, D7, lt3, P', W, ps, ts, rfl, picM, FM.lp.dq, pu.len, ktM, lts, hts, fun G7 s7 => ⟨_, rfl, iteF ?_⟩⟩
      have F7 := FM.same s7
      refine ⟨_, rfl, _, rfl, _, rfl, _, rfl, h, lg, P', W, gs, rfl, F7.hand, F7.g, lgs, pu.prs, fun G8 k8 hd8 => ⟨_, rfl, iteF ?_⟩⟩
      have F8 := F7.keep k8 hd8
      have pic8 := pic_keep (picM.same s7) F7.hand k8 (noHand_pieces _ _)
      have k128 := dq_keep F7.hand k8 (noHand_pieces _ _) (k12M.same s7)
      clear FM picM k12M ktM F7
      have wempty : wordD (.int P') (.int W) (.tuple []) = none := word_none (ps := []) pu.ok (fun _ m => nomatch m) .nil rfl
      refine ⟨_, rfl, _, rfl, .int P', .int W, .int P', .int W, rfl, .int _, .int _, fun e he => (by rw [wempty] at he; cases he), fun P2 W2 e1 e2 _ y G9 s9 picF => ?_⟩
      cases e1
      cases e2
      have F9 := F8.same s9
      have pic9 := pic8.same s9
      have k129 := k128.same s9
      obtain ⟨fx, ft, fv, fxs, hy, hfy, hxy, _⟩ := picF.at_
      refine ⟨_, rfl, y, T.C_Picture, fx, _, _, rfl, hy, T.cl_Picture, T.na_pairs, rfl, _, rfl, _, rfl, P', W, rfl, by omega, by omega, by omega, by omega, fun l10 G10 s10 n10 k10 => ?_⟩
      refine ⟨_, _, _, rfl, k10, rfl, fun l11 G11 s11 k11 => ?_⟩
      have s1011 := s10.trans s11
      refine ne_same ((hfy.same s1011).dp (DqAll.same s1011 _ hxy)) k11.dp (shaped_prs _) ⟨_, rfl, iteF ?_⟩
      have picF11 := picF.same s1011
      have pic11 := pic9.same s1011
      obtain ⟨gx1, gt1, gv1, gxs1, hg1, _⟩ := picF11.at_
      obtain ⟨gx2, gt2, gv2, gxs2, hg2, _⟩ := pic11.at_
      have F11 := F9.same s1011
      refine ⟨_, rfl, _, rfl, y, pa, gx1, gx2, _, _, rfl, rfl, hg1, hg2, y, pa, P', W, fullPs P'.toNat W.toNat, P', W, ps, rfl, picF11, pic11, fun G12 s12 => ⟨⟨_, rfl⟩, ?_⟩⟩
      have F12 := F11.same s12
      have pic12 := pic11.same s12
      have k1212 := (k129.same s1011).same s12
      obtain ⟨xs7, h7, _, x7, _⟩ := id F12.lp
      have l7 : xs7.length = ps.length := by rw [x7.len, List.length_map]
      refine ⟨_, rfl, D7, xs7, rfl, .inl (SqL.of h7), _, rfl, _, rfl, P', W, rfl, rfl, .inl ⟨by omega, by omega⟩, rfl, rfl, _, rfl, ?_⟩
      have eqb : decide (P' = P' ∧ W = W ∧ fullPs P'.toNat W.toNat = ps) = decide (V.int (xs7.length : Int) = V.int (P' * W)) := by
        rw [int_dec, l7]
        exact decide_eq_decide.mpr ⟨fun z => (full_iff pu).mp z.2.2, fun z => ⟨rfl, rfl, (full_iff pu).mpr z⟩⟩
      rw [show decide (V.bl (decide (P' = P' ∧ W = W ∧ fullPs P'.toNat W.toNat = ps)) = V.bl (decide (V.int (xs7.length : Int) = V.int (P' * W)))) = true from decide_eq_true (by rw [eqb])]
      refine iteF ?_
      clear F8 F9 F11 pic8 pic9 pic11 picF picF11 k128 k129 hy hfy hxy hg1 hg2 k10 k11
      have lps := pu.len
      refine ⟨fun σ' G => ∃ (m : Addr) (Pm Wm : Int) (psm : List (Int × Int)), σ' = [some (.ref sa), some (.ref h), some (.int P'), some (.int W), some (.bl (decide (V.int r3 = V.int 0))), some (.ref D7), some (.ref D6), some (.int r4), some (.ref la), some (.ref lg), some (.str (PyData.list gs).shown), some (.ref pa), some v12, some (.ref lt3), some (.ref y), some (.ref m), none, none, none, none, none, none] ∧ Facts G h D7 lg P' W ps gs ∧ Pic T.C_Picture G pa P' W ps ∧ Dq G v12 (.tuple (piecesD P' (marks P' W ps))) ∧ Pic T.C_Picture G m Pm Wm psm ∧ Pm ≠ P', ?_, fun σ' G hM => ?_⟩
      · refine ⟨_, rfl, P', 5, rfl, rfl, _, rfl, ite2 (fun c => ?_) (fun c => ?_)⟩
        · have c' : P' < 5 := of_decide_eq_true c
          have pu2 := pure_up (P2 := P' + 1) (W2 := W) pu (by omega) (by omega) (by omega) (by omega)
          refine ⟨_, rfl, P', 1, rfl, rfl, _, rfl, _, rfl, mk_pic (.int (P' + 1)) (.int W) F12.g.dq (fun ds e => by cases e; omega) (fun e he => by rw [(word_gs pu2).1] at he; cases he) (fun P2 W2 ds e1 e2 e3 _ H' m s' nm hp => ?_)⟩
          cases e1
          exact ⟨m, _, _, _, rfl, F12.same s', pic12.same s', k1212.same s', hp, by omega⟩
        · have c' : ¬ P' < 5 := fun z => c (decide_eq_true z)
          refine ⟨_, rfl, P', 1, rfl, rfl, _, rfl, (by show 0 ≤ sizeLine; decide), fun u nu => ?_⟩
          have su := same_new (o := .lst []) nu
          have we : wordD (.int (P' - 1)) (.int W) (.list []) = none := word_none (ps := []) ⟨by omega, by omega, w1, w2⟩ (fun _ m => nomatch m) .nil rfl
          refine mk_pic (.int (P' - 1)) (.int W) (.lst upd_same .nil) (fun ds e => by cases e; simp) (fun e he => by rw [we] at he; cases he) (fun P2 W2 ds e1 e2 e3 _ H' m s' nm hp => ?_)
          cases e1
          exact ⟨m, _, _, _, rfl, (F12.same su).same s', (pic12.same su).same s', (k1212.same su).same s', hp, by omega⟩
      obtain ⟨m1, Pm, Wm, psm, rfl, F13, pic13, k13, picm, nem⟩ := hM
      clear F12 pic12 k1212 x7 h7 l7 eqb
      refine ⟨fun σ' G => ∃ (m : Addr) (Pn Wn : Int) (psn : List (Int × Int)), σ' = [some (.ref sa), some (.ref h), some (.int P'), some (.int W), some (.bl (decide (V.int r3 = V.int 0))), some (.ref D7), some (.ref D6), some (.int r4), some (.ref la), some (.ref lg), some (.str (PyData.list gs).shown), some (.ref pa), some v12, some (.ref lt3), some (.ref y), some (.ref m1), some (.ref m), none, none, none, none, none] ∧ Facts G h D7 lg P' W ps gs ∧ Pic T.C_Picture G pa P' W ps ∧ Dq G v12 (.tuple (piecesD P' (marks P' W ps))) ∧ Pic T.C_Picture G m1 Pm Wm psm ∧ Pic T.C_Picture G m Pn Wn psn ∧ Wn ≠ W, ?_, fun σ' G hM => ?_⟩
      · refine ⟨_, rfl, W, 5, rfl, rfl, _, rfl, ite2 (fun c => ?_) (fun c => ?_)⟩
        · have c' : W < 5 := of_decide_eq_true c
          have pu2 := pure_up (P2 := P') (W2 := W + 1) pu (by omega) (by omega) (by omega) (by omega)
          refine ⟨_, rfl, _, rfl, W, 1, rfl, rfl, _, rfl, mk_pic (.int P') (.int (W + 1)) F13.g.dq (fun ds e => by cases e; omega) (fun e he => by rw [(word_gs pu2).1] at he; cases he) (fun P2 W2 ds e1 e2 e3 _ H' m s' nm hp => ?_)⟩
          cases e2
          exact ⟨m, _, _, _, rfl, F13.same s', pic13.same s', k13.same s', picm.same s', hp, by omega⟩
        · have c' : ¬ W < 5 := fun z => c (decide_eq_true z)
          refine ⟨_, rfl, _, rfl, W, 1, rfl, rfl, (by show 0 ≤ sizeLine; decide), fun u nu => ?_⟩
          have su := same_new (o := .lst []) nu
          have we : wordD (.int P') (.int (W - 1)) (.list []) = none := word_none (ps := []) ⟨p1, p2, by omega, by omega⟩ (fun _ m => nomatch m) .nil rfl
          refine mk_pic (.int P') (.int (W - 1)) (.lst upd_same .nil) (fun ds e => by cases e; simp) (fun e he => by rw [we] at he; cases he) (fun P2 W2 ds e1 e2 e3 _ H' m s' nm hp => ?_)
          cases e2
          exact ⟨m, _, _, _, rfl, (F13.same su).same s', (pic13.same su).same s', (k13.same su).same s', (picm.same su).same s', hp, by omega⟩
      obtain ⟨m2, Pn, Wn, psn, rfl, F14, pic14, k14, picm14, picn, nen⟩ := hM
      clear F13 pic13 k13 picm
      -- unlike pictures, an equal one
      obtain ⟨z1, z2, z3, z4, hz1, _⟩ := pic14.at_
      obtain ⟨z5, z6, z7, z8, hz2, _⟩ := picm14.at_
      refine ⟨_, rfl, _, rfl, pa, m1, z1, z5, _, _, rfl, rfl, hz1, hz2, pa, m1, P', W, ps, Pm, Wm, psm, rfl, pic14, picm14, fun G15 s15 => ⟨⟨_, rfl⟩, _, rfl, ?_⟩⟩
      rw [show decide (P' = Pm ∧ W = Wm ∧ ps = psm) = false from decide_eq_false fun z => nem z.1.symm]
      have pic15 := pic14.same s15
      have picn15 := picn.same s15
      obtain ⟨z9, z10, z11, z12, hz3, _⟩ := picn15.at_
      refine iteF ⟨_, rfl, _, rfl, pa, m2, z1, z9, _, _, rfl, rfl, s15 _ _ hz1, hz3, pa, m2, P', W, ps, Pn, Wn, psn, rfl, pic15, picn15, fun G16 s16 => ⟨⟨_, rfl⟩, _, rfl, ?_⟩⟩
      rw [show decide (P' = Pn ∧ W = Wn ∧ ps = psn) = false from decide_eq_false fun z => nen z.2.1.symm]
      have s1516 := s15.trans s16
      have F16 := F14.same s1516
      have pic16 := pic14.same s1516
      have k16 := k14.same s1516
      refine iteF ⟨_, rfl, _, rfl, _, rfl, _, rfl, .ref D7, .list (ps.map prD), _, rfl, F16.lp.dq, rfl, fun lt4 G17 s17 k17 => ?_⟩
      have wps : wordD (.int P') (.int W) (.tuple (ps.map prD)) = none := word_none pu.ok pu.ins (asc_nodup pu.asc) rfl
      refine mk_pic (.int _) (.int _) k17 (fun ds e => by cases e; rw [List.length_map]; omega) (fun e he => by rw [wps] at he; cases he) (fun P2 W2 ds e1 e2 e3 _ G18 m3 s18 nm3 hp3 => ?_)
      cases e1
      cases e2
      cases e3
      rw [List.map_map, show (prOf ∘ prD) = id from rfl, List.map_id, srt_asc pu.asc] at hp3
      have s1718 := s17.trans s18
      have pic18 := pic16.same s1718
      obtain ⟨z13, z14, z15, z16, hz4, _⟩ := pic18.at_
      obtain ⟨z17, z18, z19, z20, hz5, _⟩ := hp3.at_
      refine ⟨pa, m3, z13, z17, _, _, rfl, rfl, hz4, hz5, pa, m3, P', W, ps, P', W, ps, rfl, pic18, hp3, fun G19 s19 => ⟨⟨_, rfl⟩, _, rfl, ?_⟩⟩
      rw [decide_eq_true (⟨rfl, rfl, rfl⟩ : P' = P' ∧ W = W ∧ ps = ps)]
      refine iteF ?_
      have F19 := (F16.same s1718).same s19
      have pic19 := pic18.same s19
      have k19 := (k16.same s1718).same s19
      clear F14 F16 pic14 pic15 pic16 pic18 k14 k16 picm14 picn picn15 hp3 hz1 hz2 hz3 hz4 hz5 k17
      refine ⟨fun σ' G => ∃ (y17 y18 : Option V), σ' = [some (.ref sa), some (.ref h), some (.int P'), some (.int W), some (.bl (decide (V.int r3 = V.int 0))), some (.ref D7), some (.ref D6), some (.int r4), some (.ref la), some (.ref lg), some (.str (PyData.list gs).shown), some (.ref pa), some v12, some (.ref lt3), some (.ref y), some (.ref m1), some (.ref m2), y17, y18, none, none, none] ∧ Facts G h D7 lg P' W ps gs ∧ Pic T.C_Picture G pa P' W ps ∧ Dq G v12 (.tuple (piecesD P' (marks P' W ps))), ?_, fun σ' G hM => ?_⟩
      · obtain ⟨xs7, h7, _, x7, _⟩ := id F19.lp
        have l7 : xs7.length = ps.length := by rw [x7.len, List.length_map]
        refine ⟨_, rfl, _, .inl ⟨xs7, SqL.of h7, rfl⟩, ?_⟩
        by_cases c : xs7.isEmpty = true
        · rw [c]
          exact iteF (iteF ⟨none, none, rfl, F19, pic19, k19⟩)
        rw [Bool.eq_false_iff.mpr c]
        refine iteT ⟨_, rfl, D7, xs7, rfl, .inl (SqL.of h7), _, rfl, _, rfl, P', W, rfl, rfl, .inl ⟨by omega, by omega⟩, _, _, rfl, rfl, _, rfl, ite2 (fun c2 => ?_) (fun c2 => ⟨none, none, rfl, F19, pic19, k19⟩)⟩
        have c2' : (xs7.length : Int) < P' * W := of_decide_eq_true c2
        refine ⟨_, rfl, _, rfl, P', W, rfl, by omega, by omega, by omega, by omega, fun l20 G20 s20 n20 k20 => ?_⟩
        cases k20 with
        | lst e20 x20 =>
          rename_i xs20
          refine ⟨l20, rfl, ⟨_, SqL.of e20⟩, fun D20 nD20 => ?_⟩
          refine lc_listD (fun d => !((ps.map prD).any fun z => PyData.eqv z d)) id (SqL.of e20) x20 nD20 (by
            rw [List.length_map, fullPs_len]
            exact Nat.le_trans (Nat.mul_le_mul (by omega : P'.toNat ≤ 5) (by omega : W.toNat ≤ 5)) (by decide)) (fun _ => rfl) (fun i x d H' Q2 hd' s' kd' q2 => ?_) (fun i x d H' Q2 hd' _ s' kd' hDl q2 => ?_) (fun G21 s21 k21 => ?_)
          · rw [List.getElem?_map] at hd'
            obtain ⟨q', hq', rfl⟩ := Option.map_eq_some_iff.mp hd'
            exact ⟨_, rfl, _, rfl, prD q', ps.map prD, kd'.dp, ((F19.lp.dq.same s20).same s').dp, shaped_pr _, shaped_prs_l _, _, rfl, q2 _ (fun _ _ z => z)⟩
          · rw [List.getElem?_map] at hd'
            obtain ⟨q', hq', rfl⟩ := Option.map_eq_some_iff.mp hd'
            obtain ⟨acc, hDa⟩ := hDl
            exact ⟨_, rfl, q2 _ _ (fun _ _ z => z) (dq_noL hDa _ (noList_pr _) kd')⟩
          rw [lacks_is] at k21
          have hlk : 0 < ((fullPs P'.toNat W.toNat).filter fun p => !decide (p ∈ ps)).length := by
            rcases Nat.eq_zero_or_pos ((fullPs P'.toNat W.toNat).filter fun p => !decide (p ∈ ps)).length with z | z
            · exfalso
              have sub : ∀ x ∈ fullPs P'.toNat W.toNat, x ∈ ps := fun x m => by
                have := List.filter_eq_nil_iff.mp (List.length_eq_zero_iff.mp z) x m
                simpa using this
              have le := nd_le (asc_nodup (fullPs_asc P'.toNat W.toNat)) sub
              rw [fullPs_len] at le
              have e : ((P'.toNat * W.toNat : Nat) : Int) = P' * W := by
                rw [Int.natCast_mul, Int.toNat_of_nonneg (by omega), Int.toNat_of_nonneg (by omega)]
              rw [← e, l7] at c2'
              omega
            · exact z
          have s2021 := s20.trans s21
          have F21 := F19.same s2021
          have L21 : LD G21 h D20 (((fullPs P'.toNat W.toNat).filter fun p => !decide (p ∈ ps)).map prD) := LD.new (F19.hand.same s20) nD20 k21 (noHand_pr _)
          have hmem : ∀ x ∈ (fullPs P'.toNat W.toNat).filter fun p => !decide (p ∈ ps), x ∈ fullPs P'.toNat W.toNat ∧ x ∉ ps := fun x m => by
            have := List.mem_filter.mp m
            exact ⟨this.1, by simpa using this.2⟩
          have hlk2 : ((fullPs P'.toNat W.toNat).filter fun p => !decide (p ∈ ps)).length ≤ 25 := by
            refine Nat.le_trans (List.length_filter_le _ _) ?_
            rw [fullPs_len]
            exact Nat.mul_le_mul (by omega : P'.toNat ≤ 5) (by omega : W.toNat ≤ 5)
          generalize (fullPs P'.toNat W.toNat).filter (fun p => !decide (p ∈ ps)) = lk at L21 hlk hmem hlk2
          refine ⟨_, rfl, _, rfl, _, rfl, 1, rfl, _, F21.lp.dq, fun l22 G22 s22 n22 k22 => ?_⟩
          have e22 : TkS.cutD (ps.map prD) (some 1) none = (ps.drop 1).map prD := by
            have := cutD_lo (ps.map prD) 1
            rw [List.map_drop]
            exact this
          rw [e22] at k22
          have L22 := LD.new F21.hand n22 k22 (noHand_pr _)
          have F22 := F21.same s22
          have L212 := L21.same s22
          obtain ⟨xs21, h21, _, x21, _⟩ := id L212
          have l21 : xs21.length = lk.length := by rw [x21.len, List.length_map]
          refine ⟨_, rfl, _, rfl, _, rfl, D20, xs21, rfl, .inl (SqL.of h21), h, _, rfl, F22.hand, by omega, by rw [l21]; omega, fun G23 r6 k23 hd23 q0 q1 => ?_⟩
          have L213 := L212.keep F22.hand k23
          obtain ⟨xs23, h23, _, x23, _⟩ := id L213
          obtain ⟨v, d, e3, e4, _, e5⟩ := at_nat x23 q0 (by rw [List.length_map, ← l21]; exact q1)
          obtain ⟨nq, mq, rfl⟩ := List.mem_map.mp e4
          obtain ⟨mq1, mq2⟩ := hmem nq mq
          refine ⟨D20, xs23, r6, v, rfl, rfl, SqL.of h23, e3, (by show 1 ≤ sizeLine; decide), fun u24 n24 => ?_⟩
          have s24 := same_new (o := .lst [v]) n24
          refine ⟨_, _, ((L22.keep F22.hand k23).same s24).dq, .lst upd_same (.cons (e5.same s24) .nil), by simp; omega, fun l25 G25 s25 n25 k25 => ?_⟩
          have e25 : (ps.drop 1).map prD ++ [prD nq] = (ps.drop 1 ++ [nq]).map prD := by
            rw [List.map_append]
            rfl
          rw [e25] at k25
          have insq : Ins P' W (ps.drop 1 ++ [nq]) := fun p m => by
            rcases List.mem_append.mp m with m | m
            · exact pu.ins p (List.mem_of_mem_drop m)
            · rw [List.mem_singleton.mp m]
              have := mem_fullPs.mp mq1
              omega
          have ndq : (ps.drop 1 ++ [nq]).Nodup := by
            rw [List.nodup_append]
            exact ⟨List.Pairwise.sublist (List.drop_sublist 1 ps) (asc_nodup pu.asc), List.pairwise_singleton _ _, fun a ma b mb z => by
              rw [List.mem_singleton.mp mb] at z
              subst z
              exact mq2 (List.mem_of_mem_drop ma)⟩
          have wq : wordD (.int P') (.int W) (.list ((ps.drop 1 ++ [nq]).map prD)) = none := word_none pu.ok insq ndq rfl
          refine mk_pic (.int _) (.int _) k25 (fun ds e => by cases e; simp; omega) (fun e he => by rw [wq] at he; cases he) (fun P2 W2 ds e1 e2 e3 _ G26 m4 s26 nm4 hp4 => ?_)
          cases e1
          cases e2
          cases e3
          rw [List.map_map, show (prOf ∘ prD) = id from rfl, List.map_id] at hp4
          have hnq : nq ∈ srt (ps.drop 1 ++ [nq]) := (srt_perm _).mem_iff.mpr (List.mem_append_right _ (List.mem_singleton.mpr rfl))
          have kk : Keep h G19 G23 := (Keep.of (s2021.trans s22)).trans k23
          have s2426 := (s24.trans s25).trans s26
          have F26 := (F19.keep kk hd23).same s2426
          have pic26 := (pic_keep pic19 F19.hand kk (noHand_pieces _ _)).same s2426
          have k26 := (dq_keep F19.hand kk (noHand_pieces _ _) k19).same s2426
          obtain ⟨z1, z2, z3, z4, hz1, _⟩ := pic26.at_
          obtain ⟨z5, z6, z7, z8, hz2, _⟩ := hp4.at_
          refine ⟨_, rfl, _, rfl, pa, m4, z1, z5, _, _, rfl, rfl, hz1, hz2, pa, m4, P', W, ps, P', W, _, rfl, pic26, hp4, fun G27 s27 => ⟨⟨_, rfl⟩, _, rfl, ?_⟩⟩
          rw [show decide (P' = P' ∧ W = W ∧ ps = srt (ps.drop 1 ++ [nq])) = false from decide_eq_false fun z => mq2 (by rw [z.2.2]; exact hnq)]
          refine iteF ⟨_, rfl, _, rfl, m4, pa, z5, z1, _, _, rfl, rfl, s27 _ _ hz2, s27 _ _ hz1, m4, pa, P', W, _, P', W, ps, rfl, hp4.same s27, pic26.same s27, fun G28 s28 => ⟨⟨_, rfl⟩, _, rfl, ?_⟩⟩
          rw [show decide (P' = P' ∧ W = W ∧ srt (ps.drop 1 ++ [nq]) = ps) = false from decide_eq_false fun z => mq2 (by rw [← z.2.2]; exact hnq)]
          exact iteF ⟨_, _, rfl, (F26.same s27).same s28, (pic26.same s27).same s28, (k26.same s27).same s28⟩
      obtain ⟨y17, y18, rfl, FZ, picZ, kZ⟩ := hM
      obtain ⟨gxs, hgx, _, gxx, _⟩ := id FZ.g
      have lgx : gxs.length ≤ 25 := by rw [gxx.len]; exact lgs
      refine ⟨_, rfl, .inl ⟨rfl, gxs, SqL.of hgx⟩, (by show 2 ≤ sizeLine; decide), fun u nu => ?_⟩
      have su := same_new (o := .lst [.int 0, .int 0]) nu
      refine ⟨lg, gxs, _, rfl, rfl, su _ _ hgx, small1000 (by omega), ?_⟩
      obtain ⟨pxs, hpx, _, pxx, _⟩ := id (FZ.lp.same su)
      have picA := pic_app (zs := gxs ++ [.ref u]) (picZ.same su) (su _ _ hgx) (noList_pieces _ _)
      have up : Same (TkS.Off lg (upd G u (.lst [.int 0, .int 0]))) (upd (upd G u (.lst [.int 0, .int 0])) lg (.lst (gxs ++ [.ref u]))) := fun b o e => by
        unfold TkS.Off at e
        by_cases z : b = lg
        · rw [if_pos z] at e
          cases e
        · rw [if_neg z] at e
          rw [upd_ne z]
          exact e
      have kA := (dq_noL (su _ _ hgx) _ (noList_pieces _ _) (kZ.same su)).same up
      have hpA : (upd (upd G u (.lst [.int 0, .int 0])) lg (.lst (gxs ++ [.ref u]))) D7 = some (.lst pxs) := by
        rw [upd_ne nlg]
        exact hpx
      have pA := DqAll.same up _ (dqs_noL (su _ _ hgx) _ (noLists_prs ps) pxx)
      generalize upd (upd G u (.lst [.int 0, .int 0])) lg (.lst (gxs ++ [.ref u])) = GA at picA kA hpA pA ⊢
      obtain ⟨z1, z2, z3, z4, hz1, hz2, hz3, _⟩ := picA.at_
      refine ⟨_, rfl, pa, T.C_Picture, z1, _, _, rfl, hz1, T.cl_Picture, T.na_pairs, rfl, _, rfl, .ref D7, .list (ps.map prD), _, rfl, .lst hpA pA, rfl, fun lt5 GB sB kB => ?_⟩
      refine ⟨_, _, (hz2.same sB).dp (DqAll.same sB _ hz3), kB.dp, shaped_prs _, shaped_prs _, _, rfl, ?_⟩
      rw [SeqAt.eqv_refl _ (SeqAt.canLay_of_shaped (shaped_prs ps))]
      refine iteT ⟨_, rfl, pa, z1, _, rfl, sB _ _ hz1, pa, P', W, ps, rfl, picA.same sB, fun vv kv => ⟨_, rfl, _, _, kv.dp, (kA.same sB).dp, shaped_pieces _ _, shaped_pieces _ _, ?_⟩⟩
      rw [SeqAt.eqv_refl _ (SeqAt.canLay_of_shaped (shaped_pieces _ _))]
      exact q _
end
end K00
set_option Elab.async false
set_option linter.all false
set_option maxRecDepth 100000
set_option maxHeartbeats 8000000
set_option exponentiation.threshold 5000
namespace K00
open PySem PySem.Spec PyProof.Rows L2 TkS
theorem own_cls {K : PySem.W.Frag} {t : Value} {C : Addr} {b : Bool} (h2 : PySem.W.isClsIn K C = true) (h3 : PySem.W.typeIn K (.ref C) = some (.type "type")) (h4 : PySem.W.subIn K t (.ref C) = some b) : PySem.W.kitCls K t (.ref C) = some b := by
  have e2 : ((PySem.W.clsIn K C).isSome && PySem.W.typeIn K (.ref C) == some (.type "type")) = true := by
    have h2' : (PySem.W.clsIn K C).isSome = true := h2
    rw [h2', h3] <;> rfl
  show (if ((PySem.W.clsIn K C).isSome && PySem.W.typeIn K (.ref C) == some (.type "type")) = true then PySem.W.subIn K t (.ref C) else none) = some b
  rw [if_pos e2]
  exact h4
theorem own_exm {K : PySem.W.Frag} {t : Value} {C : Addr} {b : Bool} (h1 : PySem.W.subIn K (.ref C) (.type "BaseException") = some true) (h2 : PySem.W.isClsIn K C = true) (h3 : PySem.W.typeIn K (.ref C) = some (.type "type")) (h4 : PySem.W.subIn K t (.ref C) = some b) : PySem.W.exmOne K t (.ref C) = some b := by
  have e1 : (PySem.W.subIn K (.ref C) (.type "BaseException") == some true) = true := by rw [h1] <;> rfl
  show (if (PySem.W.subIn K (.ref C) (.type "BaseException") == some true) = true then PySem.W.kitCls K t (.ref C) else none) = some b
  rw [if_pos e1]
  exact own_cls h2 h3 h4
theorem own_kit {K : PySem.W.Frag} {D C : Addr} {b : Bool} (h2 : PySem.W.isClsIn K C = true) (h3 : PySem.W.typeIn K (.ref C) = some (.type "type")) (h4 : PySem.W.subIn K (.ref D) (.ref C) = some b) (hb : (D == C) = true → b = true) : PySem.W.kitOne K (.ref D) (.ref C) = some b := by
  unfold PySem.W.kitOne
  by_cases z : ((Value.ref D) == (Value.ref C)) = true
  · rw [if_pos z]
    have z2 : (D == C) = true := by
      have := eq_of_beq z
      cases this
      exact beq_self_eq_true _
    rw [hb z2]
  · rw [if_neg z]
    exact own_cls h2 h3 h4
theorem all_mk {l : PySem.W.OpenLaw} {w : World} {K : PySem.W.Frag} {h : Heap} {mg : Str → Option Value} {fa CS CB CN CP pp f0 f1 f2 f3 f4 f5 f6 f7 f8 f9 f10 f11 f12 f13 f14 f15 f16 f17 f18 f19 f20 f21 f22 f23 f24 f25 f26 f27 f28 f29 f30 f31 f32 f33 : Addr} {rest : List Value} {tk : Tok} (X : K.In h) (G : h.Ns mainGlobals mg) (hfa : mg "law" = some (.ref fa))
    {od0 an0 : Option Addr} {sl0 : Array (Option Value)} {oc0 kV0 dc0 pm0 cd0 ct0 : Value}
    {od1 an1 : Option Addr} {sl1 : Array (Option Value)} {oc1 kV1 dc1 pm1 cd1 ct1 : Value}
    {od2 an2 : Option Addr} {sl2 : Array (Option Value)} {oc2 kV2 dc2 pm2 cd2 ct2 : Value}
    {D2 : Addr} {ocD2 : Value} {odD2 : Option Addr} {nD2 : Nat} {slD2 : Array (Option Value)}
    {od3 an3 : Option Addr} {sl3 : Array (Option Value)} {oc3 kV3 dc3 pm3 cd3 ct3 : Value}
    {D3 : Addr} {ocD3 : Value} {odD3 : Option Addr} {nD3 : Nat} {slD3 : Array (Option Value)}
    {od4 an4 : Option Addr} {sl4 : Array (Option Value)} {oc4 kV4 dc4 pm4 cd4 ct4 : Value}
    {od5 an5 : Option Addr} {sl5 : Array (Option Value)} {oc5 kV5 dc5 pm5 cd5 ct5 : Value}
    {od6 an6 : Option Addr} {sl6 : Array (Option Value)} {oc6 kV6 dc6 pm6 cd6 ct6 : Value}
    {od7 an7 : Option Addr} {sl7 : Array (Option Value)} {oc7 kV7 dc7 pm7 cd7 ct7 : Value}
    {od8 an8 : Option Addr} {sl8 : Array (Option Value)} {oc8 kV8 dc8 pm8 cd8 ct8 : Value}
    {od9 an9 : Option Addr} {sl9 : Array (Option Value)} {oc9 kV9 dc9 pm9 cd9 ct9 : Value}
    {od10 an10 : Option Addr} {sl10 : Array (Option Value)} {oc10 kV10 dc10 pm10 cd10 ct10 : Value}
    {od11 an11 : Option Addr} {sl11 : Array (Option Value)} {oc11 kV11 dc11 pm11 cd11 ct11 : Value}
    {od12 an12 : Option Addr} {sl12 : Array (Option Value)} {oc12 kV12 dc12 pm12 cd12 ct12 : Value}
    {od13 an13 : Option Addr} {sl13 : Array (Option Value)} {oc13 kV13 dc13 pm13 cd13 ct13 : Value}
    {od14 an14 : Option Addr} {sl14 : Array (Option Value)} {oc14 kV14 dc14 pm14 cd14 ct14 : Value}
    {od15 an15 : Option Addr} {sl15 : Array (Option Value)} {oc15 kV15 dc15 pm15 cd15 ct15 : Value}
    {od16 an16 : Option Addr} {sl16 : Array (Option Value)} {oc16 kV16 dc16 pm16 cd16 ct16 : Value}
    {od17 an17 : Option Addr} {sl17 : Array (Option Value)} {oc17 kV17 dc17 pm17 cd17 ct17 : Value}
    {od18 an18 : Option Addr} {sl18 : Array (Option Value)} {oc18 kV18 dc18 pm18 cd18 ct18 : Value}
    {od19 an19 : Option Addr} {sl19 : Array (Option Value)} {oc19 kV19 dc19 pm19 cd19 ct19 : Value}
    {od20 an20 : Option Addr} {sl20 : Array (Option Value)} {oc20 kV20 dc20 pm20 cd20 ct20 : Value}
    {od21 an21 : Option Addr} {sl21 : Array (Option Value)} {oc21 kV21 dc21 pm21 cd21 ct21 : Value}
    {od22 an22 : Option Addr} {sl22 : Array (Option Value)} {oc22 kV22 dc22 pm22 cd22 ct22 : Value}
    {od23 an23 : Option Addr} {sl23 : Array (Option Value)} {oc23 kV23 dc23 pm23 cd23 ct23 : Value}
    {od24 an24 : Option Addr} {sl24 : Array (Option Value)} {oc24 kV24 dc24 pm24 cd24 ct24 : Value}
    {od25 an25 : Option Addr} {sl25 : Array (Option Value)} {oc25 kV25 dc25 pm25 cd25 ct25 : Value}
    {od26 an26 : Option Addr} {sl26 : Array (Option Value)} {oc26 kV26 dc26 pm26 cd26 ct26 : Value}
    {od27 an27 : Option Addr} {sl27 : Array (Option Value)} {oc27 kV27 dc27 pm27 cd27 ct27 : Value}
    {od28 an28 : Option Addr} {sl28 : Array (Option Value)} {oc28 kV28 dc28 pm28 cd28 ct28 : Value}
    {od29 an29 : Option Addr} {sl29 : Array (Option Value)} {oc29 kV29 dc29 pm29 cd29 ct29 : Value}
    {od30 an30 : Option Addr} {sl30 : Array (Option Value)} {oc30 kV30 dc30 pm30 cd30 ct30 : Value}
    {od31 an31 : Option Addr} {sl31 : Array (Option Value)} {oc31 kV31 dc31 pm31 cd31 ct31 : Value}
    {od32 an32 : Option Addr} {sl32 : Array (Option Value)} {oc32 kV32 dc32 pm32 cd32 ct32 : Value}
    {od33 an33 : Option Addr} {sl33 : Array (Option Value)} {oc33 kV33 dc33 pm33 cd33 ct33 : Value}
    {nmB qB : Str} {NB : Addr} {bsB : List Value} {bmB : List Value} {snB : List Str} {subB : List Value} {abB : Bool} {colB : Option Bool} {ddB : Option Addr} {m0B m1B m2B m3B m5B : Option Value} {nmN qN : Str} {NN : Addr} {bsN : List Value} {bmN : List Value} {snN : List Str} {subN : List Value} {abN : Bool} {colN : Option Bool} {ddN : Option Addr} {m0N m1N m2N m3N m5N : Option Value}
    (aS : PySem.W.nsIn K mainGlobals "SheetError" = some (some (.ref CS)))
    (aB : PySem.W.nsIn K mainGlobals "BadPicture" = some (some (.ref CB)))
    (aN : PySem.W.nsIn K mainGlobals "NotOpen" = some (some (.ref CN)))
    (aP : PySem.W.nsIn K mainGlobals "Picture" = some (some (.ref CP)))
    (a0 : PySem.W.findIn K (.ref CB) "__init__" = some (some (.ref f0)))
    (i0 : PySem.W.isFn K (.ref f0) = true)
    (l0 : K.lookup f0 = some ⟨oc0, od0, .func (PySem.W.fnOf "__init__" "BadPicture.__init__" (defArgs s_BadPicture_init) (defBody s_BadPicture_init) (defScope s_BadPicture_init) .none kV0 dc0 pm0 an0 cd0 ct0), sl0⟩)
    (c0 : PySem.W.codeIn K cd0 "BadPicture.__init__" = true)
    (k0 : PySem.W.keepIn K (.ref f0) = true)
    (a1 : PySem.W.findIn K (.ref CN) "__init__" = some (some (.ref f1)))
    (i1 : PySem.W.isFn K (.ref f1) = true)
    (l1 : K.lookup f1 = some ⟨oc1, od1, .func (PySem.W.fnOf "__init__" "NotOpen.__init__" (defArgs s_NotOpen_init) (defBody s_NotOpen_init) (defScope s_NotOpen_init) .none kV1 dc1 pm1 an1 cd1 ct1), sl1⟩)
    (c1 : PySem.W.codeIn K cd1 "NotOpen.__init__" = true)
    (k1 : PySem.W.keepIn K (.ref f1) = true)
    (a2 : PySem.W.nsIn K mainGlobals "is_whole" = some (some (.ref f2)))
    (l2 : K.lookup f2 = some ⟨oc2, od2, .func (PySem.W.fnOf "is_whole" "is_whole" (defArgs s_is_whole) (defBody s_is_whole) (defScope s_is_whole) (.ref D2) kV2 dc2 pm2 an2 cd2 ct2), sl2⟩)
    (c2 : PySem.W.codeIn K cd2 "is_whole" = true)
    (k2 : PySem.W.keepIn K (.ref f2) = true)
    (e2 : K.lookup D2 = some ⟨ocD2, odD2, .seq #[.none, .none] nD2, slD2⟩)
    (a3 : PySem.W.nsIn K mainGlobals "is_sequence" = some (some (.ref f3)))
    (l3 : K.lookup f3 = some ⟨oc3, od3, .func (PySem.W.fnOf "is_sequence" "is_sequence" (defArgs s_is_sequence) (defBody s_is_sequence) (defScope s_is_sequence) (.ref D3) kV3 dc3 pm3 an3 cd3 ct3), sl3⟩)
    (c3 : PySem.W.codeIn K cd3 "is_sequence" = true)
    (k3 : PySem.W.keepIn K (.ref f3) = true)
    (e3 : K.lookup D3 = some ⟨ocD3, odD3, .seq #[.none] nD3, slD3⟩)
    (a4 : PySem.W.nsIn K mainGlobals "full_picture" = some (some (.ref f4)))
    (l4 : K.lookup f4 = some ⟨oc4, od4, .func (PySem.W.fnOf "full_picture" "full_picture" (defArgs s_full_picture) (defBody s_full_picture) (defScope s_full_picture) .none kV4 dc4 pm4 an4 cd4 ct4), sl4⟩)
    (c4 : PySem.W.codeIn K cd4 "full_picture" = true)
    (k4 : PySem.W.keepIn K (.ref f4) = true)
    (a5 : PySem.W.nsIn K mainGlobals "merged_labels" = some (some (.ref f5)))
    (l5 : K.lookup f5 = some ⟨oc5, od5, .func (PySem.W.fnOf "merged_labels" "merged_labels" (defArgs s_merged_labels) (defBody s_merged_labels) (defScope s_merged_labels) .none kV5 dc5 pm5 an5 cd5 ct5), sl5⟩)
    (c5 : PySem.W.codeIn K cd5 "merged_labels" = true)
    (k5 : PySem.W.keepIn K (.ref f5) = true)
    (a6 : PySem.W.nsIn K mainGlobals "_piece_labels" = some (some (.ref f6)))
    (l6 : K.lookup f6 = some ⟨oc6, od6, .func (PySem.W.fnOf "_piece_labels" "_piece_labels" (defArgs s_piece_labels) (defBody s_piece_labels) (defScope s_piece_labels) .none kV6 dc6 pm6 an6 cd6 ct6), sl6⟩)
    (c6 : PySem.W.codeIn K cd6 "_piece_labels" = true)
    (k6 : PySem.W.keepIn K (.ref f6) = true)
    (a7 : PySem.W.nsIn K mainGlobals "_pieces_by_labels" = some (some (.ref f7)))
    (l7 : K.lookup f7 = some ⟨oc7, od7, .func (PySem.W.fnOf "_pieces_by_labels" "_pieces_by_labels" (defArgs s_pieces_by_labels) (defBody s_pieces_by_labels) (defScope s_pieces_by_labels) .none kV7 dc7 pm7 an7 cd7 ct7), sl7⟩)
    (c7 : PySem.W.codeIn K cd7 "_pieces_by_labels" = true)
    (k7 : PySem.W.keepIn K (.ref f7) = true)
    (a8 : PySem.W.findIn K (.ref CP) "__init__" = some (some (.ref f8)))
    (i8 : PySem.W.isFn K (.ref f8) = true)
    (l8 : K.lookup f8 = some ⟨oc8, od8, .func (PySem.W.fnOf "__init__" "Picture.__init__" (defArgs s_Picture_init) (defBody s_Picture_init) (defScope s_Picture_init) .none kV8 dc8 pm8 an8 cd8 ct8), sl8⟩)
    (c8 : PySem.W.codeIn K cd8 "Picture.__init__" = true)
    (k8 : PySem.W.keepIn K (.ref f8) = true)
    (a9 : PySem.W.findIn K (.ref CP) "__eq__" = some (some (.ref f9)))
    (i9 : PySem.W.isFn K (.ref f9) = true)
    (l9 : K.lookup f9 = some ⟨oc9, od9, .func (PySem.W.fnOf "__eq__" "Picture.__eq__" (defArgs s_Picture_eq) (defBody s_Picture_eq) (defScope s_Picture_eq) .none kV9 dc9 pm9 an9 cd9 ct9), sl9⟩)
    (c9 : PySem.W.codeIn K cd9 "Picture.__eq__" = true)
    (k9 : PySem.W.keepIn K (.ref f9) = true)
    (a10 : PySem.W.findIn K (.ref CP) "__len__" = some (some (.ref f10)))
    (i10 : PySem.W.isFn K (.ref f10) = true)
    (l10 : K.lookup f10 = some ⟨oc10, od10, .func (PySem.W.fnOf "__len__" "Picture.__len__" (defArgs s_Picture_len) (defBody s_Picture_len) (defScope s_Picture_len) .none kV10 dc10 pm10 an10 cd10 ct10), sl10⟩)
    (c10 : PySem.W.codeIn K cd10 "Picture.__len__" = true)
    (k10 : PySem.W.keepIn K (.ref f10) = true)
    (a11 : PySem.W.findIn K (.ref CP) "pieces" = some (some (.ref pp)))
    (r11 : PySem.W.recIn K pp "property" = some (.ref f11 :: rest))
    (i11 : PySem.W.isFn K (.ref f11) = true)
    (l11 : K.lookup f11 = some ⟨oc11, od11, .func (PySem.W.fnOf "pieces" "Picture.pieces" (defArgs s_Picture_pieces) (defBody s_Picture_pieces) (defScope s_Picture_pieces) .none kV11 dc11 pm11 an11 cd11 ct11), sl11⟩)
    (c11 : PySem.W.codeIn K cd11 "Picture.pieces" = true)
    (k11 : PySem.W.keepIn K (.ref f11) = true)
    (a12 : PySem.W.findIn K (.ref CP) "_is_pair" = some (some (.ref f12)))
    (i12 : PySem.W.isFn K (.ref f12) = true)
    (l12 : K.lookup f12 = some ⟨oc12, od12, .func (PySem.W.fnOf "_is_pair" "Picture._is_pair" (defArgs s_Pictureis_pair) (defBody s_Pictureis_pair) (defScope s_Pictureis_pair) .none kV12 dc12 pm12 an12 cd12 ct12), sl12⟩)
    (c12 : PySem.W.codeIn K cd12 "Picture._is_pair" = true)
    (k12 : PySem.W.keepIn K (.ref f12) = true)
    (a13 : PySem.W.findIn K (.ref CP) "place_of" = some (some (.ref f13)))
    (i13 : PySem.W.isFn K (.ref f13) = true)
    (l13 : K.lookup f13 = some ⟨oc13, od13, .func (PySem.W.fnOf "place_of" "Picture.place_of" (defArgs s_Picture_place_of) (defBody s_Picture_place_of) (defScope s_Picture_place_of) .none kV13 dc13 pm13 an13 cd13 ct13), sl13⟩)
    (c13 : PySem.W.codeIn K cd13 "Picture.place_of" = true)
    (k13 : PySem.W.keepIn K (.ref f13) = true)
    (a14 : PySem.W.findIn K (.ref CP) "is_open" = some (some (.ref f14)))
    (i14 : PySem.W.isFn K (.ref f14) = true)
    (l14 : K.lookup f14 = some ⟨oc14, od14, .func (PySem.W.fnOf "is_open" "Picture.is_open" (defArgs s_Picture_is_open) (defBody s_Picture_is_open) (defScope s_Picture_is_open) .none kV14 dc14 pm14 an14 cd14 ct14), sl14⟩)
    (c14 : PySem.W.codeIn K cd14 "Picture.is_open" = true)
    (k14 : PySem.W.keepIn K (.ref f14) = true)
    (a15 : PySem.W.findIn K (.ref CP) "with_pair" = some (some (.ref f15)))
    (i15 : PySem.W.isFn K (.ref f15) = true)
    (l15 : K.lookup f15 = some ⟨oc15, od15, .func (PySem.W.fnOf "with_pair" "Picture.with_pair" (defArgs s_Picture_with_pair) (defBody s_Picture_with_pair) (defScope s_Picture_with_pair) .none kV15 dc15 pm15 an15 cd15 ct15), sl15⟩)
    (c15 : PySem.W.codeIn K cd15 "Picture.with_pair" = true)
    (k15 : PySem.W.keepIn K (.ref f15) = true)
    (a16 : PySem.W.findIn K (.ref CP) "without_pair" = some (some (.ref f16)))
    (i16 : PySem.W.isFn K (.ref f16) = true)
    (l16 : K.lookup f16 = some ⟨oc16, od16, .func (PySem.W.fnOf "without_pair" "Picture.without_pair" (defArgs s_Picture_without_pair) (defBody s_Picture_without_pair) (defScope s_Picture_without_pair) .none kV16 dc16 pm16 an16 cd16 ct16), sl16⟩)
    (c16 : PySem.W.codeIn K cd16 "Picture.without_pair" = true)
    (k16 : PySem.W.keepIn K (.ref f16) = true)
    (a17 : PySem.W.nsIn K mainGlobals "_law_hand" = some (some (.ref f17)))
    (l17 : K.lookup f17 = some ⟨oc17, od17, .func (PySem.W.fnOf "_law_hand" "_law_hand" (defArgs s_law_hand) (defBody s_law_hand) (defScope s_law_hand) .none kV17 dc17 pm17 an17 cd17 ct17), sl17⟩)
    (c17 : PySem.W.codeIn K cd17 "_law_hand" = true)
    (k17 : PySem.W.keepIn K (.ref f17) = true)
    (a18 : PySem.W.nsIn K mainGlobals "_law_mixed" = some (some (.ref f18)))
    (l18 : K.lookup f18 = some ⟨oc18, od18, .func (PySem.W.fnOf "_law_mixed" "_law_mixed" (defArgs s_law_mixed) (defBody s_law_mixed) (defScope s_law_mixed) .none kV18 dc18 pm18 an18 cd18 ct18), sl18⟩)
    (c18 : PySem.W.codeIn K cd18 "_law_mixed" = true)
    (k18 : PySem.W.keepIn K (.ref f18) = true)
    (a19 : PySem.W.nsIn K mainGlobals "_law_take" = some (some (.ref f19)))
    (l19 : K.lookup f19 = some ⟨oc19, od19, .func (PySem.W.fnOf "_law_take" "_law_take" (defArgs s_law_take) (defBody s_law_take) (defScope s_law_take) .none kV19 dc19 pm19 an19 cd19 ct19), sl19⟩)
    (c19 : PySem.W.codeIn K cd19 "_law_take" = true)
    (k19 : PySem.W.keepIn K (.ref f19) = true)
    (a20 : PySem.W.nsIn K mainGlobals "_law_whole" = some (some (.ref f20)))
    (l20 : K.lookup f20 = some ⟨oc20, od20, .func (PySem.W.fnOf "_law_whole" "_law_whole" (defArgs s_law_whole) (defBody s_law_whole) (defScope s_law_whole) .none kV20 dc20 pm20 an20 cd20 ct20), sl20⟩)
    (c20 : PySem.W.codeIn K cd20 "_law_whole" = true)
    (k20 : PySem.W.keepIn K (.ref f20) = true)
    (a21 : PySem.W.nsIn K mainGlobals "_law_full" = some (some (.ref f21)))
    (l21 : K.lookup f21 = some ⟨oc21, od21, .func (PySem.W.fnOf "_law_full" "_law_full" (defArgs s_law_full) (defBody s_law_full) (defScope s_law_full) .none kV21 dc21 pm21 an21 cd21 ct21), sl21⟩)
    (c21 : PySem.W.codeIn K cd21 "_law_full" = true)
    (k21 : PySem.W.keepIn K (.ref f21) = true)
    (a22 : PySem.W.nsIn K mainGlobals "_law_marks" = some (some (.ref f22)))
    (l22 : K.lookup f22 = some ⟨oc22, od22, .func (PySem.W.fnOf "_law_marks" "_law_marks" (defArgs s_law_marks) (defBody s_law_marks) (defScope s_law_marks) .none kV22 dc22 pm22 an22 cd22 ct22), sl22⟩)
    (c22 : PySem.W.codeIn K cd22 "_law_marks" = true)
    (k22 : PySem.W.keepIn K (.ref f22) = true)
    (a23 : PySem.W.nsIn K mainGlobals "_law_refused" = some (some (.ref f23)))
    (l23 : K.lookup f23 = some ⟨oc23, od23, .func (PySem.W.fnOf "_law_refused" "_law_refused" (defArgs s_law_refused) (defBody s_law_refused) (defScope s_law_refused) .none kV23 dc23 pm23 an23 cd23 ct23), sl23⟩)
    (c23 : PySem.W.codeIn K cd23 "_law_refused" = true)
    (k23 : PySem.W.keepIn K (.ref f23) = true)
    (a24 : PySem.W.nsIn K mainGlobals "_law_couple" = some (some (.ref f24)))
    (l24 : K.lookup f24 = some ⟨oc24, od24, .func (PySem.W.fnOf "_law_couple" "_law_couple" (defArgs s_law_couple) (defBody s_law_couple) (defScope s_law_couple) .none kV24 dc24 pm24 an24 cd24 ct24), sl24⟩)
    (c24 : PySem.W.codeIn K cd24 "_law_couple" = true)
    (k24 : PySem.W.keepIn K (.ref f24) = true)
    (a25 : PySem.W.nsIn K mainGlobals "_law_due" = some (some (.ref f25)))
    (l25 : K.lookup f25 = some ⟨oc25, od25, .func (PySem.W.fnOf "_law_due" "_law_due" (defArgs s_law_due) (defBody s_law_due) (defScope s_law_due) .none kV25 dc25 pm25 an25 cd25 ct25), sl25⟩)
    (c25 : PySem.W.codeIn K cd25 "_law_due" = true)
    (k25 : PySem.W.keepIn K (.ref f25) = true)
    (a26 : PySem.W.nsIn K mainGlobals "_law_odd" = some (some (.ref f26)))
    (l26 : K.lookup f26 = some ⟨oc26, od26, .func (PySem.W.fnOf "_law_odd" "_law_odd" (defArgs s_law_odd) (defBody s_law_odd) (defScope s_law_odd) .none kV26 dc26 pm26 an26 cd26 ct26), sl26⟩)
    (c26 : PySem.W.codeIn K cd26 "_law_odd" = true)
    (k26 : PySem.W.keepIn K (.ref f26) = true)
    (a27 : PySem.W.nsIn K mainGlobals "_law_pieces_due" = some (some (.ref f27)))
    (l27 : K.lookup f27 = some ⟨oc27, od27, .func (PySem.W.fnOf "_law_pieces_due" "_law_pieces_due" (defArgs s_law_pieces_due) (defBody s_law_pieces_due) (defScope s_law_pieces_due) .none kV27 dc27 pm27 an27 cd27 ct27), sl27⟩)
    (c27 : PySem.W.codeIn K cd27 "_law_pieces_due" = true)
    (k27 : PySem.W.keepIn K (.ref f27) = true)
    (a28 : PySem.W.nsIn K mainGlobals "_law_place" = some (some (.ref f28)))
    (l28 : K.lookup f28 = some ⟨oc28, od28, .func (PySem.W.fnOf "_law_place" "_law_place" (defArgs s_law_place) (defBody s_law_place) (defScope s_law_place) .none kV28 dc28 pm28 an28 cd28 ct28), sl28⟩)
    (c28 : PySem.W.codeIn K cd28 "_law_place" = true)
    (k28 : PySem.W.keepIn K (.ref f28) = true)
    (a29 : PySem.W.nsIn K mainGlobals "_law_changed" = some (some (.ref f29)))
    (l29 : K.lookup f29 = some ⟨oc29, od29, .func (PySem.W.fnOf "_law_changed" "_law_changed" (defArgs s_law_changed) (defBody s_law_changed) (defScope s_law_changed) .none kV29 dc29 pm29 an29 cd29 ct29), sl29⟩)
    (c29 : PySem.W.codeIn K cd29 "_law_changed" = true)
    (k29 : PySem.W.keepIn K (.ref f29) = true)
    (a30 : PySem.W.nsIn K mainGlobals "_law_full_word" = some (some (.ref f30)))
    (l30 : K.lookup f30 = some ⟨oc30, od30, .func (PySem.W.fnOf "_law_full_word" "_law_full_word" (defArgs s_law_full_word) (defBody s_law_full_word) (defScope s_law_full_word) .none kV30 dc30 pm30 an30 cd30 ct30), sl30⟩)
    (c30 : PySem.W.codeIn K cd30 "_law_full_word" = true)
    (k30 : PySem.W.keepIn K (.ref f30) = true)
    (a31 : PySem.W.nsIn K mainGlobals "_law_refusals" = some (some (.ref f31)))
    (l31 : K.lookup f31 = some ⟨oc31, od31, .func (PySem.W.fnOf "_law_refusals" "_law_refusals" (defArgs s_law_refusals) (defBody s_law_refusals) (defScope s_law_refusals) .none kV31 dc31 pm31 an31 cd31 ct31), sl31⟩)
    (c31 : PySem.W.codeIn K cd31 "_law_refusals" = true)
    (k31 : PySem.W.keepIn K (.ref f31) = true)
    (a32 : PySem.W.nsIn K mainGlobals "_law_pairs_asked" = some (some (.ref f32)))
    (l32 : K.lookup f32 = some ⟨oc32, od32, .func (PySem.W.fnOf "_law_pairs_asked" "_law_pairs_asked" (defArgs s_law_pairs_asked) (defBody s_law_pairs_asked) (defScope s_law_pairs_asked) .none kV32 dc32 pm32 an32 cd32 ct32), sl32⟩)
    (c32 : PySem.W.codeIn K cd32 "_law_pairs_asked" = true)
    (k32 : PySem.W.keepIn K (.ref f32) = true)
    (a33 : PySem.W.nsIn K mainGlobals "law" = some (some (.ref f33)))
    (l33 : K.lookup f33 = some ⟨oc33, od33, .func (PySem.W.fnOf "law" "law" (defArgs s_law) (defBody s_law) (defScope s_law) .none kV33 dc33 pm33 an33 cd33 ct33), sl33⟩)
    (c33 : PySem.W.codeIn K cd33 "law" = true)
    (k33 : PySem.W.keepIn K (.ref f33) = true)
    (z_abs : PySem.W.nsIn K mainGlobals "abs" = some none)
    (z_bool : PySem.W.nsIn K mainGlobals "bool" = some none)
    (z_int : PySem.W.nsIn K mainGlobals "int" = some none)
    (z_isinstance : PySem.W.nsIn K mainGlobals "isinstance" = some none)
    (z_len : PySem.W.nsIn K mainGlobals "len" = some none)
    (z_list : PySem.W.nsIn K mainGlobals "list" = some none)
    (z_min : PySem.W.nsIn K mainGlobals "min" = some none)
    (z_range : PySem.W.nsIn K mainGlobals "range" = some none)
    (z_repr : PySem.W.nsIn K mainGlobals "repr" = some none)
    (z_reversed : PySem.W.nsIn K mainGlobals "reversed" = some none)
    (z_set : PySem.W.nsIn K mainGlobals "set" = some none)
    (z_sorted : PySem.W.nsIn K mainGlobals "sorted" = some none)
    (z_tuple : PySem.W.nsIn K mainGlobals "tuple" = some none)
    (z_zip : PySem.W.nsIn K mainGlobals "zip" = some none)
    (xB1 : K.lookup CB = some (excClassObj nmB qB CB NB bsB bmB true snB subB abB colB ddB m0B m1B m2B m3B m5B "ValueError.__new__"))
    (xB2 : PySem.HandSPX.refsVE bmB = true)
    (xB3 : PySem.W.findIn K (.ref CB) "__setattr__" = some (some (.builtin "object.__setattr__")))
    (xB4 : PySem.W.subIn K (.ref CB) (.type "BaseException") = some true)
    (xB5 : PySem.W.typeIn K (.ref CB) = some (.type "type"))
    (xB6 : PySem.W.keepIn K (.ref CB) = true)
    (xB7 : PySem.W.findIn K (.ref CB) "what" = some none)
    (xB8 : PySem.W.findIn K (.ref CB) "__getattribute__" = some (some (.builtin "BaseException.__getattribute__")))
    (xB9 : PySem.W.findIn K (.ref CB) "__getattr__" = some none)
    (xB10 : PySem.W.hasDictIn K CB = true)
    (xB11 : PySem.W.findIn K (.ref CB) "__class__" = some (some (.builtin "object.__class__")))
    (xB12 : PySem.W.mroIn K CB (.type "object") = some true)
    (xB13 : PySem.W.typeIn K (.ref f0) = some (.type "function"))
    (xN1 : K.lookup CN = some (excClassObj nmN qN CN NN bsN bmN true snN subN abN colN ddN m0N m1N m2N m3N m5N "ValueError.__new__"))
    (xN2 : PySem.HandSPX.refsVE bmN = true)
    (xN3 : PySem.W.findIn K (.ref CN) "__setattr__" = some (some (.builtin "object.__setattr__")))
    (xN4 : PySem.W.subIn K (.ref CN) (.type "BaseException") = some true)
    (xN5 : PySem.W.typeIn K (.ref CN) = some (.type "type"))
    (xN6 : PySem.W.keepIn K (.ref CN) = true)
    (xN7 : PySem.W.findIn K (.ref CN) "pair" = some none)
    (xN8 : PySem.W.findIn K (.ref CN) "__getattribute__" = some (some (.builtin "BaseException.__getattribute__")))
    (xN9 : PySem.W.findIn K (.ref CN) "__getattr__" = some none)
    (xN10 : PySem.W.hasDictIn K CN = true)
    (xN11 : PySem.W.findIn K (.ref CN) "__class__" = some (some (.builtin "object.__class__")))
    (xN12 : PySem.W.mroIn K CN (.type "object") = some true)
    (xN13 : PySem.W.typeIn K (.ref f1) = some (.type "function"))
    (w1 : PySem.W.specialIn K (.builtin "object.__class__") "__get__" = some (some (.builtin "getset_descriptor.__get__")))
    (w2 : PySem.W.takesIn K (.builtin "object.__class__") = some true)
    (e_bb : PySem.W.subIn K (.ref CB) (.ref CB) = some true)
    (e_nn : PySem.W.subIn K (.ref CN) (.ref CN) = some true)
    (e_nb : PySem.W.subIn K (.ref CN) (.ref CB) = some false)
    (t_bs : PySem.W.subIn K (.ref CB) (.ref CS) = some true)
    (t_bn : PySem.W.subIn K (.ref CB) (.ref CN) = some false)
    (t_ns : PySem.W.subIn K (.ref CN) (.ref CS) = some true) (y1 : PySem.W.isClsIn K CB = true) (y2 : PySem.W.isClsIn K CN = true) (y3 : PySem.W.isClsIn K CS = true) (y4 : PySem.W.isClsIn K CP = true) (y5 : PySem.W.typeIn K (.ref CS) = some (.type "type")) (y6 : PySem.W.typeIn K (.ref CP) = some (.type "type")) (y7 : (CB == CN) = false)
    (t_nb : (CN == CB) = false)
    (p1 : PySem.W.plainGet K CP Str.empty = true)
    (p2 : PySem.W.hasDictIn K CP = true)
    (p3 : PySem.W.plainOver K CP = true)
    (p4 : PySem.W.findIn K (.ref CP) "__setattr__" = some (some (.builtin "object.__setattr__")))
    (p5 : PySem.W.makesIn K CP = true)
    (p6 : PySem.W.keepIn K (.ref CP) = true)
    (n0 : PySem.W.findIn K (.ref CP) "points" = some none)
    (n1 : PySem.W.findIn K (.ref CP) "walls" = some none)
    (n2 : PySem.W.findIn K (.ref CP) "pairs" = some none)
    (n3 : PySem.W.findIn K (.ref CP) "_pieces" = some none)
    (g1 : PySem.W.specialIn K (.ref pp) "__get__" = some (some (.builtin "property.__get__")))
    (g2 : PySem.W.takesIn K (.ref pp) = some true)
    (p7 : PySem.W.findIn K (.ref CP) "__class__" = some (some (.builtin "object.__class__")))
    (p8 : PySem.W.mroIn K CP (.type "object") = some true)
    (p9 : PySem.W.subIn K (.ref CP) (.ref CP) = some true)
    (mc : PySem.W.nsIn K mainGlobals "MOST_CORNERS" = some (some (.int 5 tk))) :
    ∃ fd : FuncData, (∀ (s : Shared) (v : Value), BindsTo s fd ⟨[v], []⟩ [("_law_script", v)]) ∧ ∀ base : Heap, K.In base → base.Ns mainGlobals mg → TopOk l.prog w K mg base CX0 fa fd ["_law_script"] (sp_law K) := by
  have e := hfa.symm.trans (PySem.W.mg_of X G a33)
  cases e
  have F0 := fun_mk (st := s_BadPicture_init) l0 c0 k0
  have b0 := F0.binds (ps := ["self", "what"]) fun _ _ _ _ _ _ us hl => match us, hl with | [_, _], _ => rfl
  have F1 := fun_mk (st := s_NotOpen_init) l1 c1 k1
  have b1 := F1.binds (ps := ["self", "pair"]) fun _ _ _ _ _ _ us hl => match us, hl with | [_, _], _ => rfl
  have F2 : FunD K "is_whole" "is_whole" (defArgs s_is_whole) (defBody s_is_whole) (defScope s_is_whole) [.non, .non] [] f2 (PySem.W.fnOf "is_whole" "is_whole" (defArgs s_is_whole) (defBody s_is_whole) (defScope s_is_whole) (.ref D2) kV2 dc2 pm2 an2 cd2 ct2) := 
    ⟨⟨oc2, od2, .ref D2, kV2, dc2, pm2, an2, cd2, ct2, sl2, rfl, l2, c2, .inr ⟨by simp, D2, _, [.none, .none], _, rfl, e2, rfl, .cons rfl (.cons rfl .nil)⟩, .inl rfl⟩, k2⟩
  have b2 : Binds K (PySem.W.fnOf "is_whole" "is_whole" (defArgs s_is_whole) (defBody s_is_whole) (defScope s_is_whole) (.ref D2) kV2 dc2 pm2 an2 cd2 ct2) ["thing", "low", "high"] [] := fun s us X hl => by
    match us, hl with
    | [u1, u2, u3], _ => exact BindsTo.of_looks fun M => looks_items (its := #[.none, .none]) X e2 rfl (.of_pure rfl)
  have F3 : FunD K "is_sequence" "is_sequence" (defArgs s_is_sequence) (defBody s_is_sequence) (defScope s_is_sequence) [.non] [] f3 (PySem.W.fnOf "is_sequence" "is_sequence" (defArgs s_is_sequence) (defBody s_is_sequence) (defScope s_is_sequence) (.ref D3) kV3 dc3 pm3 an3 cd3 ct3) := 
    ⟨⟨oc3, od3, .ref D3, kV3, dc3, pm3, an3, cd3, ct3, sl3, rfl, l3, c3, .inr ⟨by simp, D3, _, [.none], _, rfl, e3, rfl, .cons rfl .nil⟩, .inl rfl⟩, k3⟩
  have b3 : Binds K (PySem.W.fnOf "is_sequence" "is_sequence" (defArgs s_is_sequence) (defBody s_is_sequence) (defScope s_is_sequence) (.ref D3) kV3 dc3 pm3 an3 cd3 ct3) ["thing", "length"] [] := fun s us X hl => by
    match us, hl with
    | [u1, u2], _ => exact BindsTo.of_looks fun M => looks_items (its := #[.none]) X e3 rfl (.of_pure rfl)
  have bq31 : Binds K (PySem.W.fnOf "is_sequence" "is_sequence" (defArgs s_is_sequence) (defBody s_is_sequence) (defScope s_is_sequence) (.ref D3) kV3 dc3 pm3 an3 cd3 ct3) ["thing", "length"] [.none] := fun s us X hl => by
    have hl : us.length = 1 := by
      rw [List.length_append] at hl
      exact Nat.add_right_cancel (m := 1) hl
    match us, hl with
    | [u1], _ => exact BindsTo.of_looks fun M => looks_items (its := #[.none]) X e3 rfl (.of_pure rfl)
  have F4 := fun_mk (st := s_full_picture) l4 c4 k4
  have b4 := F4.binds (ps := ["points", "walls"]) fun _ _ _ _ _ _ us hl => match us, hl with | [_, _], _ => rfl
  have F5 := fun_mk (st := s_merged_labels) l5 c5 k5
  have b5 := F5.binds (ps := ["labels", "one", "other"]) fun _ _ _ _ _ _ us hl => match us, hl with | [_, _, _], _ => rfl
  have F6 := fun_mk (st := s_piece_labels) l6 c6 k6
  have b6 := F6.binds (ps := ["points", "walls", "pairs"]) fun _ _ _ _ _ _ us hl => match us, hl with | [_, _, _], _ => rfl
  have F7 := fun_mk (st := s_pieces_by_labels) l7 c7 k7
  have b7 := F7.binds (ps := ["points", "labels"]) fun _ _ _ _ _ _ us hl => match us, hl with | [_, _], _ => rfl
  have F8 := fun_mk (st := s_Picture_init) l8 c8 k8
  have b8 := F8.binds (ps := ["self", "points", "walls", "pairs"]) fun _ _ _ _ _ _ us hl => match us, hl with | [_, _, _, _], _ => rfl
  have F9 := fun_mk (st := s_Picture_eq) l9 c9 k9
  have b9 := F9.binds (ps := ["self", "other"]) fun _ _ _ _ _ _ us hl => match us, hl with | [_, _], _ => rfl
  have F10 := fun_mk (st := s_Picture_len) l10 c10 k10
  have b10 := F10.binds (ps := ["self"]) fun _ _ _ _ _ _ us hl => match us, hl with | [_], _ => rfl
  have F11 := fun_mk (st := s_Picture_pieces) l11 c11 k11
  have b11 := F11.binds (ps := ["self"]) fun _ _ _ _ _ _ us hl => match us, hl with | [_], _ => rfl
  have F12 := fun_mk (st := s_Pictureis_pair) l12 c12 k12
  have b12 := F12.binds (ps := ["self", "thing"]) fun _ _ _ _ _ _ us hl => match us, hl with | [_, _], _ => rfl
  have F13 := fun_mk (st := s_Picture_place_of) l13 c13 k13
  have b13 := F13.binds (ps := ["self", "pair"]) fun _ _ _ _ _ _ us hl => match us, hl with | [_, _], _ => rfl
  have F14 := fun_mk (st := s_Picture_is_open) l14 c14 k14
  have b14 := F14.binds (ps := ["self", "pair"]) fun _ _ _ _ _ _ us hl => match us, hl with | [_, _], _ => rfl
  have F15 := fun_mk (st := s_Picture_with_pair) l15 c15 k15
  have b15 := F15.binds (ps := ["self", "pair"]) fun _ _ _ _ _ _ us hl => match us, hl with | [_, _], _ => rfl
  have F16 := fun_mk (st := s_Picture_without_pair) l16 c16 k16
  have b16 := F16.binds (ps := ["self", "pair"]) fun _ _ _ _ _ _ us hl => match us, hl with | [_, _], _ => rfl
  have F17 := fun_mk (st := s_law_hand) l17 c17 k17
  have b17 := F17.binds (ps := ["_law_script"]) fun _ _ _ _ _ _ us hl => match us, hl with | [_], _ => rfl
  have F18 := fun_mk (st := s_law_mixed) l18 c18 k18
  have b18 := F18.binds (ps := ["_law_number", "_law_turn"]) fun _ _ _ _ _ _ us hl => match us, hl with | [_, _], _ => rfl
  have F19 := fun_mk (st := s_law_take) l19 c19 k19
  have b19 := F19.binds (ps := ["_law_hand_here", "_law_many"]) fun _ _ _ _ _ _ us hl => match us, hl with | [_, _], _ => rfl
  have F20 := fun_mk (st := s_law_whole) l20 c20 k20
  have b20 := F20.binds (ps := ["_law_thing"]) fun _ _ _ _ _ _ us hl => match us, hl with | [_], _ => rfl
  have F21 := fun_mk (st := s_law_full) l21 c21 k21
  have b21 := F21.binds (ps := ["_law_points", "_law_shuts"]) fun _ _ _ _ _ _ us hl => match us, hl with | [_, _], _ => rfl
  have F22 := fun_mk (st := s_law_marks) l22 c22 k22
  have b22 := F22.binds (ps := ["_law_points", "_law_shuts", "_law_pairs"]) fun _ _ _ _ _ _ us hl => match us, hl with | [_, _, _], _ => rfl
  have F23 := fun_mk (st := s_law_refused) l23 c23 k23
  have b23 := F23.binds (ps := ["_law_points", "_law_shuts", "_law_pairs"]) fun _ _ _ _ _ _ us hl => match us, hl with | [_, _, _], _ => rfl
  have F24 := fun_mk (st := s_law_couple) l24 c24 k24
  have b24 := F24.binds (ps := ["_law_points", "_law_shuts", "_law_thing"]) fun _ _ _ _ _ _ us hl => match us, hl with | [_, _, _], _ => rfl
  have F25 := fun_mk (st := s_law_due) l25 c25 k25
  have b25 := F25.binds (ps := ["_law_points", "_law_shuts", "_law_pairs"]) fun _ _ _ _ _ _ us hl => match us, hl with | [_, _, _], _ => rfl
  have F26 := fun_mk (st := s_law_odd) l26 c26 k26
  have b26 := F26.binds (ps := ["_law_hand_here", "_law_points", "_law_shuts"]) fun _ _ _ _ _ _ us hl => match us, hl with | [_, _, _], _ => rfl
  have F27 := fun_mk (st := s_law_pieces_due) l27 c27 k27
  have b27 := F27.binds (ps := ["_law_points", "_law_shuts", "_law_pairs"]) fun _ _ _ _ _ _ us hl => match us, hl with | [_, _, _], _ => rfl
  have F28 := fun_mk (st := s_law_place) l28 c28 k28
  have b28 := F28.binds (ps := ["_law_picture", "_law_pair"]) fun _ _ _ _ _ _ us hl => match us, hl with | [_, _], _ => rfl
  have F29 := fun_mk (st := s_law_changed) l29 c29 k29
  have b29 := F29.binds (ps := ["_law_picture", "_law_pair", "_law_way"]) fun _ _ _ _ _ _ us hl => match us, hl with | [_, _, _], _ => rfl
  have F30 := fun_mk (st := s_law_full_word) l30 c30 k30
  have b30 := F30.binds (ps := ["_law_points", "_law_shuts"]) fun _ _ _ _ _ _ us hl => match us, hl with | [_, _], _ => rfl
  have F31 := fun_mk (st := s_law_refusals) l31 c31 k31
  have b31 := F31.binds (ps := ["_law_hand_here", "_law_points", "_law_shuts", "_law_given"]) fun _ _ _ _ _ _ us hl => match us, hl with | [_, _, _, _], _ => rfl
  have F32 := fun_mk (st := s_law_pairs_asked) l32 c32 k32
  have b32 := F32.binds (ps := ["_law_picture", "_law_points", "_law_shuts", "_law_pairs", "_law_things"]) fun _ _ _ _ _ _ us hl => match us, hl with | [_, _, _, _, _], _ => rfl
  have F33 := fun_mk (st := s_law) l33 c33 k33
  let T : Txt K mg := { f_BadPicture_init := f0, d_BadPicture_init := _, F_BadPicture_init := F0, b_BadPicture_init := b0, f_NotOpen_init := f1, d_NotOpen_init := _, F_NotOpen_init := F1, b_NotOpen_init := b1, f_is_whole := f2, d_is_whole := _, F_is_whole := F2, b_is_whole := b2, g_is_whole := PySem.W.mg_of X G a2, f_is_sequence := f3, d_is_sequence := _, F_is_sequence := F3, b_is_sequence := b3, g_is_sequence := PySem.W.mg_of X G a3, b1_is_sequence := bq31, f_full_picture := f4, d_full_picture := _, F_full_picture := F4, b_full_picture := b4, g_full_picture := PySem.W.mg_of X G a4, f_merged_labels := f5, d_merged_labels := _, F_merged_labels := F5, b_merged_labels := b5, g_merged_labels := PySem.W.mg_of X G a5, f_piece_labels := f6, d_piece_labels := _, F_piece_labels := F6, b_piece_labels := b6, g_piece_labels := PySem.W.mg_of X G a6, f_pieces_by_labels := f7, d_pieces_by_labels := _, F_pieces_by_labels := F7, b_pieces_by_labels := b7, g_pieces_by_labels := PySem.W.mg_of X G a7, f_Picture_init := f8, d_Picture_init := _, F_Picture_init := F8, b_Picture_init := b8, f_Picture_eq := f9, d_Picture_eq := _, F_Picture_eq := F9, b_Picture_eq := b9, f_Picture_len := f10, d_Picture_len := _, F_Picture_len := F10, b_Picture_len := b10, f_Picture_pieces := f11, d_Picture_pieces := _, F_Picture_pieces := F11, b_Picture_pieces := b11, f_Pictureis_pair := f12, d_Pictureis_pair := _, F_Pictureis_pair := F12, b_Pictureis_pair := b12, f_Picture_place_of := f13, d_Picture_place_of := _, F_Picture_place_of := F13, b_Picture_place_of := b13, f_Picture_is_open := f14, d_Picture_is_open := _, F_Picture_is_open := F14, b_Picture_is_open := b14, f_Picture_with_pair := f15, d_Picture_with_pair := _, F_Picture_with_pair := F15, b_Picture_with_pair := b15, f_Picture_without_pair := f16, d_Picture_without_pair := _, F_Picture_without_pair := F16, b_Picture_without_pair := b16, f_law_hand := f17, d_law_hand := _, F_law_hand := F17, b_law_hand := b17, g_law_hand := PySem.W.mg_of X G a17, f_law_mixed := f18, d_law_mixed := _, F_law_mixed := F18, b_law_mixed := b18, g_law_mixed := PySem.W.mg_of X G a18, f_law_take := f19, d_law_take := _, F_law_take := F19, b_law_take := b19, g_law_take := PySem.W.mg_of X G a19, f_law_whole := f20, d_law_whole := _, F_law_whole := F20, b_law_whole := b20, g_law_whole := PySem.W.mg_of X G a20, f_law_full := f21, d_law_full := _, F_law_full := F21, b_law_full := b21, g_law_full := PySem.W.mg_of X G a21, f_law_marks := f22, d_law_marks := _, F_law_marks := F22, b_law_marks := b22, g_law_marks := PySem.W.mg_of X G a22, f_law_refused := f23, d_law_refused := _, F_law_refused := F23, b_law_refused := b23, g_law_refused := PySem.W.mg_of X G a23, f_law_couple := f24, d_law_couple := _, F_law_couple := F24, b_law_couple := b24, g_law_couple := PySem.W.mg_of X G a24, f_law_due := f25, d_law_due := _, F_law_due := F25, b_law_due := b25, g_law_due := PySem.W.mg_of X G a25, f_law_odd := f26, d_law_odd := _, F_law_odd := F26, b_law_odd := b26, g_law_odd := PySem.W.mg_of X G a26, f_law_pieces_due := f27, d_law_pieces_due := _, F_law_pieces_due := F27, b_law_pieces_due := b27, g_law_pieces_due := PySem.W.mg_of X G a27, f_law_place := f28, d_law_place := _, F_law_place := F28, b_law_place := b28, g_law_place := PySem.W.mg_of X G a28, f_law_changed := f29, d_law_changed := _, F_law_changed := F29, b_law_changed := b29, g_law_changed := PySem.W.mg_of X G a29, f_law_full_word := f30, d_law_full_word := _, F_law_full_word := F30, b_law_full_word := b30, g_law_full_word := PySem.W.mg_of X G a30, f_law_refusals := f31, d_law_refusals := _, F_law_refusals := F31, b_law_refusals := b31, g_law_refusals := PySem.W.mg_of X G a31, f_law_pairs_asked := f32, d_law_pairs_asked := _, F_law_pairs_asked := F32, b_law_pairs_asked := b32, g_law_pairs_asked := PySem.W.mg_of X G a32, f_law := fa, d_law := _, F_law := F33, m_abs := PySem.W.mg_none_of X G z_abs, m_bool := PySem.W.mg_none_of X G z_bool, m_int := PySem.W.mg_none_of X G z_int, m_isinstance := PySem.W.mg_none_of X G z_isinstance, m_len := PySem.W.mg_none_of X G z_len, m_list := PySem.W.mg_none_of X G z_list, m_min := PySem.W.mg_none_of X G z_min, m_range := PySem.W.mg_none_of X G z_range, m_repr := PySem.W.mg_none_of X G z_repr, m_reversed := PySem.W.mg_none_of X G z_reversed, m_set := PySem.W.mg_none_of X G z_set, m_sorted := PySem.W.mg_none_of X G z_sorted, m_tuple := PySem.W.mg_none_of X G z_tuple, m_zip := PySem.W.mg_none_of X G z_zip, C_SheetError := CS, g_SheetError := PySem.W.mg_of X G aS, C_BadPicture := CB, g_BadPicture := PySem.W.mg_of X G aB, o_BadPicture := ⟨⟨_, _, _, _, _, _, _, _, _, _, _, _, _, _, _, xB1, xB2⟩, xB3, xB4, xB5, xB6⟩, i_BadPicture := a0, t_BadPicture := xB13, n_BadPicture := xB7, x_BadPicture := ⟨xB8, xB9, xB4, xB10⟩, e_BadPicture := ⟨xB8, xB9, xB4, xB10, xB11, w1, w2, xB12⟩, C_NotOpen := CN, g_NotOpen := PySem.W.mg_of X G aN, o_NotOpen := ⟨⟨_, _, _, _, _, _, _, _, _, _, _, _, _, _, _, xN1, xN2⟩, xN3, xN4, xN5, xN6⟩, i_NotOpen := a1, t_NotOpen := xN13, n_NotOpen := xN7, x_NotOpen := ⟨xN8, xN9, xN4, xN10⟩, e_NotOpen := ⟨xN8, xN9, xN4, xN10, xN11, w1, w2, xN12⟩, mm_bb := own_exm xB4 y1 xB5 e_bb, mm_nn := own_exm xN4 y2 xN5 e_nn, mm_nb := own_exm xB4 y1 xB5 e_nb, kit_bs := own_kit y3 y5 t_bs (fun _ => rfl), kit_bn := own_kit y2 xN5 t_bn (fun z => by rw [y7] at z; cases z), kit_ns := own_kit y3 y5 t_ns (fun _ => rfl), kit_nb := own_kit y1 xB5 e_nb (fun z => by rw [t_nb] at z; cases z), C_Picture := CP, g_Picture := PySem.W.mg_of X G aP, cl_Picture := ⟨p1, p2, p3, p4⟩, M_Picture := ⟨p5, a8, i8, p6⟩, na_points := n0, na_walls := n1, na_pairs := n2, na_pieces := n3, M_is_pair := ⟨a12, i12, k12⟩, M_place_of := ⟨a13, i13, k13⟩, M_is_open := ⟨a14, i14, k14⟩, M_with_pair := ⟨a15, i15, k15⟩, M_without_pair := ⟨a16, i16, k16⟩, p_pieces := pp, pr_pieces := ⟨a11, g1, g2, _, r11⟩, eq_at := a9, eq_fn := i9, len_at := a10, len_fn := i10, k_class := p7, k_get := w1, k_takes := w2, k_mro := p8, k_isp := own_kit y4 y6 p9 (fun _ => rfl), tk_most := tk, c_MOST_CORNERS := PySem.W.mg_of X G mc }
  exact ⟨_, fun s v => .of_eq rfl, fun base _ _ => ok_law T⟩
end K00
open PySem PySem.W PyProof.Rows
set_option maxHeartbeats 0 in
theorem PySem.Challenge.cw_sheetproofs_k00_whole_pictures_pieces_an_holds : PySem.Challenge.rw_sheetproofs_k00_whole_pictures_pieces_an.Holds := by
  w_on; o_law; k_head; (case hw => w_witness2)
  k_fill
  refine TkS.walk_top (l := PySem.Challenge.rw_sheetproofs_k00_whole_pictures_pieces_an) (n := 63) (x := "_law_script") (CX := fun _ => L2.CX0) (sp := fun w => K00.sp_law _) rfl (by decide) rfl (fun w h Y => PySem.W.kIn_of Y) ?F (fun _ _ a ns hl _ hS => ⟨a, ns, rfl, hS, hl, fun _ => rfl⟩) (fun _ _ _ _ _ h => h)
  case F =>
    intro w mg fa h KX G hmg
    refine' K00.all_mk KX G hmg ?aS ?aB ?aN ?aP ?a0 ?i0 ?l0 ?c0 ?k0 ?a1 ?i1 ?l1 ?c1 ?k1 ?a2 ?l2 ?c2 ?k2 ?e2 ?a3 ?l3 ?c3 ?k3 ?e3 ?a4 ?l4 ?c4 ?k4 ?a5 ?l5 ?c5 ?k5 ?a6 ?l6 ?c6 ?k6 ?a7 ?l7 ?c7 ?k7 ?a8 ?i8 ?l8 ?c8 ?k8 ?a9 ?i9 ?l9 ?c9 ?k9 ?a10 ?i10 ?l10 ?c10 ?k10 ?a11 ?r11 ?i11 ?l11 ?c11 ?k11 ?a12 ?i12 ?l12 ?c12 ?k12 ?a13 ?i13 ?l13 ?c13 ?k13 ?a14 ?i14 ?l14 ?c14 ?k14 ?a15 ?i15 ?l15 ?c15 ?k15 ?a16 ?i16 ?l16 ?c16 ?k16 ?a17 ?l17 ?c17 ?k17 ?a18 ?l18 ?c18 ?k18 ?a19 ?l19 ?c19 ?k19 ?a20 ?l20 ?c20 ?k20 ?a21 ?l21 ?c21 ?k21 ?a22 ?l22 ?c22 ?k22 ?a23 ?l23 ?c23 ?k23 ?a24 ?l24 ?c24 ?k24 ?a25 ?l25 ?c25 ?k25 ?a26 ?l26 ?c26 ?k26 ?a27 ?l27 ?c27 ?k27 ?a28 ?l28 ?c28 ?k28 ?a29 ?l29 ?c29 ?k29 ?a30 ?l30 ?c30 ?k30 ?a31 ?l31 ?c31 ?k31 ?a32 ?l32 ?c32 ?k32 ?a33 ?l33 ?c33 ?k33 ?z_abs ?z_bool ?z_int ?z_isinstance ?z_len ?z_list ?z_min ?z_range ?z_repr ?z_reversed ?z_set ?z_sorted ?z_tuple ?z_zip ?xB1 ?xB2 ?xB3 ?xB4 ?xB5 ?xB6 ?xB7 ?xB8 ?xB9 ?xB10 ?xB11 ?xB12 ?xB13 ?xN1 ?xN2 ?xN3 ?xN4 ?xN5 ?xN6 ?xN7 ?xN8 ?xN9 ?xN10 ?xN11 ?xN12 ?xN13 ?w1 ?w2 ?e_bb ?e_nn ?e_nb ?t_bs ?t_bn ?t_ns ?y1 ?y2 ?y3 ?y4 ?y5 ?y6 ?y7 ?t_nb ?p1 ?p2 ?p3 ?p4 ?p5 ?p6 ?n0 ?n1 ?n2 ?n3 ?g1 ?g2 ?p7 ?p8 ?p9 ?mc
    (case aS => k_is); (case aB => k_is); (case aN => k_is); (case aP => k_is); (case a0 => k_is); (case i0 => k_is); (case l0 => k_is); (case c0 => k_is); (case k0 => k_is); (case a1 => k_is); (case i1 => k_is); (case l1 => k_is); (case c1 => k_is); (case k1 => k_is); (case a2 => k_is); (case l2 => k_is); (case c2 => k_is); (case k2 => k_is); (case e2 => k_is); (case a3 => k_is); (case l3 => k_is); (case c3 => k_is); (case k3 => k_is); (case e3 => k_is); (case a4 => k_is); (case l4 => k_is); (case c4 => k_is); (case k4 => k_is); (case a5 => k_is); (case l5 => k_is); (case c5 => k_is); (case k5 => k_is); (case a6 => k_is); (case l6 => k_is); (case c6 => k_is); (case k6 => k_is); (case a7 => k_is); (case l7 => k_is); (case c7 => k_is); (case k7 => k_is); (case a8 => k_is); (case i8 => k_is); (case l8 => k_is); (case c8 => k_is); (case k8 => k_is); (case a9 => k_is); (case i9 => k_is); (case l9 => k_is); (case c9 => k_is); (case k9 => k_is); (case a10 => k_is); (case i10 => k_is); (case l10 => k_is); (case c10 => k_is); (case k10 => k_is); (case a11 => k_is); (case r11 => k_is); (case i11 => k_is); (case l11 => k_is); (case c11 => k_is); (case k11 => k_is); (case a12 => k_is); (case i12 => k_is); (case l12 => k_is); (case c12 => k_is); (case k12 => k_is); (case a13 => k_is); (case i13 => k_is); (case l13 => k_is); (case c13 => k_is); (case k13 => k_is); (case a14 => k_is); (case i14 => k_is); (case l14 => k_is); (case c14 => k_is); (case k14 => k_is); (case a15 => k_is); (case i15 => k_is); (case l15 => k_is); (case c15 => k_is); (case k15 => k_is); (case a16 => k_is); (case i16 => k_is); (case l16 => k_is); (case c16 => k_is); (case k16 => k_is); (case a17 => k_is); (case l17 => k_is); (case c17 => k_is); (case k17 => k_is); (case a18 => k_is); (case l18 => k_is); (case c18 => k_is); (case k18 => k_is); (case a19 => k_is); (case l19 => k_is); (case c19 => k_is); (case k19 => k_is); (case a20 => k_is); (case l20 => k_is); (case c20 => k_is); (case k20 => k_is); (case a21 => k_is); (case l21 => k_is); (case c21 => k_is); (case k21 => k_is); (case a22 => k_is); (case l22 => k_is); (case c22 => k_is); (case k22 => k_is); (case a23 => k_is); (case l23 => k_is); (case c23 => k_is); (case k23 => k_is); (case a24 => k_is); (case l24 => k_is); (case c24 => k_is); (case k24 => k_is); (case a25 => k_is); (case l25 => k_is); (case c25 => k_is); (case k25 => k_is); (case a26 => k_is); (case l26 => k_is); (case c26 => k_is); (case k26 => k_is); (case a27 => k_is); (case l27 => k_is); (case c27 => k_is); (case k27 => k_is); (case a28 => k_is); (case l28 => k_is); (case c28 => k_is); (case k28 => k_is); (case a29 => k_is); (case l29 => k_is); (case c29 => k_is); (case k29 => k_is); (case a30 => k_is); (case l30 => k_is); (case c30 => k_is); (case k30 => k_is); (case a31 => k_is); (case l31 => k_is); (case c31 => k_is); (case k31 => k_is); (case a32 => k_is); (case l32 => k_is); (case c32 => k_is); (case k32 => k_is); (case a33 => k_is); (case l33 => k_is); (case c33 => k_is); (case k33 => k_is); (case z_abs => k_is); (case z_bool => k_is); (case z_int => k_is); (case z_isinstance => k_is); (case z_len => k_is); (case z_list => k_is); (case z_min => k_is); (case z_range => k_is); (case z_repr => k_is); (case z_reversed => k_is); (case z_set => k_is); (case z_sorted => k_is); (case z_tuple => k_is); (case z_zip => k_is); (case xB1 => k_is); (case xB2 => decide +kernel); (case xB3 => k_is); (case xB4 => k_is); (case xB5 => k_is); (case xB6 => k_is); (case xB7 => k_is); (case xB8 => k_is); (case xB9 => k_is); (case xB10 => k_is); (case xB11 => k_is); (case xB12 => k_is); (case xB13 => k_is); (case xN1 => k_is); (case xN2 => decide +kernel); (case xN3 => k_is); (case xN4 => k_is); (case xN5 => k_is); (case xN6 => k_is); (case xN7 => k_is); (case xN8 => k_is); (case xN9 => k_is); (case xN10 => k_is); (case xN11 => k_is); (case xN12 => k_is); (case xN13 => k_is); (case w1 => k_is); (case w2 => k_is); (case e_bb => first | rfl | k_is); (case e_nn => first | rfl | k_is); (case e_nb => k_is); (case t_bs => k_is); (case t_bn => k_is); (case t_ns => k_is); (case y1 => k_is); (case y2 => k_is); (case y3 => k_is); (case y4 => k_is); (case y5 => k_is); (case y6 => k_is); (case y7 => decide); (case t_nb => decide); (case p1 => k_is); (case p2 => k_is); (case p3 => k_is); (case p4 => k_is); (case p5 => k_is); (case p6 => k_is); (case n0 => k_is); (case n1 => k_is); (case n2 => k_is); (case n3 => k_is); (case g1 => k_is); (case g2 => k_is); (case p7 => k_is); (case p8 => k_is); (case p9 => first | rfl | k_is); (case mc => k_is)

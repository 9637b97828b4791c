import PyProof.Rows.All
import HandS.HeadEnd
import HandS.Head3
import KE.OsRunLaw
import HandS.ForMost
import HandS.Zip
import HandS.Walk
import HandS.Deep
import HandS.Strs
import HandS.ExcIs
import HandS.ExcField
import PyProof.Rows.ReprR
import HandS.Exc
import HandS.ExcOwn
import HandS.CallSlots
import HandS.OwnEq
import HandS.IsInst
import HandS.ExcInit
import HandS.WordsExc
import HandS.TryMany
import HandS.Defaults
import HandS.Style
import HandS.SortRule
import HandS.Conv
import HandS.TupAny
import HandS.TupSets
import HandS.Property
import HandS.Rev
import HandS.Evl
import HandS.Wide
import KE.Datum
import HandS.Gcd
import HandS.List
import HandS.Iter
import KE.GoesEnum
import HandS.WideBits
import HandS.Lambda
import HandS.Nested
import HandS.TryOnly
import PyProof.P3Eq
import HandS.EndTab
import KE.KNest
import PySem.Challenge.RW_sheetproofs_k25_whole_lines_meet_walls_e
set_option Elab.async false
set_option linter.all false
set_option maxRecDepth 100000
set_option maxHeartbeats 8000000
set_option exponentiation.threshold 5000
section
namespace K25
open PySem PySem.W PySem.Calls PyProof.Rows
abbrev topR : PySem.W.OpenRow := PySem.W.OpenLaw.row PySem.Challenge.rw_sheetproofs_k25_whole_lines_meet_walls_e
abbrev topV : Program := PySem.W.view topR.prog [0, 28, 36, 76]
def topN0 : List PySem.Str := ["_wall", "SheetError", "BadPrime", "BadNumber", "ByZero", "BadSpace", "is_whole", "common_divisor", "power_of", "is_sequence", "has_between", "wrong_index", "columns_of", "as_tuples", "product_sum", "columns_as_rows", "rows_product", "MOST_PRIME", "least_factor", "is_prime", "is_number", "RestField", "_fraction", "FractionField", "MOST_CORNERS", "MOST_WIDTH", "_is_row", "_width_of", "Space"]
def topN1 : List PySem.Str := ["number_at", "Meet", "_weights_on", "line_meets", "_law_start", "_law_draw", "_law_whole", "_law_gcd", "_law_low", "_law_some", "_law_plus", "_law_times", "_law_minus", "_law_over", "_law_nought", "_law_good", "_law_good_row", "_law_dot", "_law_sum", "_law_prime", "_law_field", "_law_tiny", "_law_number", "_law_filled", "_law_row", "_law_shear", "_law_wide", "_law_narrow", "_law_full", "_law_grid"]
def topN2 : List PySem.Str := ["_law_pair_of_lots", "_law_tile_fair", "_law_meet", "_law_same_meet", "_law_found"]
def topN : List PySem.Str := topN0 ++ topN1 ++ topN2
end K25
open PySem PySem.W PySem.Calls PyProof.Rows
local macro_rules
  | `(tactic| o_headL (kHook $k $a $e)) => `(tactic| assumption)
theorem K25.hd0 (X : K25.topR.Holds) : K25.topR.Holds := by k_headL
abbrev K25.topA : List Addr := [2, 3, 43, 45, 46, 48, 49, 50, 57, 58, 59, 60, 63, 70, 71, 72, 75, 82, 83, 84, 87, 94, 95, 96, 99, 106, 108, 109, 111, 112, 113, 114, 115, 118, 119, 121, 122, 124, 125, 126, 128, 129, 131, 132, 133, 135, 136, 138, 139, 140, 141, 143, 144, 146, 147, 148, 150, 151, 153, 154, 155, 157, 158, 160, 161, 162, 165, 166, 167, 170, 171, 172, 174, 175, 177, 178, 179, 181, 182, 184, 185, 186, 189, 190, 191, 193, 194, 196, 197, 198, 200, 201, 203, 204, 205, 207, 208, 210, 211, 212, 214, 215, 217, 218, 226, 228, 229, 231, 232, 233, 235, 236, 238, 239, 240, 242, 243, 245, 246, 247, 249, 250, 252, 253, 254, 256, 257, 259, 260, 261, 263, 264, 266, 267, 268, 270, 271, 273, 274, 275, 277, 278, 280, 281, 282, 284, 285, 287, 288, 289, 290, 291, 292, 293, 296, 298, 299, 301, 302, 310, 312, 313, 315, 316, 317, 319, 320, 322, 323, 324, 326, 327, 329, 330, 331, 333, 334, 336, 337, 338, 340, 341, 343, 344, 345, 347, 348, 350, 351, 352, 354, 355, 357, 358, 359, 361, 362, 364, 365, 366, 368, 369, 371, 372, 373, 374, 375, 376, 377, 380, 383, 384, 385, 387, 388, 390, 391, 392, 394, 395, 397, 398, 406, 408, 409, 411, 412, 413, 415, 416, 418, 419, 420, 421, 422, 423, 424, 427, 429, 430, 432, 433, 441, 443, 444, 446, 447, 448, 450, 451, 453, 454, 455, 456, 457, 458, 459, 462, 464, 465, 467, 468, 469, 471, 472, 474, 475, 476, 478, 479, 481, 482, 483, 485, 486, 488, 489, 490, 492, 493, 495, 496, 497, 499, 500, 502, 503, 504, 506, 507, 509, 510, 511, 513, 514, 516, 517, 518, 520, 521, 523, 524, 525, 527, 528, 530, 531, 532, 534, 535, 537, 538, 539, 541, 542, 544, 545, 546, 548, 549, 551, 552, 553, 555, 556, 558, 559, 560, 562, 563, 565, 566, 567, 569, 570, 572, 573, 574, 577, 578, 579, 581, 582, 584, 585, 586, 588, 589, 591, 592, 593, 595, 596, 598, 599, 600, 602, 603, 605, 606, 607, 609, 610, 612, 613, 614, 617, 618, 619, 621, 622, 624, 625, 626, 629, 630, 631, 634, 635, 636, 639, 640, 641, 644, 645, 646, 648, 649, 651, 652, 653, 655, 656, 658, 659, 660, 662, 663, 665, 666, 667, 669, 670, 672, 673, 674, 676, 677, 679, 680, 681, 684, 685]
theorem K25.topE : ∀ P, K25.topA = (K25.hd0.heap_1 P).map (·.1) := fun _ => by kernel_rfl
theorem K25.run (w : World) : HandSHeadRun.RunEqI K25.topR K25.topV (kHook K25.hd0.heap_1 K25.topA K25.topE) (fun s => List.map (HandSHeadRun.getT s) K25.topA) 12000 K25.topN w := by
  unfold HandSHeadRun.RunEqI
  kernel_rfl
end
set_option Elab.async false
set_option linter.all false
set_option maxRecDepth 100000
set_option maxHeartbeats 4000000
/-! zip of two sequences, each a list or a tuple -/
namespace RZM
open PySem
open PySem.Sem (wp)
def SIter (t : Bool) (h : Heap) (it l : Addr) (i : Nat) : Prop := match t with
  | true => h.IsTupleIter it l i
  | false => h.IsListIter it l i
def SSeq (t : Bool) (h : Heap) (l : Addr) (xs : Array Value) : Prop := match t with
  | true => h.IsTuple l xs
  | false => h.IsList l xs
def itName (t : Bool) : String := match t with
  | true => "tuple_iterator"
  | false => "list_iterator"
section
variable {t : Bool} {h h' : Heap} {a b l : Addr} {i : Nat} {xs : Array Value}
theorem SIter.extBut (x : SIter t h a l i) (hs : Heap.ExtBut b h h') (hab : a ≠ b) : SIter t h' a l i := by
  cases t with
  | true => exact Heap.IsTupleIter.extBut x hs hab
  | false => exact Heap.IsListIter.extBut x hs hab
theorem SSeq.extBut (x : SSeq t h a xs) (hs : Heap.ExtBut b h h') (hab : a ≠ b) : SSeq t h' a xs := by
  cases t with
  | true => exact Heap.IsTuple.extBut x hs hab
  | false => exact Heap.IsList.extBut x hs hab
theorem SIter.at (x : SIter t h a l i) (e : ∀ o, h.get? a = some o → h'.get? a = some o) : SIter t h' a l i := by
  cases t with
  | true => exact Heap.IsTupleIter.at x e
  | false => exact Heap.IsListIter.at x e
theorem SIter.obj (x : SIter t h a l i) : ∃ o, h.get? a = some o ∧ ∀ v, o.data ≠ .cell v := by
  cases t with
  | true =>
    obtain ⟨o, e, _, d⟩ := (show h.IsTupleIter a l i from x)
    exact ⟨o, e, fun v z => by rw [d] at z; cases z⟩
  | false =>
    obtain ⟨o, e, _, d⟩ := (show h.IsListIter a l i from x)
    exact ⟨o, e, fun v z => by rw [d] at z; cases z⟩
theorem SIter.lt (x : SIter t h a l i) : a < h.objs.size := by
  obtain ⟨o, e, _⟩ := x.obj
  exact Heap.lt_size e
theorem SSeq.lt (x : SSeq t h a xs) : a < h.objs.size := by
  cases t with
  | true =>
    obtain ⟨o, e, _⟩ := (show h.IsTuple a xs from x)
    exact Heap.lt_size e
  | false =>
    obtain ⟨o, e, _⟩ := (show h.IsList a xs from x)
    exact Heap.lt_size e
end
section
variable {prog : Program} {w : World} {A : Around} {E : Value → Shared → Prop} {s : Shared}
theorem nextOf_S_item {t : Bool} {it l : Addr} {i : Nat} {items : Array Value} {x : Value} {Q : Value → Shared → Prop} (hit : SIter t s.heap it l i) (hl : SSeq t s.heap l items) (hx : items[i]? = some x)
    (hQ : ∀ h', SIter t h' it l (i + 1) → Heap.SameBut it s.heap h' → Q x { s with heap := h' }) : wpAny (model prog w) A (Builtin.SmallTypes.nextOf (.ref it)) Q E s := by
  cases t with
  | true => exact RZ.nextOf_tuple_item hit hl hx hQ
  | false => exact wpAny_nextOf_list_item hit hl hx hQ
theorem nextOf_S_end {t : Bool} {it l : Addr} {i : Nat} {items : Array Value} {Q : Value → Shared → Prop} (hh : A.handled = none) (hit : SIter t s.heap it l i) (hl : SSeq t s.heap l items) (hx : items[i]? = none)
    (hE : ∀ h' e, Heap.ExtBut it s.heap h' → (∃ o, h'.get? e = some o ∧ o.cls = .type "StopIteration") → E (.ref e) { s with heap := h' }) : wpAny (model prog w) A (Builtin.SmallTypes.nextOf (.ref it)) Q E s := by
  cases t with
  | true => exact RZ.nextOf_tuple_end hh hit hl hx hE
  | false => exact wpAny_nextOf_list_end hh hit hl hx hE
theorem zipS_next_item {t1 t2 : Bool} {z TI TO i1 i2 l1 l2 : Addr} {k1 k2 : Nat} {xs ys : Array Value} {x y a b : Value} {Q : Value → Shared → Prop} (D : ZipApart z TI TO i1 i2 l1 l2)
    (hz : IsZip s.heap z TI TO .none) (hTI : IsPair s.heap TI (.ref i1) (.ref i2)) (hTO : IsPair s.heap TO a b)
    (h1 : SIter t1 s.heap i1 l1 k1) (h2 : SIter t2 s.heap i2 l2 k2) (hl1 : SSeq t1 s.heap l1 xs) (hl2 : SSeq t2 s.heap l2 ys) (hx : xs[k1]? = some x) (hy : ys[k2]? = some y)
    (hQ : ∀ h', IsZip h' z TI TO (rawInt s.heap.objs.size) → IsPair h' TO x y → SIter t1 h' i1 l1 (k1 + 1) → SIter t2 h' i2 l2 (k2 + 1) → IsPair h' s.heap.objs.size x y → h'.objs.size = s.heap.objs.size + 1 →
      (∀ c o, c ≠ z → c ≠ TO → c ≠ i1 → c ≠ i2 → s.heap.get? c = some o → h'.get? c = some o) → Q (.ref s.heap.objs.size) { s with heap := h' }) :
    wpAny (model prog w) A (Builtin.«zip.__next__» ⟨[.ref z], []⟩) (fun fin s' => ∃ v, fin = .done (.ret v) ∧ Q v s') E s := by
  show wpAny _ _ (field (.ref z) 2 >>= _) _ _ _
  refine wpAny_bind (wpAny_field hz rfl (x := .bool false) rfl ?_)
  show wpAny _ _ (field (.ref z) 3 >>= _) _ _ _
  refine wpAny_bind (wpAny_field hz rfl (x := .ref TI) rfl ?_)
  refine wpAny_bind (wpAny_seqItems hTI rfl ?_)
  show wpAny _ _ (Builtin.SmallTypes.ownedTupleIsFree (.ref z) >>= _) _ _ _
  refine wpAny_bind ?_
  unfold Builtin.SmallTypes.ownedTupleIsFree
  refine wpAny_bind (wpAny_field hz rfl (x := .none) rfl (wpAny_pure ?_))
  simp only [if_true]
  refine wpAny_bind (wpAny_rule ?_)
  refine wpAny_bind (wpAny_field hz rfl (x := .ref TO) rfl ?_)
  refine wpAny_bind (wpAny_setField_rec hz (by simp) fun h₁ hz₁ hs₁ => ?_)
  replace hz₁ : IsZip h₁ z TI TO .ellipsis := hz₁
  refine wpAny_bind ?_
  simp only [List.zipIdx_cons, List.zipIdx_nil, List.forIn_cons, List.forIn_nil]

  refine wpAny_bind (wpAny_bind (wpAny_onRaise ?_))
  show wpAny _ _ (Builtin.SmallTypes.nextOf (.ref i1) >>= _) _ _ _
  refine wpAny_bind (nextOf_S_item (h1.extBut hs₁.extBut D.i1z) (hl1.extBut hs₁.extBut D.l1z) hx fun h₂ h1₂ hs₂ => wpAny_pure ?_)
  have hTO₂ : IsPair h₂ TO a b := hs₂.extBut _ _ D.TOi1 (hs₁.extBut _ _ D.TOz hTO)
  refine wpAny_bind (wpAny_seqItems hTO₂ rfl ?_)
  refine wpAny_bind (wpAny_updateSeq_pair hTO₂ fun h₃ hTO₃ hs₃ => ?_)
  replace hTO₃ : IsPair h₃ TO x b := hTO₃
  refine wpAny_bind (wpAny_letGo (wpAny_pure ?_))

  refine wpAny_bind (wpAny_bind (wpAny_onRaise ?_))
  show wpAny _ _ (Builtin.SmallTypes.nextOf (.ref i2) >>= _) _ _ _
  refine wpAny_bind (nextOf_S_item (((h2.extBut hs₁.extBut D.i2z).extBut hs₂.extBut D.i12.symm).extBut hs₃.extBut D.TOi2.symm)
    (((hl2.extBut hs₁.extBut D.l2z).extBut hs₂.extBut D.l2i1).extBut hs₃.extBut D.l2TO) hy fun h₄ h2₄ hs₄ => wpAny_pure ?_)
  have hTO₄ : IsPair h₄ TO x b := hs₄.extBut _ _ D.TOi2 hTO₃
  refine wpAny_bind (wpAny_seqItems hTO₄ rfl ?_)
  refine wpAny_bind (wpAny_updateSeq_pair hTO₄ fun h₅ hTO₅ hs₅ => ?_)
  replace hTO₅ : IsPair h₅ TO x y := hTO₅
  refine wpAny_bind (wpAny_letGo (wpAny_pure (wpAny_pure ?_)))

  refine wpAny_bind (wpAny_seqItems hTO₅ rfl ?_)
  refine wpAny_bind (wpAny_newTuple ?_)
  have hsz : h₅.objs.size = s.heap.objs.size := by rw [hs₅.1, hs₄.1, hs₃.1, hs₂.1, hs₁.1]
  have hz₅ : IsZip h₅ z TI TO .ellipsis := hs₅.extBut _ _ D.TOz.symm (hs₄.extBut _ _ D.i2z.symm (hs₃.extBut _ _ D.TOz.symm (hs₂.extBut _ _ D.i1z.symm hz₁)))
  have hk₅ : ∀ c o, c ≠ z → c ≠ TO → c ≠ i1 → c ≠ i2 → s.heap.get? c = some o → h₅.get? c = some o := fun c o c1 c2 c3 c4 e =>
    hs₅.extBut _ _ c2 (hs₄.extBut _ _ c4 (hs₃.extBut _ _ c2 (hs₂.extBut _ _ c3 (hs₁.extBut _ _ c1 e))))
  have h1₅ : SIter t1 h₅ i1 l1 (k1 + 1) := ((h1₂.extBut hs₃.extBut D.TOi1.symm).extBut hs₄.extBut D.i12).extBut hs₅.extBut D.TOi1.symm
  have h2₅ : SIter t2 h₅ i2 l2 (k2 + 1) := h2₄.extBut hs₅.extBut D.TOi2.symm
  have hzlt : z < h₅.objs.size := Heap.lt_size hz₅
  have hTOlt : TO < h₅.objs.size := Heap.lt_size hTO₅
  have hi1lt : i1 < h₅.objs.size := by exact h1₅.lt
  have hi2lt : i2 < h₅.objs.size := by exact h2₅.lt
  show wpAny _ _ (Builtin.SmallTypes.ownedTupleHandOut (.ref z) (.ref h₅.objs.size) >>= _) _ _ _
  refine wpAny_bind ?_
  unfold Builtin.SmallTypes.ownedTupleHandOut
  have hz₆ : IsZip (h₅.push { cls := .type "tuple", data := .seq #[x, y] }) z TI TO .ellipsis := Heap.get?_push_of_some _ hz₅
  refine wpAny_bind (wpAny_setField_rec hz₆ (by simp) fun h₇ hz₇ hs₇ => ?_)
  replace hz₇ : IsZip h₇ z TI TO (rawInt h₅.objs.size) := hz₇
  refine wpAny_setField_rec hz₇ (by simp) fun h₈ hz₈ hs₈ => ?_
  replace hz₈ : IsZip h₈ z TI TO (rawInt h₅.objs.size) := hz₈
  have up : ∀ c o, c ≠ z → h₅.get? c = some o → h₈.get? c = some o := fun c o c1 e => hs₈.extBut _ _ c1 (hs₇.extBut _ _ c1 (Heap.get?_push_of_some _ e))
  have hT₈ : IsPair h₈ h₅.objs.size x y := hs₈.extBut _ _ (Nat.ne_of_gt hzlt) (hs₇.extBut _ _ (Nat.ne_of_gt hzlt) (Heap.get?_push_size _ rfl))
  have hz8 : h₈.objs.size = h₅.objs.size + 1 := by rw [hs₈.1, hs₇.1, Heap.size_push]
  rw [hsz] at hz₈ hT₈ hz8
  refine wpAny_pure ⟨_, rfl, ?_⟩
  show Q (.ref h₅.objs.size) _
  rw [hsz]
  exact hQ h₈ hz₈ (up _ _ D.TOz hTO₅) (h1₅.at fun o e => up _ o D.i1z e) (h2₅.at fun o e => up _ o D.i2z e) hT₈ hz8 fun c o c1 c2 c3 c4 e => up c o c1 (hk₅ c o c1 c2 c3 c4 e)

theorem zipS_next_end {t1 t2 : Bool} {z TI TO i1 i2 l1 l2 : Addr} {k1 k2 : Nat} {xs ys : Array Value} {a b : Value} {Q : Fin → Shared → Prop} (hh : A.handled = none) (D : ZipApart z TI TO i1 i2 l1 l2)
    (hz : IsZip s.heap z TI TO .none) (hTI : IsPair s.heap TI (.ref i1) (.ref i2)) (hTO : IsPair s.heap TO a b)
    (h1 : SIter t1 s.heap i1 l1 k1) (h2 : SIter t2 s.heap i2 l2 k2) (hl1 : SSeq t1 s.heap l1 xs) (hl2 : SSeq t2 s.heap l2 ys) (hend : xs[k1]? = none ∨ ys[k2]? = none)
    (hE : ∀ h' e, (∀ c o, c ≠ z → c ≠ TO → c ≠ i1 → c ≠ i2 → s.heap.get? c = some o → h'.get? c = some o) → (∃ o, h'.get? e = some o ∧ o.cls = .type "StopIteration") → E (.ref e) { s with heap := h' }) :
    wpAny (model prog w) A (Builtin.«zip.__next__» ⟨[.ref z], []⟩) Q E s := by
  show wpAny _ _ (field (.ref z) 2 >>= _) _ _ _
  refine wpAny_bind (wpAny_field hz rfl (x := .bool false) rfl ?_)
  show wpAny _ _ (field (.ref z) 3 >>= _) _ _ _
  refine wpAny_bind (wpAny_field hz rfl (x := .ref TI) rfl ?_)
  refine wpAny_bind (wpAny_seqItems hTI rfl ?_)
  show wpAny _ _ (Builtin.SmallTypes.ownedTupleIsFree (.ref z) >>= _) _ _ _
  refine wpAny_bind ?_
  unfold Builtin.SmallTypes.ownedTupleIsFree
  refine wpAny_bind (wpAny_field hz rfl (x := .none) rfl (wpAny_pure ?_))
  simp only [if_true]
  refine wpAny_bind (wpAny_rule ?_)
  refine wpAny_bind (wpAny_field hz rfl (x := .ref TO) rfl ?_)
  refine wpAny_bind (wpAny_setField_rec hz (by simp) fun h₁ hz₁ hs₁ => ?_)
  replace hz₁ : IsZip h₁ z TI TO .ellipsis := hz₁
  refine wpAny_bind ?_
  simp only [List.zipIdx_cons, List.zipIdx_nil, List.forIn_cons, List.forIn_nil]
  refine wpAny_bind (wpAny_bind (wpAny_onRaise ?_))
  show wpAny _ _ (Builtin.SmallTypes.nextOf (.ref i1) >>= _) _ _ _
  cases hx : xs[k1]? with
  | none =>
    refine wpAny_bind (nextOf_S_end hh (h1.extBut hs₁.extBut D.i1z) (hl1.extBut hs₁.extBut D.l1z) hx fun h₂ e hs₂ he => ?_)
    obtain ⟨oe, hoe, hce⟩ := he
    have hz₂ : IsZip h₂ z TI TO .ellipsis := hs₂ _ _ D.i1z.symm hz₁
    have hez : e ≠ z := fun x => by subst x; rw [hz₂] at hoe; cases hoe; simp at hce
    refine wpAny_setField_rec hz₂ (by simp) fun h₃ _ hs₃ => hE h₃ e (fun c o c1 _ c3 _ x => hs₃.extBut _ _ c1 (hs₂ _ _ c3 (hs₁.extBut _ _ c1 x))) ⟨oe, hs₃.extBut _ _ hez hoe, hce⟩
  | some x =>
    have hy : ys[k2]? = none := by rcases hend with h | h; rw [hx] at h; cases h; exact h
    refine wpAny_bind (nextOf_S_item (h1.extBut hs₁.extBut D.i1z) (hl1.extBut hs₁.extBut D.l1z) hx fun h₂ h1₂ hs₂ => wpAny_pure ?_)
    have hTO₂ : IsPair h₂ TO a b := hs₂.extBut _ _ D.TOi1 (hs₁.extBut _ _ D.TOz hTO)
    refine wpAny_bind (wpAny_seqItems hTO₂ rfl ?_)
    refine wpAny_bind (wpAny_updateSeq_pair hTO₂ fun h₃ hTO₃ hs₃ => ?_)
    refine wpAny_bind (wpAny_letGo (wpAny_pure ?_))
    refine wpAny_bind (wpAny_bind (wpAny_onRaise ?_))
    show wpAny _ _ (Builtin.SmallTypes.nextOf (.ref i2) >>= _) _ _ _
    refine wpAny_bind (nextOf_S_end hh (((h2.extBut hs₁.extBut D.i2z).extBut hs₂.extBut D.i12.symm).extBut hs₃.extBut D.TOi2.symm)
      (((hl2.extBut hs₁.extBut D.l2z).extBut hs₂.extBut D.l2i1).extBut hs₃.extBut D.l2TO) hy fun h₄ e hs₄ he => ?_)
    obtain ⟨oe, hoe, hce⟩ := he
    have hz₄ : IsZip h₄ z TI TO .ellipsis := hs₄ _ _ D.i2z.symm (hs₃.extBut _ _ D.TOz.symm (hs₂.extBut _ _ D.i1z.symm hz₁))
    have hez : e ≠ z := fun x => by subst x; rw [hz₄] at hoe; cases hoe; simp at hce
    refine wpAny_setField_rec hz₄ (by simp) fun h₅ _ hs₅ => hE h₅ e (fun c o c1 c2 c3 c4 x => hs₅.extBut _ _ c1 (hs₄ _ _ c4 (hs₃.extBut _ _ c2 (hs₂.extBut _ _ c3 (hs₁.extBut _ _ c1 x))))) ⟨oe, hs₅.extBut _ _ hez hoe, hce⟩

theorem pyNext_zipS_item {t1 t2 : Bool} {z TI TO i1 i2 l1 l2 : Addr} {k1 k2 : Nat} {xs ys : Array Value} {x y a b : Value} {Q : Option Value → Shared → Prop} (D : ZipApart z TI TO i1 i2 l1 l2)
    (hz : IsZip s.heap z TI TO .none) (hTI : IsPair s.heap TI (.ref i1) (.ref i2)) (hTO : IsPair s.heap TO a b)
    (h1 : SIter t1 s.heap i1 l1 k1) (h2 : SIter t2 s.heap i2 l2 k2) (hl1 : SSeq t1 s.heap l1 xs) (hl2 : SSeq t2 s.heap l2 ys) (hx : xs[k1]? = some x) (hy : ys[k2]? = some y)
    (hQ : ∀ h', IsZip h' z TI TO (rawInt s.heap.objs.size) → IsPair h' TO x y → SIter t1 h' i1 l1 (k1 + 1) → SIter t2 h' i2 l2 (k2 + 1) → IsPair h' s.heap.objs.size x y → h'.objs.size = s.heap.objs.size + 1 →
      (∀ c o, c ≠ z → c ≠ TO → c ≠ i1 → c ≠ i2 → s.heap.get? c = some o → h'.get? c = some o) → Q (some (.ref s.heap.objs.size)) { s with heap := h' }) :
    wpAny (model prog w) A (pyNext (.ref z)) Q E s := by
  have hT : s.TypeIs (.ref z) "zip" := ⟨_, hz, rfl⟩
  unfold pyNext
  exact wpAny_bind (wpAny_attempt (wpAny_callSpecial?_slot (name := Str.ofString "__next__") hT F.slot_zip_next
    (wpAny_call_entry F.slot_zip_next hT F.entry_zip_next
      (zipS_next_item D hz hTI hTO h1 h2 hl1 hl2 hx hy fun h' a1 a2 a3 a4 a5 a6 a7 => wpAny_pure (hQ h' a1 a2 a3 a4 a5 a6 a7)) (F.args_zip_next_1 _))))

theorem pyNext_zipS_end {t1 t2 : Bool} {z TI TO i1 i2 l1 l2 : Addr} {k1 k2 : Nat} {xs ys : Array Value} {a b : Value} {Q : Option Value → Shared → Prop} (hh : A.handled = none) (D : ZipApart z TI TO i1 i2 l1 l2)
    (hz : IsZip s.heap z TI TO .none) (hTI : IsPair s.heap TI (.ref i1) (.ref i2)) (hTO : IsPair s.heap TO a b)
    (h1 : SIter t1 s.heap i1 l1 k1) (h2 : SIter t2 s.heap i2 l2 k2) (hl1 : SSeq t1 s.heap l1 xs) (hl2 : SSeq t2 s.heap l2 ys) (hend : xs[k1]? = none ∨ ys[k2]? = none)
    (hQ : ∀ h', (∀ c o, c ≠ z → c ≠ TO → c ≠ i1 → c ≠ i2 → s.heap.get? c = some o → h'.get? c = some o) → Q none { s with heap := h' }) : wpAny (model prog w) A (pyNext (.ref z)) Q E s := by
  have hT : s.TypeIs (.ref z) "zip" := ⟨_, hz, rfl⟩
  unfold pyNext
  refine wpAny_bind (wpAny_attempt (wpAny_callSpecial?_slot (name := Str.ofString "__next__") hT F.slot_zip_next
    (wpAny_call_entry F.slot_zip_next hT F.entry_zip_next (zipS_next_end hh D hz hTI hTO h1 h2 hl1 hl2 hend fun h' e hk he => ?_) (F.args_zip_next_1 _))))
  obtain ⟨o, ho, hc⟩ := he
  refine wpAny_bind (wpAny_isInstance (T := "StopIteration") (b := true) ⟨o, ho, hc⟩ isSubtype_stop ?_)
  exact wpAny_pure (hQ _ hk)
end


abbrev zH1 (t1 : Bool) (h : Heap) (l1 : Addr) : Heap := h.push { cls := .type (itName t1), data := .fields #[.ref l1, .int 0 0] }
abbrev zH2 (t1 t2 : Bool) (h : Heap) (l1 l2 : Addr) : Heap := (zH1 t1 h l1).push { cls := .type (itName t2), data := .fields #[.ref l2, .int 0 0] }
abbrev zH3 (t1 t2 : Bool) (h : Heap) (l1 l2 : Addr) : Heap := (zH2 t1 t2 h l1 l2).push { cls := .type "tuple", data := .seq #[.ref h.objs.size, .ref (zH1 t1 h l1).objs.size] }
abbrev zH4 (t1 t2 : Bool) (h : Heap) (l1 l2 : Addr) : Heap := (zH3 t1 t2 h l1 l2).push { cls := .type "tuple", data := .seq #[.none, .none] }
abbrev zH5 (t1 t2 : Bool) (h : Heap) (l1 l2 : Addr) : Heap := (zH4 t1 t2 h l1 l2).push { cls := .type "zip", data := .fields #[.none, .bool false, .bool false, .ref (zH2 t1 t2 h l1 l2).objs.size, .ref (zH3 t1 t2 h l1 l2).objs.size] }
theorem meets_zipS (t1 t2 : Bool) (l1 l2 : Addr) (xs ys : Array Value) :
    Meets (Builtin.«zip.__new__» ⟨[.type "zip", .ref l1, .ref l2], []⟩) (fun _ R s => SSeq t1 s.heap l1 xs ∧ SSeq t2 s.heap l2 ys ∧
      R (.ok (.ret (.ref (zH4 t1 t2 s.heap l1 l2).objs.size))) { s with heap := zH5 t1 t2 s.heap l1 l2 }) := by
  cases t1 with
  | true => cases t2 with
    | true => exact RZ.meets_zipT_new l1 l2 xs ys
    | false =>
        refine .of_wp fun prog w A R s h => ?_
        obtain ⟨hp, g, d, tk, os⟩ := s; obtain ⟨hl1, hl2, h⟩ := h
        have hsub := sub_zip
        have hL1 : Heap.IsTuple (Shared.heap ⟨hp, g, d, tk, os⟩) l1 xs := hl1
        have hL2 : Heap.IsList (Shared.heap ⟨hp.push { cls := .type "tuple_iterator", data := .fields #[.ref l1, .int 0 0] }, g, d, tk, os⟩) l2 ys := Heap.IsList.push hl2 _
        wp_walk using wpAny_pyIter_tuple hL1, wpAny_pyIter_list hL2
        exact ⟨_, rfl, h⟩
  | false => cases t2 with
    | false => exact meets_zip_new l1 l2 xs ys
    | true =>
        refine .of_wp fun prog w A R s h => ?_
        obtain ⟨hp, g, d, tk, os⟩ := s; obtain ⟨hl1, hl2, h⟩ := h
        have hsub := sub_zip
        have hL1 : Heap.IsList (Shared.heap ⟨hp, g, d, tk, os⟩) l1 xs := hl1
        have hL2 : Heap.IsTuple (Shared.heap ⟨hp.push { cls := .type "list_iterator", data := .fields #[.ref l1, .int 0 0] }, g, d, tk, os⟩) l2 ys := Heap.IsTuple.push hl2 _
        wp_walk using wpAny_pyIter_list hL1, wpAny_pyIter_tuple hL2
        exact ⟨_, rfl, h⟩
section
variable {prog : Program} {w : World} {A : Around} {E : Value → Shared → Prop} {s : Shared}
theorem call_zipS {t1 t2 : Bool} {l1 l2 : Addr} {xs ys : Array Value} {Q : Value → Shared → Prop} (hl1 : SSeq t1 s.heap l1 xs) (hl2 : SSeq t2 s.heap l2 ys)
    (h : ∀ h', IsZip h' (s.heap.objs.size + 4) (s.heap.objs.size + 2) (s.heap.objs.size + 3) .none → IsPair h' (s.heap.objs.size + 2) (.ref s.heap.objs.size) (.ref (s.heap.objs.size + 1)) →
      IsPair h' (s.heap.objs.size + 3) .none .none → SIter t1 h' s.heap.objs.size l1 0 → SIter t2 h' (s.heap.objs.size + 1) l2 0 → h'.objs.size = s.heap.objs.size + 5 →
      (∀ c o, s.heap.get? c = some o → h'.get? c = some o) → Q (.ref (s.heap.objs.size + 4)) { s with heap := h' }) :
    wpAny (model prog w) A (call (.type "zip") [.ref l1, .ref l2]) Q E s := by
  refine callType_new F.called_zip (by decide) (F.typeCall_zip_2 _ _) (F.newCall_zip_2 _ _) (fun obj => F.args_object_init_3 obj _ _) F.entry_zip_new
    (meets_zipS t1 t2 l1 l2 xs ys) ⟨hl1, hl2, ?_⟩
  have z1 : (zH1 t1 s.heap l1).objs.size = s.heap.objs.size + 1 := Heap.size_push ..
  have z2 : (zH2 t1 t2 s.heap l1 l2).objs.size = s.heap.objs.size + 2 := by rw [Heap.size_push, z1]
  have z3 : (zH3 t1 t2 s.heap l1 l2).objs.size = s.heap.objs.size + 3 := by rw [Heap.size_push, z2]
  have z4 : (zH4 t1 t2 s.heap l1 l2).objs.size = s.heap.objs.size + 4 := by rw [Heap.size_push, z3]
  have z5 : (zH5 t1 t2 s.heap l1 l2).objs.size = s.heap.objs.size + 5 := by rw [Heap.size_push, z4]
  have g5 : (zH5 t1 t2 s.heap l1 l2).get? (zH4 t1 t2 s.heap l1 l2).objs.size = some _ := Heap.get?_push_size _ rfl
  have g4 : (zH5 t1 t2 s.heap l1 l2).get? (zH3 t1 t2 s.heap l1 l2).objs.size = some _ := Heap.get?_push_of_some _ (Heap.get?_push_size _ rfl)
  have g3 : (zH5 t1 t2 s.heap l1 l2).get? (zH2 t1 t2 s.heap l1 l2).objs.size = some _ := Heap.get?_push_of_some _ (Heap.get?_push_of_some _ (Heap.get?_push_size _ rfl))
  have g2 : (zH5 t1 t2 s.heap l1 l2).get? (zH1 t1 s.heap l1).objs.size = some _ := Heap.get?_push_of_some _ (Heap.get?_push_of_some _ (Heap.get?_push_of_some _ (Heap.get?_push_size _ rfl)))
  have g1 : (zH5 t1 t2 s.heap l1 l2).get? s.heap.objs.size = some _ := Heap.get?_push_of_some _ (Heap.get?_push_of_some _ (Heap.get?_push_of_some _ (Heap.get?_push_of_some _ (Heap.get?_push_size _ rfl))))
  show _ ∧ _
  rw [z2, z3, z4] at g5
  rw [z1, z2] at g3
  rw [z3] at g4
  rw [z1] at g2
  rw [z4]
  exact ⟨⟨_, g5, rfl⟩, h _ g5 g3 g4 (by cases t1 <;> exact ⟨_, g1, rfl, rfl⟩) (by cases t2 <;> exact ⟨_, g2, rfl, rfl⟩) z5 fun c o x =>
    Heap.get?_push_of_some _ (Heap.get?_push_of_some _ (Heap.get?_push_of_some _ (Heap.get?_push_of_some _ (Heap.get?_push_of_some _ x))))⟩
end
end RZM
namespace RZM
open PySem PySem.Spec PyProof.Rows L2
def SqS (t : Bool) (K : PySem.W.Frag) (H : Hp) (a : Addr) (xs : List V) : Prop := match t with
  | true => SqT K H a xs
  | false => SqL K H a xs
theorem sq_ok {X : Cx} {pins : List (Addr × Obj)} {σ : L2.St} {H : Hp} {s : Shared} {t : Bool} {a : Addr} {xs : List V} (I : Inv X pins σ H s) (h : SqS t X.K H a xs) : ∃ its : List Value, Vals xs its ∧ SSeq t s.heap a its.toArray ∧ xs.length ≤ sizeLine := by
  cases t with
  | true =>
    obtain ⟨its, r, p, z⟩ := I.tuple h
    exact ⟨its, r, (show s.heap.IsTuple a its.toArray from p), z⟩
  | false =>
    obtain ⟨its, r, p, z⟩ := I.list h
    exact ⟨its, r, p.isList, z⟩
theorem sq_inj {X : Cx} {pins : List (Addr × Obj)} {σ : L2.St} {H : Hp} {s : Shared} {t : Bool} {a : Addr} {xs ys : List V} (I : Inv X pins σ H s) (h : SqS t X.K H a xs) (h' : SqS t X.K H a ys) : xs = ys := by
  cases t with
  | true => exact I.tuple_inj h h'
  | false => exact I.list_inj h h'
def ItzS (t1 t2 : Bool) (K : PySem.W.Frag) (a b : Addr) : It :=
  ⟨fun i H => ∃ (xs ys : List V) (x y : V), SqS t1 K H a xs ∧ SqS t2 K H b ys ∧ xs[i]? = some x ∧ ys[i]? = some y,
    fun i H v H' => ∃ T x y, v = .ref T ∧ H T = none ∧ H' = upd H T (.tup [x, y]) ∧ (∀ xs, SqS t1 K H a xs → xs[i]? = some x) ∧ ∀ ys, SqS t2 K H b ys → ys[i]? = some y,
    fun i H => ∃ xs ys : List V, SqS t1 K H a xs ∧ SqS t2 K H b ys ∧ (xs.length ≤ i ∨ ys.length ≤ i)⟩
theorem turn_zipS {t1 t2 : Bool} {P : Program} {w : World} {K : PySem.W.Frag} {elts : List Expr} {kk : Nat} {tpos : Pos} {a b z TI TO i1 i2 : Addr} (D : ZipApart z TI TO i1 i2 a b) :
    Turn P w K (.Tuple elts kk tpos) (ItzS t1 t2 K a b) [z, TI, TO, i1, i2] z (fun i h => IsZip h z TI TO .none ∧ IsPair h TI (.ref i1) (.ref i2) ∧ (∃ x y, IsPair h TO x y) ∧ SIter t1 h i1 a i ∧ SIter t2 h i2 b i) where
  mem := by simp
  obj := fun i h st c hc => by
    obtain ⟨hz, hTI, ⟨x, y, hTO⟩, h1, h2⟩ := st
    obtain ⟨o1, e1, d1⟩ := h1.obj
    obtain ⟨o2, e2, d2⟩ := h2.obj
    have e' : c = z ∨ c = TI ∨ c = TO ∨ c = i1 ∨ c = i2 := by simpa using hc
    rcases e' with q | q | q | q | q
    · rw [q]; exact ⟨_, hz, fun v q => nomatch q⟩
    · rw [q]; exact ⟨_, hTI, fun v q => nomatch q⟩
    · rw [q]; exact ⟨_, hTO, fun v q => nomatch q⟩
    · rw [q]; exact ⟨o1, e1, d1⟩
    · rw [q]; exact ⟨o2, e2, d2⟩
  keep := fun i h h' st k => by
    obtain ⟨hz, hTI, ⟨x, y, hTO⟩, h1, h2⟩ := st
    exact ⟨k z (by simp) _ hz, k TI (by simp) _ hTI, ⟨x, y, k TO (by simp) _ hTO⟩, h1.at fun o q => k i1 (by simp) o q, h2.at fun o q => k i2 (by simp) o q⟩
  item := by
    intro X hP hw hK hc i pins s σ H E I hf st hg
    subst hP hw hK
    obtain ⟨hz, hTI, ⟨x0, y0, hTO⟩, h1, h2⟩ := st
    obtain ⟨xs, ys, x, y, hqx, hqy, hx, hy⟩ := hg
    obtain ⟨its, rv, p, _⟩ := sq_ok I hqx
    obtain ⟨its2, rv2, p2, _⟩ := sq_ok I hqy
    obtain ⟨u, hu, ru⟩ := rv.get hx
    obtain ⟨u2, hu2, ru2⟩ := rv2.get hy
    have hzl : z < s.heap.objs.size := Heap.lt_size hz
    refine pyNext_zipS_item D hz hTI hTO h1 h2 p p2 (x := u) (y := u2) (by simpa using hu) (by simpa using hu2) fun h' z' TO' h1' h2' hT hsz hk => ?_
    refine ⟨_, rfl, wpAny_letOwnedTupleGo_zip (s := { s with heap := h' }) z' fun h'' z'' sb => ?_⟩
    have hT2 : h''.get? s.heap.objs.size = some { cls := .type "tuple", data := .seq #[u, u2] } := (sb.2 _ (Nat.ne_of_gt hzl)).trans hT
    have new : ObjOk X.prog X.w (upd H s.heap.objs.size (.tup [x, y])) h'' s.heap.objs.size (.tup [x, y]) :=
      ⟨by show 2 ≤ sizeLine; decide, [u, u2], .cons ru (.cons ru2 .nil), ⟨_, hT2, rfl, _, rfl⟩⟩
    have I1 : Inv X pins σ (upd H s.heap.objs.size (.tup [x, y])) { s with heap := h'' } :=
      I.turnedNew (t' := s.toks) (ch := [z, TI, TO, i1, i2]) (fun c o hb q => (sb.2 c (fun q' => hb (by simp [q']))).trans (hk c o (fun q' => hb (by simp [q'])) (fun q' => hb (by simp [q'])) (fun q' => hb (by simp [q'])) (fun q' => hb (by simp [q'])) q)) hf (Nat.le_refl _) new
    refine ⟨.ref s.heap.objs.size, _, I1, rfl, ⟨_, x, y, rfl, I.hok.fresh (Nat.le_refl _), rfl, fun l hl => by rw [sq_inj I hl hqx]; exact hx, fun l hl => by rw [sq_inj I hl hqy]; exact hy⟩, ⟨z'', ?_, ⟨u, u2, ?_⟩, ?_, ?_⟩, fun c hcm => ?_⟩
    · exact (sb.2 _ D.TIz).trans (hk _ _ D.TIz D.TITO D.TIi1 D.TIi2 hTI)
    · exact (sb.2 _ D.TOz).trans TO'
    · exact h1'.at fun o q => (sb.2 _ D.i1z).trans q
    · exact h2'.at fun o q => (sb.2 _ D.i2z).trans q
    · have hlt : c < s.heap.objs.size := by
        have e' : c = z ∨ c = TI ∨ c = TO ∨ c = i1 ∨ c = i2 := by simpa using hcm
        rcases e' with q | q | q | q | q
        · rw [q]; exact hzl
        · rw [q]; exact Heap.lt_size hTI
        · rw [q]; exact Heap.lt_size hTO
        · rw [q]; exact h1.lt
        · rw [q]; exact h2.lt
      rw [upd_ne (Nat.ne_of_lt hlt)]
      exact (hf c hcm).1
  done := by
    intro X hP hw hK hc i pins s σ H E I hf st hg
    subst hP hw hK
    obtain ⟨hz, hTI, ⟨x0, y0, hTO⟩, h1, h2⟩ := st
    obtain ⟨xs, ys, hqx, hqy, hend⟩ := hg
    obtain ⟨its, rv, p, _⟩ := sq_ok I hqx
    obtain ⟨its2, rv2, p2, _⟩ := sq_ok I hqy
    have l1 := rv.length
    have l2 := rv2.length
    have he : its.toArray[i]? = none ∨ its2.toArray[i]? = none := by
      rcases hend with q | q
      · exact .inl (by simp; omega)
      · exact .inr (by simp; omega)
    exact pyNext_zipS_end (I.ok.hd hc) D hz hTI hTO h1 h2 p p2 he fun h' hk => ⟨rfl, I.turnedL (t' := s.toks) (ch := [z, TI, TO, i1, i2]) (fun c o hb q =>
      hk c o (fun q' => hb (by simp [q'])) (fun q' => hb (by simp [q'])) (fun q' => hb (by simp [q'])) (fun q' => hb (by simp [q'])) q) hf⟩
  self := fun A i s Q E st h => wpAny_pyIter_zip st.1 h

/-- zip(e, e2), each a list or a tuple -/
def iZipS (K : PySem.W.Frag) (ta : TA) : TI := fun σ H R => ta σ H fun vs H1 => ∃ t1 t2 a b xs ys, vs = [.ref a, .ref b] ∧ SqS t1 K H1 a xs ∧ SqS t2 K H1 b ys ∧ R (ItzS t1 t2 K a b) H1
theorem sseq_lt {t : Bool} {h : Heap} {a : Addr} {its : Array Value} (x : SSeq t h a its) : a < h.objs.size := by
  cases t with
  | true =>
    obtain ⟨o, e, _⟩ := (show h.IsTuple a its from x)
    exact Heap.lt_size e
  | false =>
    obtain ⟨o, e, _⟩ := (show h.IsList a its from x)
    exact Heap.lt_size e
theorem pi_zipS {X : Cx} {e e2 : Expr} {ta : TA} {p pos tpos : Pos} {elts : List Expr} {kk : Nat} (hg : Gl X "zip") (hm : X.mg "zip" = none) (ha : PA X [e, e2] ta)
    (hs : starEach [e, e2] X.env = (false, eval e X.env) :: starEach [e2] X.env := by rfl) (hpl : (backTo pos (starEach [e2] X.env)).any (·.1) = false := by rfl) :
    PI X (.Tuple elts kk tpos) (.Call (.Name "zip" p) [e, e2] [] pos) (iZipS X.K ta) := by
  refine ⟨fun pins s σ H R I h => Call_ (ld_blt I hg hm PyProof.Rows.boot_zip (PyProof.Rows.callWith_type1 (thn (ha.run pos pins s σ H _ I h) fun us s1 ⟨vs, H1, I1, r1, t1, t2, a, b, xs, ys, ex, hqx, hqy, q⟩ => ?_) hs hpl))⟩
  subst ex
  obtain ⟨u1, u2, rfl, r, r'⟩ := vals2 r1
  cases r
  cases r'
  obtain ⟨its, rv, p1, _⟩ := sq_ok I1 hqx
  obtain ⟨its2, rv2, p2, _⟩ := sq_ok I1 hqy
  have fresh5 : ∀ c, c ∈ [s1.heap.objs.size + 4, s1.heap.objs.size + 2, s1.heap.objs.size + 3, s1.heap.objs.size, s1.heap.objs.size + 1] → FpOk X pins H1 c := fun c hcm => by
    have hle : s1.heap.objs.size ≤ c := by
      simp only [List.mem_cons, List.not_mem_nil, or_false] at hcm
      omega
    exact I1.fpOk hle (I1.hok.fresh hle)
  refine call_zipS p1 p2 fun h' hz hTI hTO h1 h2 hsz hk => wpAny_pyIter_zip hz ?_
  have I2 : Inv X pins σ H1 { s1 with heap := h' } := I1.kept (t' := s1.toks) hk
  exact ⟨s1.heap.objs.size + 4, [s1.heap.objs.size + 4, s1.heap.objs.size + 2, s1.heap.objs.size + 3, s1.heap.objs.size, s1.heap.objs.size + 1], _, _, H1, rfl, I2, turn_zipS (PySem.W.ktu_apart s1.heap.objs.size a b (sseq_lt p1) (sseq_lt p2)), ⟨hz, hTI, ⟨_, _, hTO⟩, h1, h2⟩, fresh5, q⟩
theorem for_zipS {t1 t2 : Bool} {K : PySem.W.Frag} {a b : Addr} {xs ys : List V} {g : TG} {tb : TS} {D : Ends} {σ : L2.St} {H : Hp} (hl : xs.length = ys.length) (Pv : Nat → L2.St → Hp → Prop) (h0 : Pv 0 σ H) (hq : ∀ i σ H, Pv i σ H → SqS t1 K H a xs ∧ SqS t2 K H b ys)
    (hs : ∀ (i : Nat) (x y : V) (T : Addr) (σ : L2.St) (H : Hp), xs[i]? = some x → ys[i]? = some y → Pv i σ H → H T = none → g (.ref T) σ (upd H T (.tup [x, y])) fun σ2 H2 => tb { D with nx := Pv (i + 1), ct := Pv (i + 1), bk := D.nx } σ2 H2) (hd : ∀ σ H, Pv xs.length σ H → D.nx σ H) :
    ∃ W : Nat → Nat → L2.St → Hp → Prop, (∃ m, W 0 m σ H) ∧ ∀ i m σ H, W i m σ H →
      ((ItzS t1 t2 K a b).stop i H ∧ D.nx σ H) ∨ ((ItzS t1 t2 K a b).go i H ∧ ∃ N : L2.St → Hp → Prop, (∀ σ' H', N σ' H' → ∃ m', m' < m ∧ W (i + 1) m' σ' H') ∧ ∀ v H', (ItzS t1 t2 K a b).yld i H v H' → g v σ H' fun σ2 H2 => tb { D with nx := N, ct := N, bk := D.nx } σ2 H2) := by
  refine ⟨fun i m σ H => m = xs.length - i ∧ i ≤ xs.length ∧ Pv i σ H, ⟨xs.length, rfl, Nat.zero_le _, h0⟩, ?_⟩
  rintro i m σ H ⟨rfl, hi, p⟩
  obtain ⟨qx, qy⟩ := hq i σ H p
  rcases Nat.lt_or_ge i xs.length with hlt | hge
  · refine .inr ⟨⟨xs, ys, _, _, qx, qy, List.getElem?_eq_getElem hlt, List.getElem?_eq_getElem (by omega)⟩, Pv (i + 1), fun σ' H' p' => ⟨xs.length - (i + 1), by omega, rfl, hlt, p'⟩, fun v H' y => ?_⟩
    obtain ⟨T, x', y', rfl, hT, rfl, f1, f2⟩ := y
    exact hs i x' y' T σ H (f1 xs qx) (f2 ys qy) p hT
  · have e : i = xs.length := by omega
    subst e
    exact .inl ⟨⟨xs, ys, qx, qy, Or.inl (Nat.le_refl _)⟩, hd σ H p⟩
end RZM
set_option Elab.async false
set_option linter.all false
set_option maxRecDepth 100000
set_option maxHeartbeats 4000000
/-! in, not in, index of tuples whose items are data of any depth; repr of data; isinstance of a caught error that has a dict -/
namespace TkS
open PySem PySem.Spec PyProof.Rows L2
section
variable {X : Cx}
def rInT (K : PySem.W.Frag) (neg : Bool) : R2 := fun x y H Q => ∃ d ds, Dp K H x d ∧ Dp K H y (.tuple ds) ∧ SeqAt.shaped d = true ∧ SeqAt.shaped (.tuple ds) = true ∧ Q (.bl (if neg then !ds.any fun z => PyData.eqv z d else ds.any fun z => PyData.eqv z d)) H
theorem room_tup {d : PyData} {ds : List PyData} (sd : SeqAt.shaped d = true) (hu : X.A.units + 65 < cLine) : X.A.units + 1 + min (PyData.depthAll ds) d.depth < cLine := by
  have h : d.depth ≤ 64 := by
    have z : (d.canLay0 && decide (d.depth ≤ 64)) = true := sd
    rw [Bool.and_eq_true] at z
    exact of_decide_eq_true z.2
  have := Nat.min_le_right (PyData.depthAll ds) d.depth
  omega
theorem lay_tup {ds : List PyData} (se : SeqAt.shaped (.tuple ds) = true) : PyData.canLayAll0 ds = true := SeqAt.canLay_of_shaped se
theorem op_inT (hu : X.A.units + 65 < cLine) : OpR X (compareOp .In) (rInT X.K false) := by
  intro pins s σ H x y v u Q I rx ry h
  obtain ⟨d, ds, hd, he, sd, se, q⟩ := h
  obtain ⟨as, r1⟩ := Dp.reads I d x v hd rx
  obtain ⟨bs, r2⟩ := Dp.reads I (.tuple ds) y u he ry
  exact SeqAt.in_tuple_reads r2 r1 (lay_tup se) (SeqAt.canLay_of_shaped sd) (room_tup sd hu) ⟨.bl _, H, I, rfl, q⟩
theorem op_notInT (hu : X.A.units + 65 < cLine) : OpR X (compareOp .NotIn) (rInT X.K true) := by
  intro pins s σ H x y v u Q I rx ry h
  obtain ⟨d, ds, hd, he, sd, se, q⟩ := h
  obtain ⟨as, r1⟩ := Dp.reads I d x v hd rx
  obtain ⟨bs, r2⟩ := Dp.reads I (.tuple ds) y u he ry
  exact SeqAt.notIn_tuple_reads r2 r1 (lay_tup se) (SeqAt.canLay_of_shaped sd) (room_tup sd hu) ⟨.bl _, H, I, rfl, q⟩
/-- t.index(x): the first place of an equal one -/
def rIxT (K : PySem.W.Frag) : V → List V → Hp → VK → Prop := fun x xs H Q => ∃ (a : Addr) (y : V) (d : PyData) (ds : List PyData) (j : Nat) (z : PyData), x = V.ref a ∧ xs = [y] ∧ Dp K H (V.ref a) (.tuple ds) ∧ Dp K H y d ∧
  SeqAt.shaped (.tuple ds) = true ∧ SeqAt.shaped d = true ∧ ds[j]? = some z ∧ PyData.eqv z d = true ∧ (∀ (m : Nat) (z' : PyData), m < j → ds[m]? = some z' → PyData.eqv z' d = false) ∧ Q (.int (j : Nat)) H
theorem mt_tupIx (hu : X.A.units + 65 < cLine) : MtR X "tuple.index" (rIxT X.K) := by
  intro pins s σ H x xs v us Q I rx rxs h
  obtain ⟨a, y, d, ds, j, z, rfl, rfl, hl, hy, sl, sd, hz, hzj, hno, q⟩ := h
  cases rx
  cases rxs with
  | cons ry rt =>
    rename_i uy ut
    cases rt
    obtain ⟨bs, r1⟩ := Dp.reads I d y uy hy ry
    have hxs : PyData.canLayAll0 ds = true := lay_tup sl
    cases hl with
    | tup hs ha =>
      obtain ⟨its, rv, ⟨⟨cls, dd, data, sls⟩, ho, hc, n, hdt⟩, hlen⟩ := I.tuple hs
      simp only at hc hdt
      subst hc hdt
      obtain ⟨as, h4⟩ := Dp.readsAll I ds _ its ha rv
      have hmap : its.map (SeqAt.readOf s.heap) = ds := SeqAt.readsAll_map ds its as hxs h4
      have hn : its.length = ds.length := SeqAt.ReadsAll.length ds its as h4
      obtain ⟨hjd, _⟩ := List.getElem?_eq_some_iff.mp hz
      have hj : j < its.toArray.size := by
        rw [List.size_toArray]
        omega
      have at_ : ∀ (m : Nat) (hm : m < its.toArray.size) (z' : PyData), ds[m]? = some z' → SeqAt.readOf s.heap its.toArray[m] = z' := by
        intro m hm z' hz'
        have hml : m < its.length := by simpa using hm
        rw [← hmap, List.getElem?_map, List.getElem?_eq_getElem hml] at hz'
        have e1 : SeqAt.readOf s.heap its[m] = z' := Option.some.inj hz'
        simpa using e1
      refine call_meets PySem.F.slot_tuple_index ⟨_, ho, rfl⟩ PySem.F.entry_tuple_index (PySem.F.args_tuple_index_2 _ _)
        (TI.tuple_indexAt a its.toArray n dd sls uy (fun u => PyData.eqv (SeqAt.readOf s.heap u) d) j hj ?_ ?_) ⟨ho, SeqAt.items_eqAt (vs := its.toArray) (show ReadsAll s.heap its.toArray.toList ds as from h4) r1 hxs (SeqAt.canLay_of_shaped sd) (room_tup sd hu), ?_⟩
      · show PyData.eqv (SeqAt.readOf s.heap its.toArray[j]) d = true
        rw [at_ j hj z hz]
        exact hzj
      · intro m hm hmj
        have hmd : m < ds.length := by omega
        have hz' : ds[m]? = some ds[m] := List.getElem?_eq_getElem hmd
        show PyData.eqv (SeqAt.readOf s.heap its.toArray[m]) d = false
        rw [at_ m hm _ hz']
        exact hno m _ hmj hz'
      · exact ⟨.int (j : Nat), H, I.tok _, ⟨_, rfl⟩, q⟩
/-- repr of a list or tuple of data: its text hangs on the data alone -/
def rReprD (K : PySem.W.Frag) : List V → Hp → VK → Prop := fun xs H Q => ∃ a d, xs = [.ref a] ∧ Dp K H (.ref a) d ∧ d.showable = true ∧ d.hasDict = false ∧ d.depth ≤ 60 ∧ d.shown.length ≤ sizeLine ∧ Q (.str d.shown) H
theorem call_reprD (hg : X.A.guards = some []) (hu : X.A.units + 65 < cLine) : CallR X (.builtin "repr") (rReprD X.K) := by
  intro pins s σ H xs us Q I r h
  obtain ⟨a, d, rfl, hd, h1, h2, h3, h4, q⟩ := h
  obtain ⟨u, rfl, ru⟩ := vals1 r
  obtain ⟨as, rd⟩ := Dp.reads I d (.ref a) u hd ru
  cases ru
  exact repr_of_reads' rd h1 (PyData.noDict_hsm h2) hg (by omega) (fun _ _ e => e) (fun h' u tk k => ⟨.str d.shown, H, I.kept (t' := tk) k, ⟨_, rfl⟩, q⟩) h4
end
end TkS
set_option Elab.async false
set_option linter.all false
set_option maxRecDepth 100000
set_option maxHeartbeats 4000000
namespace PySem.W
open PySem PySem.Spec PySem.Calls PyProof.Rows
section
variable {prog : Program} {w : World} {A : Around} {E : Value → Shared → Prop} {s : Shared} {K : Frag} {x D : Addr} {ox : Obj}
theorem kin_classD {od : Obj} {Q : Option Value → Shared → Prop} (hga : findIn K (.ref D) "__getattribute__" = some (some (.builtin "BaseException.__getattribute__"))) (hgt : findIn K (.ref D) "__getattr__" = some none) (hsub : subIn K (.ref D) (.type "BaseException") = some true)
    (hdct : hasDictIn K D = true) (ha : findIn K (.ref D) "__class__" = some (some (.builtin "object.__class__")))
    (hn : specialIn K (.builtin "object.__class__") "__get__" = some (some (.builtin "getset_descriptor.__get__"))) (htk : takesIn K (.builtin "object.__class__") = some true) (hm : mroIn K D (.type "object") = some true)
    (X : K.In s.heap) (I : InstAt s.heap x ox D (some od)) (h : Q (some (.ref D)) { s with toks := s.toks + 1 }) : wpAny (model prog w) A (getAttr? (.ref x) "__class__") Q E s := by
  have hf : findObj K D (some od) "__class__" = some (.bind (.builtin "getset_descriptor.__get__") (.builtin "object.__class__")) := findObj_data (by obtain ⟨cd, hc, _⟩ := any_some hdct; rw [hc]; rfl) ha hn htk
  obtain ⟨hp, g, d, t, os⟩ := s
  have L0 := I.type (M := model prog w)
  have L1 := looks_findIn (M := model prog w) X hga
  have L2 := looks_findIn (M := model prog w) X hgt
  have L3 := looks_find (M := model prog w) X I hf
  have sub : Looks (model prog w) hp (isInstance (.ref x) (.type "BaseException")) true := L0.andThen (looks_subIn X hsub)
  have hx0 : (false && onTheHeap (Value.builtin "BaseException.__getattribute__")) = false := rfl
  have hx2 : (Value.builtin "BaseException.__getattribute__" == Value.builtin "object.__getattribute__") = false := by decide +kernel
  have hx1 : (onTheHeap (Value.ref D) && Value.builtin "BaseException.__getattribute__" == Value.builtin "object.__getattribute__") = false := by rw [hx2]; rfl
  unfold getAttr? getAttrBy? getAttrBy
  refine wpAny_bind (wpAny_mkText (wpAny_bind (wpAny_attempt (wpAny_holding (wpAny_bind (L0.at (wpAny_bind (L1.at ?_))))))))
  show wpAny _ _ (if (onTheHeap (Value.ref D) && Value.builtin "BaseException.__getattribute__" == Value.builtin "object.__getattribute__") = true then _ else _) _ _ _
  rw [hx1, if_neg Bool.false_ne_true]
  unfold getAttrByItsOwn hookBefore
  refine wpAny_bind ?_
  rw [if_pos (show onTheHeap (Value.ref D) = true from rfl)]
  refine L2.at ?_
  refine wpAny_bind (wpAny_attempt (wpAny_holding ?_))
  unfold callGetattribute
  rw [hx0, if_neg Bool.false_ne_true]
  unfold boundAndCalled
  rw [PySem.F.excAttr_ValueError.ga.bind (.ref x)]
  refine wpAny_bind (wpAny_pure ?_)
  show wpAny _ _ (call (.builtin "BaseException.__getattribute__") [.ref x, .str "__class__" t]) _ _ _
  refine wpAny_call (codeAny_call_builtin PySem.F.excAttr_ValueError.ga.plain PySem.F.entry_bexc_ga ?_)
  refine @check_slot (model prog w) _ _ ⟨hp, g, d, t + 1, os⟩ "BaseException.__getattribute__" "BaseException" "__getattribute__" (.ref x) [.str "__class__" t] [] _ (by decide +kernel) (by decide +kernel) sub (PySem.F.args_bexc_ga (.ref x) (.str "__class__" t)) ?_
  unfold Builtin.«object.__getattribute__»
  refine wpAny_bind (wpAny_of_eq (a := ((Value.ref x : Value), [Value.str "__class__" t])) (by first | rfl | (simp only [slotArgs]; rfl)) ?_)
  refine wpAny_bind (wpAny_pure (wpAny_bind (L0.at (wpAny_bind (L3.at ?_)))))
  show wpAny _ _ (holding [Value.builtin "object.__class__"] (call (.builtin "getset_descriptor.__get__") [.builtin "object.__class__", .ref x, .ref D]) >>= ret) _ _ _
  refine wpAny_bind (wpAny_holding (wpAny_call (class_get (s := ⟨hp, g, d, t + 1, os⟩) (ox := ox) (od := some od) X I hm ?_)))
  refine wpAny_pure ?_
  show wpAny _ _ (handedOut (.ref D)) _ _ _
  rw [handedOut_of (v := .ref D) rfl]
  first
    | exact wpAny_pure (wpAny_pure h)
    | exact wpAny_pure h
    | exact wpAny_pure (wpAny_bind (wpAny_pure (wpAny_pure h)))
theorem kitx_excD (hga : findIn K (.ref D) "__getattribute__" = some (some (.builtin "BaseException.__getattribute__"))) (hgt : findIn K (.ref D) "__getattr__" = some none) (hsub : subIn K (.ref D) (.type "BaseException") = some true) (hdct : hasDictIn K D = true) (ha : findIn K (.ref D) "__class__" = some (some (.builtin "object.__class__")))
    (hn : specialIn K (.builtin "object.__class__") "__get__" = some (some (.builtin "getset_descriptor.__get__"))) (htk : takesIn K (.builtin "object.__class__") = some true) (hm : mroIn K D (.type "object") = some true) :
    KitX K (.ref x) (.ref D) (fun h => ∃ od, InstAt h x ox D (some od)) where
  ty := fun _ _ _ I => I.elim fun _ J => J.type
  it := fun _ _ X _ => by
    obtain ⟨cdD, hcD, _⟩ := any_some hdct
    unfold clsIn at hcD
    split at hcD
    · rename_i c' d' cd' sl' ho
      intro A' Q' E' s' k q
      unfold isType loadHead
      exact wpAny_bind (wpAny_loadPart (k _ _ (X _ _ ho)) (wpAny_pure q))
    · cases hcD
  ne := fun h tp dd its n sl X htp => by
    obtain ⟨cdD, hcD, _⟩ := any_some hdct
    refine Bool.eq_false_iff.mpr fun q => ?_
    have e : D = tp := Value.ref.inj (beq_iff_eq.mp q)
    subst e
    unfold clsIn at hcD
    split at hcD
    · rename_i c' d' cd' sl' ho
      have z := (X _ _ ho).symm.trans htp
      cases z
    · cases hcD
  ca := fun X I k => I.elim fun _ J => kin_classD hga hgt hsub hdct ha hn htk hm X J k
end
end PySem.W
namespace TkS
open PySem PySem.Spec PyProof.Rows L2
/-- isinstance(e, c), e the error that the suite holds, which has a dict -/
def rIsD (K : PySem.W.Frag) (D a : Addr) (cls : Value) (d : Option Addr) : List V → Hp → VK → Prop := fun xs H Q => cls = .ref D ∧ ∃ (dd : Addr) (fs : List (Str × V)) (c : V) (cv : Value) (b : Bool), d = some dd ∧ H dd = some (.xd fs) ∧ xs = [.ref a, c] ∧ (∀ u, RelV c u → u = cv) ∧ PySem.W.kitOne K (.ref D) cv = some b ∧ Q (.bl b) H
theorem call_isD {X : Cx} {a D : Addr} {oe : Obj} {cls : Value} {d : Option Addr} {pn : List (Addr × Obj)} (C : ExcC X.K D) (hz : Zc cls d oe) (hf : ∃ vs, oe.data = .fields vs) : CallR (X.suite a ((a, oe) :: pn)) (.builtin "isinstance") (rIsD X.K D a cls d) := by
  intro pins s σ H xs us Q I r h
  obtain ⟨rfl, dd, fs, c, cv, b, rfl, ea, rfl, hcv, e, q⟩ := h
  obtain ⟨u1, u2, rfl, r1, r2⟩ := vals2 r
  cases r1
  have ec := hcv _ r2
  subst ec
  obtain ⟨hget, _⟩ := I.pin (a, oe) (List.mem_append_left _ List.mem_cons_self)
  obtain ⟨vs, hv⟩ := hf
  have hx : ObjOk X.prog X.w H s.heap dd (.xd fs) := I.hok dd _ ea
  obtain ⟨mA, hns, hr⟩ := hx
  obtain ⟨od, ho, hl⟩ := lookIn_ns hns
  have J : PySem.W.InstAt s.heap a oe D (some od) := ⟨hget, hz.1, by unfold PySem.W.notCls; rw [hv] <;> rfl, by rw [hz.2]; exact ho⟩
  exact PySem.W.kia_one (PySem.W.kitx_excD C.hg C.hk C.hs C.hd C.ha C.hn C.ht C.hm) I.kIn ⟨od, J⟩ e (fun z => nomatch z) fun tk => ⟨.bl b, H, I.kept (t' := tk) fun _ _ z => z, rfl, q⟩
end TkS
set_option Elab.async false
set_option linter.all false
set_option maxRecDepth 100000
set_option maxHeartbeats 4000000
/-! C(..) and o.m(..) where what is raised is wished for at the caller's slots (within a try) -/
namespace TkS
open PySem PySem.Spec PyProof.Rows L2
def tMethSD (C : Addr) (m : Str) (sp : Sp) (dvs : List V) (E : L2.St → XK) (ta : TE) (t : TA) : TE := fun σ H Q => ta σ H fun x H1 => ∃ a dx fs, x = .ref a ∧ H1 a = some (.ins C dx fs) ∧ fs.lookup m = none ∧
  t σ H1 fun vs H2 => sp (x :: (vs ++ dvs)) H2 Q (E σ)
def tMakeSD (C : Addr) (sp : Sp) (dvs : List V) (E : L2.St → XK) (t : TA) : TE := fun σ H Q => t σ H fun vs H1 => ∀ x dx, H1 x = none → H1 dx = none → dx ≠ x →
  sp (.ref x :: (vs ++ dvs)) (upd (upd H1 dx (.own x)) x (.ins C dx [])) (fun v H2 => v = .non ∧ Q (.ref x) H2) (E σ)
section
variable {X : Cx} {CX : CXT} {k : Nat} {f C : Addr} {fd : FuncData} {ps : List Str} {sp : Sp} {dvs : List V} {ds : List Value} {E : L2.St → XK} {x m : Str} {p pos apos : Pos} {e o : Expr} {es : List Expr} {ta : TE} {t : TA}
theorem run_makeSD {pins : List (Addr × Obj)} {σ : L2.St} {H : Hp} {s : Shared} {Q : VK} {us : List Value} {vs : List V} (M : Mk X.K C f) (F : FnOk X.prog X.w X.K X.mg X.base CX k f fd ps sp) (hr : Room (k + 1) X.A) (hb : Binds X.K fd ps ds) (hd : Vals dvs ds)
    (hx : PassesAt CX X σ (E σ)) (I : Inv X pins σ H s) (r : Vals vs us)
    (h : ∀ x dx, H x = none → H dx = none → dx ≠ x → sp (.ref x :: (vs ++ dvs)) (upd (upd H dx (.own x)) x (.ins C dx [])) (fun v H2 => v = .non ∧ Q (.ref x) H2) (E σ)) :
    wpAny (model X.prog X.w) X.A (call (.ref C) us) (EP X pins σ Q) X.xe s := by
  have hq := h (s.heap.objs.size + 1) s.heap.objs.size (I.hok.fresh (Nat.le_succ _)) (I.hok.fresh (Nat.le_refl _)) (Nat.ne_of_lt (Nat.lt_succ_self _))
  have I2 := Inv.made (C := C) I
  have r2 : Vals (V.ref (s.heap.objs.size + 1) :: (vs ++ dvs)) (Value.ref (s.heap.objs.size + 1) :: (us ++ ds)) := .cons rfl (r.append hd)
  have hl : (Value.ref (s.heap.objs.size + 1) :: us ++ ds).length = ps.length := by
    have e := r2.length
    rw [F.len _ _ _ _ hq] at e
    exact e.symm
  refine wpAny_call (make_map (f := f) I.kIn M.makes M.init (beq_iff_eq.mp M.fn) (codeAny_mono (F.run _ X.stack _ _ ⟨Value.ref (s.heap.objs.size + 1) :: us, []⟩ (Value.ref (s.heap.objs.size + 1) :: (us ++ ds)) _ _ (E σ) (hr.make C us [])
    (I2.env0.make C us []) (hb _ (Value.ref (s.heap.objs.size + 1) :: us) I2.kIn hl) r2 hq) fun r s' hq' => ?_))
  cases r with
  | error e => exact hx pins _ _ e s' I2 hq'
  | ok fl =>
    cases fl with
    | ret u =>
      obtain ⟨v, H', I3, rv, ev, q3⟩ := I2.after hq'
      subst ev
      exact ⟨rv, ⟨V.ref (s.heap.objs.size + 1), H', I3, rfl, q3⟩⟩
    | next => exact False.elim hq'
    | brk => exact False.elim hq'
    | cont => exact False.elim hq'
theorem pe_makeSD (M : Mk X.K C f) (F : FnOk X.prog X.w X.K X.mg X.base CX k f fd ps sp) (hr : Room (k + 1) X.A) (hg : Gl X x) (hm : X.mg x = some (.ref C)) (hb : Binds X.K fd ps ds) (hd : Vals dvs ds) (hx : ∀ σ, PassesAt CX X σ (E σ))
    (ha : PA X (e :: es) t) (hdb : (x == ("__debug__" : Str)) = false := by decide) (he : starEach (e :: es) X.env = (false, eval e X.env) :: starEach es X.env := by rfl) (hpl : (backTo pos (starEach es X.env)).any (·.1) = false := by rfl) :
    PE X (.Call (.Name x p) (e :: es) [] pos) (tMakeSD C sp dvs E t) := by
  refine ⟨fun pins s σ H Q I h => ?_⟩
  refine wpAny_Call_Name_kw (ld_glob I hg hm ?_ hdb)
  refine PySem.W.callWith_K (h₀ := X.base) I.ok.mod.kin M.kp (thn (ha.run pos pins s σ H _ I h) fun us s1 ⟨vs, H1, I1, r, q⟩ => ⟨I1.kIn, ?_⟩) he hpl
  exact run_makeSD M F hr hb hd (hx σ) I1 r q
theorem pe_methSD {pl : Sem Bool} (he : PE X o ta) (c : Cls X.K C) (hm : Meth X.K C m f) (F : FnOk X.prog X.w X.K X.mg X.base CX k f fd ps sp) (hr : Room k X.A) (hb : Binds X.K fd ps ds) (hd : Vals dvs ds) (hx : ∀ σ, PassesAt CX X σ (E σ)) (ha : PA X (e :: es) t)
    (hst : starEach (e :: es) X.env = (false, eval e X.env) :: starEach es X.env := by rfl) (hpl : (backTo pos (starEach es X.env)).any (·.1) = false := by rfl)
    (ht : eval (.Call (.Attribute o m apos) (e :: es) [] pos) X.env = (do
      let ov ← eval o X.env
      standAt apos.atName
      let (f, first) ← holding [ov] (getMethod ov m pl)
      callWith pos f first (backTo pos (starEach (e :: es) X.env)) (backToKw pos (keywordEach [] X.env))) := by rfl) :
    PE X (.Call (.Attribute o m apos) (e :: es) [] pos) (tMethSD C m sp dvs E ta t) := by
  refine ⟨fun pins s σ H Q I h => ?_⟩
  refine PySem.W.methodCall_KW (pl := pl) (thn (he.run pins s σ H _ I h) fun u s1 ⟨x, H1, I1, rx, a, dx, fs, ex, ea, l, q⟩ => ?_) ht
  subst ex
  obtain rfl : u = Value.ref a := rx
  refine getmeth_ok I1 ea c hm l ?_
  refine PySem.W.callWith_K (first := [.ref a]) (h₀ := X.base) I.ok.mod.kin hm.kp (thn (ha.run pos pins s1 σ H1 _ I1 q) fun us s2 ⟨vs, H2, I2, r, q2⟩ => ⟨I2.kIn, ?_⟩) hst hpl
  exact run_fnSD (us := .ref a :: us) (vs := .ref a :: vs) F hr hb hd (hx σ) I2 (.cons rfl r) q2
end
end TkS
set_option Elab.async false
set_option linter.all false
set_option maxRecDepth 100000
set_option maxHeartbeats 4000000
/-! == of two instances by an own __eq__ with any answer; len of an instance by an own __len__ -/
namespace TkS
open PySem PySem.Spec PyProof.Rows L2
section
variable {X : Cx} {CX : CXT} {n : Nat} {f C : Addr} {fd : FuncData} {ps : List Str} {sp : Sp} {E : XK}
def rEqOwn (C : Addr) (sp : Sp) (E : XK) : R2 := fun x y H Q => ∃ a b dx dy fs gs, x = .ref a ∧ y = .ref b ∧ H a = some (.ins C dx fs) ∧ H b = some (.ins C dy gs) ∧ sp [.ref a, .ref b] H (fun v H' => (∃ r, v = .bl r) ∧ Q v H') E
theorem op_eqOwn (F : FnOk X.prog X.w X.K X.mg X.base CX n f fd ps sp) (hr : Room n X.A) (hs : PySem.W.findIn X.K (.ref C) "__eq__" = some (some (.ref f))) (hf : PySem.W.isFn X.K (.ref f) = true) (hb : Binds X.K fd ps []) (hx : Passes CX X E) :
    OpR X (compareOp .Eq) (rEqOwn C sp E) := by
  intro pins s σ H x y v u Q I rx ry h
  obtain ⟨a, b, dx, dy, fs, gs, rfl, rfl, ha, hb', hq⟩ := h
  cases rx
  cases ry
  obtain ⟨mA, J, _⟩ := ins_get I.hok ha
  obtain ⟨mB, J', _⟩ := ins_get I.hok hb'
  obtain ⟨od, J, _⟩ := J.look
  obtain ⟨od', J', _⟩ := J'.look
  obtain ⟨m, hF⟩ := I.fr
  show wpAny (model X.prog X.w) X.A (richCompare .Eq (.ref a) (.ref b)) (EP X pins σ Q) X.xe s
  refine PySem.W.cmp_K (op := .Eq) (tb := .ref C) hr.units0 hF I.ok.mod.kin J J'.type (by simp [PySem.W.notFirst]) hs hf ?_
  have hl := F.len _ _ _ _ hq
  refine wpAny_mono (run_fn (us := [.ref a, .ref b]) (vs := [.ref a, .ref b]) (dvs := []) (Q := fun v H' => (∃ r, v = .bl r) ∧ Q v H') F hr hb .nil hx I (.cons rfl (.cons rfl .nil)) hq) (fun u s' z => ?_) fun _ _ z => z
  obtain ⟨v, H', I', rv, ⟨r, ev⟩, q⟩ := z
  subst ev
  cases (show u = Value.bool r from rv)
  exact ⟨.bl r, H', I', rfl, q⟩
def rLenOwn (C : Addr) (sp : Sp) (E : XK) : List V → Hp → VK → Prop := fun xs H Q => ∃ (a dx : Addr) (fs : List (Str × V)) (k : Nat), xs = [.ref a] ∧ H a = some (.ins C dx fs) ∧ k < 2 ^ 62 ∧ sp [.ref a] H (fun v H' => v = .int (k : Int) ∧ Q v H') E
theorem call_lenOwn (F : FnOk X.prog X.w X.K X.mg X.base CX n f fd ps sp) (hr : Room (n + 1) X.A) (hs : PySem.W.findIn X.K (.ref C) "__len__" = some (some (.ref f))) (hf : PySem.W.isFn X.K (.ref f) = true) (hb : Binds X.K fd ps []) (hx : Passes CX X E) : CallR X (.builtin "len") (rLenOwn C sp E) := by
  intro pins s σ H xs us Q I r h
  obtain ⟨a, dx, fs, k, rfl, ha, hk, hq⟩ := h
  obtain ⟨u, rfl, ru⟩ := vals1 r
  cases ru
  obtain ⟨mA, J, _⟩ := ins_get I.hok ha
  obtain ⟨od, J, _⟩ := J.look
  obtain ⟨m, hF⟩ := I.fr
  have hl : ([Value.ref a] ++ ([] : List Value)).length = ps.length := by
    rw [← F.len _ _ _ _ hq]
    rfl
  refine PySem.W.len_K hF I.ok.mod.kin J hs hf (wpAny_call ?_)
  refine codeAny_mono (F.run X.A.in1 X.stack s H ⟨[.ref a], []⟩ [.ref a] [.ref a] _ E hr.in1 I.env0.in1 (hb s [.ref a] I.kIn hl) (.cons rfl .nil) hq) fun r s' hq => ?_
  cases r with
  | error e => exact hx pins σ H s e s' I hq
  | ok fl =>
    cases fl with
    | ret u =>
      obtain ⟨v, H', I', rv, ev, q⟩ := I.after hq
      subst ev
      obtain ⟨t, eu⟩ := (show ∃ t, u = Value.int (k : Int) t from rv)
      subst eu
      refine ⟨⟨by omega, by omega⟩, .int (k : Int), H', I'.tok _, ⟨_, rfl⟩, q⟩
    | next => exact False.elim hq
    | brk => exact False.elim hq
    | cont => exact False.elim hq
end
end TkS
set_option Elab.async false
set_option linter.all false
set_option maxRecDepth 100000
set_option maxHeartbeats 4000000
/-! data whose objects are all tracked -/
namespace TkS
open PySem PySem.Spec PyProof.Rows L2
mutual
inductive Dq (H : Hp) : V → PyData → Prop
  | non : Dq H .non .none
  | bl (b : Bool) : Dq H (.bl b) (.bool b)
  | int (i : Int) : Dq H (.int i) (.int i)
  | str (x : Str) : Dq H (.str x) (.str x)
  | lst {a : Addr} {xs : List V} {ds : List PyData} : H a = some (.lst xs) → DqAll H xs ds → Dq H (.ref a) (.list ds)
  | tup {a : Addr} {xs : List V} {ds : List PyData} : H a = some (.tup xs) → DqAll H xs ds → Dq H (.ref a) (.tuple ds)
inductive DqAll (H : Hp) : List V → List PyData → Prop
  | nil : DqAll H [] []
  | cons {v : V} {vs : List V} {d : PyData} {ds : List PyData} : Dq H v d → DqAll H vs ds → DqAll H (v :: vs) (d :: ds)
end
theorem DqAll.len {H : Hp} : ∀ {xs : List V} {ds : List PyData}, DqAll H xs ds → xs.length = ds.length
  | _, _, .nil => rfl
  | _, _, .cons _ t => congrArg Nat.succ t.len
theorem DqAll.get {H : Hp} : ∀ {xs : List V} {ds : List PyData} {i : Nat} {x : V}, DqAll H xs ds → xs[i]? = some x → ∃ d, ds[i]? = some d ∧ Dq H x d
  | _, _, _, _, .nil, e => by simp at e
  | _, _, 0, _, .cons h _, e => by
    simp at e
    subst e
    exact ⟨_, rfl, h⟩
  | _, _, i + 1, _, .cons _ t, e => by
    obtain ⟨d, h1, h2⟩ := t.get (i := i) (by simpa using e)
    exact ⟨d, by simpa using h1, h2⟩
theorem DqAll.append {H : Hp} : ∀ {xs ys : List V} {ds es : List PyData}, DqAll H xs ds → DqAll H ys es → DqAll H (xs ++ ys) (ds ++ es)
  | _, _, _, _, .nil, s => s
  | _, _, _, _, .cons r t, s => .cons r (t.append s)
theorem DqAll.snoc {H : Hp} {xs : List V} {ds : List PyData} {x : V} {d : PyData} (h : DqAll H xs ds) (h1 : Dq H x d) : DqAll H (xs ++ [x]) (ds ++ [d]) := h.append (.cons h1 .nil)
mutual
theorem Dq.same {H H' : Hp} (s : Same H H') : ∀ {v : V} (d : PyData), Dq H v d → Dq H' v d
  | _, .none, .non => .non
  | _, .bool _, .bl b => .bl b
  | _, .int _, .int i => .int i
  | _, .str _, .str x => .str x
  | _, .list _, .lst h t => .lst (s _ _ h) (DqAll.same s _ t)
  | _, .tuple _, .tup h t => .tup (s _ _ h) (DqAll.same s _ t)
theorem DqAll.same {H H' : Hp} (s : Same H H') : ∀ {vs : List V} (ds : List PyData), DqAll H vs ds → DqAll H' vs ds
  | _, [], .nil => .nil
  | _, _ :: _, .cons h t => .cons (Dq.same s _ h) (DqAll.same s _ t)
end
mutual
theorem Dq.dp {K : PySem.W.Frag} {H : Hp} : ∀ {v : V} (d : PyData), Dq H v d → Dp K H v d
  | _, .none, .non => .non
  | _, .bool _, .bl b => .bl b
  | _, .int _, .int i => .int i
  | _, .str _, .str x => .str x
  | _, .list _, .lst h t => .lst (SqL.of h) (DqAll.dp _ t)
  | _, .tuple _, .tup h t => .tup (SqT.of h) (DqAll.dp _ t)
theorem DqAll.dp {K : PySem.W.Frag} {H : Hp} : ∀ {vs : List V} (ds : List PyData), DqAll H vs ds → DpAll K H vs ds
  | _, [], .nil => .nil
  | _, _ :: _, .cons h t => .cons (Dq.dp _ h) (DqAll.dp _ t)
end
mutual
theorem Dq.fn {H : Hp} : ∀ {v : V} (d e : PyData), Dq H v d → Dq H v e → d = e
  | _, .none, _, .non, .non => rfl
  | _, .bool _, _, .bl _, .bl _ => rfl
  | _, .int _, _, .int _, .int _ => rfl
  | _, .str _, _, .str _, .str _ => rfl
  | _, .list ds, _, .lst h t, .lst h' t' => by
    rw [h] at h'
    cases h'
    rw [DqAll.fn _ _ t t']
  | _, .list _, _, .lst h _, .tup h' _ => by
    rw [h] at h'
    cases h'
  | _, .tuple ds, _, .tup h t, .tup h' t' => by
    rw [h] at h'
    cases h'
    rw [DqAll.fn _ _ t t']
  | _, .tuple _, _, .tup h _, .lst h' _ => by
    rw [h] at h'
    cases h'
theorem DqAll.fn {H : Hp} : ∀ {vs : List V} (ds es : List PyData), DqAll H vs ds → DqAll H vs es → ds = es
  | _, [], _, .nil, .nil => rfl
  | _, _ :: _, _, .cons h t, .cons h' t' => by rw [Dq.fn _ _ h h', DqAll.fn _ _ t t']
end
/-- the heap without one address -/
def Off (h : Addr) (H : Hp) : Hp := fun b => if b = h then none else H b
theorem off_same {h : Addr} {H : Hp} : Same (Off h H) H := fun b o e => by
  unfold Off at e
  by_cases z : b = h
  · rw [if_pos z] at e
    cases e
  · rw [if_neg z] at e
    exact e
theorem off_keep {h : Addr} {H H' : Hp} (k : ∀ b o, b ≠ h → H b = some o → H' b = some o) : Same (Off h H) (Off h H') := fun b o e => by
  unfold Off at e ⊢
  by_cases z : b = h
  · rw [if_pos z] at e
    cases e
  · rw [if_neg z] at e ⊢
    exact k b o z e
theorem off_of {h : Addr} {H H' : Hp} (s : Same H H') : Same (Off h H) (Off h H') := off_keep fun b o _ e => s b o e
theorem off_at {h a : Addr} {H : Hp} {o : HO} (n : a ≠ h) (e : H a = some o) : Off h H a = some o := by
  unfold Off
  rw [if_neg n]
  exact e
theorem same_new {H : Hp} {p : Addr} {o : HO} (h : H p = none) : Same H (upd H p o) := fun b x e => by
  rw [upd_ne (ne_of_none e h)]
  exact e
/-- a thing's kind as isinstance sees it -/
def isBlV : V → Bool
  | .bl _ => true
  | _ => false
def isNumV : V → Bool
  | .bl _ => true
  | .int _ => true
  | _ => false
def isIntV : V → Bool
  | .int _ => true
  | _ => false
def itemsD : PyData → Option (List PyData)
  | .list xs => some xs
  | .tuple xs => some xs
  | _ => none
theorem dq_ty {K : PySem.W.Frag} {H : Hp} {x : V} {d : PyData} (k : Dq H x d) : ∃ t, TyX K H x t ∧ PySem.W.kitOne K t (.type "bool") = some (isBlV x) ∧ PySem.W.kitOne K t (.type "int") = some (isNumV x) ∧
    PySem.W.kitAny K t [.type "list", .type "tuple"] = some (itemsD d).isSome ∧ PySem.W.kitOne K t (.type "tuple") = some (match d with | .tuple _ => true | _ => false) := by
  cases k with
  | non => exact ⟨_, .base .non, kit_ty (show kitB "NoneType" "bool" = some false by decide +kernel), kit_ty (show kitB "NoneType" "int" = some false by decide +kernel),
      kitAny_cons (b := false) (kit_ty (show kitB "NoneType" "list" = some false by decide +kernel)) (fun _ => kitAny_cons (b := false) (kit_ty (show kitB "NoneType" "tuple" = some false by decide +kernel)) (fun _ => kitAny_nil) (fun z => nomatch z)) (fun z => nomatch z), kit_ty (show kitB "NoneType" "tuple" = some false by decide +kernel)⟩
  | bl b => exact ⟨_, .base (.bl b), kit_ty (show kitB "bool" "bool" = some true by decide +kernel), kit_ty (show kitB "bool" "int" = some true by decide +kernel),
      kitAny_cons (b := false) (kit_ty (show kitB "bool" "list" = some false by decide +kernel)) (fun _ => kitAny_cons (b := false) (kit_ty (show kitB "bool" "tuple" = some false by decide +kernel)) (fun _ => kitAny_nil) (fun z => nomatch z)) (fun z => nomatch z), kit_ty (show kitB "bool" "tuple" = some false by decide +kernel)⟩
  | int i => exact ⟨_, .base (.int i), kit_ty (show kitB "int" "bool" = some false by decide +kernel), kit_ty (show kitB "int" "int" = some true by decide +kernel),
      kitAny_cons (b := false) (kit_ty (show kitB "int" "list" = some false by decide +kernel)) (fun _ => kitAny_cons (b := false) (kit_ty (show kitB "int" "tuple" = some false by decide +kernel)) (fun _ => kitAny_nil) (fun z => nomatch z)) (fun z => nomatch z), kit_ty (show kitB "int" "tuple" = some false by decide +kernel)⟩
  | str x => exact ⟨_, .base (.str x), kit_ty (show kitB "str" "bool" = some false by decide +kernel), kit_ty (show kitB "str" "int" = some false by decide +kernel),
      kitAny_cons (b := false) (kit_ty (show kitB "str" "list" = some false by decide +kernel)) (fun _ => kitAny_cons (b := false) (kit_ty (show kitB "str" "tuple" = some false by decide +kernel)) (fun _ => kitAny_nil) (fun z => nomatch z)) (fun z => nomatch z), kit_ty (show kitB "str" "tuple" = some false by decide +kernel)⟩
  | lst h _ => exact ⟨_, .base (.lst h), kit_ty (show kitB "list" "bool" = some false by decide +kernel), kit_ty (show kitB "list" "int" = some false by decide +kernel),
      kitAny_cons (b := true) (kit_ty (show kitB "list" "list" = some true by decide +kernel)) (fun z => nomatch z) (fun _ => rfl), kit_ty (show kitB "list" "tuple" = some false by decide +kernel)⟩
  | tup h _ => exact ⟨_, .base (.tup h), kit_ty (show kitB "tuple" "bool" = some false by decide +kernel), kit_ty (show kitB "tuple" "int" = some false by decide +kernel),
      kitAny_cons (b := false) (kit_ty (show kitB "tuple" "list" = some false by decide +kernel)) (fun _ => kitAny_cons (b := true) (kit_ty (show kitB "tuple" "tuple" = some true by decide +kernel)) (fun z => nomatch z) (fun _ => rfl)) (fun z => nomatch z), kit_ty (show kitB "tuple" "tuple" = some true by decide +kernel)⟩
end TkS
set_option Elab.async false
set_option linter.all false
set_option maxRecDepth 100000
set_option maxHeartbeats 4000000
set_option exponentiation.threshold 5000
namespace K25
open PySem PySem.Spec PyProof.Rows L2 TkS
/-! the text -/
def topS (i : Nat) : Stmt := PySem.Challenge.pw_sheetproofs_k25_whole_lines_meet_walls_e.main.body.getD i (.Pass ⟨0, 0, 0, 0⟩)
abbrev s_BadSpace_init : Stmt := inClass (topS 7) 0
theorem sc_BadSpace_init : FnScope ["self", "what", "index"] ["self", "what", "index"] (defScope s_BadSpace_init) := ⟨rfl, rfl, rfl, by decide +kernel, rfl, by decide +kernel, by decide +kernel⟩
abbrev s_is_whole : Stmt := topS 9
theorem sc_is_whole : FnScope ["thing", "low", "high"] ["thing", "low", "high"] (defScope s_is_whole) := ⟨rfl, rfl, rfl, by decide +kernel, rfl, by decide +kernel, by decide +kernel⟩
abbrev s_common_divisor : Stmt := topS 10
theorem sc_common_divisor : FnScope ["one", "other"] ["one", "other"] (defScope s_common_divisor) := ⟨rfl, rfl, rfl, by decide +kernel, rfl, by decide +kernel, by decide +kernel⟩
abbrev s_power_of : Stmt := topS 11
theorem sc_power_of : FnScope ["base", "exponent", "result"] ["base", "exponent"] (defScope s_power_of) := ⟨rfl, rfl, rfl, by decide +kernel, rfl, by decide +kernel, by decide +kernel⟩
abbrev s_is_sequence : Stmt := topS 13
theorem sc_is_sequence : FnScope ["thing", "length"] ["thing", "length"] (defScope s_is_sequence) := ⟨rfl, rfl, rfl, by decide +kernel, rfl, by decide +kernel, by decide +kernel⟩
abbrev s_has_between : Stmt := topS 14
theorem sc_has_between : FnScope ["thing", "low", "high"] ["thing", "low", "high"] (defScope s_has_between) := ⟨rfl, rfl, rfl, by decide +kernel, rfl, by decide +kernel, by decide +kernel⟩
abbrev s_wrong_index : Stmt := topS 15
theorem sc_wrong_index : FnScope ["thing", "length", "is_good", "index", "item"] ["thing", "length", "is_good"] (defScope s_wrong_index) := ⟨rfl, rfl, rfl, by decide +kernel, rfl, by decide +kernel, by decide +kernel⟩
abbrev s_columns_of : Stmt := topS 17
theorem sc_columns_of : FnScope ["width", "rows", "place", "row"] ["width", "rows"] (defScope s_columns_of) := ⟨rfl, rfl, rfl, by decide +kernel, rfl, by decide +kernel, by decide +kernel⟩
abbrev s_as_tuples : Stmt := topS 18
theorem sc_as_tuples : FnScope ["rows", "row"] ["rows"] (defScope s_as_tuples) := ⟨rfl, rfl, rfl, by decide +kernel, rfl, by decide +kernel, by decide +kernel⟩
abbrev s_product_sum : Stmt := topS 20
theorem sc_product_sum : FnScope ["field", "one", "other", "total", "number", "factor"] ["field", "one", "other"] (defScope s_product_sum) := ⟨rfl, rfl, rfl, by decide +kernel, rfl, by decide +kernel, by decide +kernel⟩
abbrev s_columns_as_rows : Stmt := topS 21
theorem sc_columns_as_rows : FnScope ["rows"] ["rows"] (defScope s_columns_as_rows) := ⟨rfl, rfl, rfl, by decide +kernel, rfl, by decide +kernel, by decide +kernel⟩
abbrev s_rows_product : Stmt := topS 22
theorem sc_rows_product : FnScope ["field", "rows", "others", "columns", "row", "column"] ["field", "rows", "others"] (defScope s_rows_product) := ⟨rfl, rfl, rfl, by decide +kernel, rfl, by decide +kernel, by decide +kernel⟩
abbrev s_least_factor : Stmt := topS 25
theorem sc_least_factor : FnScope ["number", "factor"] ["number"] (defScope s_least_factor) := ⟨rfl, rfl, rfl, by decide +kernel, rfl, by decide +kernel, by decide +kernel⟩
abbrev s_is_prime : Stmt := topS 26
theorem sc_is_prime : FnScope ["number"] ["number"] (defScope s_is_prime) := ⟨rfl, rfl, rfl, by decide +kernel, rfl, by decide +kernel, by decide +kernel⟩
abbrev s_is_number : Stmt := topS 27
theorem sc_is_number : FnScope ["field", "thing"] ["field", "thing"] (defScope s_is_number) := ⟨rfl, rfl, rfl, by decide +kernel, rfl, by decide +kernel, by decide +kernel⟩
abbrev s_is_number_row : Stmt := topS 28
theorem sc_is_number_row : FnScope ["field", "thing", "length", "item"] ["field", "thing", "length"] (defScope s_is_number_row) := ⟨rfl, rfl, rfl, by decide +kernel, rfl, by decide +kernel, by decide +kernel⟩
abbrev s_RestField_init : Stmt := inClass (topS 29) 0
theorem sc_RestField_init : FnScope ["self", "prime"] ["self", "prime"] (defScope s_RestField_init) := ⟨rfl, rfl, rfl, by decide +kernel, rfl, by decide +kernel, by decide +kernel⟩
abbrev s_RestField_eq : Stmt := inClass (topS 29) 1
theorem sc_RestField_eq : FnScope ["self", "other"] ["self", "other"] (defScope s_RestField_eq) := ⟨rfl, rfl, rfl, by decide +kernel, rfl, by decide +kernel, by decide +kernel⟩
abbrev s_RestField_check_number : Stmt := inClass (topS 29) 2
theorem sc_RestField_check_number : FnScope ["self", "number"] ["self", "number"] (defScope s_RestField_check_number) := ⟨rfl, rfl, rfl, by decide +kernel, rfl, by decide +kernel, by decide +kernel⟩
abbrev s_RestField_plus : Stmt := inClass (topS 29) 4
theorem sc_RestField_plus : FnScope ["self", "one", "other"] ["self", "one", "other"] (defScope s_RestField_plus) := ⟨rfl, rfl, rfl, by decide +kernel, rfl, by decide +kernel, by decide +kernel⟩
abbrev s_RestField_less : Stmt := inClass (topS 29) 5
theorem sc_RestField_less : FnScope ["self", "one", "other"] ["self", "one", "other"] (defScope s_RestField_less) := ⟨rfl, rfl, rfl, by decide +kernel, rfl, by decide +kernel, by decide +kernel⟩
abbrev s_RestField_times : Stmt := inClass (topS 29) 6
theorem sc_RestField_times : FnScope ["self", "one", "other"] ["self", "one", "other"] (defScope s_RestField_times) := ⟨rfl, rfl, rfl, by decide +kernel, rfl, by decide +kernel, by decide +kernel⟩
abbrev s_RestField_quotient : Stmt := inClass (topS 29) 7
theorem sc_RestField_quotient : FnScope ["self", "one", "other"] ["self", "one", "other"] (defScope s_RestField_quotient) := ⟨rfl, rfl, rfl, by decide +kernel, rfl, by decide +kernel, by decide +kernel⟩
abbrev s_RestField_power : Stmt := inClass (topS 29) 8
theorem sc_RestField_power : FnScope ["self", "number", "exponent", "left", "result"] ["self", "number", "exponent"] (defScope s_RestField_power) := ⟨rfl, rfl, rfl, by decide +kernel, rfl, by decide +kernel, by decide +kernel⟩
abbrev s_fraction : Stmt := topS 30
theorem sc_fraction : FnScope ["top", "bottom", "divisor"] ["top", "bottom"] (defScope s_fraction) := ⟨rfl, rfl, rfl, by decide +kernel, rfl, by decide +kernel, by decide +kernel⟩
abbrev s_FractionField_init : Stmt := inClass (topS 31) 0
theorem sc_FractionField_init : FnScope ["self"] ["self"] (defScope s_FractionField_init) := ⟨rfl, rfl, rfl, by decide +kernel, rfl, by decide +kernel, by decide +kernel⟩
abbrev s_FractionField_eq : Stmt := inClass (topS 31) 1
theorem sc_FractionField_eq : FnScope ["self", "other"] ["self", "other"] (defScope s_FractionField_eq) := ⟨rfl, rfl, rfl, by decide +kernel, rfl, by decide +kernel, by decide +kernel⟩
abbrev s_FractionField_check_number : Stmt := inClass (topS 31) 2
theorem sc_FractionField_check_number : FnScope ["self", "number", "top", "bottom"] ["self", "number"] (defScope s_FractionField_check_number) := ⟨rfl, rfl, rfl, by decide +kernel, rfl, by decide +kernel, by decide +kernel⟩
abbrev s_FractionField_plus : Stmt := inClass (topS 31) 4
theorem sc_FractionField_plus : FnScope ["self", "one", "other"] ["self", "one", "other"] (defScope s_FractionField_plus) := ⟨rfl, rfl, rfl, by decide +kernel, rfl, by decide +kernel, by decide +kernel⟩
abbrev s_FractionField_less : Stmt := inClass (topS 31) 5
theorem sc_FractionField_less : FnScope ["self", "one", "other"] ["self", "one", "other"] (defScope s_FractionField_less) := ⟨rfl, rfl, rfl, by decide +kernel, rfl, by decide +kernel, by decide +kernel⟩
abbrev s_FractionField_times : Stmt := inClass (topS 31) 6
theorem sc_FractionField_times : FnScope ["self", "one", "other"] ["self", "one", "other"] (defScope s_FractionField_times) := ⟨rfl, rfl, rfl, by decide +kernel, rfl, by decide +kernel, by decide +kernel⟩
abbrev s_FractionField_quotient : Stmt := inClass (topS 31) 7
theorem sc_FractionField_quotient : FnScope ["self", "one", "other"] ["self", "one", "other"] (defScope s_FractionField_quotient) := ⟨rfl, rfl, rfl, by decide +kernel, rfl, by decide +kernel, by decide +kernel⟩
abbrev s_FractionField_power : Stmt := inClass (topS 31) 8
theorem sc_FractionField_power : FnScope ["self", "number", "exponent", "top", "bottom"] ["self", "number", "exponent"] (defScope s_FractionField_power) := ⟨rfl, rfl, rfl, by decide +kernel, rfl, by decide +kernel, by decide +kernel⟩
abbrev s_is_row : Stmt := topS 35
theorem sc_is_row : FnScope ["field", "thing", "width", "number"] ["field", "thing", "width"] (defScope s_is_row) := ⟨rfl, rfl, rfl, by decide +kernel, rfl, by decide +kernel, by decide +kernel⟩
abbrev s_check_rows : Stmt := topS 36
theorem sc_check_rows : FnScope ["field", "what", "rows", "width", "index", "row"] ["field", "what", "rows", "width"] (defScope s_check_rows) := ⟨rfl, rfl, rfl, by decide +kernel, rfl, by decide +kernel, by decide +kernel⟩
abbrev s_width_of : Stmt := topS 37
theorem sc_width_of : FnScope ["row"] ["row"] (defScope s_width_of) := ⟨rfl, rfl, rfl, by decide +kernel, rfl, by decide +kernel, by decide +kernel⟩
abbrev s_Space_init : Stmt := inClass (topS 38) 0
theorem sc_Space_init : FnScope ["self", "field", "points", "walls", "width"] ["self", "field", "points", "walls"] (defScope s_Space_init) := ⟨rfl, rfl, rfl, by decide +kernel, rfl, by decide +kernel, by decide +kernel⟩
abbrev s_Space_eq : Stmt := inClass (topS 38) 1
theorem sc_Space_eq : FnScope ["self", "other"] ["self", "other"] (defScope s_Space_eq) := ⟨rfl, rfl, rfl, by decide +kernel, rfl, by decide +kernel, by decide +kernel⟩
abbrev s_number_at : Stmt := topS 39
theorem sc_number_at : FnScope ["space", "point", "wall"] ["space", "point", "wall"] (defScope s_number_at) := ⟨rfl, rfl, rfl, by decide +kernel, rfl, by decide +kernel, by decide +kernel⟩
abbrev s_Meet_init : Stmt := inClass (topS 41) 0
theorem sc_Meet_init : FnScope ["self", "first", "second", "row"] ["self", "first", "second", "row"] (defScope s_Meet_init) := ⟨rfl, rfl, rfl, by decide +kernel, rfl, by decide +kernel, by decide +kernel⟩
abbrev s_Meet_eq : Stmt := inClass (topS 41) 1
theorem sc_Meet_eq : FnScope ["self", "other"] ["self", "other"] (defScope s_Meet_eq) := ⟨rfl, rfl, rfl, by decide +kernel, rfl, by decide +kernel, by decide +kernel⟩
abbrev s_weights_on : Stmt := topS 42
theorem sc_weights_on : FnScope ["field", "numbers", "one", "other"] ["field", "numbers"] (defScope s_weights_on) := ⟨rfl, rfl, rfl, by decide +kernel, rfl, by decide +kernel, by decide +kernel⟩
abbrev s_line_meets : Stmt := topS 43
theorem sc_line_meets : FnScope ["space", "p", "q", "u", "v", "field", "on_first", "on_second", "decides", "weights", "row"] ["space", "p", "q", "u", "v"] (defScope s_line_meets) := ⟨rfl, rfl, rfl, by decide +kernel, rfl, by decide +kernel, by decide +kernel⟩
abbrev s_law_start : Stmt := topS 45
theorem sc_law_start : FnScope ["_law_script", "_law_total", "_law_great", "_law_cell"] ["_law_script"] (defScope s_law_start) := ⟨rfl, rfl, rfl, by decide +kernel, rfl, by decide +kernel, by decide +kernel⟩
abbrev s_law_draw : Stmt := topS 46
theorem sc_law_draw : FnScope ["_law_state", "_law_many", "_law_great", "_law_cell", "_law_mixed"] ["_law_state", "_law_many"] (defScope s_law_draw) := ⟨rfl, rfl, rfl, by decide +kernel, rfl, by decide +kernel, by decide +kernel⟩
abbrev s_law_whole : Stmt := topS 47
theorem sc_law_whole : FnScope ["_law_thing"] ["_law_thing"] (defScope s_law_whole) := ⟨rfl, rfl, rfl, by decide +kernel, rfl, by decide +kernel, by decide +kernel⟩
abbrev s_law_gcd : Stmt := topS 48
theorem sc_law_gcd : FnScope ["_law_one", "_law_other", "_law_rest"] ["_law_one", "_law_other"] (defScope s_law_gcd) := ⟨rfl, rfl, rfl, by decide +kernel, rfl, by decide +kernel, by decide +kernel⟩
abbrev s_law_low : Stmt := topS 49
theorem sc_law_low : FnScope ["_law_top", "_law_bottom", "_law_part"] ["_law_top", "_law_bottom"] (defScope s_law_low) := ⟨rfl, rfl, rfl, by decide +kernel, rfl, by decide +kernel, by decide +kernel⟩
abbrev s_law_some : Stmt := topS 50
theorem sc_law_some : FnScope ["_law_p", "_law_number_here"] ["_law_p", "_law_number_here"] (defScope s_law_some) := ⟨rfl, rfl, rfl, by decide +kernel, rfl, by decide +kernel, by decide +kernel⟩
abbrev s_law_plus : Stmt := topS 51
theorem sc_law_plus : FnScope ["_law_p", "_law_one", "_law_other"] ["_law_p", "_law_one", "_law_other"] (defScope s_law_plus) := ⟨rfl, rfl, rfl, by decide +kernel, rfl, by decide +kernel, by decide +kernel⟩
abbrev s_law_times : Stmt := topS 52
theorem sc_law_times : FnScope ["_law_p", "_law_one", "_law_other"] ["_law_p", "_law_one", "_law_other"] (defScope s_law_times) := ⟨rfl, rfl, rfl, by decide +kernel, rfl, by decide +kernel, by decide +kernel⟩
abbrev s_law_minus : Stmt := topS 53
theorem sc_law_minus : FnScope ["_law_p", "_law_one"] ["_law_p", "_law_one"] (defScope s_law_minus) := ⟨rfl, rfl, rfl, by decide +kernel, rfl, by decide +kernel, by decide +kernel⟩
abbrev s_law_over : Stmt := topS 54
theorem sc_law_over : FnScope ["_law_p", "_law_one", "_law_other", "_law_out", "_law_base", "_law_left"] ["_law_p", "_law_one", "_law_other"] (defScope s_law_over) := ⟨rfl, rfl, rfl, by decide +kernel, rfl, by decide +kernel, by decide +kernel⟩
abbrev s_law_nought : Stmt := topS 55
theorem sc_law_nought : FnScope ["_law_p", "_law_thing"] ["_law_p", "_law_thing"] (defScope s_law_nought) := ⟨rfl, rfl, rfl, by decide +kernel, rfl, by decide +kernel, by decide +kernel⟩
abbrev s_law_good : Stmt := topS 56
theorem sc_law_good : FnScope ["_law_p", "_law_thing"] ["_law_p", "_law_thing"] (defScope s_law_good) := ⟨rfl, rfl, rfl, by decide +kernel, rfl, by decide +kernel, by decide +kernel⟩
abbrev s_law_good_row : Stmt := topS 57
theorem sc_law_good_row : FnScope ["_law_p", "_law_row_here", "_law_width", "_law_item"] ["_law_p", "_law_row_here", "_law_width"] (defScope s_law_good_row) := ⟨rfl, rfl, rfl, by decide +kernel, rfl, by decide +kernel, by decide +kernel⟩
abbrev s_law_dot : Stmt := topS 58
theorem sc_law_dot : FnScope ["_law_p", "_law_row_here", "_law_shut", "_law_total", "_law_k"] ["_law_p", "_law_row_here", "_law_shut"] (defScope s_law_dot) := ⟨rfl, rfl, rfl, by decide +kernel, rfl, by decide +kernel, by decide +kernel⟩
abbrev s_law_sum : Stmt := topS 59
theorem sc_law_sum : FnScope ["_law_p", "_law_weights", "_law_rows", "_law_width", "_law_k", "_law_total", "_law_i"] ["_law_p", "_law_weights", "_law_rows", "_law_width"] (defScope s_law_sum) := ⟨rfl, rfl, rfl, by decide +kernel, rfl, by decide +kernel, by decide +kernel⟩
abbrev s_law_prime : Stmt := topS 60
theorem sc_law_prime : FnScope ["_law_state"] ["_law_state"] (defScope s_law_prime) := ⟨rfl, rfl, rfl, by decide +kernel, rfl, by decide +kernel, by decide +kernel⟩
abbrev s_law_field : Stmt := topS 61
theorem sc_law_field : FnScope ["_law_p"] ["_law_p"] (defScope s_law_field) := ⟨rfl, rfl, rfl, by decide +kernel, rfl, by decide +kernel, by decide +kernel⟩
abbrev s_law_tiny : Stmt := topS 62
theorem sc_law_tiny : FnScope ["_law_state", "_law_p"] ["_law_state", "_law_p"] (defScope s_law_tiny) := ⟨rfl, rfl, rfl, by decide +kernel, rfl, by decide +kernel, by decide +kernel⟩
abbrev s_law_number : Stmt := topS 63
theorem sc_law_number : FnScope ["_law_state", "_law_p", "_law_top"] ["_law_state", "_law_p"] (defScope s_law_number) := ⟨rfl, rfl, rfl, by decide +kernel, rfl, by decide +kernel, by decide +kernel⟩
abbrev s_law_filled : Stmt := topS 64
theorem sc_law_filled : FnScope ["_law_state", "_law_p", "_law_top"] ["_law_state", "_law_p"] (defScope s_law_filled) := ⟨rfl, rfl, rfl, by decide +kernel, rfl, by decide +kernel, by decide +kernel⟩
abbrev s_law_row : Stmt := topS 65
theorem sc_law_row : FnScope ["_law_state", "_law_p", "_law_width", "_law_row_here", "_law_k", "_law_item"] ["_law_state", "_law_p", "_law_width"] (defScope s_law_row) := ⟨rfl, rfl, rfl, by decide +kernel, rfl, by decide +kernel, by decide +kernel⟩
abbrev s_law_shear : Stmt := topS 66
theorem sc_law_shear : FnScope ["_law_state", "_law_p", "_law_points", "_law_shuts", "_law_width", "_law_turn", "_law_low_here", "_law_high", "_law_factor", "_law_row_here"] ["_law_state", "_law_p", "_law_points", "_law_shuts"] (defScope s_law_shear) := ⟨rfl, rfl, rfl, by decide +kernel, rfl, by decide +kernel, by decide +kernel⟩
abbrev s_law_wide : Stmt := topS 67
theorem sc_law_wide : FnScope ["_law_state", "_law_p", "_law_full_here", "_law_width", "_law_points", "_law_i", "_law_shuts", "_law_j", "_law_shut", "_law_k", "_law_item"] ["_law_state", "_law_p", "_law_full_here"] (defScope s_law_wide) := ⟨rfl, rfl, rfl, by decide +kernel, rfl, by decide +kernel, by decide +kernel⟩
abbrev s_law_narrow : Stmt := topS 68
theorem sc_law_narrow : FnScope ["_law_state", "_law_p", "_law_many_points", "_law_many_shuts", "_law_width", "_law_points", "_law_shuts", "_law_k"] ["_law_state", "_law_p", "_law_many_points", "_law_many_shuts"] (defScope s_law_narrow) := ⟨rfl, rfl, rfl, by decide +kernel, rfl, by decide +kernel, by decide +kernel⟩
abbrev s_law_full : Stmt := topS 69
theorem sc_law_full : FnScope ["_law_p", "_law_points", "_law_shuts", "_law_row_here", "_law_shut"] ["_law_p", "_law_points", "_law_shuts"] (defScope s_law_full) := ⟨rfl, rfl, rfl, by decide +kernel, rfl, by decide +kernel, by decide +kernel⟩
abbrev s_law_grid : Stmt := topS 70
theorem sc_law_grid : FnScope ["_law_state", "_law_p", "_law_many_points", "_law_many_shuts", "_law_i", "_law_ones", "_law_j", "_law_others", "_law_rough", "_law_full_here", "_law_row_here", "_law_number_here", "_law_kind"] ["_law_state", "_law_p", "_law_many_points", "_law_many_shuts"] (defScope s_law_grid) := ⟨rfl, rfl, rfl, by decide +kernel, rfl, by decide +kernel, by decide +kernel⟩
abbrev s_law_pair_of_lots : Stmt := topS 71
theorem sc_law_pair_of_lots : FnScope ["_law_state", "_law_p", "_law_many_points", "_law_many_shuts"] ["_law_state", "_law_p", "_law_many_points", "_law_many_shuts"] (defScope s_law_pair_of_lots) := ⟨rfl, rfl, rfl, by decide +kernel, rfl, by decide +kernel, by decide +kernel⟩
abbrev s_law_tile_fair : Stmt := topS 72
theorem sc_law_tile_fair : FnScope ["_law_p", "_law_full_here", "_law_corners", "_law_one", "_law_low_here", "_law_other", "_law_high"] ["_law_p", "_law_full_here", "_law_corners"] (defScope s_law_tile_fair) := ⟨rfl, rfl, rfl, by decide +kernel, rfl, by decide +kernel, by decide +kernel⟩
abbrev s_law_meet : Stmt := topS 73
theorem sc_law_meet : FnScope ["_law_p", "_law_full_here", "_law_points", "_law_corners", "_law_one", "_law_low_here", "_law_other", "_law_high", "_law_zero", "_law_lows", "_law_highs", "_law_couple", "_law_first", "_law_second", "_law_row_here"] ["_law_p", "_law_full_here", "_law_points", "_law_corners"] (defScope s_law_meet) := ⟨rfl, rfl, rfl, by decide +kernel, rfl, by decide +kernel, by decide +kernel⟩
abbrev s_law_same_meet : Stmt := topS 74
theorem sc_law_same_meet : FnScope ["_law_p", "_law_told", "_law_due"] ["_law_p", "_law_told", "_law_due"] (defScope s_law_same_meet) := ⟨rfl, rfl, rfl, by decide +kernel, rfl, by decide +kernel, by decide +kernel⟩
abbrev s_law_found : Stmt := topS 75
theorem sc_law_found : FnScope ["_law_p", "_law_full_here", "_law_corners", "_law_one", "_law_low_here", "_law_other", "_law_high", "_law_first", "_law_second", "_law_left", "_law_right"] ["_law_p", "_law_full_here", "_law_corners"] (defScope s_law_found) := ⟨rfl, rfl, rfl, by decide +kernel, rfl, by decide +kernel, by decide +kernel⟩
abbrev s_law : Stmt := topS 76
theorem sc_law : FnScope ["_law_script", "_law_state", "_law_p", "_law_most", "_law_points", "_law_shuts", "_law_space", "_law_full_here", "_law_one", "_law_other", "_law_low_here", "_law_high", "_law_corners", "_law_due", "_law_at", "_law_row_here"] ["_law_script"] (defScope s_law) := ⟨rfl, rfl, rfl, by decide +kernel, rfl, by decide +kernel, by decide +kernel⟩
/-! what the top leaves -/
structure Txt (K : PySem.W.Frag) (mg : Str → Option Value) where
  f_BadSpace_init : Addr
  d_BadSpace_init : FuncData
  F_BadSpace_init : Fun K "__init__" "BadSpace.__init__" s_BadSpace_init f_BadSpace_init d_BadSpace_init
  b_BadSpace_init : Binds K d_BadSpace_init ["self", "what", "index"] []
  f_is_whole : Addr
  d_is_whole : FuncData
  F_is_whole : FunD K "is_whole" "is_whole" (defArgs s_is_whole) (defBody s_is_whole) (defScope s_is_whole) [.non, .non] [] f_is_whole d_is_whole
  b2_is_whole : Binds K d_is_whole ["thing", "low", "high"] [.none, .none]
  b1_is_whole : Binds K d_is_whole ["thing", "low", "high"] [.none]
  b_is_whole : Binds K d_is_whole ["thing", "low", "high"] []
  g_is_whole : mg "is_whole" = some (.ref f_is_whole)
  f_common_divisor : Addr
  d_common_divisor : FuncData
  F_common_divisor : Fun K "common_divisor" "common_divisor" s_common_divisor f_common_divisor d_common_divisor
  b_common_divisor : Binds K d_common_divisor ["one", "other"] []
  g_common_divisor : mg "common_divisor" = some (.ref f_common_divisor)
  f_power_of : Addr
  d_power_of : FuncData
  F_power_of : Fun K "power_of" "power_of" s_power_of f_power_of d_power_of
  b_power_of : Binds K d_power_of ["base", "exponent"] []
  g_power_of : mg "power_of" = some (.ref f_power_of)
  f_is_sequence : Addr
  d_is_sequence : FuncData
  F_is_sequence : FunD K "is_sequence" "is_sequence" (defArgs s_is_sequence) (defBody s_is_sequence) (defScope s_is_sequence) [.non] [] f_is_sequence d_is_sequence
  b1_is_sequence : Binds K d_is_sequence ["thing", "length"] [.none]
  b_is_sequence : Binds K d_is_sequence ["thing", "length"] []
  g_is_sequence : mg "is_sequence" = some (.ref f_is_sequence)
  f_has_between : Addr
  d_has_between : FuncData
  F_has_between : Fun K "has_between" "has_between" s_has_between f_has_between d_has_between
  b_has_between : Binds K d_has_between ["thing", "low", "high"] []
  g_has_between : mg "has_between" = some (.ref f_has_between)
  f_wrong_index : Addr
  d_wrong_index : FuncData
  F_wrong_index : Fun K "wrong_index" "wrong_index" s_wrong_index f_wrong_index d_wrong_index
  b_wrong_index : Binds K d_wrong_index ["thing", "length", "is_good"] []
  g_wrong_index : mg "wrong_index" = some (.ref f_wrong_index)
  f_columns_of : Addr
  d_columns_of : FuncData
  F_columns_of : Fun K "columns_of" "columns_of" s_columns_of f_columns_of d_columns_of
  b_columns_of : Binds K d_columns_of ["width", "rows"] []
  g_columns_of : mg "columns_of" = some (.ref f_columns_of)
  f_as_tuples : Addr
  d_as_tuples : FuncData
  F_as_tuples : Fun K "as_tuples" "as_tuples" s_as_tuples f_as_tuples d_as_tuples
  b_as_tuples : Binds K d_as_tuples ["rows"] []
  g_as_tuples : mg "as_tuples" = some (.ref f_as_tuples)
  f_product_sum : Addr
  d_product_sum : FuncData
  F_product_sum : Fun K "product_sum" "product_sum" s_product_sum f_product_sum d_product_sum
  b_product_sum : Binds K d_product_sum ["field", "one", "other"] []
  g_product_sum : mg "product_sum" = some (.ref f_product_sum)
  f_columns_as_rows : Addr
  d_columns_as_rows : FuncData
  F_columns_as_rows : Fun K "columns_as_rows" "columns_as_rows" s_columns_as_rows f_columns_as_rows d_columns_as_rows
  b_columns_as_rows : Binds K d_columns_as_rows ["rows"] []
  g_columns_as_rows : mg "columns_as_rows" = some (.ref f_columns_as_rows)
  f_rows_product : Addr
  d_rows_product : FuncData
  F_rows_product : Fun K "rows_product" "rows_product" s_rows_product f_rows_product d_rows_product
  b_rows_product : Binds K d_rows_product ["field", "rows", "others"] []
  g_rows_product : mg "rows_product" = some (.ref f_rows_product)
  f_least_factor : Addr
  d_least_factor : FuncData
  F_least_factor : Fun K "least_factor" "least_factor" s_least_factor f_least_factor d_least_factor
  b_least_factor : Binds K d_least_factor ["number"] []
  g_least_factor : mg "least_factor" = some (.ref f_least_factor)
  f_is_prime : Addr
  d_is_prime : FuncData
  F_is_prime : Fun K "is_prime" "is_prime" s_is_prime f_is_prime d_is_prime
  b_is_prime : Binds K d_is_prime ["number"] []
  g_is_prime : mg "is_prime" = some (.ref f_is_prime)
  f_is_number : Addr
  d_is_number : FuncData
  F_is_number : Fun K "is_number" "is_number" s_is_number f_is_number d_is_number
  b_is_number : Binds K d_is_number ["field", "thing"] []
  g_is_number : mg "is_number" = some (.ref f_is_number)
  f_is_number_row : Addr
  d_is_number_row : FuncData
  F_is_number_row : Fun K "is_number_row" "is_number_row" s_is_number_row f_is_number_row d_is_number_row
  b_is_number_row : Binds K d_is_number_row ["field", "thing", "length"] []
  g_is_number_row : mg "is_number_row" = some (.ref f_is_number_row)
  f_RestField_init : Addr
  d_RestField_init : FuncData
  F_RestField_init : Fun K "__init__" "RestField.__init__" s_RestField_init f_RestField_init d_RestField_init
  b_RestField_init : Binds K d_RestField_init ["self", "prime"] []
  f_RestField_eq : Addr
  d_RestField_eq : FuncData
  F_RestField_eq : Fun K "__eq__" "RestField.__eq__" s_RestField_eq f_RestField_eq d_RestField_eq
  b_RestField_eq : Binds K d_RestField_eq ["self", "other"] []
  f_RestField_check_number : Addr
  d_RestField_check_number : FuncData
  F_RestField_check_number : Fun K "check_number" "RestField.check_number" s_RestField_check_number f_RestField_check_number d_RestField_check_number
  b_RestField_check_number : Binds K d_RestField_check_number ["self", "number"] []
  f_RestField_plus : Addr
  d_RestField_plus : FuncData
  F_RestField_plus : Fun K "plus" "RestField.plus" s_RestField_plus f_RestField_plus d_RestField_plus
  b_RestField_plus : Binds K d_RestField_plus ["self", "one", "other"] []
  f_RestField_less : Addr
  d_RestField_less : FuncData
  F_RestField_less : Fun K "less" "RestField.less" s_RestField_less f_RestField_less d_RestField_less
  b_RestField_less : Binds K d_RestField_less ["self", "one", "other"] []
  f_RestField_times : Addr
  d_RestField_times : FuncData
  F_RestField_times : Fun K "times" "RestField.times" s_RestField_times f_RestField_times d_RestField_times
  b_RestField_times : Binds K d_RestField_times ["self", "one", "other"] []
  f_RestField_quotient : Addr
  d_RestField_quotient : FuncData
  F_RestField_quotient : Fun K "quotient" "RestField.quotient" s_RestField_quotient f_RestField_quotient d_RestField_quotient
  b_RestField_quotient : Binds K d_RestField_quotient ["self", "one", "other"] []
  f_RestField_power : Addr
  d_RestField_power : FuncData
  F_RestField_power : Fun K "power" "RestField.power" s_RestField_power f_RestField_power d_RestField_power
  b_RestField_power : Binds K d_RestField_power ["self", "number", "exponent"] []
  f_fraction : Addr
  d_fraction : FuncData
  F_fraction : Fun K "_fraction" "_fraction" s_fraction f_fraction d_fraction
  b_fraction : Binds K d_fraction ["top", "bottom"] []
  g_fraction : mg "_fraction" = some (.ref f_fraction)
  f_FractionField_init : Addr
  d_FractionField_init : FuncData
  F_FractionField_init : Fun K "__init__" "FractionField.__init__" s_FractionField_init f_FractionField_init d_FractionField_init
  b_FractionField_init : Binds K d_FractionField_init ["self"] []
  f_FractionField_eq : Addr
  d_FractionField_eq : FuncData
  F_FractionField_eq : Fun K "__eq__" "FractionField.__eq__" s_FractionField_eq f_FractionField_eq d_FractionField_eq
  b_FractionField_eq : Binds K d_FractionField_eq ["self", "other"] []
  f_FractionField_check_number : Addr
  d_FractionField_check_number : FuncData
  F_FractionField_check_number : Fun K "check_number" "FractionField.check_number" s_FractionField_check_number f_FractionField_check_number d_FractionField_check_number
  b_FractionField_check_number : Binds K d_FractionField_check_number ["self", "number"] []
  f_FractionField_plus : Addr
  d_FractionField_plus : FuncData
  F_FractionField_plus : Fun K "plus" "FractionField.plus" s_FractionField_plus f_FractionField_plus d_FractionField_plus
  b_FractionField_plus : Binds K d_FractionField_plus ["self", "one", "other"] []
  f_FractionField_less : Addr
  d_FractionField_less : FuncData
  F_FractionField_less : Fun K "less" "FractionField.less" s_FractionField_less f_FractionField_less d_FractionField_less
  b_FractionField_less : Binds K d_FractionField_less ["self", "one", "other"] []
  f_FractionField_times : Addr
  d_FractionField_times : FuncData
  F_FractionField_times : Fun K "times" "FractionField.times" s_FractionField_times f_FractionField_times d_FractionField_times
  b_FractionField_times : Binds K d_FractionField_times ["self", "one", "other"] []
  f_FractionField_quotient : Addr
  d_FractionField_quotient : FuncData
  F_FractionField_quotient : Fun K "quotient" "FractionField.quotient" s_FractionField_quotient f_FractionField_quotient d_FractionField_quotient
  b_FractionField_quotient : Binds K d_FractionField_quotient ["self", "one", "other"] []
  f_FractionField_power : Addr
  d_FractionField_power : FuncData
  F_FractionField_power : Fun K "power" "FractionField.power" s_FractionField_power f_FractionField_power d_FractionField_power
  b_FractionField_power : Binds K d_FractionField_power ["self", "number", "exponent"] []
  f_is_row : Addr
  d_is_row : FuncData
  F_is_row : Fun K "_is_row" "_is_row" s_is_row f_is_row d_is_row
  b_is_row : Binds K d_is_row ["field", "thing", "width"] []
  g_is_row : mg "_is_row" = some (.ref f_is_row)
  f_check_rows : Addr
  d_check_rows : FuncData
  F_check_rows : Fun K "_check_rows" "_check_rows" s_check_rows f_check_rows d_check_rows
  b_check_rows : Binds K d_check_rows ["field", "what", "rows", "width"] []
  g_check_rows : mg "_check_rows" = some (.ref f_check_rows)
  f_width_of : Addr
  d_width_of : FuncData
  F_width_of : Fun K "_width_of" "_width_of" s_width_of f_width_of d_width_of
  b_width_of : Binds K d_width_of ["row"] []
  g_width_of : mg "_width_of" = some (.ref f_width_of)
  f_Space_init : Addr
  d_Space_init : FuncData
  F_Space_init : Fun K "__init__" "Space.__init__" s_Space_init f_Space_init d_Space_init
  b_Space_init : Binds K d_Space_init ["self", "field", "points", "walls"] []
  f_Space_eq : Addr
  d_Space_eq : FuncData
  F_Space_eq : Fun K "__eq__" "Space.__eq__" s_Space_eq f_Space_eq d_Space_eq
  b_Space_eq : Binds K d_Space_eq ["self", "other"] []
  f_number_at : Addr
  d_number_at : FuncData
  F_number_at : Fun K "number_at" "number_at" s_number_at f_number_at d_number_at
  b_number_at : Binds K d_number_at ["space", "point", "wall"] []
  g_number_at : mg "number_at" = some (.ref f_number_at)
  f_Meet_init : Addr
  d_Meet_init : FuncData
  F_Meet_init : Fun K "__init__" "Meet.__init__" s_Meet_init f_Meet_init d_Meet_init
  b_Meet_init : Binds K d_Meet_init ["self", "first", "second", "row"] []
  f_Meet_eq : Addr
  d_Meet_eq : FuncData
  F_Meet_eq : Fun K "__eq__" "Meet.__eq__" s_Meet_eq f_Meet_eq d_Meet_eq
  b_Meet_eq : Binds K d_Meet_eq ["self", "other"] []
  f_weights_on : Addr
  d_weights_on : FuncData
  F_weights_on : Fun K "_weights_on" "_weights_on" s_weights_on f_weights_on d_weights_on
  b_weights_on : Binds K d_weights_on ["field", "numbers"] []
  g_weights_on : mg "_weights_on" = some (.ref f_weights_on)
  f_line_meets : Addr
  d_line_meets : FuncData
  F_line_meets : Fun K "line_meets" "line_meets" s_line_meets f_line_meets d_line_meets
  b_line_meets : Binds K d_line_meets ["space", "p", "q", "u", "v"] []
  g_line_meets : mg "line_meets" = some (.ref f_line_meets)
  f_law_start : Addr
  d_law_start : FuncData
  F_law_start : Fun K "_law_start" "_law_start" s_law_start f_law_start d_law_start
  b_law_start : Binds K d_law_start ["_law_script"] []
  g_law_start : mg "_law_start" = some (.ref f_law_start)
  f_law_draw : Addr
  d_law_draw : FuncData
  F_law_draw : Fun K "_law_draw" "_law_draw" s_law_draw f_law_draw d_law_draw
  b_law_draw : Binds K d_law_draw ["_law_state", "_law_many"] []
  g_law_draw : mg "_law_draw" = some (.ref f_law_draw)
  f_law_whole : Addr
  d_law_whole : FuncData
  F_law_whole : Fun K "_law_whole" "_law_whole" s_law_whole f_law_whole d_law_whole
  b_law_whole : Binds K d_law_whole ["_law_thing"] []
  g_law_whole : mg "_law_whole" = some (.ref f_law_whole)
  f_law_gcd : Addr
  d_law_gcd : FuncData
  F_law_gcd : Fun K "_law_gcd" "_law_gcd" s_law_gcd f_law_gcd d_law_gcd
  b_law_gcd : Binds K d_law_gcd ["_law_one", "_law_other"] []
  g_law_gcd : mg "_law_gcd" = some (.ref f_law_gcd)
  f_law_low : Addr
  d_law_low : FuncData
  F_law_low : Fun K "_law_low" "_law_low" s_law_low f_law_low d_law_low
  b_law_low : Binds K d_law_low ["_law_top", "_law_bottom"] []
  g_law_low : mg "_law_low" = some (.ref f_law_low)
  f_law_some : Addr
  d_law_some : FuncData
  F_law_some : Fun K "_law_some" "_law_some" s_law_some f_law_some d_law_some
  b_law_some : Binds K d_law_some ["_law_p", "_law_number_here"] []
  g_law_some : mg "_law_some" = some (.ref f_law_some)
  f_law_plus : Addr
  d_law_plus : FuncData
  F_law_plus : Fun K "_law_plus" "_law_plus" s_law_plus f_law_plus d_law_plus
  b_law_plus : Binds K d_law_plus ["_law_p", "_law_one", "_law_other"] []
  g_law_plus : mg "_law_plus" = some (.ref f_law_plus)
  f_law_times : Addr
  d_law_times : FuncData
  F_law_times : Fun K "_law_times" "_law_times" s_law_times f_law_times d_law_times
  b_law_times : Binds K d_law_times ["_law_p", "_law_one", "_law_other"] []
  g_law_times : mg "_law_times" = some (.ref f_law_times)
  f_law_minus : Addr
  d_law_minus : FuncData
  F_law_minus : Fun K "_law_minus" "_law_minus" s_law_minus f_law_minus d_law_minus
  b_law_minus : Binds K d_law_minus ["_law_p", "_law_one"] []
  g_law_minus : mg "_law_minus" = some (.ref f_law_minus)
  f_law_over : Addr
  d_law_over : FuncData
  F_law_over : Fun K "_law_over" "_law_over" s_law_over f_law_over d_law_over
  b_law_over : Binds K d_law_over ["_law_p", "_law_one", "_law_other"] []
  g_law_over : mg "_law_over" = some (.ref f_law_over)
  f_law_nought : Addr
  d_law_nought : FuncData
  F_law_nought : Fun K "_law_nought" "_law_nought" s_law_nought f_law_nought d_law_nought
  b_law_nought : Binds K d_law_nought ["_law_p", "_law_thing"] []
  g_law_nought : mg "_law_nought" = some (.ref f_law_nought)
  f_law_good : Addr
  d_law_good : FuncData
  F_law_good : Fun K "_law_good" "_law_good" s_law_good f_law_good d_law_good
  b_law_good : Binds K d_law_good ["_law_p", "_law_thing"] []
  g_law_good : mg "_law_good" = some (.ref f_law_good)
  f_law_good_row : Addr
  d_law_good_row : FuncData
  F_law_good_row : Fun K "_law_good_row" "_law_good_row" s_law_good_row f_law_good_row d_law_good_row
  b_law_good_row : Binds K d_law_good_row ["_law_p", "_law_row_here", "_law_width"] []
  g_law_good_row : mg "_law_good_row" = some (.ref f_law_good_row)
  f_law_dot : Addr
  d_law_dot : FuncData
  F_law_dot : Fun K "_law_dot" "_law_dot" s_law_dot f_law_dot d_law_dot
  b_law_dot : Binds K d_law_dot ["_law_p", "_law_row_here", "_law_shut"] []
  g_law_dot : mg "_law_dot" = some (.ref f_law_dot)
  f_law_sum : Addr
  d_law_sum : FuncData
  F_law_sum : Fun K "_law_sum" "_law_sum" s_law_sum f_law_sum d_law_sum
  b_law_sum : Binds K d_law_sum ["_law_p", "_law_weights", "_law_rows", "_law_width"] []
  g_law_sum : mg "_law_sum" = some (.ref f_law_sum)
  f_law_prime : Addr
  d_law_prime : FuncData
  F_law_prime : Fun K "_law_prime" "_law_prime" s_law_prime f_law_prime d_law_prime
  b_law_prime : Binds K d_law_prime ["_law_state"] []
  g_law_prime : mg "_law_prime" = some (.ref f_law_prime)
  f_law_field : Addr
  d_law_field : FuncData
  F_law_field : Fun K "_law_field" "_law_field" s_law_field f_law_field d_law_field
  b_law_field : Binds K d_law_field ["_law_p"] []
  g_law_field : mg "_law_field" = some (.ref f_law_field)
  f_law_tiny : Addr
  d_law_tiny : FuncData
  F_law_tiny : Fun K "_law_tiny" "_law_tiny" s_law_tiny f_law_tiny d_law_tiny
  b_law_tiny : Binds K d_law_tiny ["_law_state", "_law_p"] []
  g_law_tiny : mg "_law_tiny" = some (.ref f_law_tiny)
  f_law_number : Addr
  d_law_number : FuncData
  F_law_number : Fun K "_law_number" "_law_number" s_law_number f_law_number d_law_number
  b_law_number : Binds K d_law_number ["_law_state", "_law_p"] []
  g_law_number : mg "_law_number" = some (.ref f_law_number)
  f_law_filled : Addr
  d_law_filled : FuncData
  F_law_filled : Fun K "_law_filled" "_law_filled" s_law_filled f_law_filled d_law_filled
  b_law_filled : Binds K d_law_filled ["_law_state", "_law_p"] []
  g_law_filled : mg "_law_filled" = some (.ref f_law_filled)
  f_law_row : Addr
  d_law_row : FuncData
  F_law_row : Fun K "_law_row" "_law_row" s_law_row f_law_row d_law_row
  b_law_row : Binds K d_law_row ["_law_state", "_law_p", "_law_width"] []
  g_law_row : mg "_law_row" = some (.ref f_law_row)
  f_law_shear : Addr
  d_law_shear : FuncData
  F_law_shear : Fun K "_law_shear" "_law_shear" s_law_shear f_law_shear d_law_shear
  b_law_shear : Binds K d_law_shear ["_law_state", "_law_p", "_law_points", "_law_shuts"] []
  g_law_shear : mg "_law_shear" = some (.ref f_law_shear)
  f_law_wide : Addr
  d_law_wide : FuncData
  F_law_wide : Fun K "_law_wide" "_law_wide" s_law_wide f_law_wide d_law_wide
  b_law_wide : Binds K d_law_wide ["_law_state", "_law_p", "_law_full_here"] []
  g_law_wide : mg "_law_wide" = some (.ref f_law_wide)
  f_law_narrow : Addr
  d_law_narrow : FuncData
  F_law_narrow : Fun K "_law_narrow" "_law_narrow" s_law_narrow f_law_narrow d_law_narrow
  b_law_narrow : Binds K d_law_narrow ["_law_state", "_law_p", "_law_many_points", "_law_many_shuts"] []
  g_law_narrow : mg "_law_narrow" = some (.ref f_law_narrow)
  f_law_full : Addr
  d_law_full : FuncData
  F_law_full : Fun K "_law_full" "_law_full" s_law_full f_law_full d_law_full
  b_law_full : Binds K d_law_full ["_law_p", "_law_points", "_law_shuts"] []
  g_law_full : mg "_law_full" = some (.ref f_law_full)
  f_law_grid : Addr
  d_law_grid : FuncData
  F_law_grid : Fun K "_law_grid" "_law_grid" s_law_grid f_law_grid d_law_grid
  b_law_grid : Binds K d_law_grid ["_law_state", "_law_p", "_law_many_points", "_law_many_shuts"] []
  g_law_grid : mg "_law_grid" = some (.ref f_law_grid)
  f_law_pair_of_lots : Addr
  d_law_pair_of_lots : FuncData
  F_law_pair_of_lots : Fun K "_law_pair_of_lots" "_law_pair_of_lots" s_law_pair_of_lots f_law_pair_of_lots d_law_pair_of_lots
  b_law_pair_of_lots : Binds K d_law_pair_of_lots ["_law_state", "_law_p", "_law_many_points", "_law_many_shuts"] []
  g_law_pair_of_lots : mg "_law_pair_of_lots" = some (.ref f_law_pair_of_lots)
  f_law_tile_fair : Addr
  d_law_tile_fair : FuncData
  F_law_tile_fair : Fun K "_law_tile_fair" "_law_tile_fair" s_law_tile_fair f_law_tile_fair d_law_tile_fair
  b_law_tile_fair : Binds K d_law_tile_fair ["_law_p", "_law_full_here", "_law_corners"] []
  g_law_tile_fair : mg "_law_tile_fair" = some (.ref f_law_tile_fair)
  f_law_meet : Addr
  d_law_meet : FuncData
  F_law_meet : Fun K "_law_meet" "_law_meet" s_law_meet f_law_meet d_law_meet
  b_law_meet : Binds K d_law_meet ["_law_p", "_law_full_here", "_law_points", "_law_corners"] []
  g_law_meet : mg "_law_meet" = some (.ref f_law_meet)
  f_law_same_meet : Addr
  d_law_same_meet : FuncData
  F_law_same_meet : Fun K "_law_same_meet" "_law_same_meet" s_law_same_meet f_law_same_meet d_law_same_meet
  b_law_same_meet : Binds K d_law_same_meet ["_law_p", "_law_told", "_law_due"] []
  g_law_same_meet : mg "_law_same_meet" = some (.ref f_law_same_meet)
  f_law_found : Addr
  d_law_found : FuncData
  F_law_found : Fun K "_law_found" "_law_found" s_law_found f_law_found d_law_found
  b_law_found : Binds K d_law_found ["_law_p", "_law_full_here", "_law_corners"] []
  g_law_found : mg "_law_found" = some (.ref f_law_found)
  f_law : Addr
  d_law : FuncData
  F_law : Fun K "law" "law" s_law f_law d_law
  m_abs : mg "abs" = none
  m_all : mg "all" = none
  m_any : mg "any" = none
  m_bool : mg "bool" = none
  m_enumerate : mg "enumerate" = none
  m_int : mg "int" = none
  m_isinstance : mg "isinstance" = none
  m_len : mg "len" = none
  m_list : mg "list" = none
  m_range : mg "range" = none
  m_tuple : mg "tuple" = none
  m_zip : mg "zip" = none
  x_gcd : mg "gcd" = some (.builtin "math.gcd")
  tk_MOST_PRIME : Tok
  c_MOST_PRIME : mg "MOST_PRIME" = some (.int 20000 tk_MOST_PRIME)
  tk_MOST_CORNERS : Tok
  c_MOST_CORNERS : mg "MOST_CORNERS" = some (.int 5 tk_MOST_CORNERS)
  tk_MOST_WIDTH : Tok
  c_MOST_WIDTH : mg "MOST_WIDTH" = some (.int 6 tk_MOST_WIDTH)
  C_SheetError : Addr
  g_SheetError : mg "SheetError" = some (.ref C_SheetError)
  C_BadPrime : Addr
  g_BadPrime : mg "BadPrime" = some (.ref C_BadPrime)
  x_BadPrime : XfC K C_BadPrime
  e_BadPrime : ExcC K C_BadPrime
  q_BadPrime : PySem.W.excIn K C_BadPrime [Value.type "ValueError", Value.type "Exception", Value.type "BaseException", Value.type "object"] "ValueError.__new__" = true
  k_BadPrime : PySem.W.keepIn K (.ref C_BadPrime) = true
  b_BadPrime : PySem.W.subIn K (.ref C_BadPrime) (.type "BaseException") = some true
  ty_BadPrime : PySem.W.typeIn K (.ref C_BadPrime) = some (.type "type")
  C_BadNumber : Addr
  g_BadNumber : mg "BadNumber" = some (.ref C_BadNumber)
  x_BadNumber : XfC K C_BadNumber
  e_BadNumber : ExcC K C_BadNumber
  q_BadNumber : PySem.W.excIn K C_BadNumber [Value.type "ValueError", Value.type "Exception", Value.type "BaseException", Value.type "object"] "ValueError.__new__" = true
  k_BadNumber : PySem.W.keepIn K (.ref C_BadNumber) = true
  b_BadNumber : PySem.W.subIn K (.ref C_BadNumber) (.type "BaseException") = some true
  ty_BadNumber : PySem.W.typeIn K (.ref C_BadNumber) = some (.type "type")
  C_ByZero : Addr
  g_ByZero : mg "ByZero" = some (.ref C_ByZero)
  x_ByZero : XfC K C_ByZero
  e_ByZero : ExcC K C_ByZero
  q_ByZero : PySem.W.excIn K C_ByZero [Value.type "ValueError", Value.type "Exception", Value.type "BaseException", Value.type "object"] "ValueError.__new__" = true
  k_ByZero : PySem.W.keepIn K (.ref C_ByZero) = true
  b_ByZero : PySem.W.subIn K (.ref C_ByZero) (.type "BaseException") = some true
  ty_ByZero : PySem.W.typeIn K (.ref C_ByZero) = some (.type "type")
  C_BadSpace : Addr
  g_BadSpace : mg "BadSpace" = some (.ref C_BadSpace)
  x_BadSpace : XfC K C_BadSpace
  e_BadSpace : ExcC K C_BadSpace
  o_BadSpace : OexC K C_BadSpace
  i_BadSpace : PySem.W.findIn K (.ref C_BadSpace) "__init__" = some (some (.ref f_BadSpace_init))
  t_BadSpace : PySem.W.typeIn K (.ref f_BadSpace_init) = some (.type "function")
  n_BadSpace : PySem.W.findIn K (.ref C_BadSpace) "what" = some none
  n1_BadSpace : PySem.W.findIn K (.ref C_BadSpace) "index" = some none
  mm_BadPrime_BadNumber : PySem.W.exmOne K (.ref C_BadPrime) (.ref C_BadNumber) = some false
  mm_BadNumber_BadNumber : PySem.W.exmOne K (.ref C_BadNumber) (.ref C_BadNumber) = some true
  mm_ByZero_BadNumber : PySem.W.exmOne K (.ref C_ByZero) (.ref C_BadNumber) = some false
  mm_BadSpace_BadNumber : PySem.W.exmOne K (.ref C_BadSpace) (.ref C_BadNumber) = some false
  C_RestField : Addr
  g_RestField : mg "RestField" = some (.ref C_RestField)
  cl_RestField : Cls K C_RestField
  M_RestField : Mk K C_RestField f_RestField_init
  na_RestField_prime : NoAttr K C_RestField "prime"
  na_RestField_zero : NoAttr K C_RestField "zero"
  na_RestField_one : NoAttr K C_RestField "one"
  na_RestField_minus_one : NoAttr K C_RestField "minus_one"
  RestField_eq_at : PySem.W.findIn K (.ref C_RestField) "__eq__" = some (some (.ref f_RestField_eq))
  RestField_eq_fn : PySem.W.isFn K (.ref f_RestField_eq) = true
  M_RestField_check_number : Meth K C_RestField "check_number" f_RestField_check_number
  M_RestField_plus : Meth K C_RestField "plus" f_RestField_plus
  M_RestField_less : Meth K C_RestField "less" f_RestField_less
  M_RestField_times : Meth K C_RestField "times" f_RestField_times
  M_RestField_quotient : Meth K C_RestField "quotient" f_RestField_quotient
  M_RestField_power : Meth K C_RestField "power" f_RestField_power
  RestField_k_class : PySem.W.findIn K (.ref C_RestField) "__class__" = some (some (.builtin "object.__class__"))
  RestField_k_get : PySem.W.specialIn K (.builtin "object.__class__") "__get__" = some (some (.builtin "getset_descriptor.__get__"))
  RestField_k_takes : PySem.W.takesIn K (.builtin "object.__class__") = some true
  RestField_k_mro : PySem.W.mroIn K C_RestField (.type "object") = some true
  RestField_k_isp : PySem.W.kitOne K (.ref C_RestField) (.ref C_RestField) = some true
  C_FractionField : Addr
  g_FractionField : mg "FractionField" = some (.ref C_FractionField)
  cl_FractionField : Cls K C_FractionField
  M_FractionField : Mk K C_FractionField f_FractionField_init
  na_FractionField_zero : NoAttr K C_FractionField "zero"
  na_FractionField_one : NoAttr K C_FractionField "one"
  na_FractionField_minus_one : NoAttr K C_FractionField "minus_one"
  FractionField_eq_at : PySem.W.findIn K (.ref C_FractionField) "__eq__" = some (some (.ref f_FractionField_eq))
  FractionField_eq_fn : PySem.W.isFn K (.ref f_FractionField_eq) = true
  M_FractionField_check_number : Meth K C_FractionField "check_number" f_FractionField_check_number
  M_FractionField_plus : Meth K C_FractionField "plus" f_FractionField_plus
  M_FractionField_less : Meth K C_FractionField "less" f_FractionField_less
  M_FractionField_times : Meth K C_FractionField "times" f_FractionField_times
  M_FractionField_quotient : Meth K C_FractionField "quotient" f_FractionField_quotient
  M_FractionField_power : Meth K C_FractionField "power" f_FractionField_power
  FractionField_k_class : PySem.W.findIn K (.ref C_FractionField) "__class__" = some (some (.builtin "object.__class__"))
  FractionField_k_get : PySem.W.specialIn K (.builtin "object.__class__") "__get__" = some (some (.builtin "getset_descriptor.__get__"))
  FractionField_k_takes : PySem.W.takesIn K (.builtin "object.__class__") = some true
  FractionField_k_mro : PySem.W.mroIn K C_FractionField (.type "object") = some true
  FractionField_k_isp : PySem.W.kitOne K (.ref C_FractionField) (.ref C_FractionField) = some true
  C_Space : Addr
  g_Space : mg "Space" = some (.ref C_Space)
  cl_Space : Cls K C_Space
  M_Space : Mk K C_Space f_Space_init
  na_Space_field : NoAttr K C_Space "field"
  na_Space_points : NoAttr K C_Space "points"
  na_Space_walls : NoAttr K C_Space "walls"
  na_Space_width : NoAttr K C_Space "width"
  Space_eq_at : PySem.W.findIn K (.ref C_Space) "__eq__" = some (some (.ref f_Space_eq))
  Space_eq_fn : PySem.W.isFn K (.ref f_Space_eq) = true
  Space_k_class : PySem.W.findIn K (.ref C_Space) "__class__" = some (some (.builtin "object.__class__"))
  Space_k_get : PySem.W.specialIn K (.builtin "object.__class__") "__get__" = some (some (.builtin "getset_descriptor.__get__"))
  Space_k_takes : PySem.W.takesIn K (.builtin "object.__class__") = some true
  Space_k_mro : PySem.W.mroIn K C_Space (.type "object") = some true
  Space_k_isp : PySem.W.kitOne K (.ref C_Space) (.ref C_Space) = some true
  C_Meet : Addr
  g_Meet : mg "Meet" = some (.ref C_Meet)
  cl_Meet : Cls K C_Meet
  M_Meet : Mk K C_Meet f_Meet_init
  na_Meet_first : NoAttr K C_Meet "first"
  na_Meet_second : NoAttr K C_Meet "second"
  na_Meet_row : NoAttr K C_Meet "row"
  Meet_eq_at : PySem.W.findIn K (.ref C_Meet) "__eq__" = some (some (.ref f_Meet_eq))
  Meet_eq_fn : PySem.W.isFn K (.ref f_Meet_eq) = true
  Meet_k_class : PySem.W.findIn K (.ref C_Meet) "__class__" = some (some (.builtin "object.__class__"))
  Meet_k_get : PySem.W.specialIn K (.builtin "object.__class__") "__get__" = some (some (.builtin "getset_descriptor.__get__"))
  Meet_k_takes : PySem.W.takesIn K (.builtin "object.__class__") = some true
  Meet_k_mro : PySem.W.mroIn K C_Meet (.type "object") = some true
  Meet_k_isp : PySem.W.kitOne K (.ref C_Meet) (.ref C_Meet) = some true
  kit_RestField_FractionField : PySem.W.kitOne K (.ref C_RestField) (.ref C_FractionField) = some false
  kit_RestField_Space : PySem.W.kitOne K (.ref C_RestField) (.ref C_Space) = some false
  kit_RestField_Meet : PySem.W.kitOne K (.ref C_RestField) (.ref C_Meet) = some false
  kit_FractionField_RestField : PySem.W.kitOne K (.ref C_FractionField) (.ref C_RestField) = some false
  kit_FractionField_Space : PySem.W.kitOne K (.ref C_FractionField) (.ref C_Space) = some false
  kit_FractionField_Meet : PySem.W.kitOne K (.ref C_FractionField) (.ref C_Meet) = some false
  kit_Space_RestField : PySem.W.kitOne K (.ref C_Space) (.ref C_RestField) = some false
  kit_Space_FractionField : PySem.W.kitOne K (.ref C_Space) (.ref C_FractionField) = some false
  kit_Space_Meet : PySem.W.kitOne K (.ref C_Space) (.ref C_Meet) = some false
  kit_Meet_RestField : PySem.W.kitOne K (.ref C_Meet) (.ref C_RestField) = some false
  kit_Meet_FractionField : PySem.W.kitOne K (.ref C_Meet) (.ref C_FractionField) = some false
  kit_Meet_Space : PySem.W.kitOne K (.ref C_Meet) (.ref C_Space) = some false
def Raised (C : Addr) (f : Str) (v : V) (H : Hp) (E : XK) : Prop := ∀ d H', Same H H' → H d = none → H' d = some (.xd [(f, v)]) → E (.ref C) (some d) H'
/-- the promise of an error's __init__ that stores its one argument -/
def sp_exc (C : Addr) (f : Str) : Sp := fun vs H Q _ => ∃ (a : Addr) (v : V), vs = [.ref a, v] ∧ H a = some (exo a C none) ∧ ∀ dx, H dx = none → dx ≠ a → Q .non (upd (upd H dx (exd dx [(f, v)])) a (exo a C (some dx)))
theorem mk_exc {C : Addr} {f : Str} {w : V} {H : Hp} {Q : XK} (h : ∀ d H', Same H H' → H d = none → H' d = some (.xd [(f, w)]) → Q (.ref C) (some d) H') :
    [w].length ≤ 1000 ∧ ∀ a, H a = none → sp_exc C f (.ref a :: ([w] ++ [])) (upd H a (exo a C none))
      (fun v H2 => v = .non ∧ ∃ (d : Addr) (fs : List (Str × V)), H2 a = some (exo a C (some d)) ∧ H2 d = some (exd d fs) ∧ H d = none ∧ Q (.ref C) (some d) (upd (del H2 a) d (.xd fs))) (fun _ _ _ => False) := by
  refine ⟨by simp, fun a na => ⟨a, w, rfl, upd_same, fun dx nd ne => ⟨rfl, dx, _, upd_same, by rw [upd_ne ne, upd_same], ?_, ?_⟩⟩⟩
  · rw [upd_ne ne] at nd
    exact nd
  · rw [upd_ne ne] at nd
    refine h dx _ (fun b o e => ?_) nd upd_same
    have hb : b ≠ dx := ne_of_none e nd
    have hb2 : b ≠ a := ne_of_none e na
    rw [upd_ne hb, del_ne hb2, upd_ne hb2, upd_ne hb, upd_ne hb2]
    exact e
def sp_exc2 (C : Addr) (f g : Str) : Sp := fun vs H Q _ => ∃ (a : Addr) (v u : V), vs = [.ref a, v, u] ∧ H a = some (exo a C none) ∧ ∀ dx, H dx = none → dx ≠ a → Q .non (upd (upd H dx (exd dx [(g, u), (f, v)])) a (exo a C (some dx)))
/-- an error with its two attributes -/
def Raised2 (C : Addr) (f : Str) (v : V) (g : Str) (u : V) (H : Hp) (E : XK) : Prop := ∀ d H', Same H H' → H d = none → H' d = some (.xd [(g, u), (f, v)]) → E (.ref C) (some d) H'
theorem mk_exc2 {C : Addr} {f g : Str} {w u : V} {H : Hp} {Q : XK} (h : ∀ d H', Same H H' → H d = none → H' d = some (.xd [(g, u), (f, w)]) → Q (.ref C) (some d) H') :
    [w, u].length ≤ 1000 ∧ ∀ a, H a = none → sp_exc2 C f g (.ref a :: ([w, u] ++ [])) (upd H a (exo a C none))
      (fun v H2 => v = .non ∧ ∃ (d : Addr) (fs : List (Str × V)), H2 a = some (exo a C (some d)) ∧ H2 d = some (exd d fs) ∧ H d = none ∧ Q (.ref C) (some d) (upd (del H2 a) d (.xd fs))) (fun _ _ _ => False) := by
  refine ⟨by simp, fun a na => ⟨a, w, u, rfl, upd_same, fun dx nd ne => ⟨rfl, dx, _, upd_same, by rw [upd_ne ne, upd_same], ?_, ?_⟩⟩⟩
  · rw [upd_ne ne] at nd
    exact nd
  · rw [upd_ne ne] at nd
    refine h dx _ (fun b o e => ?_) nd upd_same
    have hb : b ≠ dx := ne_of_none e nd
    have hb2 : b ≠ a := ne_of_none e na
    rw [upd_ne hb, del_ne hb2, upd_ne hb2, upd_ne hb, upd_ne hb2]
    exact e
section
variable {P : Program} {w : World} {K : PySem.W.Frag} {mg : Str → Option Value} {base : Heap}
theorem ok_BadSpace_init (T : Txt K mg) : FnOk P w K mg base CX0 1 T.f_BadSpace_init T.d_BadSpace_init ["self", "what", "index"] (sp_exc2 T.C_BadSpace "what" "index") := by
  refine T.F_BadSpace_init.ok sc_BadSpace_init (fun vs H Q E h => ?_) (fun cdv A outer s H vs Q E hr h => ?_)
  · obtain ⟨a, v, u, rfl, _⟩ := h
    rfl
  · obtain ⟨a, v, u, rfl, ha, q⟩ := h
    refine ⟨_, pss_cons (ps_ost (pv 0) (pv 1)) (pss_one (ps_ost (pv 0) (pv 2))), ?_⟩
    refine ⟨v, rfl, _, rfl, a, T.C_BadSpace, rfl, T.o_BadSpace, T.n_BadSpace, .inl ⟨ha, fun dx n ne => ?_⟩⟩
    refine ⟨u, rfl, _, rfl, a, T.C_BadSpace, rfl, T.o_BadSpace, T.n1_BadSpace, .inr ⟨dx, _, upd_same, by rw [upd_ne ne, upd_same], (by show 1 ≤ 900; decide), ?_⟩⟩
    have e : upd (upd (upd H dx (exd dx [("what", v)])) a (exo a T.C_BadSpace (some dx))) dx (exd dx [("index", u), ("what", v)]) = upd (upd H dx (exd dx [("index", u), ("what", v)])) a (exo a T.C_BadSpace (some dx)) := by
      funext b
      by_cases h1 : b = dx
      · subst h1
        rw [upd_same, upd_ne ne, upd_same]
      · by_cases h2 : b = a
        · subst h2
          rw [upd_ne h1, upd_same, upd_same]
        · rw [upd_ne h1, upd_ne h2, upd_ne h1, upd_ne h2, upd_ne h1]
    rw [e]
    exact q dx n ne
end
end K25
set_option Elab.async false
set_option linter.all false
set_option maxRecDepth 100000
set_option maxHeartbeats 4000000
set_option exponentiation.threshold 5000
namespace K25
open PySem PySem.Spec PyProof.Rows L2 TkS
/-! bounds, sequences -/
def Lim (v : V) : Prop := v = .non ∨ ∃ l : Int, v = .int l
def wholeIn : V → V → V → Bool
  | .int i, lo, hi => (match lo with | .int l => decide (l ≤ i) | _ => true) && (match hi with | .int h => decide (i ≤ h) | _ => true)
  | _, _, _ => false
theorem wi_low {i l : Int} {hi : V} : wholeIn (.int i) (.int l) hi = (decide (l ≤ i) && wholeIn (.int i) .non hi) := by
  simp [wholeIn]
theorem wi_high {i m : Int} : wholeIn (.int i) .non (.int m) = decide (i ≤ m) := by
  simp [wholeIn]
def seqIs (d : PyData) (n : V) : Bool := match itemsD d with
  | none => false
  | some ds => match n with
    | .int k => decide ((ds.length : Int) = k)
    | _ => true
theorem int_dec {a b : Int} : decide (V.int a = V.int b) = decide (a = b) := by
  by_cases h : a = b
  · subst h
    simp
  · rw [decide_eq_false h, decide_eq_false fun z => h (V.int.inj z)]
def sp_is_whole : Sp := fun vs H Q _ => ∃ x lo hi d, vs = [x, lo, hi] ∧ Dq H x d ∧ Lim lo ∧ Lim hi ∧ Q (.bl (wholeIn x lo hi)) H
def sp_is_sequence : Sp := fun vs H Q _ => ∃ x n d, vs = [x, n] ∧ Dq H x d ∧ (n = .non ∨ ∃ k : Int, n = .int k) ∧ ∀ H', Same H H' → Q (.bl (seqIs d n)) H'
section
variable {P : Program} {w : World} {K : PySem.W.Frag} {mg : Str → Option Value} {base : Heap}
theorem ok_is_whole (T : Txt K mg) : FnOk P w K mg base CX0 1 T.f_is_whole T.d_is_whole ["thing", "low", "high"] sp_is_whole := by
  refine T.F_is_whole.ok sc_is_whole (fun vs H Q E h => ?_) (fun cdv A outer s H vs Q E hr h => ?_)
  · obtain ⟨x, lo, hi, d, rfl, _⟩ := h
    rfl
  · obtain ⟨x, lo, hi, d, rfl, hk, hl, hh, q⟩ := h
    obtain ⟨t, ty, k1, k2, _⟩ := dq_ty (K := K) hk
    refine ⟨_, (pss_cons (ps_if (PW.pt (pw_or (pt_val (pe_callB call_isi (by rfl) T.m_isinstance (by decide +kernel) (pa_cons (pv 0) (pa_cons (pe_bltn (v := .ty "bool") (u := .type "bool") (by rfl) T.m_bool (by decide +kernel) rfl) pa_nil)))) (pw_or1 (pt_not (pt_val (pe_callB call_isi (by rfl) T.m_isinstance (by decide +kernel) (pa_cons (pv 0) (pa_cons (pe_bltn (v := .ty "int") (u := .type "int") (by rfl) T.m_int (by decide +kernel) rfl) pa_nil))))))))
        (pss_one (ps_ret pe_bl))
        pss_nil)
      (pss_cons (ps_if (PW.pt (pw_and (pt_cmpR op_notN (pv 1) pe_non (nomark _)) (pw_and1 (pt_cmpR op_lt (pv 0) (pv 1) (nomark _)))))
        (pss_one (ps_ret pe_bl))
        pss_nil)
      (pss_one (ps_ret (pe_or (pe_cmpR op_isN (pv 2) pe_non (nomark _)) (pe_one (pe_cmpR op_le (pv 0) (pv 2) (nomark _)))))))), ?_⟩
    refine ⟨x, rfl, x, .ty "bool", t, _, isBlV x, rfl, .ty _, ty, k1, isBlV x, rfl, ?_⟩
    have tail : ∀ i : Int, Q (.bl (wholeIn (.int i) .non hi)) H → tRet (tOrV (tOp (fun x y H Q => y = V.non ∧ Q (V.bl (decide (x = V.non))) H) (tVar 2) (tC V.non)) (tOp (rI0 fun i j => V.bl (decide (i ≤ j))) (tVar 0) (tVar 2))) { nx := fun x H' => Q V.non H', rt := Q } (L2.start ["thing", "low", "high"] [V.int i, lo, hi]) H := by
      intro i q
      rcases hh with rfl | ⟨m, rfl⟩
      · exact ⟨.non, rfl, rfl, _, rfl, iteT q⟩
      · refine ⟨.int m, rfl, rfl, _, rfl, iteF ?_⟩
        rw [wi_high] at q
        exact ⟨_, rfl, _, rfl, i, m, rfl, rfl, q⟩
    cases hk with
    | bl b => exact iteT (iteT q)
    | int i =>
      refine iteF ⟨_, rfl, _, .ty "int", t, _, true, rfl, .ty _, ty, k2, true, rfl, iteF ?_⟩
      rcases hl with rfl | ⟨l, rfl⟩
      · exact ⟨.non, rfl, rfl, _, rfl, iteF (iteF (tail i q))⟩
      · rw [wi_low] at q
        refine ⟨.int l, rfl, rfl, _, rfl, iteT ⟨.int i, rfl, .int l, rfl, i, l, rfl, rfl, _, rfl, ite2 (fun e => ?_) (fun e => ?_)⟩⟩
        · have e2 := of_decide_eq_true e
          rw [decide_eq_false (by omega : ¬ l ≤ i)] at q
          exact q
        · have e2 : l ≤ i := Int.not_lt.mp fun z => e (decide_eq_true z)
          rw [decide_eq_true e2] at q
          exact tail i q
    | non => exact iteF ⟨_, rfl, _, .ty "int", t, _, false, rfl, .ty _, ty, k2, false, rfl, iteT q⟩
    | str z => exact iteF ⟨_, rfl, _, .ty "int", t, _, false, rfl, .ty _, ty, k2, false, rfl, iteT q⟩
    | lst z y => exact iteF ⟨_, rfl, _, .ty "int", t, _, false, rfl, .ty _, ty, k2, false, rfl, iteT q⟩
    | tup z y => exact iteF ⟨_, rfl, _, .ty "int", t, _, false, rfl, .ty _, ty, k2, false, rfl, iteT q⟩
theorem ok_is_sequence (T : Txt K mg) : FnOk P w K mg base CX0 1 T.f_is_sequence T.d_is_sequence ["thing", "length"] sp_is_sequence := by
  refine T.F_is_sequence.ok sc_is_sequence (fun vs H Q E h => ?_) (fun cdv A outer s H vs Q E hr h => ?_)
  · obtain ⟨x, n, d, rfl, _⟩ := h
    rfl
  · obtain ⟨x, n, d, rfl, hk, hn, q⟩ := h
    refine ⟨_, (pss_cons (ps_if (pt_not (pt_val (pe_callB call_isiT (by rfl) T.m_isinstance (by decide +kernel) (pa_cons (pv 0) (pa_cons (pe_tup (pa_cons (pe_bltn (v := .ty "list") (u := .type "list") (by rfl) T.m_list (by decide +kernel) rfl) (pa_cons (pe_bltn (v := .ty "tuple") (u := .type "tuple") (by rfl) T.m_tuple (by decide +kernel) rfl) pa_nil))) pa_nil)))))
        (pss_one (ps_ret pe_bl))
        pss_nil)
      (pss_one (ps_ret (pe_or (pe_cmpR op_isN (pv 1) pe_non (nomark _)) (pe_one (pe_cmpR op_eq (pe_callB call_len_seq (by rfl) T.m_len (by decide +kernel) (pa_cons (pv 0) pa_nil)) (pv 1) (nomark _))))))), ?_⟩
    refine ⟨x, rfl, (by show 2 ≤ sizeLine; decide), fun u nu => ?_⟩
    have sm : Same H (upd H u (.tup [.ty "list", .ty "tuple"])) := same_new nu
    obtain ⟨t, ty, _, _, k3, _⟩ := dq_ty (K := K) (Dq.same sm d hk)
    have q' := q _ sm
    refine ⟨x, u, _, t, _, (itemsD d).isSome, rfl, upd_same, .cons (.ty _) (.cons (.ty _) .nil), ty, k3, _, rfl, ?_⟩
    have no : itemsD d = none → (if (!(itemsD d).isSome) = true then tRet (tC (V.bl false)) { nx := tRet (tOrV (tOp (fun x y H Q => y = V.non ∧ Q (V.bl (decide (x = V.non))) H) (tVar 1) (tC V.non)) (tOp rEq (tCB (fun xs H Q => ∃ p ys, xs = [V.ref p] ∧ (SqL K H p ys ∨ SqT K H p ys) ∧ Q (V.int ↑ys.length) H) (tCons (tVar 0) tNil)) (tVar 1))) { nx := fun x H' => Q V.non H', rt := Q }, rt := Q } (L2.start ["thing", "length"] [x, n]) (upd H u (.tup [.ty "list", .ty "tuple"]))
        else tNext { nx := tRet (tOrV (tOp (fun x y H Q => y = V.non ∧ Q (V.bl (decide (x = V.non))) H) (tVar 1) (tC V.non)) (tOp rEq (tCB (fun xs H Q => ∃ p ys, xs = [V.ref p] ∧ (SqL K H p ys ∨ SqT K H p ys) ∧ Q (V.int ↑ys.length) H) (tCons (tVar 0) tNil)) (tVar 1))) { nx := fun x H' => Q V.non H', rt := Q }, rt := Q } (L2.start ["thing", "length"] [x, n]) (upd H u (.tup [.ty "list", .ty "tuple"]))) := fun e => by
      unfold seqIs at q'
      rw [e] at q' ⊢
      exact iteT q'
    have yes : ∀ (a : Addr) (xs : List V) (ds : List PyData), x = .ref a → itemsD d = some ds → xs.length = ds.length → (SqL K (upd H u (.tup [.ty "list", .ty "tuple"])) a xs ∨ SqT K (upd H u (.tup [.ty "list", .ty "tuple"])) a xs) →
        tRet (tOrV (tOp (fun x y H Q => y = V.non ∧ Q (V.bl (decide (x = V.non))) H) (tVar 1) (tC V.non)) (tOp rEq (tCB (fun xs H Q => ∃ p ys, xs = [V.ref p] ∧ (SqL K H p ys ∨ SqT K H p ys) ∧ Q (V.int ↑ys.length) H) (tCons (tVar 0) tNil)) (tVar 1))) { nx := fun x H' => Q V.non H', rt := Q } (L2.start ["thing", "length"] [x, n]) (upd H u (.tup [.ty "list", .ty "tuple"])) := fun a xs ds ex ed el hs => by
      unfold seqIs at q'
      rw [ed] at q'
      rcases hn with rfl | ⟨k, rfl⟩
      · exact ⟨.non, rfl, rfl, _, rfl, iteT q'⟩
      · refine ⟨.int k, rfl, rfl, _, rfl, iteF ⟨_, rfl, a, xs, by rw [ex], hs, _, rfl, rfl, ?_⟩⟩
        rw [el, int_dec]
        exact q'
    cases hk with
    | lst h1 h2 => exact iteF (yes _ _ _ rfl rfl h2.len (.inl (SqL.of (sm _ _ h1))))
    | tup h1 h2 => exact iteF (yes _ _ _ rfl rfl h2.len (.inr (SqT.of (sm _ _ h1))))
    | non => exact no rfl
    | bl b => exact no rfl
    | int b => exact no rfl
    | str b => exact no rfl
end
/-! labels -/
def mrg (ls : List Int) (a b : Int) : List Int := ls.map fun l => if l = a ∨ l = b then (if b < a then b else a) else l
theorem mrg_len (ls : List Int) (a b : Int) : (mrg ls a b).length = ls.length := by
  unfold mrg
  rw [List.length_map]
def row0 (n : Nat) : List Int := (List.range n).map fun (i : Nat) => (i : Int)
theorem row0_len (n : Nat) : (row0 n).length = n := by
  unfold row0
  rw [List.length_map, List.length_range]
def stepM (P : Int) (ls : List Int) (p : Int × Int) : List Int := mrg ls (ls.getD p.1.toNat 0) (ls.getD (P + p.2).toNat 0)
def marks (P W : Int) (ps : List (Int × Int)) : List Int := ps.foldl (stepM P) (row0 (P + W).toNat)
theorem fold_len (P : Int) : ∀ (ps : List (Int × Int)) (ls : List Int), (ps.foldl (stepM P) ls).length = ls.length
  | [], _ => rfl
  | p :: ps, ls => by
    show (ps.foldl (stepM P) (stepM P ls p)).length = _
    rw [fold_len P ps]
    exact mrg_len _ _ _
theorem marks_len (P W : Int) (ps : List (Int × Int)) : (marks P W ps).length = (P + W).toNat := by
  unfold marks
  rw [fold_len, row0_len]
/-- the pairs lie in the picture -/
def Ins (P W : Int) (ps : List (Int × Int)) : Prop := ∀ p ∈ ps, 0 ≤ p.1 ∧ p.1 < P ∧ 0 ≤ p.2 ∧ p.2 < W
def prD (p : Int × Int) : PyData := .tuple [.int p.1, .int p.2]
theorem pr_items {H : Hp} {xs : List V} {ps : List (Int × Int)} {i : Nat} {x : V} (h : DqAll H xs (ps.map prD)) (hx : xs[i]? = some x) : ∃ (t : Addr) (p : Int × Int), x = .ref t ∧ ps[i]? = some p ∧ H t = some (.tup [.int p.1, .int p.2]) := by
  obtain ⟨d, h1, h2⟩ := h.get hx
  rw [List.getElem?_map] at h1
  obtain ⟨p, hp, rfl⟩ := Option.map_eq_some_iff.mp h1
  cases h2 with
  | tup ht ha =>
    cases ha with
    | cons u v =>
      cases v with
      | cons u' v' =>
        cases v'
        cases u
        cases u'
        exact ⟨_, p, rfl, hp, ht⟩
def sp_merged_labels (K : PySem.W.Frag) : Sp := fun vs H Q _ => ∃ (l : Addr) (ls : List Int) (a b : Int), vs = [.ref l, .int a, .int b] ∧ SqL K H l (ls.map V.int) ∧ ls.length ≤ 100 ∧ ∀ H' p, Same H H' → H p = none → H' p = some (.lst ((mrg ls a b).map V.int)) → Q (.ref p) H'
def sp_piece_labels (K : PySem.W.Frag) : Sp := fun vs H Q _ => ∃ (P W : Int) (l : Addr) (xs : List V) (ps : List (Int × Int)), vs = [.int P, .int W, .ref l] ∧ 0 ≤ P ∧ 0 ≤ W ∧ P + W ≤ 100 ∧ SqL K H l xs ∧ DqAll H xs (ps.map prD) ∧ Ins P W ps ∧
  ∀ H' p, Same H H' → H' p = some (.lst ((marks P W ps).map V.int)) → Q (.ref p) H'
theorem in2 {l a b : Int} : inV (.int l) [.int a, .int b] = decide (l = a ∨ l = b) := by
  have e : inV (.int l) [.int a, .int b] = ((a == l) || ((b == l) || false)) := rfl
  rw [e]
  by_cases h1 : l = a
  · subst h1
    simp
  · by_cases h2 : l = b
    · subst h2
      simp
    · have n1 : (a == l) = false := beq_eq_false_iff_ne.mpr fun z => h1 z.symm
      have n2 : (b == l) = false := beq_eq_false_iff_ne.mpr fun z => h2 z.symm
      rw [n1, n2, decide_eq_false (by intro z; rcases z with z | z <;> contradiction)]
      rfl
theorem map_at {ls : List Int} {i : Nat} {x : V} (h : (ls.map V.int)[i]? = some x) : ∃ n, ls[i]? = some n ∧ x = .int n := by
  rw [List.getElem?_map] at h
  obtain ⟨n, hn, e⟩ := Option.map_eq_some_iff.mp h
  exact ⟨n, hn, e.symm⟩
theorem take_snoc {α β : Type} (f : α → β) {l : List α} {i : Nat} {x : α} (h : l[i]? = some x) : (l.take (i + 1)).map f = (l.take i).map f ++ [f x] := by
  rw [List.take_add_one, h, List.map_append]
  rfl
section
variable {P : Program} {w : World} {K : PySem.W.Frag} {mg : Str → Option Value} {base : Heap}
end
end K25
set_option Elab.async false
set_option linter.all false
set_option maxRecDepth 100000
set_option maxHeartbeats 4000000
set_option exponentiation.threshold 5000
namespace K25
open PySem PySem.Spec PyProof.Rows L2 TkS
/-! comprehensions of ints -/
theorem filter_snoc {α β : Type} (p : α → Bool) (f : α → β) {l : List α} {i : Nat} {x : α} (h : l[i]? = some x) :
    ((l.take (i + 1)).filter p).map f = if p x = true then ((l.take i).filter p).map f ++ [f x] else ((l.take i).filter p).map f := by
  rw [List.take_add_one, h]
  show ((l.take i ++ [x]).filter p).map f = _
  rw [List.filter_append, List.map_append, List.filter_cons]
  by_cases c : p x = true
  · rw [if_pos c, if_pos c]
    rfl
  · rw [if_neg c, if_neg c]
    show ((l.take i).filter p).map f ++ [] = _
    rw [List.append_nil]
theorem filter_range {β : Type} (p : Nat → Bool) (f : Nat → β) (i : Nat) :
    ((List.range (i + 1)).filter p).map f = if p i = true then ((List.range i).filter p).map f ++ [f i] else ((List.range i).filter p).map f := by
  rw [List.range_succ, List.filter_append, List.map_append, List.filter_cons]
  by_cases c : p i = true
  · rw [if_pos c, if_pos c]
    rfl
  · rw [if_neg c, if_neg c]
    show ((List.range i).filter p).map f ++ [] = _
    rw [List.append_nil]
theorem len_filter_take {α β : Type} (p : α → Bool) (f : α → β) (l : List α) (i : Nat) : (((l.take i).filter p).map f).length ≤ l.length := by
  rw [List.length_map]
  exact Nat.le_trans (List.length_filter_le _ _) (by rw [List.length_take]; omega)
theorem len_filter_range {β : Type} (p : Nat → Bool) (f : Nat → β) (i : Nat) : (((List.range i).filter p).map f).length ≤ i := by
  rw [List.length_map]
  exact Nat.le_trans (List.length_filter_le _ _) (by rw [List.length_range]; exact Nat.le_refl _)
/-- a comprehension over any items, each turn told by f (kept) and e (the new item), which leave the heap -/
theorem lc_vals {α : Type} {K : PySem.W.Frag} {a : Addr} {ns : List α} {h : α → V} {tt : TT} {te : TE} {vs : List Nat} {σ : L2.St} {H0 H1 : Hp} {D : Addr} {Qd : Hp → Prop} {j : Nat} (f : α → Bool) (e : α → V)
    (sm : Same H0 H1) (nD : H1 D = none) (hl : ns.length ≤ 1000) (hS : ∀ H', Same H0 H' → SqL K H' a (ns.map h)) (hw : ∀ x : V, wipe ((wipe σ vs).set j (some x)) vs = wipe σ vs)
    (ht : ∀ (i : Nat) (n : α) (H' : Hp) (Q : Bool → Hp → Prop), ns[i]? = some n → Same H0 H' → (∀ H'', Same H' H'' → Q (f n) H'') → tt ((wipe σ vs).set j (some (h n))) H' Q)
    (he : ∀ (i : Nat) (n : α) (H' : Hp) (Q : VK), ns[i]? = some n → f n = true → Same H0 H' → (∀ H'', Same H' H'' → Q (e n) H'') → te ((wipe σ vs).set j (some (h n))) H' Q)
    (hd : ∀ H', Same H0 H' → H' D = some (.lst ((ns.filter f).map e)) → Qd H') :
    ∃ W : Nat → Nat → Hp → Prop, (∃ m, W 0 m (upd H1 D (.lst []))) ∧ ∀ i m H, W i m H →
      ((Itl K a).stop i H ∧ Qd H) ∨ ((Itl K a).go i H ∧ ∃ Nx : Hp → Prop, (∀ H', Nx H' → ∃ m', m' < m ∧ W (i + 1) m' H') ∧ ∀ x H', (Itl K a).yld i H x H' → gName j x (wipe σ vs) H' fun σ2 H2 => wipe σ2 vs = wipe σ vs ∧ tt σ2 H2 fun b H3 =>
        if b = true then te σ2 H3 fun y H4 => ∃ acc, H4 D = some (.lst acc) ∧ acc.length < sizeLine ∧ Nx (upd H4 D (.lst (acc ++ [y]))) else Nx H3) := by
  refine lc_list (xs := ns.map h) (fun i H' => Same H0 H' ∧ H' D = some (.lst (((ns.take i).filter f).map e)) ∧ ∀ b o, H0 b = some o → b ≠ D) ⟨sm.trans (same_new nD), upd_same, fun b o z => ne_of_none (sm _ _ z) nD⟩ (fun i H' _ hP => hS _ hP.1) (fun i x H' hx hP => ?_) (fun H' hP => ?_)
  · obtain ⟨s, hD, ap⟩ := hP
    rw [List.getElem?_map] at hx
    obtain ⟨n, hn, rfl⟩ := Option.map_eq_some_iff.mp hx
    refine ⟨hw _, ht i n H' _ hn s fun H2 s2 => ?_⟩
    have hD2 := s2 _ _ hD
    cases c : f n with
    | true =>
      refine he i n H2 _ hn c (s.trans s2) fun H3 s3 => ⟨_, s3 _ _ hD2, ?_, fun b o z => ?_, ?_, ap⟩
      · exact small1000 (Nat.le_trans (len_filter_take _ _ _ _) hl)
      · rw [upd_ne (ap b o z)]
        exact s3 _ _ (s2 _ _ (s _ _ z))
      · rw [upd_same, filter_snoc _ _ hn, if_pos c]
    | false =>
      refine ⟨s.trans s2, ?_, ap⟩
      rw [filter_snoc _ _ hn, c, if_neg Bool.false_ne_true]
      exact hD2
  · obtain ⟨s, hD, _⟩ := hP
    rw [List.length_map, List.take_length] at hD
    exact hd H' s hD
/-- the same over a range -/
theorem lc_rng {tt : TT} {te : TE} {vs : List Nat} {σ : L2.St} {H0 H1 : Hp} {D : Addr} {Qd : Hp → Prop} {j n : Nat} (f : Nat → Bool) (e : Nat → V)
    (sm : Same H0 H1) (nD : H1 D = none) (hl : n ≤ 1000) (hw : ∀ x : V, wipe ((wipe σ vs).set j (some x)) vs = wipe σ vs)
    (ht : ∀ (i : Nat) (H' : Hp) (Q : Bool → Hp → Prop), i < n → Same H0 H' → (∀ H'', Same H' H'' → Q (f i) H'') → tt ((wipe σ vs).set j (some (.int (0 + (i : Int))))) H' Q)
    (he : ∀ (i : Nat) (H' : Hp) (Q : VK), i < n → f i = true → Same H0 H' → (∀ H'', Same H' H'' → Q (e i) H'') → te ((wipe σ vs).set j (some (.int (0 + (i : Int))))) H' Q)
    (hd : ∀ H', Same H0 H' → H' D = some (.lst (((List.range n).filter f).map e)) → Qd H') :
    ∃ W : Nat → Nat → Hp → Prop, (∃ m, W 0 m (upd H1 D (.lst []))) ∧ ∀ i m H, W i m H →
      ((Itr 0 n).stop i H ∧ Qd H) ∨ ((Itr 0 n).go i H ∧ ∃ Nx : Hp → Prop, (∀ H', Nx H' → ∃ m', m' < m ∧ W (i + 1) m' H') ∧ ∀ x H', (Itr 0 n).yld i H x H' → gName j x (wipe σ vs) H' fun σ2 H2 => wipe σ2 vs = wipe σ vs ∧ tt σ2 H2 fun b H3 =>
        if b = true then te σ2 H3 fun y H4 => ∃ acc, H4 D = some (.lst acc) ∧ acc.length < sizeLine ∧ Nx (upd H4 D (.lst (acc ++ [y]))) else Nx H3) := by
  refine lc_range (lo := 0) (n := n) (fun i H' => Same H0 H' ∧ H' D = some (.lst (((List.range i).filter f).map e)) ∧ ∀ b o, H0 b = some o → b ≠ D) ⟨sm.trans (same_new nD), upd_same, fun b o z => ne_of_none (sm _ _ z) nD⟩ (fun i H' hi hP => ?_) (fun H' hP => ?_)
  · obtain ⟨s, hD, ap⟩ := hP
    refine ⟨hw _, ht i H' _ hi s fun H2 s2 => ?_⟩
    have hD2 := s2 _ _ hD
    cases c : f i with
    | true =>
      refine he i H2 _ hi c (s.trans s2) fun H3 s3 => ⟨_, s3 _ _ hD2, ?_, fun b o z => ?_, ?_, ap⟩
      · exact small1000 (Nat.le_trans (len_filter_range _ _ _) (by omega))
      · rw [upd_ne (ap b o z)]
        exact s3 _ _ (s2 _ _ (s _ _ z))
      · rw [upd_same, filter_range, if_pos c]
    | false =>
      refine ⟨s.trans s2, ?_, ap⟩
      rw [filter_range, c, if_neg Bool.false_ne_true]
      exact hD2
  · exact hd H' hP.1 hP.2.1
/-! pieces -/
def cs (ls : List Int) (label : Nat) : List Nat := (List.range ls.length).filter fun c => decide (ls.getD c 0 = (label : Int))
def pieceD (P : Int) (c : List Nat) : PyData := .tuple [.tuple ((c.filter fun (k : Nat) => decide ((k : Int) < P)).map fun (k : Nat) => .int (k : Int)), .tuple ((c.filter fun (k : Nat) => decide (P ≤ (k : Int))).map fun (k : Nat) => .int ((k : Int) - P))]
def piecesD (P : Int) (ls : List Int) : List PyData := ((List.range ls.length).filter fun l => !(cs ls l).isEmpty).map fun l => pieceD P (cs ls l)
theorem dq_ints {H : Hp} {α : Type} (f : α → Int) : ∀ l : List α, DqAll H (l.map fun x => .int (f x)) (l.map fun x => .int (f x))
  | [] => .nil
  | _ :: l => .cons (.int _) (dq_ints f l)
theorem off_upd {h : Addr} {H : Hp} {o : HO} : TkS.Off h (upd H h o) = TkS.Off h H := by
  funext b
  unfold TkS.Off
  by_cases z : b = h
  · rw [if_pos z, if_pos z]
  · rw [if_neg z, if_neg z, upd_ne z]
theorem ix_at {ls : List Int} {z : Int} (h0 : 0 ≤ z) (h1 : z < ls.length) : atI (ls.map V.int) z = some (.int (ls.getD z.toNat 0)) := by
  have hp : z.toNat < ls.length := by omega
  refine at_of (j := z.toNat) (by omega) ?_
  rw [List.getElem?_map, List.getElem?_eq_getElem hp]
  show some (V.int ls[z.toNat]) = _
  rw [List.getD_eq_getElem?_getD, List.getElem?_eq_getElem hp]
  rfl
def sp_pieces_by_labels (K : PySem.W.Frag) : Sp := fun vs H Q _ => ∃ (P : Int) (l : Addr) (ls : List Int), vs = [.int P, .ref l] ∧ SqL K H l (ls.map V.int) ∧ ls.length ≤ 100 ∧ ∀ H' v, Same H H' → Dq H' v (.tuple (piecesD P ls)) → Q v H'
section
variable {P : Program} {w : World} {K : PySem.W.Frag} {mg : Str → Option Value} {base : Heap}
theorem rg_row {a b : Int} (h : 0 ≤ b) : rgV 0 b = (row0 b.toNat).map V.int := by
  unfold rgV row0
  rw [List.map_map, Int.sub_zero]
  refine List.map_congr_left fun i _ => ?_
  show V.int (0 + (i : Int)) = V.int (i : Int)
  rw [Int.zero_add]
end
end K25
set_option Elab.async false
set_option linter.all false
set_option maxRecDepth 100000
set_option maxHeartbeats 4000000
/-! for and comprehensions over a list or a tuple -/
namespace TkS
open PySem PySem.Spec PyProof.Rows L2
def iSeq (K : PySem.W.Frag) (tl : TE) : TI := fun σ H R => iList K tl σ H R ∨ iTup K tl σ H R
theorem pi_seq {X : Cx} {tg l : Expr} {tl : TE} (hl : PE X l tl) : PI X tg l (iSeq X.K tl) :=
  ⟨fun pins s σ H R I h => h.elim (fun h => (pi_list hl).run pins s σ H R I h) (fun h => (pi_tup hl).run pins s σ H R I h)⟩
theorem seqT_same {K : PySem.W.Frag} {H H' : Hp} {a : Addr} {xs : List V} (s : Same H H') (h : SqT K H a xs) : SqT K H' a xs :=
  h.elim (fun h => .inl (h.elim (fun h => .inl (s _ _ h)) fun ⟨o, h⟩ => .inr ⟨o, s _ _ h⟩)) fun h => .inr h
def Sq (K : PySem.W.Frag) (H : Hp) (a : Addr) (xs : List V) : Prop := SqL K H a xs ∨ SqT K H a xs
theorem Sq.same {K : PySem.W.Frag} {H H' : Hp} {a : Addr} {xs : List V} (h : Sq K H a xs) (s : Same H H') : Sq K H' a xs :=
  h.elim (fun h => .inl (s.seq h)) (fun h => .inr (seqT_same s h))
theorem for_seq {K : PySem.W.Frag} {a : Addr} {xs : List V} {tl : TE} {g : TG} {tb : TS} {D : Ends} {σ : L2.St} {H : Hp} (Pv : Nat → L2.St → Hp → Prop) (ht : ∀ Q : VK, Q (.ref a) H → tl σ H Q) (hq : Sq K H a xs) (h0 : Pv 0 σ H)
    (hl : ∀ i σ H', i ≤ xs.length → Pv i σ H' → Same H H')
    (hs : ∀ i x σ H, xs[i]? = some x → Pv i σ H → g x σ H fun σ2 H2 => tb { D with nx := Pv (i + 1), ct := Pv (i + 1), bk := D.nx } σ2 H2) (hd : ∀ σ H, Pv xs.length σ H → D.nx σ H) :
    tFor (iSeq K tl) g tb D σ H :=
  hq.elim (fun h => .inl (ht _ ⟨a, rfl, ⟨xs, h⟩, for_list Pv h0 (fun i σ H' hi hP => (hl i σ H' hi hP).seq h) hs hd⟩))
    (fun h => .inr (ht _ ⟨a, rfl, ⟨xs, h⟩, for_tup Pv h0 (fun i σ H' hi hP => seqT_same (hl i σ H' hi hP) h) hs hd⟩))
theorem lc_seq {K : PySem.W.Frag} {a : Addr} {xs : List V} {tl : TE} {g : TG} {tt : TT} {te : TE} {vs : List Nat} {σ : L2.St} {H : Hp} {Q : VK} (Pv : Addr → Nat → Hp → Prop) (ht : ∀ Q : VK, Q (.ref a) H → tl σ H Q) (hq : Sq K H a xs)
    (h0 : ∀ D, H D = none → Pv D 0 (upd H D (.lst []))) (hl : ∀ D i H', H D = none → i ≤ xs.length → Pv D i H' → Same H H')
    (hs : ∀ D i x H', H D = none → xs[i]? = some x → Pv D i H' → g x (wipe σ vs) H' fun σ2 H2 => wipe σ2 vs = wipe σ vs ∧ tt σ2 H2 fun b H3 =>
      if b = true then te σ2 H3 fun y H4 => ∃ acc, H4 D = some (.lst acc) ∧ acc.length < sizeLine ∧ Pv D (i + 1) (upd H4 D (.lst (acc ++ [y]))) else Pv D (i + 1) H3) (hd : ∀ D H', H D = none → Pv D xs.length H' → Q (.ref D) H') :
    tLc (iSeq K tl) g tt te vs σ H Q :=
  hq.elim (fun h => .inl (ht _ ⟨a, rfl, ⟨xs, h⟩, fun D nD => lc_list (Pv D) (h0 D nD) (fun i H' hi hP => (hl D i H' nD hi hP).seq h) (fun i x H' => hs D i x H' nD) (fun H' => hd D H' nD)⟩))
    (fun h => .inr (ht _ ⟨a, rfl, ⟨xs, h⟩, fun D nD => lc_tup (Pv D) (h0 D nD) (fun i H' hi hP => seqT_same (hl D i H' nD hi hP) h) (fun i x H' => hs D i x H' nD) (fun H' => hd D H' nD)⟩))
/-- the items of a list or a tuple -/
theorem sq_of {K : PySem.W.Frag} {H : Hp} {x : V} {d : PyData} {ds : List PyData} (k : Dq H x d) (e : itemsD d = some ds) : ∃ (p : Addr) (xs : List V), x = .ref p ∧ DqAll H xs ds ∧ Sq K H p xs := by
  cases k with
  | lst h1 h2 =>
    cases e
    exact ⟨_, _, rfl, h2, .inl (SqL.of h1)⟩
  | tup h1 h2 =>
    cases e
    exact ⟨_, _, rfl, h2, .inr (SqT.of h1)⟩
  | _ => cases e
/-- tuple(x), x a list or a tuple of data -/
def rTupD : List V → Hp → VK → Prop := fun xs H Q => ∃ x d ds, xs = [x] ∧ Dq H x d ∧ itemsD d = some ds ∧ ∀ l H', Same H H' → Dq H' (.ref l) (.tuple ds) → Q (.ref l) H'
theorem call_tupD {X : Cx} : CallR X (.type "tuple") rTupD := by
  intro pins s σ H vs us Q I r h
  refine call_tuple_of pins s σ H vs us Q I r ?_
  obtain ⟨x, d, ds, rfl, k, e, q⟩ := h
  cases k with
  | lst h1 h2 =>
    cases e
    exact ⟨_, _, rfl, .inl ⟨SqL.of h1, fun l nl => q l _ (same_new nl) (.tup upd_same (DqAll.same (same_new nl) _ h2))⟩⟩
  | tup h1 h2 =>
    cases e
    exact ⟨_, _, rfl, .inr ⟨SqT.of h1, q _ _ (fun _ _ z => z) (.tup h1 h2)⟩⟩
  | _ => cases e
end TkS
set_option Elab.async false
set_option linter.all false
set_option maxRecDepth 100000
set_option maxHeartbeats 4000000
/-! sums and parts of tuples and lists of data -/
namespace TkS
open PySem PySem.Spec PyProof.Rows L2
theorem DqAll.take {H : Hp} : ∀ {xs : List V} {ds : List PyData}, DqAll H xs ds → ∀ n, DqAll H (xs.take n) (ds.take n)
  | _, _, _, 0 => .nil
  | _, _, .nil, _ + 1 => .nil
  | _, _, .cons h t, n + 1 => .cons h (t.take n)
theorem DqAll.drop {H : Hp} : ∀ {xs : List V} {ds : List PyData}, DqAll H xs ds → ∀ n, DqAll H (xs.drop n) (ds.drop n)
  | _, _, h, 0 => h
  | _, _, .nil, _ + 1 => .nil
  | _, _, .cons h t, n + 1 => t.drop n
theorem DqAll.of_get {H : Hp} : ∀ {xs : List V} {ds : List PyData}, xs.length = ds.length → (∀ (i : Nat) (x : V) (d : PyData), xs[i]? = some x → ds[i]? = some d → Dq H x d) → DqAll H xs ds
  | [], [], _, _ => .nil
  | x :: xs, d :: ds, e, h => .cons (h 0 x d rfl rfl) (DqAll.of_get (by simpa using e) fun i y f h1 h2 => h (i + 1) y f (by simpa using h1) (by simpa using h2))
theorem DqAll.rev {H : Hp} : ∀ {xs : List V} {ds : List PyData}, DqAll H xs ds → DqAll H xs.reverse ds.reverse
  | _, _, .nil => .nil
  | _, _, .cons h t => by
    rw [List.reverse_cons, List.reverse_cons]
    exact t.rev.snoc h
def cutD {α : Type} (xs : List α) (lo hi : Option Int) : List α := (xs.drop (HT.sIx xs.length 0 lo)).take (HT.sIx xs.length xs.length hi - HT.sIx xs.length 0 lo)
theorem cutD_lo {α : Type} (xs : List α) (n : Nat) : cutD xs (some (n : Int)) none = xs.drop n := by
  unfold cutD
  rw [HT.sIx_none, HT.sIx_nat]
  rcases Nat.le_total n xs.length with h | h
  · rw [Nat.min_eq_left h]
    exact List.take_of_length_le (by rw [List.length_drop]; omega)
  · rw [Nat.min_eq_right h, List.drop_of_length_le h, List.drop_of_length_le (Nat.le_refl _), List.take_nil]
theorem cutD_hi {α : Type} (xs : List α) (n : Nat) : cutD xs none (some (n : Int)) = xs.take n := by
  unfold cutD
  rw [HT.sIx_none, HT.sIx_nat]
  rcases Nat.le_total n xs.length with h | h
  · rw [Nat.min_eq_left h]
    rfl
  · rw [Nat.min_eq_right h, List.take_of_length_le h]
    exact List.take_of_length_le (by simp)
theorem DqAll.cut {H : Hp} {xs : List V} {ds : List PyData} (h : DqAll H xs ds) (lo hi : Option Int) : DqAll H (cutV xs lo hi) (cutD ds lo hi) := by
  unfold cutV cutD
  rw [h.len]
  exact (h.drop _).take _
theorem cutV_whole {α : Type} {xs : List α} {lo hi : Option Int} (h : HT.sIx xs.length 0 lo = 0 ∧ HT.sIx xs.length xs.length hi = xs.length) : cutD xs lo hi = xs := by
  unfold cutD
  rw [h.1, h.2]
  exact List.take_of_length_le (by simp)
def rCatD : R2 := fun x y H Q => ∃ ds es, Dq H x (.tuple ds) ∧ Dq H y (.tuple es) ∧ ds.length + es.length ≤ 1000 ∧ ∀ l H', Same H H' → Dq H' (.ref l) (.tuple (ds ++ es)) → Q (.ref l) H'
theorem thousand : 1000 ≤ sizeLine := by decide
theorem op_catD {X : Cx} : OpR X (binaryOp .Add) rCatD := by
  intro pins s σ H x y v u Q I rx ry h
  obtain ⟨ds, es, k1, k2, hl, q⟩ := h
  cases k1 with
  | tup h1 t1 =>
    cases k2 with
    | tup h2 t2 =>
      rename_i a xs b ys
      refine op_catA pins s σ H _ _ v u Q I rx ry ⟨a, b, xs, ys, rfl, rfl, SqT.of h1, SqT.of h2, ?_, fun e => ?_, fun _ e => ?_, fun _ _ p np => ?_⟩
      · rw [t1.len, t2.len]
        exact Nat.le_trans hl thousand
      · subst e
        cases t1
        exact q b H (fun _ _ z => z) (.tup h2 t2)
      · subst e
        cases t2
        exact q a H (fun _ _ z => z) (by rw [List.append_nil]; exact .tup h1 t1)
      · exact q p _ (same_new np) (.tup upd_same ((DqAll.same (same_new np) _ t1).append (DqAll.same (same_new np) _ t2)))
def rSlD : V → Option Int → Option Int → Hp → VK → Prop := fun x lo hi H Q => ∃ ds, Dq H x (.tuple ds) ∧ ∀ l H', Same H H' → Dq H' (.ref l) (.tuple (cutD ds lo hi)) → Q (.ref l) H'
theorem sl_tupD {X : Cx} : SlR X rSlD := by
  intro pins s σ H x v vl vu lo hi sl Q I rx hs pl pu h
  obtain ⟨ds, k, q⟩ := h
  cases k with
  | tup h1 t1 =>
    rename_i a xs
    refine sl_tupA pins s σ H _ v vl vu lo hi sl Q I rx hs pl pu ⟨a, xs, rfl, SqT.of h1, fun e => ?_, fun _ p np => ?_⟩
    · refine q a H (fun _ _ z => z) ?_
      rw [cutV_whole (by rw [← t1.len]; exact e)]
      exact .tup h1 t1
    · exact q p _ (same_new np) (.tup upd_same (DqAll.same (same_new np) _ (t1.cut lo hi)))
def rSlDL : V → Option Int → Option Int → Hp → VK → Prop := fun x lo hi H Q => ∃ ds, Dq H x (.list ds) ∧ ∀ l H', Same H H' → H l = none → Dq H' (.ref l) (.list (cutD ds lo hi)) → Q (.ref l) H'
theorem sl_listD {X : Cx} : SlR X rSlDL := by
  intro pins s σ H x v vl vu lo hi sl Q I rx hs pl pu h
  obtain ⟨ds, k, q⟩ := h
  cases k with
  | lst h1 t1 =>
    rename_i a xs
    exact sl_list pins s σ H _ v vl vu lo hi sl Q I rx hs pl pu ⟨a, xs, rfl, SqL.of h1, fun p np => q p _ (same_new np) np (.lst upd_same (DqAll.same (same_new np) _ (t1.cut lo hi)))⟩
/-- the sum of two lists -/
def rCatDL : R2 := fun x y H Q => ∃ ds es, Dq H x (.list ds) ∧ Dq H y (.list es) ∧ ds.length + es.length ≤ 1000 ∧ ∀ l H', Same H H' → H l = none → Dq H' (.ref l) (.list (ds ++ es)) → Q (.ref l) H'
theorem op_catDL {X : Cx} : OpR X (binaryOp .Add) rCatDL := by
  intro pins s σ H x y v u Q I rx ry h
  obtain ⟨ds, es, k1, k2, hl, q⟩ := h
  cases k1 with
  | lst h1 t1 =>
    cases k2 with
    | lst h2 t2 =>
      rename_i a xs b ys
      exact op_cat pins s σ H _ _ v u Q I rx ry ⟨a, b, xs, ys, rfl, rfl, h1, h2, by
        rw [t1.len, t2.len]
        exact Nat.le_trans hl thousand, fun p np => q p _ (same_new np) np (.lst upd_same ((DqAll.same (same_new np) _ t1).append (DqAll.same (same_new np) _ t2)))⟩
end TkS
set_option Elab.async false
set_option linter.all false
set_option maxRecDepth 100000
set_option maxHeartbeats 4000000
/-! a tuple whose object is known (its methods may be called) -/
namespace TkS
open PySem PySem.Spec PyProof.Rows L2
def Frz (H : Hp) (a : Addr) (xs : List V) : Prop := ∃ o : Obj, H a = some (.frz o (.tup xs)) ∧ o.cls = .type "tuple" ∧ o.dict = none
theorem Frz.same {H H' : Hp} {a : Addr} {xs : List V} (h : Frz H a xs) (s : Same H H') : Frz H' a xs := by
  obtain ⟨o, h1, h2⟩ := h
  exact ⟨o, s _ _ h1, h2⟩
theorem Frz.seq {K : PySem.W.Frag} {H : Hp} {a : Addr} {xs : List V} (h : Frz H a xs) : SqT K H a xs := by
  obtain ⟨o, h1, _⟩ := h
  exact .inl (.inr ⟨o, h1⟩)
theorem Frz.ty {K : PySem.W.Frag} {H : Hp} {a : Addr} {xs : List V} (h : Frz H a xs) : TyX K H (.ref a) (.type "tuple") := by
  obtain ⟨o, h1, _⟩ := h
  exact .fTuple h1
theorem Frz.fn {H : Hp} {a : Addr} {xs ys : List V} (h : Frz H a xs) (h' : Frz H a ys) : xs = ys := by
  obtain ⟨o, h1, _⟩ := h
  obtain ⟨o', h1', _⟩ := h'
  rw [h1] at h1'
  cases h1'
  rfl
def rTupF (K : PySem.W.Frag) : List V → Hp → VK → Prop := fun xs H Q => ∃ p ys, xs = [.ref p] ∧ SqL K H p ys ∧ ∀ l H', Same H H' → H l = none → Frz H' l ys → Q (.ref l) H'
theorem call_tupF {X : Cx} : CallR X (.type "tuple") (rTupF X.K) := by
  intro pins s σ H xs us Q I r h
  obtain ⟨p, ys, rfl, hq, q⟩ := h
  obtain ⟨u, rfl, rx⟩ := vals1 r
  cases rx
  obtain ⟨its, r', pl, hz⟩ := I.list hq
  have hlen := r'.length
  refine call_tuple_list pl.isList (fun h' kp => ?_) (by simp only [List.size_toArray] <;> omega)
  have I1 : Inv X pins σ H { s with heap := h' } := I.kept (t' := s.toks) kp
  have I2 : Inv X pins σ (upd H h'.objs.size (.frz { cls := .type "tuple", data := .seq its.toArray } (.tup ys))) { s with heap := h'.push { cls := .type "tuple", data := .seq its.toArray } } :=
    I1.laid (t' := s.toks) (fun b o e => Heap.get?_push_of_some _ e) (Nat.le_refl _) (show ObjOk X.prog X.w _ _ _ (.frz _ (.tup ys)) from ⟨Heap.get?_push_size _ rfl, hz, its, r', IsTup.new _ _⟩)
  have nf := I1.hok.fresh (Nat.le_refl _)
  exact ⟨.ref h'.objs.size, _, I2, rfl, q _ _ (same_new nf) nf ⟨_, upd_same, rfl, rfl⟩⟩
def tBMF (r : V → List V → Hp → VK → Prop) (to : TE) (t : TA) : TE := fun σ H Q => to σ H fun x H1 => (∃ a xs, x = .ref a ∧ Frz H1 a xs) ∧ t σ H1 fun xs H2 => r x xs H2 Q
theorem pe_bmF {X : Cx} {o e : Expr} {es : List Expr} {to : TE} {t : TA} {name : Str} {apos cpos : Pos} {id : String} {r : V → List V → Hp → VK → Prop} (pa : PlainAttrs "tuple") (slot : Slot "tuple" name id) (hty : typeOf (.builtin id) = pure (.type "method_descriptor")) (hm : MtR X id r) (ho : PE X o to) (ha : PA X (e :: es) t)
    (hbase : attributeBase o name X.env (eval o X.env) = eval o X.env := by rfl)
    (hfew : ((backTo cpos (starEach (e :: es) X.env)).all (fun x => !x.1) && (backToKw cpos (keywordEach [] X.env)).all (fun x => x.1.isSome)
      && decide ((e :: es).length + ([] : List Keyword).length + (if ([] : List Keyword).isEmpty then 0 else 1) < 30)) = true := by rfl)
    (hline : (apos.endLine == cpos.line) = true := by rfl) (hs : starEach (e :: es) X.env = (false, eval e X.env) :: starEach es X.env := by rfl) (hplain : (backTo cpos (starEach es X.env)).any (·.1) = false := by rfl) :
    PE X (.Call (.Attribute o name apos) (e :: es) [] cpos) (tBMF r to t) := by
  refine ⟨fun pins s σ H Q I h => ?_⟩
  refine wpAny_Call_method_late hbase hfew hline rfl (thn (ho.run pins s σ H _ I h) fun v s1 ⟨x, H1, I1, r1, ⟨a, xs, ex, o, h1, h2, h3⟩, q1⟩ => ?_)
  subst ex
  cases r1
  have hk := (I1.hok a _ h1).1
  refine ⟨"tuple", id, pa, slot, hty, ⟨o, hk, h2⟩, fun b e => by cases e; exact ⟨o, hk, h3⟩, ?_⟩
  have hA := ha.run cpos pins s1 σ H1 _ I1 q1
  rw [hs] at hA ⊢
  refine Calls.callWith_builtin (by show (false || (backTo cpos (starEach es X.env)).any (·.1)) = false; rw [hplain] <;> rfl) (Calls.evalArgs_plain ?_)
  exact thn hA fun us s2 ⟨vs, H2, I2, r2, q2⟩ => hm pins s2 σ H2 (.ref a) vs _ us Q I2 rfl r2 q2
theorem Frz.dp {K : PySem.W.Frag} {H : Hp} {a : Addr} {xs : List V} {ds : List PyData} (h : Frz H a xs) (k : DqAll H xs ds) : Dp K H (.ref a) (.tuple ds) := .tup h.seq (DqAll.dp _ k)
/-- such a tuple and a tuple that is not empty -/
def rCatF : R2 := fun x y H Q => ∃ (a : Addr) (xs : List V) (ds es : List PyData), x = .ref a ∧ Frz H a xs ∧ DqAll H xs ds ∧ Dq H y (.tuple es) ∧ es ≠ [] ∧ ds.length + es.length ≤ 1000 ∧ ∀ l H', Same H H' → Dq H' (.ref l) (.tuple (ds ++ es)) → Q (.ref l) H'
theorem op_catF {X : Cx} : OpR X (binaryOp .Add) rCatF := by
  intro pins s σ H x y v u Q I rx ry h
  obtain ⟨a, xs, ds, es, rfl, f, t1, k2, ne, hl, q⟩ := h
  cases k2 with
  | tup h2 t2 =>
    rename_i b ys
    refine op_catA pins s σ H _ _ v u Q I rx ry ⟨a, b, xs, ys, rfl, rfl, f.seq, SqT.of h2, ?_, fun e => ?_, fun _ e => ?_, fun _ _ p np => ?_⟩
    · rw [t1.len, t2.len]
      exact Nat.le_trans hl thousand
    · subst e
      cases t1
      exact q b H (fun _ _ z => z) (.tup h2 t2)
    · subst e
      cases t2
      exact absurd rfl ne
    · exact q p _ (same_new np) (.tup upd_same ((DqAll.same (same_new np) _ t1).append (DqAll.same (same_new np) _ t2)))
/-- a part of such a tuple that is not the whole -/
def rSlF : V → Option Int → Option Int → Hp → VK → Prop := fun x lo hi H Q => ∃ (a : Addr) (xs : List V) (ds : List PyData), x = .ref a ∧ Frz H a xs ∧ DqAll H xs ds ∧ ¬ (HT.sIx ds.length 0 lo = 0 ∧ HT.sIx ds.length ds.length hi = ds.length) ∧
  ∀ l H', Same H H' → Dq H' (.ref l) (.tuple (cutD ds lo hi)) → Q (.ref l) H'
theorem sl_tupF {X : Cx} : SlR X rSlF := by
  intro pins s σ H x v vl vu lo hi sl Q I rx hs pl pu h
  obtain ⟨a, xs, ds, rfl, f, t1, nw, q⟩ := h
  refine sl_tupA pins s σ H _ v vl vu lo hi sl Q I rx hs pl pu ⟨a, xs, rfl, f.seq, fun e => ?_, fun _ p np => ?_⟩
  · rw [t1.len] at e
    exact absurd e nw
  · exact q p _ (same_new np) (.tup upd_same (DqAll.same (same_new np) _ (t1.cut lo hi)))
end TkS
set_option Elab.async false
set_option linter.all false
set_option maxRecDepth 100000
set_option maxHeartbeats 4000000
set_option exponentiation.threshold 5000
namespace K25
open PySem PySem.Spec PyProof.Rows L2 TkS
/-! pairs as data -/
theorem prD_datum (p : Int × Int) : prD p = PySem.W.Datum.toD p := rfl
theorem eqv_pr (p q : Int × Int) : PyData.eqv (prD p) (prD q) = decide (p = q) := PySem.W.Datum.eqv p q
theorem eqv_prs (ps qs : List (Int × Int)) : PyData.eqvAll (ps.map prD) (qs.map prD) = decide (ps = qs) := PySem.W.eqvAll_map ps qs
theorem any_pr (ps : List (Int × Int)) (p : Int × Int) : ((ps.map prD).any fun d => PyData.eqv d (prD p)) = decide (p ∈ ps) := (PySem.W.any_datum ps p).trans (decide_eq_decide.mpr Iff.rfl)
theorem shaped_pr (p : Int × Int) : SeqAt.shaped (prD p) = true := by
  simp [SeqAt.shaped, prD, PyData.canLay0, PyData.canLayAll0, PyData.depth, PyData.depthAll]
theorem lay_prs : ∀ ps : List (Int × Int), PyData.canLayAll0 (ps.map prD) = true ∧ PyData.depthAll (ps.map prD) ≤ 1
  | [] => ⟨rfl, Nat.zero_le _⟩
  | p :: ps => by
    have h := lay_prs ps
    constructor
    · simp [PyData.canLayAll0, prD, PyData.canLay0] at h ⊢
      exact h.1
    · simp [PyData.depthAll, prD, PyData.depth] at h ⊢
      exact Nat.max_le.mpr ⟨Nat.le_refl _, h.2⟩
theorem shaped_prs (ps : List (Int × Int)) : SeqAt.shaped (.tuple (ps.map prD)) = true := by
  have h := lay_prs ps
  simp [SeqAt.shaped, PyData.canLay0, PyData.depth, h.1]
  omega
theorem shaped_prs_l (ps : List (Int × Int)) : SeqAt.shaped (.list (ps.map prD)) = true := by
  have h := lay_prs ps
  simp [SeqAt.shaped, PyData.canLay0, PyData.depth, h.1]
  omega
def wholeD (d : PyData) (lo hi : Int) : Bool := match d with | .int i => decide (lo ≤ i) && decide (i ≤ hi) | _ => false
theorem wi_dq {H : Hp} {x : V} {d : PyData} {lo hi : Int} (k : Dq H x d) : wholeIn x (.int lo) (.int hi) = wholeD d lo hi := by cases k <;> rfl
theorem wholeD_of {d : PyData} {lo hi : Int} (h : wholeD d lo hi = true) : ∃ i, d = .int i ∧ lo ≤ i ∧ i ≤ hi := by
  cases d with
  | int i =>
    have h' : (decide (lo ≤ i) && decide (i ≤ hi)) = true := h
    rw [Bool.and_eq_true, decide_eq_true_iff, decide_eq_true_iff] at h'
    exact ⟨i, rfl, h'⟩
  | _ => cases h
def isPair (P W : Int) (d : PyData) : Bool := match itemsD d with | some [a, b] => wholeD a 0 (P - 1) && wholeD b 0 (W - 1) | _ => false
def prOf (d : PyData) : Int × Int := match itemsD d with | some [.int a, .int b] => (a, b) | _ => (0, 0)
theorem prOf_prD (p : Int × Int) : prOf (prD p) = p := rfl
theorem isPair_of {P W : Int} {d : PyData} (h : isPair P W d = true) : itemsD d = some [.int (prOf d).1, .int (prOf d).2] ∧ 0 ≤ (prOf d).1 ∧ (prOf d).1 < P ∧ 0 ≤ (prOf d).2 ∧ (prOf d).2 < W := by
  unfold isPair at h
  split at h
  · rename_i a b e
    rw [Bool.and_eq_true] at h
    obtain ⟨i, rfl, h1, h2⟩ := wholeD_of h.1
    obtain ⟨j, rfl, h3, h4⟩ := wholeD_of h.2
    unfold prOf
    rw [e]
    exact ⟨rfl, h1, by show i < P; omega, h3, by show j < W; omega⟩
  · cases h
theorem isPair_prD {P W : Int} {p : Int × Int} : isPair P W (prD p) = true ↔ 0 ≤ p.1 ∧ p.1 < P ∧ 0 ≤ p.2 ∧ p.2 < W := by
  constructor
  · intro h
    exact (isPair_of h).2
  · rintro ⟨h1, h2, h3, h4⟩
    show (decide (0 ≤ p.1) && decide (p.1 ≤ P - 1) && (decide (0 ≤ p.2) && decide (p.2 ≤ W - 1))) = true
    simp
    omega
/-! sorted lists of pairs -/
def leP (p q : Int × Int) : Prop := SrtO.lexB q p = false
theorem leP_iff {p q : Int × Int} : leP p q ↔ p.1 < q.1 ∨ (p.1 = q.1 ∧ p.2 ≤ q.2) := by
  unfold leP
  rw [SrtO.lexB_no]
  omega
def leB (p q : Int × Int) : Bool := !SrtO.lexB q p
def srt (l : List (Int × Int)) : List (Int × Int) := l.mergeSort leB
theorem leB_iff {p q : Int × Int} : leB p q = true ↔ leP p q := by
  unfold leB leP
  cases SrtO.lexB q p <;> simp
theorem srt_sorted (l : List (Int × Int)) : (srt l).Pairwise leP := by
  have h := List.pairwise_mergeSort (le := leB) (fun a b c h1 h2 => leB_iff.mpr (by
    have a1 := leP_iff.mp (leB_iff.mp h1)
    have a2 := leP_iff.mp (leB_iff.mp h2)
    exact leP_iff.mpr (by omega))) (fun a b => by
    by_cases h : leB a b = true
    · rw [h]
      rfl
    · have h2 : leB b a = true := leB_iff.mpr (leP_iff.mpr (by
        have n : ¬ leP a b := fun z => h (leB_iff.mpr z)
        rw [leP_iff] at n
        omega))
      rw [h2]
      simp) l
  exact h.imp fun z => leB_iff.mp z
theorem srt_perm (l : List (Int × Int)) : (srt l).Perm l := List.mergeSort_perm l leB
theorem srt_len (l : List (Int × Int)) : (srt l).length = l.length := (srt_perm l).length_eq
theorem srt_uniq {l m : List (Int × Int)} (h : l.Pairwise leP) (p : l.Perm m) : l = srt m :=
  List.Perm.eq_of_pairwise (le := leP) (fun a b _ _ h1 h2 => by
    have a1 := leP_iff.mp h1
    have a2 := leP_iff.mp h2
    exact Prod.ext (by omega) (by omega)) h (srt_sorted m) (p.trans (srt_perm m).symm)
def Asc (l : List (Int × Int)) : Prop := l.Pairwise fun p q => SrtO.lexB p q = true
theorem asc_le {l : List (Int × Int)} (h : Asc l) : l.Pairwise leP := h.imp fun z => leP_iff.mpr (by
  have := SrtO.lexB_iff.mp z
  omega)
theorem asc_nodup {l : List (Int × Int)} (h : Asc l) : l.Nodup := h.imp fun {a b} z e => by
  subst e
  have := SrtO.lexB_iff.mp z
  omega
theorem asc_of {l : List (Int × Int)} (h : l.Pairwise leP) (n : l.Nodup) : Asc l := by
  have := List.Pairwise.and h n
  exact this.imp fun {a b} z => SrtO.lexB_iff.mpr (by
    have z1 := leP_iff.mp z.1
    have z2 : ¬ (a.1 = b.1 ∧ a.2 = b.2) := fun e => z.2 (Prod.ext e.1 e.2)
    omega)
/-- equal neighbours tell of a double -/
theorem twins {l : List (Int × Int)} (h : l.Pairwise leP) (n : ∀ i, 1 ≤ i → i < l.length → l.getD (i - 1) (0, 0) ≠ l.getD i (0, 0)) : l.Nodup := by
  induction l with
  | nil => exact .nil
  | cons a r ih =>
    cases r with
    | nil => exact List.pairwise_singleton _ _
    | cons b r =>
      have h2 := (List.pairwise_cons.mp h).2
      have nd : (b :: r).Nodup := ih h2 fun i i1 i2 => by
        have := n (i + 1) (by omega) (by simp at i2 ⊢; omega)
        have e : i + 1 - 1 = (i - 1) + 1 := by omega
        rw [e] at this
        exact this
      refine List.nodup_cons.mpr ⟨fun m => ?_, nd⟩
      have hab : a ≠ b := n 1 (by omega) (by simp)
      have l1 : leP a b := (List.pairwise_cons.mp h).1 b List.mem_cons_self
      rcases List.mem_cons.mp m with e | e
      · exact hab e
      · have l2 : leP b a := (List.pairwise_cons.mp h2).1 a e
        have z1 := leP_iff.mp l1
        have z2 := leP_iff.mp l2
        exact hab (Prod.ext (by omega) (by omega))
/-! pictures -/
structure Pic (C : Addr) (H : Hp) (a : Addr) (P W : Int) (ps : List (Int × Int)) : Prop where
  at_ : ∃ (dx t : Addr) (v : V) (xs : List V), H a = some (.ins C dx [("points", .int P), ("walls", .int W), ("pairs", .ref t), ("_pieces", v)]) ∧ Frz H t xs ∧ DqAll H xs (ps.map prD) ∧ Dq H v (.tuple (piecesD P (marks P W ps)))
  ok : 1 ≤ P ∧ P ≤ 5 ∧ 1 ≤ W ∧ W ≤ 5
  ins : Ins P W ps
  asc : Asc ps
theorem Pic.same {C : Addr} {H H' : Hp} {a : Addr} {P W : Int} {ps : List (Int × Int)} (h : Pic C H a P W ps) (s : Same H H') : Pic C H' a P W ps := by
  obtain ⟨⟨dx, t, v, xs, h1, h2, h2', h3⟩, h4, h5, h6⟩ := h
  exact ⟨⟨dx, t, v, xs, s _ _ h1, h2.same s, DqAll.same s _ h2', h3.same s⟩, h4, h5, h6⟩
def wordD (p w ps : PyData) : Option Str :=
  if wholeD p 1 5 = true then
    if wholeD w 1 5 = true then
      match p, w, itemsD ps with
      | .int P, .int W, some ds => if ds.all (isPair P W) = true then (if (ds.map prOf).Nodup then none else some "double") else some "pair"
      | _, _, _ => some "pair"
    else some "walls"
  else some "points"
def sp_is_pair (C : Addr) : Sp := fun vs H Q _ => ∃ (a dx : Addr) (x : V) (d : PyData) (P W : Int) (fs : List (Str × V)), vs = [.ref a, x] ∧ H a = some (.ins C dx fs) ∧ fs.lookup ("points" : Str) = some (.int P) ∧ fs.lookup ("walls" : Str) = some (.int W) ∧ Dq H x d ∧
  ∀ H', Same H H' → Q (.bl (isPair P W d)) H'
section
variable {P : Program} {w : World} {K : PySem.W.Frag} {mg : Str → Option Value} {base : Heap}
end
end K25
set_option Elab.async false
set_option linter.all false
set_option maxRecDepth 100000
set_option maxHeartbeats 4000000
set_option exponentiation.threshold 5000
namespace K25
open PySem PySem.Spec PyProof.Rows L2 TkS
/-! stores to an instance leave data as it is -/
mutual
theorem dq_put {H : Hp} {a C dx : Addr} {fs : List (Str × V)} {o : HO} (h : H a = some (.ins C dx fs)) : ∀ {v : V} (d : PyData), Dq H v d → Dq (upd H a o) v d
  | _, .none, .non => .non
  | _, .bool _, .bl b => .bl b
  | _, .int _, .int i => .int i
  | _, .str _, .str x => .str x
  | _, .list _, .lst e t => .lst (by
      rw [upd_ne (fun z => by rw [z, h] at e; cases e)]
      exact e) (dqAll_put h _ t)
  | _, .tuple _, .tup e t => .tup (by
      rw [upd_ne (fun z => by rw [z, h] at e; cases e)]
      exact e) (dqAll_put h _ t)
theorem dqAll_put {H : Hp} {a C dx : Addr} {fs : List (Str × V)} {o : HO} (h : H a = some (.ins C dx fs)) : ∀ {vs : List V} (ds : List PyData), DqAll H vs ds → DqAll (upd H a o) vs ds
  | _, [], .nil => .nil
  | _, _ :: _, .cons k t => .cons (dq_put h _ k) (dqAll_put h _ t)
end
theorem sq_put {K : PySem.W.Frag} {H : Hp} {a C dx p : Addr} {fs : List (Str × V)} {o : HO} {d : PyData} {ds : List PyData} (h : H a = some (.ins C dx fs)) (k : Dq H (.ref p) d) (e : itemsD d = some ds) : ∃ xs, DqAll (upd H a o) xs ds ∧ Sq K (upd H a o) p xs := by
  obtain ⟨p', xs, z, h1, h2⟩ := sq_of (K := K) (dq_put (o := o) h _ k) e
  cases z
  exact ⟨xs, h1, h2⟩
def KeepA (a : Addr) (H H' : Hp) : Prop := ∀ b o, H b = some o → b ≠ a → H' b = some o
theorem KeepA.same {a : Addr} {H H1 H2 : Hp} (k : KeepA a H H1) (s : Same H1 H2) : KeepA a H H2 := fun b o e n => s _ _ (k b o e n)
theorem KeepA.put {a : Addr} {H H1 : Hp} {o : HO} (k : KeepA a H H1) : KeepA a H (upd H1 a o) := fun b x e n => by
  rw [upd_ne n]
  exact k b x e n
def prV (H : Hp) : V → Int × Int
  | .ref t => match H t with
    | some (.tup [.int a, .int b]) => (a, b)
    | _ => (0, 0)
  | _ => (0, 0)
theorem prV_of {H : Hp} {x : V} {p : Int × Int} (k : Dq H x (prD p)) : prV H x = p ∧ ∃ t, x = .ref t ∧ H t = some (.tup [.int p.1, .int p.2]) := by
  cases k with
  | tup e t =>
    cases t with
    | cons u v =>
      cases v with
      | cons u' v' =>
        cases v'
        cases u
        cases u'
        refine ⟨?_, _, rfl, e⟩
        unfold prV
        simp only [e]
theorem prV_map {H : Hp} : ∀ {xs : List V} {l : List (Int × Int)}, DqAll H xs (l.map prD) → xs.map (prV H) = l ∧ ∀ x ∈ xs, Dq H x (prD (prV H x)) ∧ ∃ t, x = .ref t ∧ H t = some (.tup [.int (prV H x).1, .int (prV H x).2])
  | _, [], .nil => ⟨rfl, fun x m => nomatch m⟩
  | _, p :: l, .cons k t => by
    obtain ⟨e1, t1, e2, e3⟩ := prV_of k
    obtain ⟨f1, f2⟩ := prV_map t
    refine ⟨by rw [List.map_cons, e1, f1], fun x m => ?_⟩
    rcases List.mem_cons.mp m with z | m
    · subst z
      rw [e1]
      exact ⟨k, t1, e2, e3⟩
    · exact f2 x m
theorem dqAll_by {H : Hp} {k : V → Int × Int} : ∀ {xs : List V}, (∀ x ∈ xs, Dq H x (prD (k x))) → DqAll H xs ((xs.map k).map prD)
  | [], _ => .nil
  | x :: xs, h => .cons (h x List.mem_cons_self) (dqAll_by fun y m => h y (List.mem_cons_of_mem _ m))
theorem two_ints {H H' : Hp} {xs : List V} {i j : Int} (h : DqAll H xs [.int i, .int j]) : xs = [.int i, .int j] ∧ DqAll H' xs [.int i, .int j] := by
  cases h with
  | cons u v =>
    cases v with
    | cons u' v' =>
      cases v'
      cases u
      cases u'
      exact ⟨rfl, .cons (.int _) (.cons (.int _) .nil)⟩
theorem sorted_is {k : V → Int × Int} {ys zs : List V} {l : List (Int × Int)} (e : ys.map k = l) (s : SrtO.Srtd (ltP k) zs) (b : SrtO.Stb (ltP k) zs ys) : zs.map k = srt l := by
  refine srt_uniq ?_ (by rw [← e]; exact b.perm.map k)
  rw [List.pairwise_map]
  exact s
theorem asg_cb_lc {r : List V → Hp → VK → Prop} {wi : TI} {g : TG} {tt : TT} {te : TE} {vs : List Nat} {gi : TG} {rest : TS} {D : Ends} {σ : L2.St} {H : Hp} (h : tLc wi g tt te vs σ H fun v H1 => r [v] H1 fun x H2 => gi x σ H2 fun σ' H' => rest D σ' H') :
    tSeq (tAsg (tCB r (tCons (tLc wi g tt te vs) tNil)) gi) rest D σ H := h
def sp_Picture_init (C CB : Addr) : Sp := fun vs H Q E => ∃ (a dx : Addr) (p w ps : V) (dp dw dps : PyData), vs = [.ref a, p, w, ps] ∧ H a = some (.ins C dx []) ∧ Dq H p dp ∧ Dq H w dw ∧ Dq H ps dps ∧ (∀ ds, itemsD dps = some ds → ds.length ≤ 200) ∧
  (∀ e, wordD dp dw dps = some e → ∀ d H', KeepA a H H' → H' d = some (.xd [("what", .str e)]) → E (.ref CB) (some d) H') ∧
  (∀ P W ds, dp = .int P → dw = .int W → itemsD dps = some ds → wordD dp dw dps = none → ∀ H', KeepA a H H' → Pic C H' a P W (srt (ds.map prOf)) → Q .non H')
section
variable {P : Program} {w : World} {K : PySem.W.Frag} {mg : Str → Option Value} {base : Heap}
end
end K25
set_option Elab.async false
set_option linter.all false
set_option maxRecDepth 100000
set_option maxHeartbeats 4000000
set_option exponentiation.threshold 5000
namespace K25
open PySem PySem.Spec PyProof.Rows L2 TkS
/-- all pairs -/
def fullPs (p w : Nat) : List (Int × Int) := (List.range p).flatMap fun (i : Nat) => (List.range w).map fun (j : Nat) => ((i : Int), (j : Int))
def isOpen (P W : Int) (ps : List (Int × Int)) (d : PyData) : Bool := isPair P W d && decide (prOf d ∈ ps)
theorem isOpen_of {P W : Int} {ps : List (Int × Int)} {d : PyData} (h : isOpen P W ps d = true) : isPair P W d = true ∧ prOf d ∈ ps := by
  unfold isOpen at h
  rw [Bool.and_eq_true, decide_eq_true_iff] at h
  exact h
theorem tup_items {P W : Int} {d : PyData} (h : isPair P W d = true) : itemsD d = some [.int (prOf d).1, .int (prOf d).2] := (isPair_of h).1
theorem word_none {P W : Int} {ps : List (Int × Int)} {dps : PyData} (ok : 1 ≤ P ∧ P ≤ 5 ∧ 1 ≤ W ∧ W ≤ 5) (hi : Ins P W ps) (nd : ps.Nodup) (e : itemsD dps = some (ps.map prD)) : wordD (.int P) (.int W) dps = none := by
  have b1 : wholeD (.int P) 1 5 = true := by
    show (decide (1 ≤ P) && decide (P ≤ 5)) = true
    simp
    omega
  have b2 : wholeD (.int W) 1 5 = true := by
    show (decide (1 ≤ W) && decide (W ≤ 5)) = true
    simp
    omega
  have b3 : (ps.map prD).all (isPair P W) = true := by
    rw [List.all_map, List.all_eq_true]
    exact fun p m => isPair_prD.mpr (hi p m)
  have b4 : ((ps.map prD).map prOf) = ps := by
    rw [List.map_map, show (prOf ∘ prD) = id from rfl, List.map_id]
  unfold wordD
  rw [b1, b2, e]
  show (if (ps.map prD).all (isPair P W) = true then (if ((ps.map prD).map prOf).Nodup then (none : Option Str) else some ("double" : Str)) else some ("pair" : Str)) = none
  rw [if_pos b3, b4, if_pos nd]
theorem rm_at : ∀ {ps : List (Int × Int)} {j : Nat} {q : Int × Int}, ps.Nodup → ps[j]? = some q → ps.take j ++ ps.drop (j + 1) = ps.filter fun p => decide (p ≠ q)
  | p :: ps, 0, q, nd, e => by
    have e' : p = q := Option.some.inj e
    subst e'
    have n := (List.nodup_cons.mp nd).1
    rw [List.filter_cons_of_neg (by simp)]
    show ps = _
    exact (List.filter_eq_self.mpr fun x m => by
      simp
      intro z
      subst z
      exact n m).symm
  | p :: ps, j + 1, q, nd, e => by
    have m : q ∈ ps := List.mem_of_getElem? (i := j) (by simpa using e)
    have n : p ≠ q := fun z => (List.nodup_cons.mp nd).1 (z ▸ m)
    rw [List.filter_cons_of_pos (by simpa using n), ← rm_at (j := j) (List.nodup_cons.mp nd).2 (by simpa using e)]
    rfl
theorem asc_filter {ps : List (Int × Int)} (f : Int × Int → Bool) (h : Asc ps) : Asc (ps.filter f) := List.Pairwise.sublist List.filter_sublist h
theorem srt_asc {ps : List (Int × Int)} (h : Asc ps) : srt ps = ps := (srt_uniq (asc_le h) (List.Perm.refl _)).symm
/-- a new picture, as the caller of the class sees it -/
theorem mk_pic {C CB : Addr} {H1 : Hp} {R : Addr → Hp → Prop} {E : XK} {p w ps : V} {dp dw dps : PyData} (kp : Dq H1 p dp) (kw : Dq H1 w dw) (kps : Dq H1 ps dps) (hlen : ∀ ds, itemsD dps = some ds → ds.length ≤ 200)
    (hE : ∀ e, wordD dp dw dps = some e → ∀ d H', Same H1 H' → H' d = some (.xd [("what", .str e)]) → E (.ref CB) (some d) H')
    (hQ : ∀ P W ds, dp = .int P → dw = .int W → itemsD dps = some ds → wordD dp dw dps = none → ∀ H' y, Same H1 H' → H1 y = none → Pic C H' y P W (srt (ds.map prOf)) → R y H') :
    ∀ x dx, H1 x = none → H1 dx = none → dx ≠ x → sp_Picture_init C CB (.ref x :: ([p, w, ps] ++ [])) (upd (upd H1 dx (.own x)) x (.ins C dx [])) (fun v H2 => v = .non ∧ R x H2) E := fun x dx nx nd ne => by
  have s0 : Same H1 (upd (upd H1 dx (.own x)) x (.ins C dx [])) := Same.made nx nd fun b o e _ => e
  have sm : ∀ H', KeepA x (upd (upd H1 dx (.own x)) x (.ins C dx [])) H' → Same H1 H' := fun H' k => Same.made nx nd k
  exact ⟨x, dx, p, w, ps, dp, dw, dps, rfl, upd_same, kp.same s0, kw.same s0, kps.same s0, hlen, fun e he d H' k hd => hE e he d H' (sm H' k) hd, fun P W ds e1 e2 e3 e4 H' k hp => ⟨rfl, hQ P W ds e1 e2 e3 e4 H' x (sm H' k) nx hp⟩⟩
def sp_is_open (C : Addr) : Sp := fun vs H Q _ => ∃ (a : Addr) (x : V) (d : PyData) (P W : Int) (ps : List (Int × Int)), vs = [.ref a, x] ∧ Pic C H a P W ps ∧ Dq H x d ∧ ∀ H', Same H H' → Q (.bl (isOpen P W ps d)) H'
def sp_place_of (C CN : Addr) : Sp := fun vs H Q E => ∃ (a : Addr) (x : V) (d : PyData) (P W : Int) (ps : List (Int × Int)), vs = [.ref a, x] ∧ Pic C H a P W ps ∧ Dq H x d ∧
  (isOpen P W ps d = false → ∀ e H', Same H H' → H' e = some (.xd [("pair", x)]) → E (.ref CN) (some e) H') ∧
  (isOpen P W ps d = true → ∀ (j : Nat) H', ps[j]? = some (prOf d) → Same H H' → Q (.int (j : Int)) H')
def sp_Picture_len (C : Addr) : Sp := fun vs H Q _ => ∃ (a : Addr) (P W : Int) (ps : List (Int × Int)), vs = [.ref a] ∧ Pic C H a P W ps ∧ ∀ H', Same H H' → Q (.int (ps.length : Int)) H'
def sp_Picture_pieces (C : Addr) : Sp := fun vs H Q _ => ∃ (a : Addr) (P W : Int) (ps : List (Int × Int)), vs = [.ref a] ∧ Pic C H a P W ps ∧ ∀ v, Dq H v (.tuple (piecesD P (marks P W ps))) → Q v H
def sp_Picture_eq (C : Addr) : Sp := fun vs H Q _ => ∃ (a b : Addr) (P W : Int) (ps : List (Int × Int)) (P' W' : Int) (ps' : List (Int × Int)), vs = [.ref a, .ref b] ∧ Pic C H a P W ps ∧ Pic C H b P' W' ps' ∧ ∀ H', Same H H' → Q (.bl (decide (P = P' ∧ W = W' ∧ ps = ps'))) H'
section
variable {P : Program} {w : World} {K : PySem.W.Frag} {mg : Str → Option Value} {base : Heap}
theorem hu65 {k : Nat} {A : Around} (hr : Room k A) : A.units + 65 < cLine := by
  have := hr.un
  omega
theorem at_of_mem {ps : List (Int × Int)} {q : Int × Int} (h : q ∈ ps) : ∃ j : Nat, ps[j]? = some q ∧ ∀ m, m < j → ps[m]? ≠ some q := by
  induction ps with
  | nil => cases h
  | cons p ps ih =>
    by_cases e : p = q
    · exact ⟨0, by rw [e]; rfl, fun m hm => absurd hm (Nat.not_lt_zero _)⟩
    · rcases List.mem_cons.mp h with z | z
      · exact absurd z.symm e
      · obtain ⟨j, h1, h2⟩ := ih z
        refine ⟨j + 1, h1, fun m hm => ?_⟩
        cases m with
        | zero => exact fun z => e (Option.some.inj z)
        | succ m => exact h2 m (by omega)
end
end K25
set_option Elab.async false
set_option linter.all false
set_option maxRecDepth 100000
set_option maxHeartbeats 4000000
set_option exponentiation.threshold 5000
namespace K25
open PySem PySem.Spec PyProof.Rows L2 TkS
def rowPs (i w : Nat) : List (Int × Int) := (List.range w).map fun (j : Nat) => ((i : Int), (j : Int))
theorem fullPs_eq (p w : Nat) : fullPs p w = (List.range p).flatMap fun i => rowPs i w := rfl
theorem fullPs_succ (p w : Nat) : fullPs (p + 1) w = fullPs p w ++ rowPs p w := by
  rw [fullPs_eq, fullPs_eq, List.range_succ, List.flatMap_append]
  simp
theorem rowPs_succ (i j : Nat) : rowPs i (j + 1) = rowPs i j ++ [((i : Int), (j : Int))] := by
  unfold rowPs
  rw [List.range_succ, List.map_append]
  rfl
theorem fullPs_len (p w : Nat) : (fullPs p w).length = p * w := by
  induction p with
  | zero => simp [fullPs]
  | succ p ih =>
    rw [fullPs_succ, List.length_append, ih, Nat.succ_mul]
    congr 1
    unfold rowPs
    simp
theorem mem_fullPs {p w : Nat} {q : Int × Int} : q ∈ fullPs p w ↔ 0 ≤ q.1 ∧ q.1 < p ∧ 0 ≤ q.2 ∧ q.2 < w := by
  unfold fullPs
  simp only [List.mem_flatMap, List.mem_map, List.mem_range]
  constructor
  · rintro ⟨i, hi, j, hj, rfl⟩
    refine ⟨?_, ?_, ?_, ?_⟩ <;> simp <;> omega
  · rintro ⟨h1, h2, h3, h4⟩
    exact ⟨q.1.toNat, by omega, q.2.toNat, by omega, Prod.ext (by simp; omega) (by simp; omega)⟩
theorem fullPs_asc (p w : Nat) : Asc (fullPs p w) := by
  unfold fullPs Asc
  rw [List.pairwise_flatMap]
  refine ⟨fun i _ => ?_, ?_⟩
  · rw [List.pairwise_map]
    refine List.Pairwise.imp (R := fun (a b : Nat) => a < b) ?_ List.pairwise_lt_range
    intro a b h
    exact SrtO.lexB_iff.mpr (.inr ⟨rfl, Int.ofNat_lt.mpr h⟩)
  · refine List.pairwise_lt_range.imp fun {a b} h => ?_
    intro x hx y hy
    obtain ⟨j, _, rfl⟩ := List.mem_map.mp hx
    obtain ⟨k, _, rfl⟩ := List.mem_map.mp hy
    exact SrtO.lexB_iff.mpr (.inl (Int.ofNat_lt.mpr h))
theorem fullPs_ins {P W : Int} (p0 : 0 ≤ P) (w0 : 0 ≤ W) : Ins P W (fullPs P.toNat W.toNat) := fun q m => by
  have := mem_fullPs.mp m
  omega
/-- two ranges in a comprehension -/
theorem lc2_rr {n m : Nat} {g g1 : TG} {tt tt1 : TT} {te : TE} {vs vs1 : List Nat} {wi wi1 : TI} {σ : L2.St} {H : Hp} {Q : VK} (Pv : Addr → Nat → Nat → Hp → Prop)
    (hi : ∀ R, R (Itr 0 n) H → wi σ H R) (h0 : ∀ D, H D = none → Pv D 0 0 (upd H D (.lst [])))
    (hs : ∀ D i H', H D = none → i < n → Pv D i 0 H' → g (.int (0 + (i : Int))) (wipe σ vs) H' fun σ2 H2 => wipe σ2 vs = wipe σ vs ∧ tt σ2 H2 fun b H3 => b = true ∧ wi1 σ2 H3 fun J1 H4 => J1 = Itr 0 m ∧ Pv D i 0 H4 ∧
      ∀ j H5, j < m → Pv D i j H5 → g1 (.int (0 + (j : Int))) (wipe σ2 vs1) H5 fun σ3 H6 => wipe σ3 vs1 = wipe σ2 vs1 ∧ tt1 σ3 H6 fun b H7 => b = true ∧ te σ3 H7 fun y H8 => ∃ acc, H8 D = some (.lst acc) ∧ acc.length < sizeLine ∧ Pv D i (j + 1) (upd H8 D (.lst (acc ++ [y]))))
    (hrow : ∀ D i H', i < n → Pv D i m H' → Pv D (i + 1) 0 H') (hd : ∀ D H', H D = none → Pv D n 0 H' → Q (.ref D) H')
    (mono : ∀ σ H (R R' : It → Hp → Prop), (∀ J H, R J H → R' J H) → wi1 σ H R → wi1 σ H R')
    (mg : ∀ x σ H (R R' : L2.St → Hp → Prop), (∀ σ H, R σ H → R' σ H) → g x σ H R → g x σ H R') (mg1 : ∀ x σ H (R R' : L2.St → Hp → Prop), (∀ σ H, R σ H → R' σ H) → g1 x σ H R → g1 x σ H R')
    (mt : ∀ σ H (R R' : Bool → Hp → Prop), (∀ b H, R b H → R' b H) → tt σ H R → tt σ H R') (mt1 : ∀ σ H (R R' : Bool → Hp → Prop), (∀ b H, R b H → R' b H) → tt1 σ H R → tt1 σ H R') :
    tLc2 wi g tt wi1 g1 tt1 te vs vs1 σ H Q := by
  refine hi _ fun D nD => ⟨fun i k H' => k = n - i ∧ i ≤ n ∧ Pv D i 0 H', ⟨n, by simp, Nat.zero_le _, h0 D nD⟩, ?_⟩
  rintro i k H' ⟨rfl, hin, p⟩
  by_cases hlt : i < n
  · refine .inr ⟨hlt, Pv D (i + 1) 0, fun H2 p' => ⟨n - (i + 1), by omega, rfl, hlt, p'⟩, fun x H2 y => ?_⟩
    obtain ⟨e, y⟩ := y
    subst e y
    refine mg _ _ _ _ _ (fun σ2 H3 h => ⟨h.1, mt _ _ _ _ (fun b H4 h => ?_) h.2⟩) (hs D i _ nD hlt p)
    obtain ⟨rfl, h⟩ := h
    rw [if_pos rfl]
    refine mono _ _ _ _ (fun J H5 h => ?_) h
    obtain ⟨rfl, q0, h⟩ := h
    refine ⟨fun j k H6 => k = m - j ∧ j ≤ m ∧ Pv D i j H6, ⟨m, by simp, Nat.zero_le _, q0⟩, ?_⟩
    rintro j k H6 ⟨rfl, hjm, p2⟩
    by_cases hj : j < m
    · refine .inr ⟨hj, Pv D i (j + 1), fun H7 p' => ⟨m - (j + 1), by omega, rfl, hj, p'⟩, fun x H7 y => ?_⟩
      obtain ⟨e, y⟩ := y
      subst e y
      refine mg1 _ _ _ _ _ (fun σ3 H8 h => ⟨h.1, mt1 _ _ _ _ (fun b H9 h => ?_) h.2⟩) (h j _ hj p2)
      obtain ⟨rfl, h⟩ := h
      rw [if_pos rfl]
      exact h
    · have e : j = m := by omega
      subst e
      exact .inl ⟨Nat.le_refl _, hrow D i _ hlt p2⟩
  · have e : i = n := by omega
    subst e
    exact .inl ⟨Nat.le_refl _, hd D _ nD p⟩
theorem asg_next {i : Nat} {x : V} {t : TE} {g : TG} {rest : TS} {D : Ends} {σ : L2.St} {H : Hp} (h : t (σ.set i (some x)) H fun y H2 => g y (σ.set i (some x)) H2 (rest D)) : gName i x σ H (tSeq (tAsg t g) rest D) := h
section
variable {P : Program} {w : World} {K : PySem.W.Frag} {mg : Str → Option Value} {base : Heap}
end
end K25
set_option Elab.async false
set_option linter.all false
set_option maxRecDepth 100000
set_option maxHeartbeats 4000000
/-! comprehensions whose items are data -/
namespace TkS
open PySem PySem.Spec PyProof.Rows L2
theorem off_put {h : Addr} {H : Hp} {o : HO} : TkS.Off h (upd H h o) = TkS.Off h H := by
  funext b
  unfold TkS.Off
  by_cases z : b = h
  · rw [if_pos z, if_pos z]
  · rw [if_neg z, if_neg z, upd_ne z]
theorem filter_snoc {α β : Type} (p : α → Bool) (f : α → β) {l : List α} {i : Nat} {x : α} (h : l[i]? = some x) :
    ((l.take (i + 1)).filter p).map f = if p x = true then ((l.take i).filter p).map f ++ [f x] else ((l.take i).filter p).map f := by
  rw [List.take_add_one, h]
  show ((l.take i ++ [x]).filter p).map f = _
  rw [List.filter_append, List.map_append, List.filter_cons]
  by_cases c : p x = true
  · rw [if_pos c, if_pos c]
    rfl
  · rw [if_neg c, if_neg c]
    show ((l.take i).filter p).map f ++ [] = _
    rw [List.append_nil]
theorem len_ft {α β : Type} (p : α → Bool) (f : α → β) (l : List α) : ((l.filter p).map f).length ≤ l.length := by
  rw [List.length_map]
  exact List.length_filter_le _ _
/-- the shared turn: a list D under way -/
def Acc (H0 : Hp) (D : Addr) (ds : List PyData) (H' : Hp) : Prop := Same H0 H' ∧ ∃ ys, H' D = some (.lst ys) ∧ DqAll (TkS.Off D H') ys ds
theorem Acc.nil {H0 : Hp} {D : Addr} (nD : H0 D = none) : Acc H0 D [] (upd H0 D (.lst [])) := ⟨same_new nD, [], upd_same, .nil⟩
theorem Acc.put {H0 H' H'' : Hp} {D : Addr} {ds : List PyData} {y : V} {d : PyData} (a : Acc H0 D ds H') (nD : H0 D = none) (hl : ds.length ≤ 900) (s : Same H' H'') (k : Dq (TkS.Off D H'') y d) :
    ∃ acc, H'' D = some (.lst acc) ∧ acc.length < sizeLine ∧ Acc H0 D (ds ++ [d]) (upd H'' D (.lst (acc ++ [y]))) := by
  obtain ⟨s0, ys, h1, h2⟩ := a
  refine ⟨ys, s _ _ h1, ?_, fun b o e => ?_, ys ++ [y], upd_same, ?_⟩
  · rw [h2.len]
    exact Nat.lt_of_le_of_lt hl (by decide)
  · rw [upd_ne (ne_of_none e nD)]
    exact s _ _ (s0 _ _ e)
  · rw [off_put]
    exact (DqAll.same (off_of s) _ h2).snoc k
theorem Acc.mv {H0 H' H'' : Hp} {D : Addr} {ds : List PyData} (a : Acc H0 D ds H') (s : Same H' H'') : Acc H0 D ds H'' := by
  obtain ⟨s0, ys, h1, h2⟩ := a
  exact ⟨s0.trans s, ys, s _ _ h1, DqAll.same (off_of s) _ h2⟩
theorem Acc.dq {H0 H' : Hp} {D : Addr} {ds : List PyData} (a : Acc H0 D ds H') : Dq H' (.ref D) (.list ds) := by
  obtain ⟨s0, ys, h1, h2⟩ := a
  exact .lst h1 (DqAll.same off_same _ h2)
theorem lc_rngD {tt : TT} {te : TE} {vs : List Nat} {σ : L2.St} {H0 : Hp} {D : Addr} {Qd : Hp → Prop} {j n : Nat} (f : Nat → Bool) (e : Nat → PyData)
    (nD : H0 D = none) (hl : n ≤ 900) (hw : ∀ x : V, wipe ((wipe σ vs).set j (some x)) vs = wipe σ vs)
    (ht : ∀ (i : Nat) (H' : Hp) (Q : Bool → Hp → Prop), i < n → Same H0 H' → (∀ H'', Same H' H'' → Q (f i) H'') → tt ((wipe σ vs).set j (some (.int (0 + (i : Int))))) H' Q)
    (he : ∀ (i : Nat) (H' : Hp) (Q : VK), i < n → f i = true → Same H0 H' → (∃ acc, H' D = some (.lst acc)) → (∀ y H'', Same H' H'' → Dq (TkS.Off D H'') y (e i) → Q y H'') → te ((wipe σ vs).set j (some (.int (0 + (i : Int))))) H' Q)
    (hd : ∀ H', Same H0 H' → Dq H' (.ref D) (.list (((List.range n).filter f).map e)) → Qd H') :
    ∃ W : Nat → Nat → Hp → Prop, (∃ m, W 0 m (upd H0 D (.lst []))) ∧ ∀ i m H, W i m H →
      ((Itr 0 n).stop i H ∧ Qd H) ∨ ((Itr 0 n).go i H ∧ ∃ Nx : Hp → Prop, (∀ H', Nx H' → ∃ m', m' < m ∧ W (i + 1) m' H') ∧ ∀ x H', (Itr 0 n).yld i H x H' → gName j x (wipe σ vs) H' fun σ2 H2 => wipe σ2 vs = wipe σ vs ∧ tt σ2 H2 fun b H3 =>
        if b = true then te σ2 H3 fun y H4 => ∃ acc, H4 D = some (.lst acc) ∧ acc.length < sizeLine ∧ Nx (upd H4 D (.lst (acc ++ [y]))) else Nx H3) := by
  refine lc_range (lo := 0) (n := n) (fun i H' => Acc H0 D (((List.range i).filter f).map e) H') (Acc.nil nD) (fun i H' hi hP => ?_) (fun H' hP => ?_)
  · refine ⟨hw _, ht i H' _ hi hP.1 fun H2 s2 => ?_⟩
    have er : ((List.range (i + 1)).filter f).map e = if f i = true then ((List.range i).filter f).map e ++ [e i] else ((List.range i).filter f).map e := by
      rw [List.range_succ, List.filter_append, List.map_append, List.filter_cons]
      by_cases c : f i = true
      · rw [if_pos c, if_pos c]
        rfl
      · rw [if_neg c, if_neg c]
        show _ ++ [] = _
        rw [List.append_nil]
    have hP2 := hP.mv s2
    cases c : f i with
    | true =>
      refine he i H2 _ hi c hP2.1 ⟨_, hP2.2.choose_spec.1⟩ fun y H3 s3 k => ?_
      rw [er, if_pos c]
      refine hP2.put nD ?_ s3 k
      have := len_ft f e (List.range i)
      rw [List.length_range] at this
      omega
    | false =>
      show Acc _ _ _ _
      rw [er, c, if_neg Bool.false_ne_true]
      exact hP2
  · exact hd H' hP.1 hP.dq
theorem lc_seqD {K : PySem.W.Frag} {a : Addr} {xs : List V} {ds : List PyData} {tl : TE} {tt : TT} {te : TE} {vs : List Nat} {σ : L2.St} {H : Hp} {Q : VK} {j : Nat} (f : PyData → Bool) (e : PyData → PyData)
    (ht0 : ∀ Q : VK, Q (.ref a) H → tl σ H Q) (hq : Sq K H a xs) (hx : DqAll H xs ds) (hl : ds.length ≤ 900) (hw : ∀ x : V, wipe ((wipe σ vs).set j (some x)) vs = wipe σ vs)
    (ht : ∀ (i : Nat) (x : V) (d : PyData) (H' : Hp) (Q : Bool → Hp → Prop), ds[i]? = some d → Same H H' → Dq H' x d → (∀ H'', Same H' H'' → Q (f d) H'') → tt ((wipe σ vs).set j (some x)) H' Q)
    (he : ∀ (D : Addr) (i : Nat) (x : V) (d : PyData) (H' : Hp) (Q : VK), H D = none → ds[i]? = some d → f d = true → Same H H' → Dq H' x d → (∃ acc, H' D = some (.lst acc)) → (∀ y H'', Same H' H'' → Dq (TkS.Off D H'') y (e d) → Q y H'') → te ((wipe σ vs).set j (some x)) H' Q)
    (hd : ∀ D H', H D = none → Same H H' → Dq H' (.ref D) (.list ((ds.filter f).map e)) → Q (.ref D) H') :
    tLc (iSeq K tl) (gName j) tt te vs σ H Q := by
  refine lc_seq (fun D i H' => Acc H D (((ds.take i).filter f).map e) H') ht0 hq (fun D nD => Acc.nil nD) (fun D i H' _ _ hP => hP.1) (fun D i x H' nD hxi hP => ?_) (fun D H' nD hP => ?_)
  · obtain ⟨d, hdi, kd⟩ := hx.get hxi
    have kd1 := kd.same hP.1
    refine ⟨hw _, ht i x d H' _ hdi hP.1 kd1 fun H2 s2 => ?_⟩
    have hP2 := hP.mv s2
    cases c : f d with
    | true =>
      refine he D i x d H2 _ nD hdi c hP2.1 (kd1.same s2) ⟨_, hP2.2.choose_spec.1⟩ fun y H3 s3 k => ?_
      rw [filter_snoc _ _ hdi, if_pos c]
      refine hP2.put nD ?_ s3 k
      have := len_ft f e (ds.take i)
      rw [List.length_take] at this
      omega
    | false =>
      show Acc _ _ _ _
      rw [filter_snoc _ _ hdi, c, if_neg Bool.false_ne_true]
      exact hP2
  · rw [hx.len, List.take_length] at hP
    exact hd D H' nD hP.1 hP.dq
/-! data without a list -/
mutual
def noList : PyData → Bool
  | .list _ => false
  | .tuple ds => noLists ds
  | _ => true
def noLists : List PyData → Bool
  | [] => true
  | d :: ds => noList d && noLists ds
end
mutual
theorem dq_noL {H : Hp} {D : Addr} {acc : List V} (h : H D = some (.lst acc)) : ∀ {v : V} (d : PyData), noList d = true → Dq H v d → Dq (TkS.Off D H) v d
  | _, .none, _, .non => .non
  | _, .bool _, _, .bl b => .bl b
  | _, .int _, _, .int i => .int i
  | _, .str _, _, .str x => .str x
  | _, .list _, n, .lst e t => by cases n
  | _, .tuple ds, n, .tup e t => .tup (off_at (fun z => by rw [z, h] at e; cases e) e) (dqs_noL h ds n t)
theorem dqs_noL {H : Hp} {D : Addr} {acc : List V} (h : H D = some (.lst acc)) : ∀ {vs : List V} (ds : List PyData), noLists ds = true → DqAll H vs ds → DqAll (TkS.Off D H) vs ds
  | _, [], _, .nil => .nil
  | _, d :: ds, n, .cons k t => .cons (dq_noL h d (by
      have n' : (noList d && noLists ds) = true := n
      exact (Bool.and_eq_true_iff.mp n').1) k) (dqs_noL h ds (by
      have n' : (noList d && noLists ds) = true := n
      exact (Bool.and_eq_true_iff.mp n').2) t)
end
/-! a hand (a list of a list and three ints) is no part of other data -/
def handD : PyData → Bool
  | .list [_, .int _, .int _, .int _] => true
  | _ => false
mutual
def noHand : PyData → Bool
  | .list ds => !handD (.list ds) && noHands ds
  | .tuple ds => noHands ds
  | _ => true
def noHands : List PyData → Bool
  | [] => true
  | d :: ds => noHand d && noHands ds
end
mutual
theorem dq_hand {H H' : Hp} {h : Addr} {c : V} {p r t : Int} (hh : H h = some (.lst [c, .int p, .int r, .int t])) (k : ∀ b o, b ≠ h → H b = some o → H' b = some o) : ∀ {v : V} (d : PyData), noHand d = true → Dq H v d → Dq H' v d
  | _, .none, _, .non => .non
  | _, .bool _, _, .bl b => .bl b
  | _, .int _, _, .int i => .int i
  | _, .str _, _, .str x => .str x
  | _, .list ds, n, .lst e u => by
    have n' : (!handD (.list ds) && noHands ds) = true := n
    obtain ⟨n1, n2⟩ := Bool.and_eq_true_iff.mp n'
    refine .lst (k _ _ (fun z => ?_) e) (dqs_hand hh k ds n2 u)
    rw [z, hh] at e
    cases e
    cases u with
    | cons u0 u =>
      cases u with
      | cons u1 u =>
        cases u with
        | cons u2 u =>
          cases u with
          | cons u3 u =>
            cases u
            cases u1
            cases u2
            cases u3
            exact absurd n1 (by simp [handD])
  | _, .tuple ds, n, .tup e u => .tup (k _ _ (fun z => by rw [z, hh] at e; cases e) e) (dqs_hand hh k ds n u)
theorem dqs_hand {H H' : Hp} {h : Addr} {c : V} {p r t : Int} (hh : H h = some (.lst [c, .int p, .int r, .int t])) (k : ∀ b o, b ≠ h → H b = some o → H' b = some o) : ∀ {vs : List V} (ds : List PyData), noHands ds = true → DqAll H vs ds → DqAll H' vs ds
  | _, [], _, .nil => .nil
  | _, d :: ds, n, .cons u v => .cons (dq_hand hh k d (by
      have n' : (noHand d && noHands ds) = true := n
      exact (Bool.and_eq_true_iff.mp n').1) u) (dqs_hand hh k ds (by
      have n' : (noHand d && noHands ds) = true := n
      exact (Bool.and_eq_true_iff.mp n').2) v)
end
end TkS
set_option Elab.async false
set_option linter.all false
set_option maxRecDepth 100000
set_option maxHeartbeats 4000000
/-! len(set(xs)), xs a list of tuples of ints -/
namespace TkS
open PySem PySem.Spec PyProof.Rows L2
def rLenSetT (P : Program) (w : World) : List V → Hp → VK → Prop := fun xs H Q => ∃ (a : Addr) (L : List (Addr × List Int)), xs = [.ref a] ∧ H a = some (SetTO P w a L) ∧ (∀ p ∈ L, ∃ ys, H p.1 = some (.tup ys) ∧ ys = p.2.map V.int) ∧ ((L.map (·.2)).Nodup → Q (.int (L.length : Int)) H)
theorem call_lenSetT {X : Cx} : CallR X (.builtin "len") (rLenSetT X.prog X.w) := by
  intro pins s σ H xs us Q I r h
  obtain ⟨a, L, rfl, ha, ht, q⟩ := h
  obtain ⟨u, rfl, rx⟩ := vals1 r
  cases rx
  have R0 : SetT0 X.prog X.w s.heap a L := (I.hok a _ ha).1
  obtain ⟨es, ep, t, R⟩ := R0.full fun p hp => by
    obtain ⟨ys, h1, h2⟩ := ht p hp
    subst h2
    exact I.isT (.inl (.inl h1))
  obtain ⟨o, ho, hex, hd⟩ := R.ob
  have hsz := R.size
  have few := R.few
  refine call_len_set ho hex hd R.fits (by rw [hsz]; omega) ⟨.int (L.length : Int), H, I.tok _, ⟨_, by rw [hsz]⟩, q R.nd⟩
theorem nd_le {α : Type} [DecidableEq α] : ∀ {A B : List α}, A.Nodup → (∀ x ∈ A, x ∈ B) → A.length ≤ B.length
  | [], _, _, _ => Nat.zero_le _
  | a :: A, B, n, s => by
    have ha := s a List.mem_cons_self
    have n2 := List.nodup_cons.mp n
    have := nd_le (A := A) (B := B.erase a) n2.2 fun x m => (List.mem_erase_of_ne (show x ≠ a from fun z => by subst z; exact n2.1 m)).mpr (s x (List.mem_cons_of_mem _ m))
    have e := (List.perm_cons_erase ha).length_eq
    simp only [List.length_cons] at e ⊢
    omega
theorem nd_perm {α : Type} [DecidableEq α] : ∀ {A B : List α}, A.Nodup → (∀ x ∈ A, x ∈ B) → A.length = B.length → A.Perm B
  | [], B, _, _, e => by
    have : B = [] := List.length_eq_zero_iff.mp e.symm
    rw [this]
  | a :: A, B, n, s, e => by
    have ha := s a List.mem_cons_self
    have n2 := List.nodup_cons.mp n
    have pe := List.perm_cons_erase ha
    have e2 := pe.length_eq
    simp only [List.length_cons] at e e2
    exact ((nd_perm (A := A) (B := B.erase a) n2.2 (fun x m => (List.mem_erase_of_ne (show x ≠ a from fun z => by subst z; exact n2.1 m)).mpr (s x (List.mem_cons_of_mem _ m))) (by omega)).cons a).trans pe.symm
theorem nd_iff {α : Type} [DecidableEq α] {A B : List α} (n : A.Nodup) (s : ∀ x ∈ A, x ∈ B) (s' : ∀ x ∈ B, x ∈ A) : A.length = B.length ↔ B.Nodup :=
  ⟨fun e => (nd_perm n s e).nodup_iff.mp n, fun nb => Nat.le_antisymm (nd_le n s) (nd_le nb s')⟩
end TkS
set_option Elab.async false
set_option linter.all false
set_option maxRecDepth 100000
set_option maxHeartbeats 4000000
namespace K25
open TkS
/-! primes -/
def Pr (p : Nat) : Prop := 2 ≤ p ∧ ∀ d, 2 ≤ d → d < p → ¬ d ∣ p
theorem Pr.two {p : Nat} (h : Pr p) : 2 ≤ p := h.1
theorem pr_cop {p a : Nat} (h : Pr p) (na : ¬ p ∣ a) : Nat.gcd p a = 1 := by
  have p0 := h.1
  have g1 := Nat.gcd_dvd_left p a
  have g2 := Nat.gcd_dvd_right p a
  have gp : 0 < Nat.gcd p a := Nat.gcd_pos_of_pos_left a (by omega)
  have gl : Nat.gcd p a ≤ p := Nat.le_of_dvd (by omega) g1
  by_cases c : Nat.gcd p a = 1
  · exact c
  · by_cases c2 : Nat.gcd p a = p
    · rw [c2] at g2
      exact absurd g2 na
    · exact absurd g1 (h.2 _ (by omega) (by omega))
theorem euclid {p a b : Nat} (h : Pr p) (hd : p ∣ a * b) (na : ¬ p ∣ a) : p ∣ b :=
  Nat.Coprime.dvd_of_dvd_mul_left (pr_cop h na) hd
theorem cancel0 {p a b c : Nat} (h : Pr p) (na : ¬ p ∣ a) (le : b ≤ c) (e : a * b % p = a * c % p) : b % p = c % p := by
  have z := Nat.sub_mod_eq_zero_of_mod_eq e.symm
  rw [← Nat.mul_sub] at z
  obtain ⟨k, hk⟩ := euclid h (Nat.dvd_of_mod_eq_zero z) na
  have : c = b + p * k := by omega
  rw [this, Nat.add_mul_mod_self_left]
theorem cancel {p a b c : Nat} (h : Pr p) (na : ¬ p ∣ a) (e : a * b % p = a * c % p) : b % p = c % p := by
  rcases Nat.le_total b c with l | l
  · exact cancel0 h na l e
  · exact (cancel0 h na l e.symm).symm
/-! products -/
def prodL (l : List Nat) : Nat := l.foldr (fun x a => x * a) 1
theorem prod_perm {l m : List Nat} (h : l.Perm m) : prodL l = prodL m := by
  induction h with
  | nil => rfl
  | cons x _ ih => exact congrArg (x * ·) ih
  | swap x y l => exact Nat.mul_left_comm _ _ _
  | trans _ _ h1 h2 => exact h1.trans h2
theorem prod_mul (p a : Nat) : ∀ l : List Nat, prodL (l.map fun x => a * x % p) % p = a ^ l.length * prodL l % p
  | [] => by simp [prodL]
  | x :: l => by
    have ih := prod_mul p a l
    show (a * x % p) * prodL (l.map fun x => a * x % p) % p = a ^ (l.length + 1) * (x * prodL l) % p
    rw [Nat.mul_mod, ih, Nat.mod_mod, ← Nat.mul_mod]
    congr 1
    rw [Nat.pow_succ]
    rw [Nat.mul_mul_mul_comm, Nat.mul_comm a (a ^ l.length)]
theorem prod_not {p : Nat} (h : Pr p) : ∀ l : List Nat, (∀ x ∈ l, ¬ p ∣ x) → ¬ p ∣ prodL l
  | [], _ => fun z => by
    have := Nat.le_of_dvd (by decide) z
    have := h.1
    have e : prodL [] = 1 := rfl
    omega
  | x :: l, hx => fun z => prod_not h l (fun y hy => hx y (List.mem_cons_of_mem _ hy)) (euclid h z (hx x (List.mem_cons_self ..)))
def resL (p : Nat) : List Nat := (List.range (p - 1)).map (· + 1)
theorem res_mem {p x : Nat} : x ∈ resL p ↔ 0 < x ∧ x < p := by
  unfold resL
  rw [List.mem_map]
  refine ⟨fun ⟨i, hi, e⟩ => ?_, fun ⟨h0, h1⟩ => ⟨x - 1, List.mem_range.mpr (by omega), by omega⟩⟩
  have := List.mem_range.mp hi
  omega
theorem res_nd (p : Nat) : (resL p).Nodup := by
  unfold resL
  refine List.Pairwise.map _ (fun a b (h : a ≠ b) => ?_) List.nodup_range
  omega
theorem not_dvd {p x : Nat} (h0 : 0 < x) (h1 : x < p) : ¬ p ∣ x := fun z => by
  have := Nat.le_of_dvd h0 z
  omega
theorem fermat {p a : Nat} (h : Pr p) (na : ¬ p ∣ a) : a ^ (p - 1) % p = 1 := by
  have p0 := h.1
  have nd : ((resL p).map fun x => a * x % p).Nodup := by
    refine List.pairwise_map.mpr ?_
    refine List.Pairwise.imp_of_mem ?_ (res_nd p)
    intro x y hx hy ne e
    have := cancel h na e
    have hx' := res_mem.mp hx
    have hy' := res_mem.mp hy
    rw [Nat.mod_eq_of_lt hx'.2, Nat.mod_eq_of_lt hy'.2] at this
    exact ne this
  have sub : ∀ x ∈ (resL p).map (fun x => a * x % p), x ∈ resL p := fun x hx => by
    obtain ⟨y, hy, rfl⟩ := List.mem_map.mp hx
    have hy' := res_mem.mp hy
    refine res_mem.mpr ⟨?_, Nat.mod_lt _ (by omega)⟩
    refine Nat.pos_of_ne_zero fun z => ?_
    exact not_dvd hy'.1 hy'.2 (euclid h (Nat.dvd_of_mod_eq_zero z) na)
  have pm := prod_perm (nd_perm nd sub (List.length_map _))
  have len : (resL p).length = p - 1 := by
    unfold resL
    rw [List.length_map, List.length_range]
  have e := prod_mul p a (resL p)
  rw [pm, len] at e
  have nl := prod_not h (resL p) fun x hx => not_dvd (res_mem.mp hx).1 (res_mem.mp hx).2
  have c := cancel (b := 1) (c := a ^ (p - 1)) h nl (by rw [Nat.mul_one, Nat.mul_comm (prodL _) (a ^ _)]; exact e)
  rw [← c, Nat.mod_eq_of_lt (by omega)]
/-! exponents -/
theorem pow_red {p a : Nat} (h : Pr p) (na : ¬ p ∣ a) (n : Nat) : a ^ n % p = a ^ (n % (p - 1)) % p := by
  have e : n = (p - 1) * (n / (p - 1)) + n % (p - 1) := (Nat.div_add_mod n (p - 1)).symm
  have z : (a ^ (p - 1)) ^ (n / (p - 1)) % p = 1 := by
    rw [Nat.pow_mod, fermat h na, Nat.one_pow, Nat.mod_eq_of_lt (by have := h.1; omega)]
  conv => lhs; rw [e, Nat.pow_add, Nat.pow_mul, Nat.mul_mod, z, Nat.one_mul, Nat.mod_mod]
theorem pow_not {p a : Nat} (h : Pr p) (na : ¬ p ∣ a) : ∀ n, ¬ p ∣ a ^ n
  | 0 => fun z => by
    have := Nat.le_of_dvd (show 0 < a ^ 0 from Nat.one_pos) z
    have := h.1
    have e : a ^ 0 = 1 := rfl
    omega
  | n + 1 => fun z => by
    rw [Nat.pow_succ, Nat.mul_comm] at z
    exact pow_not h na n (euclid h z na)
theorem pow_inv {p a : Nat} (h : Pr p) (na : ¬ p ∣ a) : a ^ (p - 2) * a % p = 1 := by
  rw [← Nat.pow_succ, show (p - 2).succ = p - 1 by have := h.1; omega]
  exact fermat h na
/-! the powers of a source are all numbers but 0 -/
theorem pow_gcd {p g : Nat} (hp : 2 ≤ p) : ∀ m n, g ^ m % p = 1 → g ^ n % p = 1 → g ^ (Nat.gcd m n) % p = 1 := fun m n => by
  induction m, n using Nat.gcd.induction with
  | H0 n =>
    intro _ h
    rw [Nat.gcd_zero_left]
    exact h
  | H1 m n hm ih =>
    intro h1 h2
    rw [Nat.gcd_rec]
    refine ih ?_ h1
    have e : g ^ n = (g ^ m) ^ (n / m) * g ^ (n % m) := by
      rw [← Nat.pow_mul, ← Nat.pow_add, Nat.div_add_mod]
    rw [e, Nat.mul_mod, Nat.pow_mod, h1, Nat.one_pow, Nat.mod_eq_of_lt (show 1 < p by omega), Nat.one_mul, Nat.mod_mod] at h2
    exact h2
/-- some prime divides a number from 2 on -/
theorem has_pr : ∀ n, 2 ≤ n → ∃ q, Pr q ∧ q ∣ n := fun n => by
  induction n using Nat.strongRecOn with
  | ind n ih =>
    intro h
    by_cases c : Pr n
    · exact ⟨n, c, Nat.dvd_refl n⟩
    · have : ∃ d, 2 ≤ d ∧ d < n ∧ d ∣ n := by
        refine Classical.byContradiction fun z => c ⟨h, fun d h1 h2 h3 => z ⟨d, h1, h2, h3⟩⟩
      obtain ⟨d, h1, h2, h3⟩ := this
      obtain ⟨q, hq, hd⟩ := ih d h2 h1
      exact ⟨q, hq, Nat.dvd_trans hd h3⟩
def Src (p g : Nat) : Prop := ∀ q, Pr q → q ∣ p - 1 → g ^ ((p - 1) / q) % p ≠ 1
theorem src_ord {p g m : Nat} (h : Pr p) (ng : ¬ p ∣ g) (s : Src p g) (m0 : 0 < m) (m1 : m < p - 1) : g ^ m % p ≠ 1 := fun e => by
  have p0 := h.1
  have eg := pow_gcd p0 m (p - 1) e (fermat h ng)
  have dl := Nat.gcd_dvd_left m (p - 1)
  have dr := Nat.gcd_dvd_right m (p - 1)
  have d0 : 0 < Nat.gcd m (p - 1) := Nat.gcd_pos_of_pos_left _ m0
  have dm : Nat.gcd m (p - 1) ≤ m := Nat.le_of_dvd m0 dl
  generalize Nat.gcd m (p - 1) = d at eg dr d0 dm
  obtain ⟨k, hk⟩ := dr
  have k2 : 2 ≤ k := by
    refine Classical.byContradiction fun z => ?_
    have : k = 0 ∨ k = 1 := by omega
    rcases this with e | e <;> subst e <;> omega
  obtain ⟨q, hq, hd⟩ := has_pr k k2
  obtain ⟨j, hj⟩ := hd
  have q0 := hq.1
  refine s q hq ⟨d * j, by rw [hk, hj, Nat.mul_left_comm]⟩ ?_
  rw [hk, hj, Nat.mul_left_comm, Nat.mul_div_cancel_left _ (by omega), Nat.pow_mul, Nat.pow_mod, eg, Nat.one_pow, Nat.mod_eq_of_lt (by omega)]
theorem src_inj {p g i j : Nat} (h : Pr p) (ng : ¬ p ∣ g) (s : Src p g) (hi : i < j) (hj : j < p - 1) : g ^ i % p ≠ g ^ j % p := fun e => by
  have e2 : g ^ i * 1 % p = g ^ i * g ^ (j - i) % p := by
    rw [Nat.mul_one, ← Nat.pow_add, Nat.add_sub_cancel' (Nat.le_of_lt hi)]
    exact e
  have c := cancel h (pow_not h ng i) e2
  rw [Nat.mod_eq_of_lt (show 1 < p by have := h.1; omega)] at c
  exact src_ord h ng s (by omega) (by omega) c.symm
theorem src_all {p g x : Nat} (h : Pr p) (ng : ¬ p ∣ g) (s : Src p g) (x0 : 0 < x) (x1 : x < p) : ∃ n, n < p - 1 ∧ g ^ n % p = x := by
  have p0 := h.1
  have nd : ((List.range (p - 1)).map fun n => g ^ n % p).Nodup := by
    refine List.pairwise_iff_getElem.mpr fun i j hi hj lt => ?_
    rw [List.length_map, List.length_range] at hi hj
    rw [List.getElem_map, List.getElem_map, List.getElem_range, List.getElem_range]
    exact src_inj h ng s lt hj
  have sub : ∀ y ∈ (List.range (p - 1)).map (fun n => g ^ n % p), y ∈ resL p := fun y hy => by
    obtain ⟨n, hn, rfl⟩ := List.mem_map.mp hy
    refine res_mem.mpr ⟨Nat.pos_of_ne_zero fun z => pow_not h ng n (Nat.dvd_of_mod_eq_zero z), Nat.mod_lt _ (by omega)⟩
  have pm := nd_perm nd sub (by unfold resL; rw [List.length_map, List.length_map])
  obtain ⟨n, hn, e⟩ := List.mem_map.mp (pm.mem_iff.mpr (res_mem.mpr ⟨x0, x1⟩))
  exact ⟨n, List.mem_range.mp hn, e⟩
/-! sources are there: reckoned for all primes to 20479 -/
def lfF (n : Nat) : Nat → Nat → Nat
  | 0, _ => n
  | f + 1, d => bif Nat.blt n (d * d) then n else bif Nat.beq (n % d) 0 then d else lfF n f (d + 1)
def lf (n : Nat) : Nat := lfF n 150 2
def parts : Nat → Nat → List Nat
  | 0, _ => []
  | f + 1, n => bif Nat.blt n 2 then [] else lf n :: parts f (n / lf n)
def isSrc (p g : Nat) : List Nat → Bool
  | [] => true
  | q :: l => bif Nat.beq (g ^ ((p - 1) / q) % p) 1 then false else isSrc p g l
def srcF (p : Nat) (l : List Nat) : Nat → Nat → Bool
  | 0, _ => false
  | f + 1, g => bif Nat.blt g p then (bif isSrc p g l then true else srcF p l f (g + 1)) else false
def good (p : Nat) : Bool := bif Nat.blt p 3 then true else bif Nat.beq (lf p) p then srcF p (parts 15 (p - 1)) 100 1 else true
def allR (f : Nat → Bool) : Nat → Nat → Bool
  | 0, lo => f lo
  | k + 1, lo => bif allR f k lo then allR f k (lo + 2 ^ k) else false
theorem allR_at {f : Nat → Bool} : ∀ k lo, allR f k lo = true → ∀ n, lo ≤ n → n < lo + 2 ^ k → f n = true
  | 0, lo, h, n, h0, h1 => by
    have : n = lo := by rw [Nat.pow_zero] at h1; omega
    rw [this]
    exact h
  | k + 1, lo, h, n, h0, h1 => by
    unfold allR at h
    cases c : allR f k lo with
    | false => rw [c] at h; cases h
    | true =>
      rw [c] at h
      rw [Nat.pow_succ] at h1
      rcases Nat.lt_or_ge n (lo + 2 ^ k) with l | l
      · exact allR_at k lo c n h0 l
      · exact allR_at k (lo + 2 ^ k) h n l (by omega)
/-- the least divisor from 2 on -/
def LF (n r : Nat) : Prop := 2 ≤ r ∧ r ∣ n ∧ ∀ d, 2 ≤ d → d < r → ¬ d ∣ n
theorem LF.pr {n r : Nat} (h : LF n r) : Pr r := ⟨h.1, fun d h1 h2 h3 => h.2.2 d h1 h2 (Nat.dvd_trans h3 h.2.1)⟩
theorem LF.uniq {n r s : Nat} (h : LF n r) (k : LF n s) : r = s := by
  rcases Nat.lt_trichotomy r s with c | c | c
  · exact absurd h.2.1 (k.2.2 r h.1 c)
  · exact c
  · exact absurd k.2.1 (h.2.2 s k.1 c)
theorem LF.self {n : Nat} : LF n n ↔ Pr n := ⟨fun h => h.pr, fun h => ⟨h.1, Nat.dvd_refl n, h.2⟩⟩
theorem lf_big {n d : Nat} (hn : 2 ≤ n) (hs : n < d * d) (no : ∀ e, 2 ≤ e → e < d → ¬ e ∣ n) : LF n n := by
  refine ⟨hn, Nat.dvd_refl n, fun e e2 en ⟨k, hk⟩ => ?_⟩
  have ed : d ≤ e := Nat.le_of_not_lt fun z => no e e2 z ⟨k, hk⟩
  have k2 : 2 ≤ k := by
    refine Classical.byContradiction fun z => ?_
    have : k = 0 ∨ k = 1 := by omega
    rcases this with c | c <;> subst c <;> omega
  have kd : k < d := by
    refine Classical.byContradiction fun z => ?_
    have : d * d ≤ e * k := Nat.mul_le_mul ed (Nat.le_of_not_lt z)
    omega
  exact no k k2 kd ⟨e, by rw [hk, Nat.mul_comm]⟩
theorem lfF_ok {n : Nat} (hn : 2 ≤ n) : ∀ f d, 2 ≤ d → n < (d + f) * (d + f) → (∀ e, 2 ≤ e → e < d → ¬ e ∣ n) → LF n (lfF n f d)
  | 0, d, _, hs, no => lf_big hn hs no
  | f + 1, d, d2, hs, no => by
    unfold lfF
    cases c : Nat.blt n (d * d) with
    | true => exact lf_big hn (Nat.blt_eq.mp c) no
    | false =>
      cases c2 : Nat.beq (n % d) 0 with
      | true => exact ⟨d2, Nat.dvd_of_mod_eq_zero (Nat.eq_of_beq_eq_true c2), no⟩
      | false =>
        refine lfF_ok hn f (d + 1) (by omega) (by rw [Nat.add_assoc, Nat.add_comm 1 f]; exact hs) fun e e2 ed hd => ?_
        rcases Nat.lt_or_ge e d with l | l
        · exact no e e2 l hd
        · have : e = d := by omega
          subst this
          exact Nat.ne_of_beq_eq_false c2 (Nat.mod_eq_zero_of_dvd hd)
theorem lf_ok {n : Nat} (h0 : 2 ≤ n) (h1 : n < 23104) : LF n (lf n) := lfF_ok h0 150 2 (by omega) h1 fun e e2 ed => by omega
theorem pr_dvd {q r : Nat} (hr : Pr r) (q2 : 2 ≤ q) (h : q ∣ r) : q = r := by
  have := Nat.le_of_dvd (by have := hr.1; omega) h
  rcases Nat.lt_or_ge q r with l | l
  · exact absurd h (hr.2 q q2 l)
  · omega
theorem parts_all {q : Nat} (hq : Pr q) : ∀ f n, 0 < n → n < 2 ^ f → n < 23104 → q ∣ n → q ∈ parts f n
  | 0, n, h0, h1, _, h => by
    rw [Nat.pow_zero] at h1
    omega
  | f + 1, n, h0, h1, h2, h => by
    have q2 := hq.1
    have qn := Nat.le_of_dvd h0 h
    unfold parts
    cases c : Nat.blt n 2 with
    | true =>
      have := Nat.blt_eq.mp c
      omega
    | false =>
      have L := lf_ok (show 2 ≤ n by omega) h2
      have r2 := L.1
      have pr := L.pr
      obtain ⟨k, hk⟩ := L.2.1
      generalize lf n = r at hk r2 pr
      have ek : n / r = k := by rw [hk]; exact Nat.mul_div_cancel_left _ (by omega)
      show q ∈ r :: parts f (n / r)
      rw [ek]
      by_cases d : q ∣ r
      · rw [pr_dvd pr q2 d]
        exact List.mem_cons_self ..
      · refine List.mem_cons_of_mem _ (parts_all hq f k ?_ ?_ ?_ (euclid hq (by rw [← hk]; exact h) d))
        · refine Nat.pos_of_ne_zero fun z => ?_
          rw [z, Nat.mul_zero] at hk
          omega
        · have : 2 * k ≤ r * k := Nat.mul_le_mul_right k r2
          rw [Nat.pow_succ] at h1
          omega
        · have : 2 * k ≤ r * k := Nat.mul_le_mul_right k r2
          omega
theorem isSrc_at {p g : Nat} : ∀ l, isSrc p g l = true → ∀ q ∈ l, g ^ ((p - 1) / q) % p ≠ 1
  | [], _, q, h => nomatch h
  | r :: l, h, q, hq => by
    unfold isSrc at h
    cases c : Nat.beq (g ^ ((p - 1) / r) % p) 1 with
    | true => rw [c] at h; cases h
    | false =>
      rw [c] at h
      rcases List.mem_cons.mp hq with e | e
      · subst e
        exact Nat.ne_of_beq_eq_false c
      · exact isSrc_at l h q e
theorem srcF_at {p : Nat} {l : List Nat} : ∀ f g, srcF p l f g = true → ∃ g', g ≤ g' ∧ g' < p ∧ isSrc p g' l = true
  | 0, g, h => by cases h
  | f + 1, g, h => by
    unfold srcF at h
    cases c : Nat.blt g p with
    | false => rw [c] at h; cases h
    | true =>
      rw [c] at h
      cases d : isSrc p g l with
      | true => exact ⟨g, Nat.le_refl _, Nat.blt_eq.mp c, d⟩
      | false =>
        rw [d] at h
        obtain ⟨g', h1, h2, h3⟩ := srcF_at f (g + 1) h
        exact ⟨g', by omega, h2, h3⟩
theorem good1 : allR good 12 0 = true := by decide +kernel
theorem good2 : allR good 12 4096 = true := by decide +kernel
theorem good3 : allR good 12 8192 = true := by decide +kernel
theorem good4 : allR good 12 12288 = true := by decide +kernel
theorem good5 : allR good 12 16384 = true := by decide +kernel
theorem all_good {n : Nat} (h : n < 20480) : good n = true := by
  have e : 2 ^ 12 = 4096 := by decide
  rcases Nat.lt_or_ge n 4096 with a | a
  · exact allR_at _ _ good1 n (by omega) (by omega)
  · rcases Nat.lt_or_ge n 8192 with b | b
    · exact allR_at _ _ good2 n a (by omega)
    · rcases Nat.lt_or_ge n 12288 with c | c
      · exact allR_at _ _ good3 n b (by omega)
      · rcases Nat.lt_or_ge n 16384 with d | d
        · exact allR_at _ _ good4 n c (by omega)
        · exact allR_at _ _ good5 n d (by omega)
/-- each prime has a source -/
theorem has_src {p : Nat} (h : Pr p) (l : p < 20480) : ∃ g, 0 < g ∧ g < p ∧ Src p g := by
  have p0 := h.1
  have a := all_good l
  unfold good at a
  cases c : Nat.blt p 3 with
  | true =>
    have := Nat.blt_eq.mp c
    refine ⟨1, by omega, by omega, fun q hq hd => ?_⟩
    have := hq.1
    have := Nat.le_of_dvd (by omega) hd
    omega
  | false =>
    rw [c] at a
    have p3 : 3 ≤ p := by
      refine Nat.le_of_not_lt fun z => ?_
      rw [Nat.blt_eq.mpr z] at c
      cases c
    have e : lf p = p := (lf_ok p0 (by omega)).uniq (LF.self.mpr h)
    have c2 : Nat.beq (lf p) p = true := by
      rw [e]
      exact Nat.beq_refl p
    rw [c2] at a
    obtain ⟨g, h1, h2, h3⟩ := srcF_at 100 1 a
    exact ⟨g, h1, h2, fun q hq hd => isSrc_at _ h3 q (parts_all hq 15 (p - 1) (by omega) (by have : 2 ^ 15 = 32768 := by decide
                                                                                             omega) (by omega) hd)⟩
end K25
set_option Elab.async false
set_option linter.all false
set_option maxRecDepth 100000
set_option maxHeartbeats 4000000
set_option exponentiation.threshold 5000
namespace K25
open PySem PySem.Spec PyProof.Rows L2 TkS
def sp_common_divisor (K : PySem.W.Frag) : Sp := fun vs H Q _ => ∃ a b : Int, vs = [.int a, .int b] ∧ Q (.int ((Nat.gcd a.natAbs b.natAbs : Nat) : Int)) H
def sp_power_of (K : PySem.W.Frag) : Sp := fun vs H Q _ => ∃ (b : Int) (e : Nat), vs = [.int b, .int (e : Int)] ∧ b.natAbs ≤ 2 ^ 67 ∧ e ≤ 40 ∧ Q (.int (b ^ e)) H
def sp_least_factor : Sp := fun vs H Q _ => ∃ n : Nat, vs = [.int (n : Int)] ∧ 2 ≤ n ∧ n ≤ 100000 ∧ ∀ r : Nat, LF n r → Q (.int (r : Int)) H
def primeD : PyData → Bool
  | .int i => decide (2 ≤ i) && decide (i ≤ 20000) && Nat.beq (lf i.toNat) i.toNat
  | _ => false
def sp_is_prime : Sp := fun vs H Q _ => ∃ x d, vs = [x] ∧ Dq H x d ∧ Q (.bl (primeD d)) H
section
variable {P : Program} {w : World} {K : PySem.W.Frag} {mg : Str → Option Value} {base : Heap}
theorem ok_common_divisor (T : Txt K mg) : FnOk P w K mg base CX0 1 T.f_common_divisor T.d_common_divisor ["one", "other"] (sp_common_divisor K) := by
  refine T.F_common_divisor.ok sc_common_divisor (fun vs H Q E h => ?_) (fun cdv A outer s H vs Q E hr h => ?_)
  · obtain ⟨a, b, rfl, _⟩ := h
    rfl
  · obtain ⟨a, b, rfl, q⟩ := h
    refine ⟨_, (pss_one (ps_ret (pe_callBfun cr_gcd rfl T.x_gcd (pa_cons (pv 0) (pa_cons (pv 1) pa_nil))))), ?_⟩
    exact ⟨_, rfl, _, rfl, a, b, rfl, q⟩
theorem pow_bits {b : Int} (h : b.natAbs ≤ 2 ^ 67) (m : Nat) : (b ^ m).natAbs ≤ 2 ^ (67 * m) := by
  rw [Int.natAbs_pow, Nat.pow_mul]
  exact Nat.pow_le_pow_left h m
theorem pow_mulW {b : Int} (h : b.natAbs ≤ 2 ^ 67) {m n : Nat} (hm : m ≤ 5000) (hn : n ≤ 5000) : CMulW (b ^ m) (b ^ n) := by
  have x : ∀ k : Nat, k ≤ 5000 → (b ^ k).natAbs < 2 ^ (67 * k + 1) := fun k _ => Nat.lt_of_le_of_lt (pow_bits h k) (Nat.pow_lt_pow_right (by decide) (by omega))
  exact wide_mul (x m hm) (x n hn) (by omega) (by omega) (by omega)
theorem ok_power_of (T : Txt K mg) : FnOk P w K mg base CX0 1 T.f_power_of T.d_power_of ["base", "exponent"] (sp_power_of K) := by
  refine T.F_power_of.ok sc_power_of (fun vs H Q E h => ?_) (fun cdv A outer s H vs Q E hr h => ?_)
  · obtain ⟨a, b, rfl, _⟩ := h
    rfl
  · obtain ⟨b, e, rfl, hb, he, q⟩ := h
    refine ⟨_, (pss_cons (ps_set (i := 2) sc_power_of.nd rfl (.inl rfl) pe_int)
      (pss_cons (ps_while PassesOwn.never (pt_cmpR op_gt (pv 1) pe_int (nomark _))
        (pss_cons (ps_if (pt_cmpR op_eq (pe_op op_mod (pv 1) pe_int) pe_int (nomark _))
          (pss_one (ps_set (i := 2) sc_power_of.nd rfl (.inl rfl) (pe_op op_mulW (pv 2) (pv 0))))
          pss_nil)
        (pss_cons (ps_set (i := 1) sc_power_of.nd rfl (.inl rfl) (pe_op op_fdiv (pv 1) pe_int))
        (pss_one (ps_if (pt_cmpR op_gt (pv 1) pe_int (nomark _))
          (pss_one (ps_set (i := 0) sc_power_of.nd rfl (.inl rfl) (pe_op op_mulW (pv 0) (pv 0))))
          pss_nil)))))
      (pss_one (ps_ret (pv 2))))), ?_⟩
    refine ⟨fun m σ H' => ∃ k n l : Nat, σ = [some (.int (b ^ k)), some (.int (l : Int)), some (.int (b ^ n))] ∧ H = H' ∧ n + k * l = e ∧ m = l ∧ k ≤ 40, ⟨e, 1, 0, e, by simp only [Int.pow_one, Int.pow_zero]; rfl, rfl, by omega, rfl, by decide⟩, fun m σ H' hW => ?_⟩
    obtain ⟨k, n, l, rfl, rfl, hs, rfl, hk⟩ := hW
    refine ⟨_, rfl, m, 0, rfl, rfl, _, rfl, ite2 (fun c => ?_) (fun c => ?_)⟩
    · have hpos : (0 : Int) < (m : Int) := of_decide_eq_true c
      have hl1 : 1 ≤ m := by omega
      have hke : k ≤ k * m := Nat.le_mul_of_pos_right k hl1
      refine ⟨fun σ' H' => ∃ m', m' < m ∧ ∃ k n l : Nat, σ' = [some (.int (b ^ k)), some (.int (l : Int)), some (.int (b ^ n))] ∧ H = H' ∧ n + k * l = e ∧ m' = l ∧ k ≤ 40, fun σ' H' hN => hN, ?_⟩
      have dm : m = 2 * (m / 2) + m % 2 := by omega
      have ed : ((m : Int) / 2) = ((m / 2 : Nat) : Int) := rfl
      -- what follows the first if, by the power that the result holds
      have rest : ∀ n' : Nat, n' + k * (2 * (m / 2)) = e → (tSeq (tAsg (tOp (rI CDiv fun i j => V.int (i / j)) (tVar 1) (tC (V.int 2))) (gName 1)) (tIfS (tTest (tOp (rI0 fun i j => V.bl (decide (j < i))) (tVar 1) (tC (V.int 0)))) (tAsg (tOp (rI CMulW fun i j => V.int (i * j)) (tVar 0) (tVar 0)) (gName 0)) tNext))
          { nx := fun σ' H' => ∃ m', m' < m ∧ ∃ k n l : Nat, σ' = [some (.int (b ^ k)), some (.int (l : Int)), some (.int (b ^ n))] ∧ H = H' ∧ n + k * l = e ∧ m' = l ∧ k ≤ 40, ct := fun σ' H' => ∃ m', m' < m ∧ ∃ k n l : Nat, σ' = [some (.int (b ^ k)), some (.int (l : Int)), some (.int (b ^ n))] ∧ H = H' ∧ n + k * l = e ∧ m' = l ∧ k ≤ 40, rt := Q }
          [some (.int (b ^ k)), some (.int (m : Int)), some (.int (b ^ n'))] H := by
        intro n' hn'
        refine ⟨_, rfl, m, 2, rfl, rfl, ⟨by decide, by decide⟩, _, rfl, (m : Int) / 2, 0, rfl, rfl, _, rfl, ite2 (fun c2 => ?_) (fun c2 => ?_)⟩
        · have h2 : (0 : Int) < (m : Int) / 2 := of_decide_eq_true c2
          have hl2 : 1 ≤ m / 2 := by omega
          have hk2 : k * 2 ≤ k * (2 * (m / 2)) := Nat.mul_le_mul_left k (by omega)
          refine ⟨_, rfl, _, rfl, _, _, rfl, rfl, pow_mulW hb (by omega) (by omega), m / 2, by omega, k * 2, n', m / 2, ?_, rfl, ?_, rfl, by omega⟩
          · rw [show k * 2 = k + k by omega, Int.pow_add]
            rfl
          · rw [Nat.mul_assoc]
            exact hn'
        · have h2 : ¬ (0 : Int) < (m : Int) / 2 := fun z => c2 (decide_eq_true z)
          have h0 : m / 2 = 0 := by omega
          refine ⟨m / 2, by omega, k, n', m / 2, rfl, rfl, ?_, rfl, hk⟩
          rw [h0] at hn' ⊢
          exact hn'
      refine ⟨_, rfl, m, 2, rfl, rfl, (show (0 : Int) < 2 by decide), rfl, _, rfl, ite2 (fun c2 => ?_) (fun c2 => ?_)⟩
      · have h1 : (m : Int) % 2 = 1 := V.int.inj (of_decide_eq_true c2)
        have hm1 : m % 2 = 1 := by omega
        have hn1 : n + k + k * (2 * (m / 2)) = e := by
          rw [← hs]
          have e1 : k * m = k * (2 * (m / 2)) + k := by
            conv => lhs; rw [dm, hm1]
            rw [Nat.mul_add, Nat.mul_one]
          omega
        refine ⟨_, rfl, _, rfl, _, _, rfl, rfl, pow_mulW hb (by omega) (by omega), ?_⟩
        have r := rest (n + k) hn1
        rw [Int.pow_add] at r
        exact r
      · have h1 : ¬ (m : Int) % 2 = 1 := fun z => c2 (decide_eq_true (congrArg V.int z))
        have hm0 : m % 2 = 0 := by omega
        refine rest n ?_
        rw [show 2 * (m / 2) = m by omega]
        exact hs
    · have h0 : ¬ (0 : Int) < (m : Int) := fun z => c (decide_eq_true z)
      have hm : m = 0 := by omega
      subst hm
      rw [Nat.mul_zero, Nat.add_zero] at hs
      subst hs
      exact ⟨_, rfl, q⟩
theorem ok_least_factor (T : Txt K mg) : FnOk P w K mg base CX0 1 T.f_least_factor T.d_least_factor ["number"] sp_least_factor := by
  refine T.F_least_factor.ok sc_least_factor (fun vs H Q E h => ?_) (fun cdv A outer s H vs Q E hr h => ?_)
  · obtain ⟨n, rfl, _⟩ := h
    rfl
  · obtain ⟨n, rfl, n2, nb, q⟩ := h
    refine ⟨_, (pss_cons (ps_set (i := 1) sc_least_factor.nd rfl (.inl rfl) pe_int)
      (pss_cons (ps_while PassesOwn.never (pt_cmpR op_le (pe_op op_mulW (pv 1) (pv 1)) (pv 0) (nomark _))
        (pss_cons (ps_if (pt_cmpR op_eq (pe_op op_mod (pv 0) (pv 1)) pe_int (nomark _))
          (pss_one (ps_ret (pv 1)))
          pss_nil)
        (pss_one (ps_set (i := 1) sc_least_factor.nd rfl (.inl rfl) (pe_op op_add (pv 1) pe_int)))))
      (pss_one (ps_ret (pv 0))))), ?_⟩
    refine ⟨fun m σ H' => ∃ f : Nat, σ = [some (.int (n : Int)), some (.int (f : Int))] ∧ H = H' ∧ 2 ≤ f ∧ f ≤ n + 1 ∧ (∀ e, 2 ≤ e → e < f → ¬ e ∣ n) ∧ m = n + 2 - f, ⟨n, 2, rfl, rfl, by omega, by omega, fun e e2 ed => by omega, rfl⟩, fun m σ H' hW => ?_⟩
    obtain ⟨f, rfl, rfl, f2, fn, no, rfl⟩ := hW
    have sq : f * f = f * f := rfl
    refine ⟨_, rfl, _, rfl, f, f, rfl, rfl, wide_mul (a := 40) (b := 40) (by omega) (by omega) (by decide) (by decide) (by decide), _, rfl, _, _, rfl, rfl, _, rfl, ite2 (fun c => ?_) (fun c => ?_)⟩
    · have c' : (f : Int) * f ≤ n := of_decide_eq_true c
      have c2 : f * f ≤ n := by exact_mod_cast c'
      have fl : f ≤ n := Nat.le_trans (Nat.le_mul_of_pos_right f (by omega)) c2
      refine ⟨fun σ' H' => ∃ m', m' < n + 2 - f ∧ ∃ f : Nat, σ' = [some (.int (n : Int)), some (.int (f : Int))] ∧ H = H' ∧ 2 ≤ f ∧ f ≤ n + 1 ∧ (∀ e, 2 ≤ e → e < f → ¬ e ∣ n) ∧ m' = n + 2 - f, fun _ _ z => z, ?_⟩
      refine ⟨_, rfl, _, rfl, n, f, rfl, rfl, (show (0 : Int) < f by omega), rfl, _, rfl, ite2 (fun d => ?_) (fun d => ?_)⟩
      · have d' : (n : Int) % f = 0 := V.int.inj (of_decide_eq_true d)
        have d2 : n % f = 0 := by omega
        exact ⟨_, rfl, q f ⟨f2, Nat.dvd_of_mod_eq_zero d2, no⟩⟩
      · refine ⟨_, rfl, _, _, rfl, rfl, n + 2 - (f + 1), by omega, f + 1, rfl, rfl, by omega, by omega, fun e e2 ef hd => ?_, rfl⟩
        rcases Nat.lt_or_ge e f with l | l
        · exact no e e2 l hd
        · have : e = f := by omega
          subst this
          refine d (decide_eq_true (congrArg V.int ?_))
          have := Nat.mod_eq_zero_of_dvd hd
          omega
    · have c' : ¬ (f : Int) * f ≤ n := fun z => c (decide_eq_true z)
      have c2 : n < f * f := by
        refine Nat.lt_of_not_le fun z => c' ?_
        exact_mod_cast z
      exact ⟨_, rfl, q n (lf_big n2 c2 no)⟩
theorem ok_is_prime (T : Txt K mg) : FnOk P w K mg base CX0 2 T.f_is_prime T.d_is_prime ["number"] sp_is_prime := by
  refine T.F_is_prime.ok sc_is_prime (fun vs H Q E h => ?_) (fun cdv A outer s H vs Q E hr h => ?_)
  · obtain ⟨x, d, rfl, _⟩ := h
    rfl
  · obtain ⟨x, d, rfl, hk, q⟩ := h
    refine ⟨_, (pss_one (ps_ret (pe_and (pe_call (ok_is_whole T) (hr.mono (by decide)) (by rfl) T.g_is_whole T.F_is_whole.kp T.b_is_whole .nil pass0 (pa_cons (pv 0) (pa_cons pe_int (pa_cons (pe_glob (v := .int 20000) rfl T.c_MOST_PRIME ⟨_, rfl⟩) pa_nil)))) (pe_one (pe_cmpR op_eq (pe_call (ok_least_factor T) (hr.mono (by decide)) (by rfl) T.g_least_factor T.F_least_factor.kp T.b_least_factor .nil pass0 (pa_cons (pv 0) pa_nil)) (pv 0) (nomark _)))))), ?_⟩
    refine ⟨_, rfl, x, .int 2, .int 20000, d, rfl, hk, .inr ⟨_, rfl⟩, .inr ⟨_, rfl⟩, _, rfl, ?_⟩
    cases hk with
    | int i =>
      have q' : Q (.bl (decide (2 ≤ i) && decide (i ≤ 20000) && Nat.beq (lf i.toNat) i.toNat)) H := q
      show (if (decide (2 ≤ i) && decide (i ≤ 20000)) = true then _ else _)
      cases c : decide (2 ≤ i) && decide (i ≤ 20000) with
      | false =>
        rw [c, Bool.false_and] at q'
        exact iteF q'
      | true =>
        rw [c, Bool.true_and] at q'
        obtain ⟨c1, c2⟩ := Bool.and_eq_true_iff.mp c
        have i2 := of_decide_eq_true c1
        have i3 := of_decide_eq_true c2
        obtain ⟨n, rfl⟩ : ∃ n : Nat, i = n := ⟨i.toNat, by omega⟩
        rw [Int.toNat_natCast] at q'
        refine iteT ⟨_, rfl, n, rfl, by omega, by omega, fun r hr' => ⟨_, rfl, rfl, ?_⟩⟩
        have er : r = lf n := hr'.uniq (lf_ok (by omega) (by omega))
        subst er
        rw [int_dec]
        have e : decide (((lf n : Nat) : Int) = (n : Int)) = Nat.beq (lf n) n := by
          by_cases z : lf n = n
          · rw [decide_eq_true (by rw [z]), z, Nat.beq_refl]
          · rw [decide_eq_false (fun y => z (by omega))]
            cases b : Nat.beq (lf n) n with
            | false => rfl
            | true => exact absurd (Nat.eq_of_beq_eq_true b) z
        rw [e]
        exact q'
    | _ => exact iteF q
end
end K25
set_option Elab.async false
set_option linter.all false
set_option maxRecDepth 100000
set_option maxHeartbeats 4000000
/-! X() of an own error without __init__; any() of whole numbers; defs and calls that know that nothing is being printed -/
namespace TkS
open PySem PySem.Spec PyProof.Rows L2
theorem pmk_own0 {X : Cx} {C : Addr} {bmB : List Value} {B newId initId : String} {x : Str} {p pos : Pos} (F : ExcBaseFacts B newId initId bmB) (q : PySem.W.excIn X.K C bmB newId = true) (gC : X.mg x = some (.ref C)) (kC : PySem.W.keepIn X.K (.ref C) = true)
    (r : Raises X (.ref C)) (hg : Gl X x) (hdb : (x == ("__debug__" : Str)) = false := by decide) : PMk X (.Call (.Name x p) [] [] pos) (fun _ H Q => Q (.ref C) none H) := by
  intro pins s σ H Q I h
  refine wpAny_Call_Name_kw (ld_glob I hg gC ?_ hdb)
  refine PySem.W.callWith_K0 I.kIn kC ?_
  show wpAny _ _ (call (.ref C) []) _ _ _
  obtain ⟨bm, N, nm, qn, bs, hdct, sn, sub, ab, col, dd, k0, k1, k2, k3, k5, mN, hC, hN, hni, T⟩ := exc_obj I.kIn q
  refine wpAny_call_exc_subT F T hC hN hni (fun h' e hm => ?_) (Nat.zero_le _)
  exact mk_of I hm r h (I.hok.gone hm.new)
theorem truth_ints {prog : Program} {w : World} {A : Around} {ns : List Int} {its : List Value} (e : Vals (ns.map V.int) its) :
    TruthOf prog w A (fun i v => its.toArray[i]? = some v) (fun i => decide (ns.getD i 0 ≠ 0)) := fun i v s Q E hv hq => by
  have hv' : its[i]? = some v := by simpa using hv
  have hi : i < ns.length := by
    have := (List.getElem?_eq_some_iff.mp hv').1
    rw [← e.length, List.length_map] at this
    exact this
  obtain ⟨u, hu, t, rfl⟩ : ∃ u, its[i]? = some u ∧ ∃ t, u = Value.int (ns.getD i 0) t := by
    have h1 : (ns.map V.int)[i]? = some (.int (ns.getD i 0)) := by
      rw [List.getElem?_map, List.getElem?_eq_getElem hi, List.getD_eq_getElem?_getD, List.getElem?_eq_getElem hi]
      rfl
    obtain ⟨u, hu, r⟩ := e.get h1
    exact ⟨u, hu, r⟩
  rw [hv'] at hu
  cases hu
  have hq2 : Q (decide (ns.getD i 0 ≠ 0)) s := hq
  generalize ns.getD i 0 = z at hq2
  have z2 : decide (z ≠ 0) = (z != 0) := by
    by_cases c : z = 0
    · subst c
      rfl
    · rw [decide_eq_true c, bne_iff_ne.mpr c]
  rw [z2] at hq2
  exact PyProof.Rows.truthy_int hq2
theorem any_rangeI : ∀ ns : List Int, (List.range ns.length).any (fun i => decide (ns.getD i 0 ≠ 0)) = ns.any fun z => decide (z ≠ 0)
  | [] => rfl
  | b :: bs => by
    rw [List.length_cons, List.range_succ_eq_map, List.any_cons, List.any_map, List.any_cons, ← any_rangeI bs]
    all_goals rfl
def rAnyI (K : PySem.W.Frag) : List V → Hp → VK → Prop := fun vs H Q => ∃ (a : Addr) (ns : List Int), vs = [V.ref a] ∧ SqL K H a (ns.map V.int) ∧ Q (.bl (ns.any fun z => decide (z ≠ 0))) H
theorem cr_anyI {X : Cx} (hc : X.calm = true) : CallR X (.builtin "any") (rAnyI X.K) := by
  intro pins s σ H vs us Q I r h
  obtain ⟨a, bs, rfl, hs, q⟩ := h
  obtain ⟨its, rv, hl, _⟩ := I.list hs
  rw [Vals.ref1 r]
  refine call_any_walk (iter_any hl.isList fun s₂ e2 st hne => ?_)
  subst e2
  refine ⟨_, _, _, _, _, _, _, rfl, Walks.list (A := X.A.in1) (I.ok.hd hc) _ a hne its.toArray, st, truth_ints rv, fun h' tk hk => ?_⟩
  refine ⟨.bl _, H, I.kept fun b o eo => hk b o (fun hmem => ?_) (Heap.get?_push_of_some _ eo), ?_, q⟩
  · rcases List.mem_cons.mp hmem with e1 | hmem
    · exact absurd (e1 ▸ Heap.lt_size eo) (Nat.lt_irrefl _)
    · cases hmem
  · show Value.bool _ = Value.bool _
    rw [← any_rangeI, List.size_toArray, ← rv.length, List.length_map]
/-- a def's promise where nothing is being printed -/
structure FnG (P : Program) (w : World) (K : PySem.W.Frag) (mg : Str → Option Value) (base : Heap) (CX : CXT) (k : Nat) (f : Addr) (fd : FuncData) (ps : List Str) (sp : Sp) : Prop where
  len : ∀ vs H Q E, sp vs H Q E → vs.length = ps.length
  run : ∀ (A : Around) (outer : List Env) (s : Shared) (H : Hp) (args : Args) (us : List Value) (vs : List V) (Q : VK) (E : XK), A.guards = some [] → Room k A → Env0 P w K mg base A outer s H → BindsTo s fd args (ps.zip us) → Vals vs us → sp vs H Q E →
    codeAny (model P w) A (.call (.ref f) args) (CR CX outer P w H s Q E) s
theorem fnG_of {CX : CXT} {P : Program} {w : World} {K : PySem.W.Frag} {mg : Str → Option Value} {base : Heap} {k : Nat} {f : Addr} {name qual : Str} {params : Arguments} {body : List Stmt} {scope : Scope} {dV kV doc pm cdv ct oc : Value} {an od : Option Addr}
    {osl : Array (Option Value)} {N ps : List Str} {sp : Sp} (lk : K.lookup f = some ⟨oc, od, .func (PySem.W.fnOf name qual params body scope dV kV doc pm an cdv ct), osl⟩) (hcd : PySem.W.codeIn K cdv qual = true) (S : FnScope N ps scope)
    (len : ∀ vs H Q E, sp vs H Q E → vs.length = ps.length)
    (hbody : ∀ (A : Around) (outer : List Env) (s : Shared) (H : Hp) (vs : List V) (Q : VK) (E : XK), A.guards = some [] → Room k (A.deeper (envOfC qual scope s.heap.objs.size f cdv)) → sp vs H Q E →
      ∃ t, PSs (cxOf CX P w K mg base N qual scope f cdv A outer s H E) body t ∧ t { nx := fun _ H' => Q .non H', rt := Q } (start N vs) H) :
    FnG P w K mg base CX (k + 1) f (PySem.W.fnOf name qual params body scope dV kV doc pm an cdv ct) ps sp := by
  refine ⟨len, fun A outer s H args us vs Q E gd hr e0 hb r hsp => ?_⟩
  have hl := len _ _ _ _ hsp
  have KX : K.In s.heap := e0.mod.kin.keeps fun b o e => (e0.bs b o e).1
  have lim : s.heap.NoLimit := e0.mod.nolimit.keeps fun b o e => (e0.bs b o e).1
  have hkind : ∀ y ∈ ps.zip us, scope.names.lookup y.1 = some .local ∨ (scope.names.lookup y.1 = some .cell ∧ ((cellsFrom (s.heap.objs.size + 1) scope.names []).lookup y.1).isSome = true) := fun ⟨n, v⟩ hy => by
    rcases S.par n (List.of_mem_zip hy).1 with q | q
    · exact .inl q
    · exact .inr ⟨q, PySem.W.cellsFrom_some _ _ _ (.inl q)⟩
  refine codeAny_call_function hr.depth (KX _ _ lk) rfl S.co S.gen rfl (PySem.W.codeRec_of KX hcd) (hb _ _ _ _ ?_)
  refine wpAny_newFunctionEnv_cells S.kind hkind fun env he s1 x => ?_
  subst he
  refine ⟨lim.keeps x.toInCall.keep, codeAny_func ?_⟩
  obtain ⟨t, ht, hq⟩ := hbody A outer s H vs Q E gd (hr.deeper _) hsp
  have I : Inv (cxOf CX P w K mg base N qual scope f cdv A outer s H E) [] (start N vs) H s1 := inv_start S hr.hd e0 hl r x
  refine wpAny_mono (ht.run [] s1 (start N vs) H _ I hq) (fun fl s' hs => ?_) fun e s' hs => hs
  have fin : ∀ {σ' : L2.St} {H' : Hp} {v : V} {u : Value}, Inv (cxOf CX P w K mg base N qual scope f cdv A outer s H E) [] σ' H' s' → RelV v u → Q v H' → CE outer P w H s Q u s' :=
    fun {σ' H' v u} J rv q => ⟨v, H', J.os, J.bare, J.base, J.hok, rv, q⟩
  cases fl with
  | ret u =>
    obtain ⟨v, σ', H', J, rv, q⟩ := hs
    exact fin J rv q
  | next =>
    obtain ⟨σ', H', J, q⟩ := hs
    exact fin (v := V.non) (u := Value.none) J rfl q
  | brk =>
    obtain ⟨_, _, _, q⟩ := hs
    exact False.elim q
  | cont =>
    obtain ⟨_, _, _, q⟩ := hs
    exact False.elim q
theorem FnG.of_fun {P : Program} {w : World} {K : PySem.W.Frag} {mg : Str → Option Value} {base : Heap} {x qual : Str} {st : Stmt} {f : Addr} {fd : FuncData} {N ps : List Str} {k : Nat} {sp : Sp} (F : Fun K x qual st f fd) (S : FnScope N ps (defScope st)) (len : ∀ vs H Q E, sp vs H Q E → vs.length = ps.length)
    (hbody : ∀ (cdv : Value) (A : Around) (outer : List Env) (s : Shared) (H : Hp) (vs : List V) (Q : VK) (E : XK), A.guards = some [] → Room k (A.deeper (envOfC qual (defScope st) s.heap.objs.size f cdv)) → sp vs H Q E →
      ∃ t, PSs (cxOf CX0 P w K mg base N qual (defScope st) f cdv A outer s H E).nox (defBody st) t ∧ t { nx := fun _ H' => Q .non H', rt := Q } (start N vs) H) : FnG P w K mg base CX0 (k + 1) f fd ps sp := by
  obtain ⟨oc, od, kV, doc, pm, an, cdv, ct, osl, rfl, lk, hcd⟩ := F.ex
  refine fnG_of lk hcd S len fun A outer s H vs Q E gd hr hsp => ?_
  obtain ⟨t, h, q⟩ := hbody cdv A outer s H vs Q E gd hr hsp
  exact ⟨t, h.nox, q⟩
section
variable {X : Cx} {CX : CXT} {k : Nat} {f : Addr} {fd : FuncData} {ps : List Str} {sp : Sp} {dvs : List V} {ds : List Value} {E : XK} {x : Str} {p pos : Pos} {e : Expr} {es : List Expr} {t : TA}
theorem pe_callG (gd : X.A.guards = some []) (F : FnG X.prog X.w X.K X.mg X.base CX k f fd ps sp) (hr : Room k X.A) (hg : Gl X x) (hm : X.mg x = some (.ref f)) (hk : PySem.W.keepIn X.K (.ref f) = true) (hb : Binds X.K fd ps ds) (hd : Vals dvs ds) (hx : Passes CX X E)
    (ha : PA X (e :: es) t) (hdb : (x == ("__debug__" : Str)) = false := by decide) (he : starEach (e :: es) X.env = (false, eval e X.env) :: starEach es X.env := by rfl) (hpl : (backTo pos (starEach es X.env)).any (·.1) = false := by rfl) :
    PE X (.Call (.Name x p) (e :: es) [] pos) (tCall sp dvs E t) := by
  refine ⟨fun pins s σ H Q I h => ?_⟩
  refine wpAny_Call_Name_kw (ld_glob I hg hm ?_ hdb)
  refine PySem.W.callWith_K (h₀ := X.base) I.ok.mod.kin hk (thn (ha.run pos pins s σ H _ I h) fun us s1 ⟨vs, H1, I1, r, q⟩ => ⟨I1.kIn, ?_⟩) he hpl
  have r2 : Vals (vs ++ dvs) (us ++ ds) := r.append hd
  have hl : (us ++ ds).length = ps.length := by rw [← r2.length]; exact F.len _ _ _ _ q
  refine wpAny_call (codeAny_mono (F.run X.A X.stack s1 H1 ⟨us, []⟩ (us ++ ds) (vs ++ dvs) Q E gd hr I1.env0 (hb s1 us I1.kIn hl) r2 q) fun r s' hq => ?_)
  cases r with
  | error e => exact hx pins σ H1 s1 e s' I1 hq
  | ok fl =>
    cases fl with
    | ret u => exact I1.after hq
    | next => exact False.elim hq
    | brk => exact False.elim hq
    | cont => exact False.elim hq
end
end TkS
set_option Elab.async false
set_option linter.all false
set_option maxRecDepth 100000
set_option maxHeartbeats 4000000
set_option exponentiation.threshold 5000
namespace K25
open PySem PySem.Spec PyProof.Rows L2 TkS
/-- a field of rests -/
structure RF (C : Addr) (H : Hp) (a : Addr) (p : Nat) : Prop where
  at_ : ∃ dx : Addr, H a = some (.ins C dx [("prime", .int (p : Int)), ("zero", .int 0), ("one", .int 1), ("minus_one", .int ((p : Int) - 1))])
  pr : Pr p
  le : p ≤ 20000
theorem RF.same {C : Addr} {H H' : Hp} {a : Addr} {p : Nat} (h : RF C H a p) (s : Same H H') : RF C H' a p := by
  obtain ⟨⟨dx, e⟩, h2, h3⟩ := h
  exact ⟨⟨dx, s _ _ e⟩, h2, h3⟩
def Med (z : Int) : Prop := z.natAbs < 2 ^ 120
def sp_rest (C : Addr) (op : Int → Int → Int) : Sp := fun vs H Q _ => ∃ (a : Addr) (p : Nat) (x y : Int), vs = [.ref a, .int x, .int y] ∧ RF C H a p ∧ Med x ∧ Med y ∧ Q (.int (op x y % (p : Int))) H
/-- x to the e in the field of rests; none: what is nothing's power below 0 -/
def rpw (p : Nat) (x e : Int) : Option Int := if e = 0 then some 1 else if x = 0 then (if e < 0 then none else some 0) else some (((x.toNat ^ (e % ((p : Int) - 1)).toNat % p : Nat) : Int))
def sp_rest_check (C CN : Addr) : Sp := fun vs H Q E => ∃ (a : Addr) (p : Nat) (x : V) (d : PyData), vs = [.ref a, x] ∧ RF C H a p ∧ Dq H x d ∧ (wholeIn x (.int 0) (.int ((p : Int) - 1)) = false → ∀ H', Same H H' → E (.ref CN) none H') ∧ (wholeIn x (.int 0) (.int ((p : Int) - 1)) = true → Q x H)
def sp_rest_power (C CZ : Addr) : Sp := fun vs H Q E => ∃ (a : Addr) (p : Nat) (x e : Int), vs = [.ref a, .int x, .int e] ∧ RF C H a p ∧ 0 ≤ x ∧ x < p ∧ (rpw p x e = none → ∀ H', Same H H' → E (.ref CZ) none H') ∧ (∀ r, rpw p x e = some r → Q (.int r) H)
def sp_rest_quotient (C CZ : Addr) : Sp := fun vs H Q E => ∃ (a : Addr) (p : Nat) (x y : Int), vs = [.ref a, .int x, .int y] ∧ RF C H a p ∧ 0 ≤ x ∧ x < p ∧ 0 ≤ y ∧ y < p ∧ (y = 0 → ∀ H', Same H H' → E (.ref CZ) none H') ∧ (∀ r, rpw p y (-1) = some r → Q (.int (x * r % (p : Int))) H)
section
variable {P : Program} {w : World} {K : PySem.W.Frag} {mg : Str → Option Value} {base : Heap}
theorem ok_RestField_times (T : Txt K mg) : FnOk P w K mg base CX0 1 T.f_RestField_times T.d_RestField_times ["self", "one", "other"] (sp_rest T.C_RestField (· * ·)) := by
  refine T.F_RestField_times.ok sc_RestField_times (fun vs H Q E h => ?_) (fun cdv A outer s H vs Q E hr h => ?_)
  · obtain ⟨a, p, x, y, rfl, _⟩ := h
    rfl
  · obtain ⟨a, p, x, y, rfl, hf, mx, my, q⟩ := h
    refine ⟨_, (pss_one (ps_ret (pe_op op_mod (pe_op op_mulW (pv 1) (pv 2)) (pe_fld (pv 0) rfl)))), ?_⟩
    obtain ⟨⟨dx, ha⟩, pr, _⟩ := hf
    have p2 := pr.1
    exact ⟨_, rfl, _, rfl, x, y, rfl, rfl, wide_mul mx my (by decide) (by decide) (by decide), _, rfl, a, T.C_RestField, dx, _, _, rfl, ha, T.cl_RestField, T.na_RestField_prime, rfl, x * y, p, rfl, rfl, (show (0 : Int) < p by omega), q⟩
theorem ok_RestField_check_number (T : Txt K mg) : FnOk P w K mg base (L2.CX P w) 2 T.f_RestField_check_number T.d_RestField_check_number ["self", "number"] (sp_rest_check T.C_RestField T.C_BadNumber) := by
  refine T.F_RestField_check_number.okX sc_RestField_check_number (fun vs H Q E h => ?_) (fun cdv A outer s H vs Q E hr h => ?_)
  · obtain ⟨a, p, x, d, rfl, _⟩ := h
    rfl
  · obtain ⟨a, p, x, d, rfl, hf, kx, hE, q⟩ := h
    refine ⟨_, (pss_cons (ps_if (pt_not (pt_val (pe_call (ok_is_whole T) (hr.mono (by decide)) (by rfl) T.g_is_whole T.F_is_whole.kp T.b_is_whole .nil pass0 (pa_cons (pv 1) (pa_cons pe_int (pa_cons (pe_op op_sub (pe_fld (pv 0) rfl) pe_int) pa_nil))))))
        (pss_one (ps_raise (W := fun cls d _ H => E cls d H) rfl (takes_of rfl rfl rfl rfl) (pmk_own0 PySem.F.excBase_ValueError T.q_BadNumber T.g_BadNumber T.k_BadNumber (raises_own T.b_BadNumber T.ty_BadNumber) (by rfl))))
        pss_nil)
      (pss_one (ps_ret (pv 1)))), ?_⟩
    obtain ⟨⟨dx, ha⟩, pr, _⟩ := hf
    refine ⟨_, rfl, _, rfl, a, T.C_RestField, dx, _, _, rfl, ha, T.cl_RestField, T.na_RestField_prime, rfl, p, 1, rfl, rfl, x, .int 0, .int ((p : Int) - 1), d, rfl, kx, .inr ⟨_, rfl⟩, .inr ⟨_, rfl⟩, _, rfl, ?_⟩
    cases c : wholeIn x (.int 0) (.int ((p : Int) - 1)) with
    | false => exact iteT (hE c H fun _ _ z => z)
    | true => exact iteF ⟨_, rfl, q c⟩
end
end K25
set_option Elab.async false
set_option linter.all false
set_option maxRecDepth 100000
set_option maxHeartbeats 4000000
set_option exponentiation.threshold 5000
namespace K25
open PySem PySem.Spec PyProof.Rows L2 TkS
theorem med_nat {n p : Nat} (h : n < p) (l : p ≤ 20000) : Med (n : Int) := by
  unfold Med
  rw [Int.natAbs_natCast]
  exact Nat.lt_of_lt_of_le h (Nat.le_trans l (by decide +kernel))
theorem sq_mod (r y p k : Nat) : r * (y * y % p) ^ k % p = r * y ^ (2 * k) % p := by
  rw [Nat.mul_mod, ← Nat.pow_mod, ← Nat.mul_mod, Nat.pow_mul, Nat.pow_two]
section
variable {P : Program} {w : World} {K : PySem.W.Frag} {mg : Str → Option Value} {base : Heap}
theorem ok_RestField_power (T : Txt K mg) : FnOk P w K mg base (L2.CX P w) 5 T.f_RestField_power T.d_RestField_power ["self", "number", "exponent"] (sp_rest_power T.C_RestField T.C_ByZero) := by
  refine T.F_RestField_power.okX sc_RestField_power (fun vs H Q E h => ?_) (fun cdv A outer s H vs Q E hr h => ?_)
  · obtain ⟨a, p, x, e, rfl, _⟩ := h
    rfl
  · obtain ⟨a, p, x, e, rfl, hf, x0, x1, hE, q⟩ := h
    refine ⟨_, (pss_cons (ps_if (pt_cmpR op_eq (pv 2) pe_int (nomark _))
        (pss_one (ps_ret (pe_fld (pv 0) rfl)))
        pss_nil)
      (pss_cons (ps_if (pt_cmpR op_eq (pv 1) (pe_fld (pv 0) rfl) (nomark _))
        (pss_cons (ps_if (pt_cmpR op_lt (pv 2) pe_int (nomark _))
          (pss_one (ps_raise (W := fun cls d _ H => E cls d H) rfl (takes_of rfl rfl rfl rfl) (pmk_own0 PySem.F.excBase_ValueError T.q_ByZero T.g_ByZero T.k_ByZero (raises_own T.b_ByZero T.ty_ByZero) (by rfl))))
          pss_nil)
        (pss_one (ps_ret (pe_fld (pv 0) rfl))))
        pss_nil)
      (pss_cons (ps_set (i := 3) sc_RestField_power.nd rfl (.inl rfl) (pe_op op_mod (pv 2) (pe_op op_sub (pe_fld (pv 0) rfl) pe_int)))
      (pss_cons (ps_set (i := 4) sc_RestField_power.nd rfl (.inl rfl) (pe_fld (pv 0) rfl))
      (pss_cons (ps_while (by exact passes_of rfl) (pt_cmpR op_gt (pv 3) pe_int (nomark _))
        (Evl.pss_cut (ps_if (pt_cmpR op_eq (pe_op op_mod (pv 3) pe_int) pe_int (nomark _))
          (pss_one (ps_set (i := 4) sc_RestField_power.nd rfl (.inl rfl) (pe_meth (pv 0) T.cl_RestField T.M_RestField_times (ok_RestField_times T) (hr.mono (by decide)) T.b_RestField_times .nil pass0 (pa_cons (pv 4) (pa_cons (pv 1) pa_nil)))))
          pss_nil)
        (pss_cons (ps_set (i := 1) sc_RestField_power.nd rfl (.inl rfl) (pe_meth (pv 0) T.cl_RestField T.M_RestField_times (ok_RestField_times T) (hr.mono (by decide)) T.b_RestField_times .nil pass0 (pa_cons (pv 1) (pa_cons (pv 1) pa_nil))))
        (pss_one (ps_set (i := 3) sc_RestField_power.nd rfl (.inl rfl) (pe_op op_fdiv (pv 3) pe_int))))))
      (pss_one (ps_ret (pv 4)))))))), ?_⟩
    obtain ⟨⟨dx, ha⟩, pr, le⟩ := id hf
    have p2 := pr.1
    refine ⟨_, rfl, rfl, _, rfl, ?_⟩
    rw [int_dec]
    by_cases e0 : e = 0
    · rw [decide_eq_true e0]
      exact iteT ⟨_, rfl, a, T.C_RestField, dx, _, _, rfl, ha, T.cl_RestField, T.na_RestField_one, rfl, q 1 (by unfold rpw; rw [if_pos e0])⟩
    rw [decide_eq_false e0]
    refine iteF ⟨_, rfl, _, rfl, a, T.C_RestField, dx, _, _, rfl, ha, T.cl_RestField, T.na_RestField_zero, rfl, rfl, _, rfl, ?_⟩
    rw [int_dec]
    by_cases x00 : x = 0
    · rw [decide_eq_true x00]
      refine iteT ⟨_, rfl, _, _, rfl, rfl, _, rfl, ite2 (fun c => ?_) (fun c => ?_)⟩
      · have c' : e < 0 := of_decide_eq_true c
        exact hE (by unfold rpw; rw [if_neg e0, if_pos x00, if_pos c']) H fun _ _ z => z
      · have c' : ¬ e < 0 := fun z => c (decide_eq_true z)
        exact ⟨_, rfl, a, T.C_RestField, dx, _, _, rfl, ha, T.cl_RestField, T.na_RestField_zero, rfl, q 0 (by unfold rpw; rw [if_neg e0, if_pos x00, if_neg c'])⟩
    rw [decide_eq_false x00]
    refine iteF ?_
    obtain ⟨X, rfl⟩ : ∃ n : Nat, x = n := ⟨x.toNat, by omega⟩
    have Xp : X < p := by omega
    obtain ⟨L, hL⟩ : ∃ n : Nat, e % ((p : Int) - 1) = n := ⟨(e % ((p : Int) - 1)).toNat, by have := Int.emod_nonneg e (show (p : Int) - 1 ≠ 0 by omega); omega⟩
    have qL := q ((X ^ L % p : Nat) : Int) (by unfold rpw; rw [if_neg e0, if_neg x00, hL]; rfl)
    refine ⟨_, rfl, _, rfl, a, T.C_RestField, dx, _, _, rfl, ha, T.cl_RestField, T.na_RestField_prime, rfl, p, 1, rfl, rfl, e, (p : Int) - 1, rfl, rfl, (show (0 : Int) < (p : Int) - 1 by omega), ?_⟩
    dsimp only
    rw [hL]
    refine ⟨_, rfl, a, T.C_RestField, dx, _, _, rfl, ha, T.cl_RestField, T.na_RestField_one, rfl, ?_⟩
    refine ⟨fun m σ H' => ∃ y l r : Nat, σ = [some (.ref a), some (.int (y : Int)), some (.int e), some (.int (l : Int)), some (.int (r : Int))] ∧ H = H' ∧ y < p ∧ r < p ∧ r * y ^ l % p = X ^ L % p ∧ m = l, ⟨L, X, L, 1, rfl, rfl, Xp, by omega, by rw [Nat.one_mul], rfl⟩, fun m σ H' hW => ?_⟩
    obtain ⟨y, l, r, rfl, rfl, yp, rp, hyr, rfl⟩ := hW
    refine ⟨_, rfl, _, _, rfl, rfl, _, rfl, ite2 (fun c => ?_) (fun c => ?_)⟩
    · have c' : (0 : Int) < (m : Int) := of_decide_eq_true c
      refine ⟨fun σ' H' => ∃ m', m' < m ∧ ∃ y l r : Nat, σ' = [some (.ref a), some (.int (y : Int)), some (.int e), some (.int (l : Int)), some (.int (r : Int))] ∧ H = H' ∧ y < p ∧ r < p ∧ r * y ^ l % p = X ^ L % p ∧ m' = l, fun _ _ z => z, ?_⟩
      refine ⟨fun σ' H' => ∃ r' : Nat, σ' = [some (.ref a), some (.int (y : Int)), some (.int e), some (.int (m : Int)), some (.int (r' : Int))] ∧ H = H' ∧ r' < p ∧ r' * y ^ (2 * (m / 2)) % p = X ^ L % p, ?_, fun σ' H' hM => ?_⟩
      · refine ⟨_, rfl, m, 2, rfl, rfl, (show (0 : Int) < 2 by decide), rfl, _, rfl, ite2 (fun d => ?_) (fun d => ?_)⟩
        · have d' : (m : Int) % 2 = 1 := V.int.inj (of_decide_eq_true d)
          refine ⟨_, rfl, a, dx, _, rfl, ha, rfl, _, rfl, _, rfl, a, p, r, y, rfl, hf, med_nat rp le, med_nat yp le, ?_⟩
          refine ⟨r * y % p, ?_, rfl, Nat.mod_lt _ (by omega), ?_⟩
          · rw [show ((r : Int) * (y : Int)) % (p : Int) = ((r * y % p : Nat) : Int) by rw [Int.natCast_emod, Int.natCast_mul]]
            rfl
          · rw [Nat.mod_mul_mod, Nat.mul_assoc, ← Nat.pow_succ', show (2 * (m / 2)).succ = m by omega]
            exact hyr
        · have d' : ¬ (m : Int) % 2 = 1 := fun z => d (decide_eq_true (congrArg V.int z))
          exact ⟨r, rfl, rfl, rp, by rw [show 2 * (m / 2) = m by omega]; exact hyr⟩
      · obtain ⟨r', rfl, rfl, rp', hr'⟩ := hM
        refine ⟨_, rfl, a, dx, _, rfl, ha, rfl, _, rfl, _, rfl, a, p, y, y, rfl, hf, med_nat yp le, med_nat yp le, ?_⟩
        refine ⟨_, rfl, m, 2, rfl, rfl, ⟨by decide, by decide⟩, m / 2, by omega, y * y % p, m / 2, r', ?_, rfl, Nat.mod_lt _ (by omega), rp', by rw [sq_mod]; exact hr', rfl⟩
        rw [show ((y : Int) * (y : Int)) % (p : Int) = ((y * y % p : Nat) : Int) by rw [Int.natCast_emod, Int.natCast_mul]]
        rfl
    · have c' : m = 0 := by
        have : ¬ (0 : Int) < (m : Int) := fun z => c (decide_eq_true z)
        omega
      subst c'
      rw [Nat.pow_zero, Nat.mul_one, Nat.mod_eq_of_lt rp] at hyr
      subst hyr
      exact ⟨_, rfl, qL⟩
end
end K25
set_option Elab.async false
set_option linter.all false
set_option maxRecDepth 100000
set_option maxHeartbeats 4000000
set_option exponentiation.threshold 5000
namespace K25
open PySem PySem.Spec PyProof.Rows L2 TkS
theorem rpw_inv {p : Nat} {y : Int} (h : Pr p) (y0 : 0 ≤ y) (y1 : y < p) (n0 : y ≠ 0) : ∃ r : Nat, rpw p y (-1) = some (r : Int) ∧ r < p ∧ (r : Int) * y % p = 1 := by
  have p2 := h.1
  obtain ⟨Y, rfl⟩ : ∃ n : Nat, y = n := ⟨y.toNat, by omega⟩
  refine ⟨Y ^ ((-1 : Int) % ((p : Int) - 1)).toNat % p, ?_, Nat.mod_lt _ (by omega), ?_⟩
  · unfold rpw
    rw [if_neg (by decide), if_neg n0]
    rfl
  · have nd : ¬ p ∣ Y := not_dvd (by omega) (by omega)
    have e : ((-1 : Int) % ((p : Int) - 1)).toNat = (p - 2) % (p - 1) := by
      by_cases c : p = 2
      · subst c
        rfl
      · rw [Nat.mod_eq_of_lt (by omega)]
        have : (-1 : Int) % ((p : Int) - 1) = (p : Int) - 2 := by
          rw [← Int.add_emod_right (a := -1) (b := (p : Int) - 1), Int.emod_eq_of_lt (by omega) (by omega)]
          omega
        omega
    rw [e, ← pow_red h nd]
    have := pow_inv h nd
    rw [← Int.natCast_mul, ← Int.natCast_emod, Nat.mod_mul_mod, this]
    rfl
section
variable {P : Program} {w : World} {K : PySem.W.Frag} {mg : Str → Option Value} {base : Heap}
theorem ok_RestField_quotient (T : Txt K mg) : FnOk P w K mg base (L2.CX P w) 7 T.f_RestField_quotient T.d_RestField_quotient ["self", "one", "other"] (sp_rest_quotient T.C_RestField T.C_ByZero) := by
  refine T.F_RestField_quotient.okX sc_RestField_quotient (fun vs H Q E h => ?_) (fun cdv A outer s H vs Q E hr h => ?_)
  · obtain ⟨a, p, x, y, rfl, _⟩ := h
    rfl
  · obtain ⟨a, p, x, y, rfl, hf, x0, x1, y0, y1, hE, q⟩ := h
    refine ⟨_, (pss_one (ps_ret (pe_meth (pv 0) T.cl_RestField T.M_RestField_times (ok_RestField_times T) (hr.mono (by decide)) T.b_RestField_times .nil pass0 (pa_cons (pv 1) (pa_cons (pe_meth (pv 0) T.cl_RestField T.M_RestField_power (ok_RestField_power T) (hr.mono (by decide)) T.b_RestField_power .nil (passes_call (W := fun cls d _ H => E cls d H) (takes_of rfl rfl rfl rfl) (fun _ _ _ _ h => h)) (pa_cons (pv 2) (pa_cons (pe_un un_neg pe_int) pa_nil))) pa_nil))))), ?_⟩
    obtain ⟨⟨dx, ha⟩, pr, le⟩ := id hf
    have p2 := pr.1
    refine ⟨_, rfl, a, dx, _, rfl, ha, rfl, _, rfl, _, rfl, a, dx, _, rfl, ha, rfl, _, rfl, 1, rfl, a, p, y, -1, rfl, hf, y0, y1, fun e H' s => ?_, fun r e => ?_⟩
    · by_cases c : y = 0
      · exact hE c H' s
      · obtain ⟨r, e2, _⟩ := rpw_inv pr y0 y1 c
        rw [e2] at e
        cases e
    · by_cases c : y = 0
      · subst c
        cases e
      · obtain ⟨r', e2, rp, _⟩ := rpw_inv pr y0 y1 c
        have e3 := q r e
        rw [e2] at e
        cases e
        obtain ⟨X, rfl⟩ : ∃ n : Nat, x = n := ⟨x.toNat, by omega⟩
        exact ⟨a, p, _, _, rfl, hf, med_nat (by omega) le, med_nat rp le, e3⟩
end
end K25
set_option Elab.async false
set_option linter.all false
set_option maxRecDepth 100000
set_option maxHeartbeats 4000000
set_option exponentiation.threshold 5000
namespace K25
open PySem PySem.Spec PyProof.Rows L2 TkS
theorem prime_of {d : PyData} (h : primeD d = true) : ∃ p : Nat, d = .int (p : Int) ∧ Pr p ∧ p ≤ 20000 := by
  cases d with
  | int i =>
    unfold primeD at h
    obtain ⟨h1, h2⟩ := Bool.and_eq_true_iff.mp h
    obtain ⟨h3, h4⟩ := Bool.and_eq_true_iff.mp h1
    have i2 := of_decide_eq_true h3
    have i3 := of_decide_eq_true h4
    obtain ⟨n, rfl⟩ : ∃ n : Nat, i = n := ⟨i.toNat, by omega⟩
    rw [Int.toNat_natCast] at h2
    have e := Nat.eq_of_beq_eq_true h2
    have L := lf_ok (n := n) (by omega) (by omega)
    rw [e] at L
    exact ⟨n, rfl, L.pr, by omega⟩
  | _ => cases h
theorem prime_is {p : Nat} (h : Pr p) (l : p ≤ 20000) : primeD (.int (p : Int)) = true := by
  have p2 := h.1
  show (decide (2 ≤ (p : Int)) && decide ((p : Int) ≤ 20000) && Nat.beq (lf (p : Int).toNat) (p : Int).toNat) = true
  rw [Int.toNat_natCast, decide_eq_true (by omega), decide_eq_true (by omega), (lf_ok (n := p) p2 (by omega)).uniq (LF.self.mpr h), Nat.beq_refl]
  rfl
def sp_RestField_init (C CB : Addr) : Sp := fun vs H Q E => ∃ (a dx : Addr) (x : V) (d : PyData), vs = [.ref a, x] ∧ H a = some (.ins C dx []) ∧ Dq H x d ∧ (primeD d = false → ∀ H', KeepA a H H' → E (.ref CB) none H') ∧
  (∀ p : Nat, d = .int (p : Int) → Pr p → p ≤ 20000 → ∀ H', KeepA a H H' → RF C H' a p → Q .non H')
/-- a new field of rests, as the caller of the class sees it -/
theorem mk_rest {C CB : Addr} {H1 : Hp} {R : Addr → Hp → Prop} {E : XK} {x : V} {d : PyData} (k : Dq H1 x d) (hE : primeD d = false → ∀ H', Same H1 H' → E (.ref CB) none H')
    (hQ : ∀ p : Nat, d = .int (p : Int) → Pr p → p ≤ 20000 → ∀ H' y, Same H1 H' → H1 y = none → RF C H' y p → R y H') :
    ∀ y dx, H1 y = none → H1 dx = none → dx ≠ y → sp_RestField_init C CB (.ref y :: ([x] ++ [])) (upd (upd H1 dx (.own y)) y (.ins C dx [])) (fun v H2 => v = .non ∧ R y H2) E := fun y dx nx nd ne => by
  have s0 : Same H1 (upd (upd H1 dx (.own y)) y (.ins C dx [])) := Same.made nx nd fun b o e _ => e
  have sm : ∀ H', KeepA y (upd (upd H1 dx (.own y)) y (.ins C dx [])) H' → Same H1 H' := fun H' k => Same.made nx nd k
  exact ⟨y, dx, x, d, rfl, upd_same, k.same s0, fun e H' k => hE e H' (sm H' k), fun p e h l H' k hf => ⟨rfl, hQ p e h l H' y (sm H' k) nx hf⟩⟩
section
variable {P : Program} {w : World} {K : PySem.W.Frag} {mg : Str → Option Value} {base : Heap}
theorem ok_RestField_init (T : Txt K mg) : FnOk P w K mg base (L2.CX P w) 3 T.f_RestField_init T.d_RestField_init ["self", "prime"] (sp_RestField_init T.C_RestField T.C_BadPrime) := by
  refine T.F_RestField_init.okX sc_RestField_init (fun vs H Q E h => ?_) (fun cdv A outer s H vs Q E hr h => ?_)
  · obtain ⟨a, dx, x, d, rfl, _⟩ := h
    rfl
  · obtain ⟨a, dx, x, d, rfl, ha, kx, hE, hQ⟩ := h
    refine ⟨_, (pss_cons (ps_if (pt_not (pt_val (pe_call (ok_is_prime T) (hr.mono (by decide)) (by rfl) T.g_is_prime T.F_is_prime.kp T.b_is_prime .nil pass0 (pa_cons (pv 1) pa_nil))))
        (pss_one (ps_raise (W := fun cls d _ H => E cls d H) rfl (takes_of rfl rfl rfl rfl) (pmk_own0 PySem.F.excBase_ValueError T.q_BadPrime T.g_BadPrime T.k_BadPrime (raises_own T.b_BadPrime T.ty_BadPrime) (by rfl))))
        pss_nil)
      (pss_cons (ps_fld (pv 0) (pv 1) rfl)
      (pss_cons (ps_fld (pv 0) pe_int rfl)
      (pss_cons (ps_fld (pv 0) pe_int rfl)
      (pss_one (ps_fld (pv 0) (pe_op op_sub (pv 1) pe_int) rfl)))))), ?_⟩
    refine ⟨_, rfl, x, d, rfl, kx, _, rfl, ?_⟩
    cases c : primeD d with
    | false => exact iteT (hE c H fun b o e _ => e)
    | true =>
      obtain ⟨p, rfl, pr, le⟩ := prime_of c
      cases kx
      refine iteF ?_
      refine ⟨_, rfl, _, rfl, a, T.C_RestField, dx, [], rfl, ha, T.cl_RestField, T.na_RestField_prime, by decide, ?_⟩
      refine ⟨_, rfl, a, T.C_RestField, dx, _, rfl, upd_same, T.cl_RestField, T.na_RestField_zero, (by show 1 < 1000; decide), ?_⟩
      refine ⟨_, rfl, a, T.C_RestField, dx, _, rfl, upd_same, T.cl_RestField, T.na_RestField_one, (by show 2 < 1000; decide), ?_⟩
      refine ⟨_, rfl, p, 1, rfl, rfl, _, rfl, a, T.C_RestField, dx, _, rfl, upd_same, T.cl_RestField, T.na_RestField_minus_one, (by show 3 < 1000; decide), ?_⟩
      refine hQ p rfl pr le _ (KeepA.put (KeepA.put (KeepA.put (KeepA.put fun b o e _ => e)))) ⟨⟨dx, ?_⟩, pr, le⟩
      rw [upd_same]
      rfl
end
end K25
set_option Elab.async false
set_option linter.all false
set_option maxRecDepth 100000
set_option maxHeartbeats 4000000
namespace K25
open TkS
/-! fractions in lowest terms -/
def gS (t b : Int) : Int := if b < 0 then -((Int.gcd t b : Nat) : Int) else ((Int.gcd t b : Nat) : Int)
def low (t b : Int) : Int × Int := (t.fdiv (gS t b), b.fdiv (gS t b))
def Lowest (q : Int × Int) : Prop := 0 < q.2 ∧ Int.gcd q.1 q.2 = 1
theorem gS_ne {t b : Int} (hb : b ≠ 0) : gS t b ≠ 0 := by
  have : 0 < Int.gcd t b := Int.gcd_pos_of_ne_zero_right _ hb
  unfold gS
  split <;> omega
theorem low_ok {t b : Int} (hb : b ≠ 0) : Lowest (low t b) ∧ t * (low t b).2 = (low t b).1 * b := by
  have g0 : 0 < Int.gcd t b := Int.gcd_pos_of_ne_zero_right _ hb
  obtain ⟨t1, ht⟩ := Int.gcd_dvd_left (a := t) (b := b)
  obtain ⟨b1, hb1⟩ := Int.gcd_dvd_right (a := t) (b := b)
  have gc : Int.gcd t1 b1 = 1 := by
    have e : Int.gcd t b = Int.gcd t b * Int.gcd t1 b1 := by
      obtain ⟨g, hg⟩ : ∃ g, Int.gcd t b = g := ⟨_, rfl⟩
      rw [hg] at ht hb1 ⊢
      rw [ht, hb1, Int.gcd_mul_left, Int.natAbs_natCast] at hg
      exact hg.symm
    have e2 : Int.gcd t b * 1 = Int.gcd t b * Int.gcd t1 b1 := by rw [Nat.mul_one]; exact e
    exact (Nat.eq_of_mul_eq_mul_left g0 e2).symm
  unfold low gS
  generalize Int.gcd t b = g at g0 ht hb1
  by_cases c : b < 0
  · rw [if_pos c]
    have e1 : t.fdiv (-(g : Int)) = -t1 := by
      rw [ht, show (g : Int) * t1 = (-(g : Int)) * (-t1) by rw [Int.neg_mul_neg], Int.mul_fdiv_cancel_left _ (by omega)]
    have e2 : b.fdiv (-(g : Int)) = -b1 := by
      rw [hb1, show (g : Int) * b1 = (-(g : Int)) * (-b1) by rw [Int.neg_mul_neg], Int.mul_fdiv_cancel_left _ (by omega)]
    rw [e1, e2]
    refine ⟨⟨?_, by rw [Int.gcd_neg, Int.neg_gcd]; exact gc⟩, ?_⟩
    · show 0 < -b1
      refine Classical.byContradiction fun z => ?_
      have : 0 ≤ (g : Int) * b1 := Int.mul_nonneg (by omega) (by omega)
      omega
    · show t * -b1 = -t1 * b
      rw [Int.mul_neg, Int.neg_mul, ht, hb1, Int.mul_assoc, Int.mul_left_comm]
  · rw [if_neg c]
    have e1 : t.fdiv (g : Int) = t1 := by rw [ht, Int.mul_fdiv_cancel_left _ (by omega)]
    have e2 : b.fdiv (g : Int) = b1 := by rw [hb1, Int.mul_fdiv_cancel_left _ (by omega)]
    rw [e1, e2]
    refine ⟨⟨?_, gc⟩, ?_⟩
    · show 0 < b1
      refine Classical.byContradiction fun z => ?_
      have : (g : Int) * b1 ≤ 0 := Int.mul_nonpos_of_nonneg_of_nonpos (by omega) (by omega)
      omega
    · show t * b1 = t1 * b
      rw [ht, hb1, Int.mul_assoc, Int.mul_left_comm]
theorem low_uniq {q r : Int × Int} (hq : Lowest q) (hr : Lowest r) (e : q.1 * r.2 = r.1 * q.2) : q = r := by
  obtain ⟨a, b⟩ := q
  obtain ⟨c, d⟩ := r
  obtain ⟨b0, gq⟩ := hq
  obtain ⟨d0, gr⟩ := hr
  change a * d = c * b at e
  change 0 < b at b0
  change 0 < d at d0
  have en : a.natAbs * d.natAbs = c.natAbs * b.natAbs := by rw [← Int.natAbs_mul, ← Int.natAbs_mul, e]
  have h1 : b.natAbs ∣ d.natAbs := Nat.Coprime.dvd_of_dvd_mul_left (show Nat.gcd b.natAbs a.natAbs = 1 by rw [Nat.gcd_comm]; exact gq) ⟨c.natAbs, by rw [en, Nat.mul_comm]⟩
  have h2 : d.natAbs ∣ b.natAbs := Nat.Coprime.dvd_of_dvd_mul_left (show Nat.gcd d.natAbs c.natAbs = 1 by rw [Nat.gcd_comm]; exact gr) ⟨a.natAbs, by rw [← en, Nat.mul_comm]⟩
  have bd : b = d := by
    have := Nat.dvd_antisymm h1 h2
    omega
  subst bd
  have : a = c := Int.eq_of_mul_eq_mul_right (by omega) e
  rw [this]
theorem low_is {t b : Int} {q : Int × Int} (hb : b ≠ 0) (hq : Lowest q) (e : t * q.2 = q.1 * b) : low t b = q := by
  obtain ⟨l1, l2⟩ := low_ok (t := t) hb
  refine low_uniq l1 hq ?_
  have h : b * ((low t b).1 * q.2) = b * (q.1 * (low t b).2) := by
    calc b * ((low t b).1 * q.2) = ((low t b).1 * b) * q.2 := by rw [← Int.mul_assoc, Int.mul_comm b]
      _ = (t * (low t b).2) * q.2 := by rw [l2]
      _ = (t * q.2) * (low t b).2 := by rw [Int.mul_right_comm]
      _ = (q.1 * b) * (low t b).2 := by rw [e]
      _ = b * (q.1 * (low t b).2) := by rw [Int.mul_comm q.1 b, Int.mul_assoc]
  exact Int.eq_of_mul_eq_mul_left hb h
/-- a quotient, times what it was divided by -/
theorem low_quot {a b : Int × Int} (ha : Lowest a) (hb : Lowest b) (b0 : b.1 ≠ 0) : low ((low (a.1 * b.2) (a.2 * b.1)).1 * b.1) ((low (a.1 * b.2) (a.2 * b.1)).2 * b.2) = a := by
  have n0 : a.2 * b.1 ≠ 0 := fun z => by
    rcases Int.mul_eq_zero.mp z with h | h
    · have := ha.1
      omega
    · exact b0 h
  obtain ⟨l1, l2⟩ := low_ok (t := a.1 * b.2) n0
  generalize low (a.1 * b.2) (a.2 * b.1) = q at l1 l2
  have q2 := l1.1
  have b2 := hb.1
  refine low_is (fun z => by
    rcases Int.mul_eq_zero.mp z with h | h <;> omega) ha ?_
  calc q.1 * b.1 * a.2 = q.1 * (a.2 * b.1) := by rw [Int.mul_assoc, Int.mul_comm b.1]
    _ = a.1 * b.2 * q.2 := l2.symm
    _ = a.1 * (q.2 * b.2) := by rw [Int.mul_assoc, Int.mul_comm b.2]
theorem lowest_pow {q : Int × Int} (h : Lowest q) (n : Nat) : Lowest (q.1 ^ n, q.2 ^ n) := by
  refine ⟨Int.pow_pos h.1, ?_⟩
  show Nat.gcd (q.1 ^ n).natAbs (q.2 ^ n).natAbs = 1
  rw [Int.natAbs_pow, Int.natAbs_pow]
  exact Nat.Coprime.pow _ _ h.2
theorem low_times_pow {q : Int × Int} (h : Lowest q) (m n : Nat) : low (q.1 ^ m * q.1 ^ n) (q.2 ^ m * q.2 ^ n) = (q.1 ^ (m + n), q.2 ^ (m + n)) := by
  rw [← Int.pow_add, ← Int.pow_add]
  have l := lowest_pow h (m + n)
  refine low_is (fun z => ?_) l rfl
  have := l.1
  change 0 < q.2 ^ (m + n) at this
  omega
end K25
set_option Elab.async false
set_option linter.all false
set_option maxRecDepth 100000
set_option maxHeartbeats 4000000
set_option exponentiation.threshold 5000
namespace TkS
open PySem PySem.Spec PyProof.Rows L2
/-- // by a divisor of any sign -/
def CDivA (_ j : Int) : Prop := j ≠ 0 ∧ j.natAbs.log2 < 9000
theorem op_fdivA {X : Cx} : OpR X (binaryOp .FloorDiv) (rI CDivA fun i j => .int (i.fdiv j)) := opI fun _ _ _ _ _ _ _ hc q => floordiv_int hc.1 q (.inl (PyProof.noPylong_of_log2 hc.2))
end TkS
namespace K25
open PySem PySem.Spec PyProof.Rows L2 TkS
/-- the field of fractions -/
structure FF (C : Addr) (H : Hp) (a : Addr) : Prop where
  at_ : ∃ dx z o m : Addr, H a = some (.ins C dx [("zero", .ref z), ("one", .ref o), ("minus_one", .ref m)]) ∧ H z = some (.tup [.int 0, .int 1]) ∧ H o = some (.tup [.int 1, .int 1]) ∧ H m = some (.tup [.int (-1), .int 1])
theorem FF.same {C : Addr} {H H' : Hp} {a : Addr} (h : FF C H a) (s : Same H H') : FF C H' a := by
  obtain ⟨dx, z, o, m, e1, e2, e3, e4⟩ := h.at_
  exact ⟨⟨dx, z, o, m, s _ _ e1, s _ _ e2, s _ _ e3, s _ _ e4⟩⟩
def frD (q : Int × Int) : PyData := .tuple [.int q.1, .int q.2]
theorem fr_at {H : Hp} {v : V} {q : Int × Int} (k : Dq H v (frD q)) : ∃ l, v = .ref l ∧ H l = some (.tup [.int q.1, .int q.2]) := by
  cases k with
  | tup e t =>
    cases t with
    | cons a t =>
      cases t with
      | cons b t =>
        cases t
        cases a
        cases b
        exact ⟨_, rfl, e⟩
theorem fr_dq {H : Hp} {l : Addr} {q : Int × Int} (e : H l = some (.tup [.int q.1, .int q.2])) : Dq H (.ref l) (frD q) := .tup e (.cons (.int _) (.cons (.int _) .nil))
/-- a size that the reckoning keeps -/
def Fin (n : Nat) (z : Int) : Prop := z.natAbs < 2 ^ n
theorem Fin.mul {m n : Nat} {x y : Int} (hx : Fin m x) (hy : Fin n y) : Fin (m + n) (x * y) := by
  unfold Fin at *
  rw [Int.natAbs_mul, Nat.pow_add]
  exact Nat.mul_lt_mul'' hx hy
theorem Fin.mulW {m n : Nat} {x y : Int} (hx : Fin m x) (hy : Fin n y) (m0 : 0 < m) (n0 : 0 < n) (h : m + n ≤ 1000000) : CMulW x y := wide_mul hx hy m0 n0 h
theorem gS_fin {n : Nat} {t b : Int} (hb : b ≠ 0) (h : Fin n b) : Fin n (gS t b) := by
  unfold Fin at *
  have l : Int.gcd t b ≤ b.natAbs := Nat.le_of_dvd (by omega) (Nat.gcd_dvd_right t.natAbs b.natAbs)
  unfold gS
  split <;> omega
theorem fin_log {n : Nat} {z : Int} (h : Fin n z) (n0 : 0 < n) (l : n ≤ 9000) : z.natAbs.log2 < 9000 := Nat.lt_of_lt_of_le (PySem.Flt.log2_lt_of n0 h) l
def sp_fraction : Sp := fun vs H Q _ => ∃ t b : Int, vs = [.int t, .int b] ∧ b ≠ 0 ∧ Fin 8000 b ∧ ∀ l H', Same H H' → Dq H' (.ref l) (frD (low t b)) → Q (.ref l) H'
section
variable {P : Program} {w : World} {K : PySem.W.Frag} {mg : Str → Option Value} {base : Heap}
theorem ok_fraction (T : Txt K mg) : FnOk P w K mg base CX0 2 T.f_fraction T.d_fraction ["top", "bottom"] sp_fraction := by
  refine T.F_fraction.ok sc_fraction (fun vs H Q E h => ?_) (fun cdv A outer s H vs Q E hr h => ?_)
  · obtain ⟨t, b, rfl, _⟩ := h
    rfl
  · obtain ⟨t, b, rfl, b0, fb, q⟩ := h
    refine ⟨_, (pss_cons (ps_set (i := 2) sc_fraction.nd rfl (.inl rfl) (pe_call (ok_common_divisor T) (hr.mono (by decide)) (by rfl) T.g_common_divisor T.F_common_divisor.kp T.b_common_divisor .nil pass0 (pa_cons (pv 0) (pa_cons (pv 1) pa_nil))))
      (Evl.pss_cut (ps_if (pt_cmpR op_lt (pv 1) pe_int (nomark _))
        (pss_one (ps_set (i := 2) sc_fraction.nd rfl (.inl rfl) (pe_un un_neg (pv 2))))
        pss_nil)
      (pss_one (ps_ret (pe_tup (pa_cons (pe_op op_fdivA (pv 0) (pv 2)) (pa_cons (pe_op op_fdivA (pv 1) (pv 2)) pa_nil))))))), ?_⟩
    refine ⟨_, rfl, _, rfl, t, b, rfl, ?_⟩
    refine ⟨fun σ H' => σ = [some (.int t), some (.int b), some (.int (gS t b))] ∧ H = H', ?_, fun σ H' hM => ?_⟩
    · refine ⟨_, rfl, _, _, rfl, rfl, _, rfl, ite2 (fun c => ?_) (fun c => ?_)⟩
      · have c' : b < 0 := of_decide_eq_true c
        refine ⟨_, rfl, _, rfl, ?_, rfl⟩
        unfold gS
        rw [if_pos c']
        rfl
      · have c' : ¬ b < 0 := fun z => c (decide_eq_true z)
        refine ⟨?_, rfl⟩
        unfold gS
        rw [if_neg c']
        rfl
    · obtain ⟨rfl, rfl⟩ := hM
      have g0 := gS_ne (t := t) b0
      have gl := fin_log (gS_fin (t := t) b0 fb) (by decide) (by decide)
      refine ⟨_, rfl, _, rfl, t, _, rfl, rfl, ⟨g0, gl⟩, _, rfl, _, rfl, b, _, rfl, rfl, ⟨g0, gl⟩, (by show 2 ≤ sizeLine; decide), fun l nl => ?_⟩
      exact q l _ (same_new nl) (fr_dq (q := low t b) upd_same)
end
end K25
set_option Elab.async false
set_option linter.all false
set_option maxRecDepth 100000
set_option maxHeartbeats 4000000
set_option exponentiation.threshold 5000
namespace K25
open PySem PySem.Spec PyProof.Rows L2 TkS
def plusF (q r : Int × Int) : Int × Int := low (q.1 * r.2 + r.1 * q.2) (q.2 * r.2)
def lessF (q r : Int × Int) : Int × Int := low (q.1 * r.2 - r.1 * q.2) (q.2 * r.2)
def timesF (q r : Int × Int) : Int × Int := low (q.1 * r.1) (q.2 * r.2)
def quotF (q r : Int × Int) : Int × Int := low (q.1 * r.2) (q.2 * r.1)
/-- a fraction in lowest terms, of no great size -/
structure Fr (q : Int × Int) : Prop where
  low : Lowest q
  ft : Fin 2500 q.1
  fb : Fin 2500 q.2
def sp_fr2 (C : Addr) (op : Int × Int → Int × Int → Int × Int) : Sp := fun vs H Q _ => ∃ (a : Addr) (x y : V) (q r : Int × Int), vs = [.ref a, x, y] ∧ FF C H a ∧ Dq H x (frD q) ∧ Dq H y (frD r) ∧ Fr q ∧ Fr r ∧ ∀ l H', Same H H' → Dq H' (.ref l) (frD (op q r)) → Q (.ref l) H'
def sp_fr_quot (C CZ : Addr) : Sp := fun vs H Q E => ∃ (a : Addr) (x y : V) (q r : Int × Int), vs = [.ref a, x, y] ∧ FF C H a ∧ Dq H x (frD q) ∧ Dq H y (frD r) ∧ Fr q ∧ Fr r ∧ (r = (0, 1) → ∀ H', Same H H' → E (.ref CZ) none H') ∧ (r ≠ (0, 1) → ∀ l H', Same H H' → Dq H' (.ref l) (frD (quotF q r)) → Q (.ref l) H')
theorem Fr.b0 {q : Int × Int} (h : Fr q) : q.2 ≠ 0 := by
  have := h.low.1
  omega
theorem fin_up {m n : Nat} {z : Int} (h : Fin m z) (l : m ≤ n) : Fin n z := Nat.lt_of_lt_of_le h (Nat.pow_le_pow_right (by decide) l)
theorem lowest_zero {r : Int × Int} (h : Lowest r) (z : r.1 = 0) : r = (0, 1) := by
  obtain ⟨c, d⟩ := r
  obtain ⟨d0, g⟩ := h
  change c = 0 at z
  subst z
  change Nat.gcd 0 d.natAbs = 1 at g
  rw [Nat.gcd_zero_left] at g
  change 0 < d at d0
  have : d = 1 := by omega
  rw [this]
theorem shp_fr (q : Int × Int) : SeqAt.shaped (frD q) = true := by
  simp [frD, SeqAt.shaped, PyData.canLay0, PyData.depth, PyData.canLayAll0, PyData.depthAll]
theorem eqv_fr (q r : Int × Int) : PyData.eqv (frD q) (frD r) = decide (q = r) := by
  obtain ⟨a, b⟩ := q
  obtain ⟨c, d⟩ := r
  have h : PyData.eqv (frD (a, b)) (frD (c, d)) = (decide (a = c) && decide (b = d)) := by
    simp [frD, PyData.eqv, PyData.eqvAll, Bool.beq_eq_decide_eq]
  rw [h]
  by_cases e : a = c <;> by_cases f : b = d <;> simp [e, f]
section
variable {P : Program} {w : World} {K : PySem.W.Frag} {mg : Str → Option Value} {base : Heap}
theorem ok_FractionField_times (T : Txt K mg) : FnOk P w K mg base CX0 3 T.f_FractionField_times T.d_FractionField_times ["self", "one", "other"] (sp_fr2 T.C_FractionField timesF) := by
  refine T.F_FractionField_times.ok sc_FractionField_times (fun vs H Q E h => ?_) (fun cdv A outer s H vs Q E hr h => ?_)
  · obtain ⟨a, x, y, q, r, rfl, _⟩ := h
    rfl
  · obtain ⟨a, x, y, q, r, rfl, hf, kx, ky, fq, fr, hQ⟩ := h
    refine ⟨_, (pss_one (ps_ret (pe_call (ok_fraction T) (hr.mono (by decide)) (by rfl) T.g_fraction T.F_fraction.kp T.b_fraction .nil pass0 (pa_cons (pe_op op_mulW (pe_ix ix_tup (pv 1) pe_int (fun _ _ => rfl)) (pe_ix ix_tup (pv 2) pe_int (fun _ _ => rfl))) (pa_cons (pe_op op_mulW (pe_ix ix_tup (pv 1) pe_int (fun _ _ => rfl)) (pe_ix ix_tup (pv 2) pe_int (fun _ _ => rfl))) pa_nil))))), ?_⟩
    obtain ⟨l1, rfl, h1⟩ := fr_at kx
    obtain ⟨l2, rfl, h2⟩ := fr_at ky
    have w1 := Fin.mulW fq.ft fr.ft (by decide) (by decide) (by decide)
    have w3 := Fin.mulW fq.fb fr.fb (by decide) (by decide) (by decide)
    refine ⟨_, rfl, l1, _, 0, _, rfl, rfl, SqT.of h1, at_of (j := 0) rfl rfl, _, rfl, l2, _, 0, _, rfl, rfl, SqT.of h2, at_of (j := 0) rfl rfl, _, _, rfl, rfl, w1, _, rfl, l1, _, 1, _, rfl, rfl, SqT.of h1, at_of (j := 1) rfl rfl, _, rfl, l2, _, 1, _, rfl, rfl, SqT.of h2, at_of (j := 1) rfl rfl, _, _, rfl, rfl, w3, _, _, rfl, fun z => ?_, fin_up (Fin.mul fq.fb fr.fb) (by decide), fun l H' s k => hQ l H' s k⟩
    rcases Int.mul_eq_zero.mp z with e | e
    · exact fq.b0 e
    · exact fr.b0 e
theorem ok_FractionField_quotient (T : Txt K mg) : FnOk P w K mg base (L2.CX P w) 3 T.f_FractionField_quotient T.d_FractionField_quotient ["self", "one", "other"] (sp_fr_quot T.C_FractionField T.C_ByZero) := by
  refine T.F_FractionField_quotient.okX sc_FractionField_quotient (fun vs H Q E h => ?_) (fun cdv A outer s H vs Q E hr h => ?_)
  · obtain ⟨a, x, y, q, r, rfl, _⟩ := h
    rfl
  · obtain ⟨a, x, y, q, r, rfl, hf, kx, ky, fq, fr, hE, hQ⟩ := h
    refine ⟨_, (pss_cons (ps_if (pt_cmpR (op_eqD hr.units) (pv 2) (pe_fld (pv 0) rfl) (nomark _))
        (pss_one (ps_raise (W := fun cls d _ H => E cls d H) rfl (takes_of rfl rfl rfl rfl) (pmk_own0 PySem.F.excBase_ValueError T.q_ByZero T.g_ByZero T.k_ByZero (raises_own T.b_ByZero T.ty_ByZero) (by rfl))))
        pss_nil)
      (pss_one (ps_ret (pe_call (ok_fraction T) (hr.mono (by decide)) (by rfl) T.g_fraction T.F_fraction.kp T.b_fraction .nil pass0 (pa_cons (pe_op op_mulW (pe_ix ix_tup (pv 1) pe_int (fun _ _ => rfl)) (pe_ix ix_tup (pv 2) pe_int (fun _ _ => rfl))) (pa_cons (pe_op op_mulW (pe_ix ix_tup (pv 1) pe_int (fun _ _ => rfl)) (pe_ix ix_tup (pv 2) pe_int (fun _ _ => rfl))) pa_nil)))))), ?_⟩
    obtain ⟨l1, rfl, h1⟩ := fr_at kx
    obtain ⟨l2, rfl, h2⟩ := fr_at ky
    obtain ⟨dx, z, o, m, ea, ez, _, _⟩ := hf.at_
    refine ⟨_, rfl, _, rfl, a, T.C_FractionField, dx, _, _, rfl, ea, T.cl_FractionField, T.na_FractionField_zero, rfl, frD r, frD (0, 1), ky.dp, (fr_dq (q := (0, 1)) ez).dp, shp_fr _, shp_fr _, _, rfl, ?_⟩
    rw [eqv_fr]
    by_cases c : r = (0, 1)
    · rw [decide_eq_true c]
      exact iteT (hE c H fun _ _ z => z)
    · rw [decide_eq_false c]
      have r0 : r.1 ≠ 0 := fun z => c (lowest_zero fr.low z)
      have w1 := Fin.mulW fq.ft fr.fb (by decide) (by decide) (by decide)
      have w3 := Fin.mulW fq.fb fr.ft (by decide) (by decide) (by decide)
      refine iteF ⟨_, rfl, l1, _, 0, _, rfl, rfl, SqT.of h1, at_of (j := 0) rfl rfl, _, rfl, l2, _, 1, _, rfl, rfl, SqT.of h2, at_of (j := 1) rfl rfl, _, _, rfl, rfl, w1, _, rfl, l1, _, 1, _, rfl, rfl, SqT.of h1, at_of (j := 1) rfl rfl, _, rfl, l2, _, 0, _, rfl, rfl, SqT.of h2, at_of (j := 0) rfl rfl, _, _, rfl, rfl, w3, _, _, rfl, fun z => ?_, fin_up (Fin.mul fq.fb fr.ft) (by decide), fun l H' s k => hQ c l H' s k⟩
      rcases Int.mul_eq_zero.mp z with e | e
      · exact fq.b0 e
      · exact r0 e
end
end K25
set_option Elab.async false
set_option linter.all false
set_option maxRecDepth 100000
set_option maxHeartbeats 4000000
set_option exponentiation.threshold 5000
namespace K25
open PySem PySem.Spec PyProof.Rows L2 TkS
def powF (q : Int × Int) (e : Int) : Option (Int × Int) := if e < 0 then (if q = (0, 1) then none else some ((quotF (1, 1) q).1 ^ (-e).toNat, (quotF (1, 1) q).2 ^ (-e).toNat)) else some (q.1 ^ e.toNat, q.2 ^ e.toNat)
theorem inv_eq {q : Int × Int} (h : Lowest q) (n : q.1 ≠ 0) : quotF (1, 1) q = if q.1 < 0 then (-q.2, -q.1) else (q.2, q.1) := by
  obtain ⟨a, b⟩ := q
  obtain ⟨b0, g⟩ := h
  change 0 < b at b0
  change Nat.gcd a.natAbs b.natAbs = 1 at g
  change a ≠ 0 at n
  have g2 : Nat.gcd b.natAbs a.natAbs = 1 := by rw [Nat.gcd_comm]; exact g
  show low (1 * b) (1 * a) = if a < 0 then (-b, -a) else (b, a)
  rw [Int.one_mul, Int.one_mul]
  by_cases c : a < 0
  · rw [if_pos c]
    refine low_is n ⟨by show 0 < -a; omega, ?_⟩ ?_
    · show Nat.gcd (-b).natAbs (-a).natAbs = 1
      rw [Int.natAbs_neg, Int.natAbs_neg]
      exact g2
    · show b * -a = -b * a
      rw [Int.mul_neg, Int.neg_mul]
  · rw [if_neg c]
    exact low_is n ⟨by show 0 < a; omega, g2⟩ rfl
def sp_fr_power (C CZ : Addr) : Sp := fun vs H Q E => ∃ (a : Addr) (x : V) (q : Int × Int) (e : Int), vs = [.ref a, x, .int e] ∧ FF C H a ∧ Dq H x (frD q) ∧ Lowest q ∧ q.1.natAbs ≤ 2 ^ 67 ∧ q.2.natAbs ≤ 2 ^ 67 ∧ -40 ≤ e ∧ e ≤ 40 ∧
  (powF q e = none → ∀ H', Same H H' → E (.ref CZ) none H') ∧ (∀ r, powF q e = some r → ∀ l H', Same H H' → Dq H' (.ref l) (frD r) → Q (.ref l) H')
theorem le_fin {z : Int} (h : z.natAbs ≤ 2 ^ 67) : Fin 2500 z := Nat.lt_of_le_of_lt h (by decide +kernel)
theorem fr_one : Fr (1, 1) := ⟨⟨by decide, rfl⟩, by unfold Fin; decide +kernel, by unfold Fin; decide +kernel⟩
section
variable {P : Program} {w : World} {K : PySem.W.Frag} {mg : Str → Option Value} {base : Heap}
theorem ok_FractionField_power (T : Txt K mg) : FnOk P w K mg base (L2.CX P w) 5 T.f_FractionField_power T.d_FractionField_power ["self", "number", "exponent"] (sp_fr_power T.C_FractionField T.C_ByZero) := by
  refine T.F_FractionField_power.okX sc_FractionField_power (fun vs H Q E h => ?_) (fun cdv A outer s H vs Q E hr h => ?_)
  · obtain ⟨a, x, q, e, rfl, _⟩ := h
    rfl
  · obtain ⟨a, x, q, e, rfl, hf, kx, lq, s1, s2, e0, e1, hE, hQ⟩ := h
    refine ⟨_, (Evl.pss_cut (ps_if (pt_cmpR op_lt (pv 2) pe_int (nomark _))
        (pss_cons (ps_set (i := 1) sc_FractionField_power.nd rfl (.inl rfl) (pe_meth (pv 0) T.cl_FractionField T.M_FractionField_quotient (ok_FractionField_quotient T) (hr.mono (by decide)) T.b_FractionField_quotient .nil (passes_call (W := fun cls d _ H => E cls d H) (takes_of rfl rfl rfl rfl) (fun _ _ _ _ h => h)) (pa_cons (pe_fld (pv 0) rfl) (pa_cons (pv 1) pa_nil))))
        (pss_one (ps_set (i := 2) sc_FractionField_power.nd rfl (.inl rfl) (pe_un un_neg (pv 2)))))
        pss_nil)
      (pss_cons (ps_asg (pv 1) (pg_tup rfl (pgs_cons (pg_name (i := 3) sc_FractionField_power.nd rfl (.inl rfl)) (pgs_cons (pg_name (i := 4) sc_FractionField_power.nd rfl (.inl rfl)) pgs_nil))))
      (pss_one (ps_ret (pe_tup (pa_cons (pe_call (ok_power_of T) (hr.mono (by decide)) (by rfl) T.g_power_of T.F_power_of.kp T.b_power_of .nil pass0 (pa_cons (pv 3) (pa_cons (pv 2) pa_nil))) (pa_cons (pe_call (ok_power_of T) (hr.mono (by decide)) (by rfl) T.g_power_of T.F_power_of.kp T.b_power_of .nil pass0 (pa_cons (pv 4) (pa_cons (pv 2) pa_nil))) pa_nil))))))), ?_⟩
    refine ⟨fun σ H' => ∃ (v : V) (r : Int × Int) (n : Nat), σ = [some (.ref a), some v, some (.int (n : Int)), none, none] ∧ Same H H' ∧ Dq H' v (frD r) ∧ powF q e = some (r.1 ^ n, r.2 ^ n) ∧ r.1.natAbs ≤ 2 ^ 67 ∧ r.2.natAbs ≤ 2 ^ 67 ∧ n ≤ 40, ?_, fun σ H' hM => ?_⟩
    · refine ⟨_, rfl, _, _, rfl, rfl, _, rfl, ite2 (fun c => ?_) (fun c => ?_)⟩
      · have c' : e < 0 := of_decide_eq_true c
        obtain ⟨dx, z, o, m, ea, ez, eo, _⟩ := hf.at_
        refine ⟨_, rfl, a, dx, _, rfl, ea, rfl, _, rfl, a, T.C_FractionField, dx, _, _, rfl, ea, T.cl_FractionField, T.na_FractionField_one, rfl, _, rfl, a, .ref o, x, (1, 1), q, rfl, hf, fr_dq (q := (1, 1)) eo, kx, fr_one, ⟨lq, le_fin s1, le_fin s2⟩, fun ez' H' s => ?_, fun nz l H' s k => ?_⟩
        · exact hE (by unfold powF; rw [if_pos c', if_pos ez']) H' s
        · have q0 : q.1 ≠ 0 := fun y => nz (lowest_zero lq y)
          have ie := inv_eq lq q0
          refine ⟨_, rfl, e, rfl, _, quotF (1, 1) q, (-e).toNat, ?_, s, k, by unfold powF; rw [if_pos c', if_neg nz], ?_, ?_, by omega⟩
          · rw [show (((-e).toNat : Nat) : Int) = -e by omega]
            rfl
          · rw [ie]
            split
            · show (-q.2).natAbs ≤ 2 ^ 67
              rw [Int.natAbs_neg]
              exact s2
            · exact s2
          · rw [ie]
            split
            · show (-q.1).natAbs ≤ 2 ^ 67
              rw [Int.natAbs_neg]
              exact s1
            · exact s1
      · have c' : ¬ e < 0 := fun z => c (decide_eq_true z)
        refine ⟨x, q, e.toNat, ?_, fun _ _ z => z, kx, by unfold powF; rw [if_neg c'], s1, s2, by omega⟩
        rw [show ((e.toNat : Nat) : Int) = e by omega]
        rfl
    · obtain ⟨v, r, n, rfl, s, k, ep, b1, b2, n40⟩ := hM
      obtain ⟨l, rfl, hl⟩ := fr_at k
      refine ⟨_, rfl, l, _, rfl, SqT.of hl, rfl, _, _, rfl, _, _, rfl, rfl, ?_⟩
      refine ⟨_, rfl, _, rfl, r.1, n, rfl, b1, n40, _, rfl, _, rfl, r.2, n, rfl, b2, n40, (by show 2 ≤ sizeLine; decide), fun l2 nl => ?_⟩
      exact hQ _ ep l2 _ (s.trans (same_new nl)) (fr_dq (q := (r.1 ^ n, r.2 ^ n)) upd_same)
end
end K25
set_option Elab.async false
set_option linter.all false
set_option maxRecDepth 100000
set_option maxHeartbeats 4000000
set_option exponentiation.threshold 5000
namespace K25
open PySem PySem.Spec PyProof.Rows L2 TkS
def sp_FractionField_init (C : Addr) : Sp := fun vs H Q _ => ∃ (a dx : Addr), vs = [.ref a] ∧ H a = some (.ins C dx []) ∧ ∀ H', KeepA a H H' → FF C H' a → Q .non H'
theorem mk_frac {C : Addr} {H1 : Hp} {R : Addr → Hp → Prop} {E : XK} (hQ : ∀ H' y, Same H1 H' → H1 y = none → FF C H' y → R y H') :
    ∀ y dx, H1 y = none → H1 dx = none → dx ≠ y → sp_FractionField_init C (.ref y :: ([] ++ [])) (upd (upd H1 dx (.own y)) y (.ins C dx [])) (fun v H2 => v = .non ∧ R y H2) E := fun y dx nx nd ne => by
  have sm : ∀ H', KeepA y (upd (upd H1 dx (.own y)) y (.ins C dx [])) H' → Same H1 H' := fun H' k => Same.made nx nd k
  exact ⟨y, dx, rfl, upd_same, fun H' k hf => ⟨rfl, hQ H' y (sm H' k) nx hf⟩⟩
section
variable {P : Program} {w : World} {K : PySem.W.Frag} {mg : Str → Option Value} {base : Heap}
theorem ok_FractionField_init (T : Txt K mg) : FnOk P w K mg base CX0 1 T.f_FractionField_init T.d_FractionField_init ["self"] (sp_FractionField_init T.C_FractionField) := by
  refine T.F_FractionField_init.ok sc_FractionField_init (fun vs H Q E h => ?_) (fun cdv A outer s H vs Q E hr h => ?_)
  · obtain ⟨a, dx, rfl, _⟩ := h
    rfl
  · obtain ⟨a, dx, rfl, ha, hQ⟩ := h
    refine ⟨_, (pss_cons (ps_fld (pv 0) (pe_tup (pa_cons pe_int (pa_cons pe_int pa_nil))) rfl)
      (pss_cons (ps_fld (pv 0) (pe_tup (pa_cons pe_int (pa_cons pe_int pa_nil))) rfl)
      (pss_one (ps_fld (pv 0) (pe_tup (pa_cons (pe_un un_neg pe_int) (pa_cons pe_int pa_nil))) rfl)))), ?_⟩
    have two : 2 ≤ sizeLine := by decide
    refine ⟨two, fun z nz => ⟨_, rfl, a, T.C_FractionField, dx, [], rfl, (same_new nz) _ _ ha, T.cl_FractionField, T.na_FractionField_zero, by decide, ?_⟩⟩
    have za : z ≠ a := (ne_of_none ha nz).symm
    generalize eH1 : upd (upd H z (.tup [.int 0, .int 1])) a (.ins T.C_FractionField dx (putF "zero" (.ref z) [])) = H1
    have a1 : H1 a = some (.ins T.C_FractionField dx [("zero", .ref z)]) := by rw [← eH1, upd_same]; rfl
    have z1 : H1 z = some (.tup [.int 0, .int 1]) := by rw [← eH1, upd_ne za, upd_same]
    have k1 : KeepA a H H1 := by
      rw [← eH1]
      exact KeepA.put fun b o e _ => (same_new nz) _ _ e
    refine ⟨two, fun o no => ⟨_, rfl, a, T.C_FractionField, dx, _, rfl, (same_new no) _ _ a1, T.cl_FractionField, T.na_FractionField_one, (by show 1 < 1000; decide), ?_⟩⟩
    have oa : o ≠ a := (ne_of_none a1 no).symm
    have oz : o ≠ z := (ne_of_none z1 no).symm
    generalize eH2 : upd (upd H1 o (.tup [.int 1, .int 1])) a (.ins T.C_FractionField dx (putF "one" (.ref o) [("zero", .ref z)])) = H2
    have a2 : H2 a = some (.ins T.C_FractionField dx [("zero", .ref z), ("one", .ref o)]) := by rw [← eH2, upd_same]; rfl
    have z2 : H2 z = some (.tup [.int 0, .int 1]) := by rw [← eH2, upd_ne za, upd_ne oz.symm]; exact z1
    have o2 : H2 o = some (.tup [.int 1, .int 1]) := by rw [← eH2, upd_ne oa, upd_same]
    have k2 : KeepA a H H2 := by
      rw [← eH2]
      exact (k1.same (same_new no)).put
    refine ⟨_, rfl, two, fun m nm => ⟨_, rfl, a, T.C_FractionField, dx, _, rfl, (same_new nm) _ _ a2, T.cl_FractionField, T.na_FractionField_minus_one, (by show 2 < 1000; decide), ?_⟩⟩
    have ma : m ≠ a := (ne_of_none a2 nm).symm
    have mz : m ≠ z := (ne_of_none z2 nm).symm
    have mo : m ≠ o := (ne_of_none o2 nm).symm
    refine hQ _ ((k2.same (same_new nm)).put) ⟨⟨dx, z, o, m, ?_, ?_, ?_, ?_⟩⟩
    · rw [upd_same]
      rfl
    · rw [upd_ne za, upd_ne mz.symm]
      exact z2
    · rw [upd_ne oa, upd_ne mo.symm]
      exact o2
    · rw [upd_ne ma, upd_same]
end
end K25
set_option Elab.async false
set_option linter.all false
set_option maxRecDepth 100000
set_option maxHeartbeats 4000000
set_option exponentiation.threshold 5000
namespace K25
open PySem PySem.Spec PyProof.Rows L2 TkS
def isIntD : PyData → Bool
  | .int _ => true
  | _ => false
theorem wi_any {x : V} {H : Hp} {d : PyData} (k : Dq H x d) : wholeIn x .non .non = isIntD d := by cases k <;> rfl
/-- a fraction in lowest terms -/
def frOk : PyData → Bool
  | .tuple [.int t, .int b] => decide (1 ≤ b) && Nat.beq (Int.gcd t b) 1
  | _ => false
theorem frOk_of {d : PyData} (h : frOk d = true) : ∃ q, d = frD q ∧ Lowest q := by
  match d, h with
  | .tuple [.int t, .int b], h =>
    obtain ⟨h1, h2⟩ := Bool.and_eq_true_iff.mp h
    have b1 := of_decide_eq_true h1
    exact ⟨(t, b), rfl, ⟨by show 0 < b; omega, Nat.eq_of_beq_eq_true h2⟩⟩
theorem frOk_is {q : Int × Int} (h : Lowest q) : frOk (frD q) = true := by
  obtain ⟨t, b⟩ := q
  obtain ⟨b0, g⟩ := h
  change 0 < b at b0
  change Int.gcd t b = 1 at g
  show (decide (1 ≤ b) && Nat.beq (Int.gcd t b) 1) = true
  rw [g, decide_eq_true (by omega)]
  rfl
def sp_fr_check (CN : Addr) : Sp := fun vs H Q E => ∃ (a : Addr) (x : V) (d : PyData), vs = [.ref a, x] ∧ Dq H x d ∧ (frOk d = false → ∀ H', Same H H' → E (.ref CN) none H') ∧ (frOk d = true → Q x H)
theorem frOk_len {ds : List PyData} (h : ds.length ≠ 2) : frOk (.tuple ds) = false := by
  match ds, h with
  | [], _ => rfl
  | [x], _ => cases x <;> rfl
  | [_, _], h => exact absurd rfl h
  | a :: b :: c :: r, _ => cases a <;> first | rfl | (cases b <;> rfl)
theorem frOk_top {d e : PyData} (h : isIntD d = false) : frOk (.tuple [d, e]) = false := by
  cases d <;> first | rfl | cases h
theorem frOk_bot {H : Hp} {y : V} {t : Int} {e : PyData} (k : Dq H y e) (h : wholeIn y (.int 1) .non = false) : frOk (.tuple [.int t, e]) = false := by
  cases k with
  | int i =>
    have h' : (decide (1 ≤ i) && true) = false := h
    rw [Bool.and_true] at h'
    show (decide (1 ≤ i) && Nat.beq (Int.gcd t i) 1) = false
    rw [h']
    rfl
  | _ => rfl
theorem dq_tup {H : Hp} {v : V} {ds : List PyData} (k : Dq H v (.tuple ds)) : ∃ p zs, v = .ref p ∧ H p = some (.tup zs) ∧ DqAll H zs ds := by
  cases k with
  | tup e t => exact ⟨_, _, rfl, e, t⟩
section
variable {P : Program} {w : World} {K : PySem.W.Frag} {mg : Str → Option Value} {base : Heap}
theorem ok_FractionField_check_number (T : Txt K mg) : FnOk P w K mg base (L2.CX P w) 2 T.f_FractionField_check_number T.d_FractionField_check_number ["self", "number"] (sp_fr_check T.C_BadNumber) := by
  refine T.F_FractionField_check_number.okX sc_FractionField_check_number (fun vs H Q E h => ?_) (fun cdv A outer s H vs Q E hr h => ?_)
  · obtain ⟨a, x, d, rfl, _⟩ := h
    rfl
  · obtain ⟨a, x, d, rfl, kx, hE, hQ⟩ := h
    refine ⟨_, (pss_cons (ps_if (PW.pt (pw_or (pt_not (pt_val (pe_callB call_isi (by rfl) T.m_isinstance (by decide +kernel) (pa_cons (pv 1) (pa_cons (pe_bltn (v := .ty "tuple") (u := .type "tuple") (by rfl) T.m_tuple (by decide +kernel) rfl) pa_nil))))) (pw_or1 (pt_cmpR op_ne (pe_callB call_len_seq (by rfl) T.m_len (by decide +kernel) (pa_cons (pv 1) pa_nil)) pe_int (nomark _)))))
        (pss_one (ps_raise (W := fun cls d _ H => E cls d H) rfl (takes_of rfl rfl rfl rfl) (pmk_own0 PySem.F.excBase_ValueError T.q_BadNumber T.g_BadNumber T.k_BadNumber (raises_own T.b_BadNumber T.ty_BadNumber) (by rfl))))
        pss_nil)
      (pss_cons (ps_asg (pv 1) (pg_tup rfl (pgs_cons (pg_name (i := 2) sc_FractionField_check_number.nd rfl (.inl rfl)) (pgs_cons (pg_name (i := 3) sc_FractionField_check_number.nd rfl (.inl rfl)) pgs_nil))))
      (pss_cons (ps_if (PW.pt (pw_or (pt_not (pt_val (pe_call (ok_is_whole T) (hr.mono (by decide)) (by rfl) T.g_is_whole T.F_is_whole.kp T.b2_is_whole (dvs := [.non, .non]) (.cons rfl (.cons rfl .nil)) pass0 (pa_cons (pv 2) pa_nil)))) (pw_or (pt_not (pt_val (pe_call (ok_is_whole T) (hr.mono (by decide)) (by rfl) T.g_is_whole T.F_is_whole.kp T.b1_is_whole (dvs := [.non]) (.cons rfl .nil) pass0 (pa_cons (pv 3) (pa_cons pe_int pa_nil))))) (pw_or1 (pt_cmpR op_ne (pe_call (ok_common_divisor T) (hr.mono (by decide)) (by rfl) T.g_common_divisor T.F_common_divisor.kp T.b_common_divisor .nil pass0 (pa_cons (pv 2) (pa_cons (pv 3) pa_nil))) pe_int (nomark _))))))
        (pss_one (ps_raise (W := fun cls d _ H => E cls d H) rfl (takes_of rfl rfl rfl rfl) (pmk_own0 PySem.F.excBase_ValueError T.q_BadNumber T.g_BadNumber T.k_BadNumber (raises_own T.b_BadNumber T.ty_BadNumber) (by rfl))))
        pss_nil)
      (pss_one (ps_ret (pv 1)))))), ?_⟩
    have refl : Same H H := fun _ _ z => z
    obtain ⟨t, ty, _, _, _, k4⟩ := dq_ty (K := K) kx
    refine ⟨x, rfl, x, .ty "tuple", t, _, _, rfl, .ty _, ty, k4, _, rfl, ?_⟩
    cases d with
    | tuple ds =>
      obtain ⟨l, xs, rfl, e, td⟩ := dq_tup kx
      have lx := td.len
      refine iteF ⟨_, rfl, l, xs, rfl, .inr (SqT.of e), rfl, _, rfl, ?_⟩
      rw [int_dec]
      by_cases c : ds.length = 2
      · rw [decide_eq_true (show (xs.length : Int) = 2 by omega)]
        match ds, c, xs, td, e with
        | [d1, d2], _, [x1, x2], .cons k1 (.cons k2 .nil), e =>
          refine iteF ⟨_, rfl, l, _, rfl, SqT.of e, rfl, _, _, rfl, _, _, rfl, rfl, ?_⟩
          refine ⟨_, rfl, x1, .non, .non, d1, rfl, k1, .inl rfl, .inl rfl, _, rfl, ?_⟩
          rw [wi_any k1]
          cases c1 : isIntD d1 with
          | false => exact iteT (iteT (hE (frOk_top c1) H refl))
          | true =>
            cases k1 with
            | int i1 =>
              refine iteF ⟨_, rfl, x2, .int 1, .non, d2, rfl, k2, .inr ⟨_, rfl⟩, .inl rfl, _, rfl, ?_⟩
              cases c2 : wholeIn x2 (.int 1) .non with
              | false => exact iteT (iteT (hE (frOk_bot k2 c2) H refl))
              | true =>
                cases k2 with
                | int i2 =>
                  have b1 : 1 ≤ i2 := by
                    have h' : (decide (1 ≤ i2) && true) = true := c2
                    rw [Bool.and_true] at h'
                    exact of_decide_eq_true h'
                  have eo : frOk (.tuple [.int i1, .int i2]) = Nat.beq (Int.gcd i1 i2) 1 := by
                    show (decide (1 ≤ i2) && Nat.beq (Int.gcd i1 i2) 1) = _
                    rw [decide_eq_true b1]
                    rfl
                  refine iteF ⟨_, rfl, _, rfl, i1, i2, rfl, rfl, _, rfl, ?_⟩
                  rw [int_dec]
                  by_cases g : Int.gcd i1 i2 = 1
                  · rw [decide_eq_true (show ((Nat.gcd i1.natAbs i2.natAbs : Nat) : Int) = 1 by exact congrArg (fun n : Nat => (n : Int)) g)]
                    exact iteF ⟨_, rfl, hQ (by rw [eo, g]; rfl)⟩
                  · rw [decide_eq_false (show ¬ ((Nat.gcd i1.natAbs i2.natAbs : Nat) : Int) = 1 from fun z => g (by show Nat.gcd i1.natAbs i2.natAbs = 1; omega))]
                    refine iteT (hE ?_ H refl)
                    rw [eo]
                    cases z : Nat.beq (Int.gcd i1 i2) 1 with
                    | false => rfl
                    | true => exact absurd (Nat.eq_of_beq_eq_true z) g
                | _ => cases c2
            | _ => cases c1
      · rw [decide_eq_false (show ¬ (xs.length : Int) = 2 by omega)]
        exact iteT (hE (frOk_len c) H refl)
    | _ => exact iteT (hE rfl H refl)
end
end K25
set_option Elab.async false
set_option linter.all false
set_option maxRecDepth 100000
set_option maxHeartbeats 4000000
/-! enumerate of a tuple, and of a list or a tuple -/
namespace TkS
open PySem PySem.Spec PyProof.Rows L2
set_option maxHeartbeats 1000000 in
theorem meets_enum1 {v : Value} {o : Obj} {H : Heap → Prop} (B : Begins v o H) :
    Meets (Builtin.«enumerate.__new__» ⟨[.type "enumerate", v], []⟩) (fun _ R s => H s.heap ∧
      R (.ok (.ret (.ref (s.heap.push o).objs.size))) { s with heap := (s.heap.push o).push { cls := .type "enumerate", data := .fields #[.none, .bool false, .ref s.heap.objs.size, rawInt 0, .none, .none] } }) :=
  .of_wp fun prog w A R s h => by
    obtain ⟨hp, g, d, tk, os⟩ := s
    obtain ⟨b0, h⟩ := h
    have sube := sub_enumerate
    have go : ∀ {A' : Around} {E : Value → Shared → Prop} {Q : Value → Shared → Prop}, Q (.ref hp.objs.size) ⟨hp.push o, g, d, tk, os⟩ → wpAny (model prog w) A' (pyIter v) Q E ⟨hp, g, d, tk, os⟩ := fun q => B.iter prog w _ _ ⟨hp, g, d, tk, os⟩ _ b0 q
    wp_walk using go
    refine wpAny_stack_any fun st => wpAny_pure ?_
    split
    · rename_i k _ _ _ _ _
      cases (k == Value.type "enumerate") <;> (wp_walk using go; exact ⟨_, rfl, h⟩)
    · wp_walk using go
      exact ⟨_, rfl, h⟩
theorem enum_begins1 {prog : Program} {w : World} {A : Around} {E : Value → Shared → Prop} {s : Shared} {v : Value} {o : Obj} {H : Heap → Prop} {Q : Value → Shared → Prop} (B : Begins v o H) (b0 : H s.heap)
    (h : ∀ h', IsEnum h' (s.heap.objs.size + 1) s.heap.objs.size 0 .none → h'.get? s.heap.objs.size = some o → (∀ b ob, s.heap.get? b = some ob → h'.get? b = some ob) → Q (.ref (s.heap.objs.size + 1)) { s with heap := h' }) :
    wpAny (model prog w) A (call (.type "enumerate") [v]) Q E s := by
  refine callType_new F.called_enumerate (by decide) (F.typeCall_enumerate_1 _) (F.newCall_enumerate_1 _) (fun obj => F.args_object_init_2 obj _) F.entry_enumerate_new (meets_enum1 B) ⟨b0, ?_⟩
  have z1 : (s.heap.push o).objs.size = s.heap.objs.size + 1 := Heap.size_push ..
  have e1 : ((s.heap.push o).push { cls := .type "enumerate", data := .fields #[.none, .bool false, .ref s.heap.objs.size, rawInt 0, .none, .none] }).get? (s.heap.push o).objs.size = some _ := Heap.get?_push_size _ rfl
  show _ ∧ _
  rw [z1] at e1 ⊢
  exact ⟨⟨_, e1, rfl⟩, h _ e1 (Heap.get?_push_of_some _ (Heap.get?_push_size _ B.free)) fun b ob z => Heap.get?_push_of_some _ (Heap.get?_push_of_some _ z)⟩
def IteT (K : PySem.W.Frag) (a : Addr) : It :=
  ⟨fun i H => ∃ (xs : List V) (x : V), SqT K H a xs ∧ xs[i]? = some x, fun i H v H' => ∃ T x, v = .ref T ∧ H T = none ∧ H' = upd H T (.tup [.int (i : Nat), x]) ∧ ∀ xs, SqT K H a xs → xs[i]? = some x, fun i H => ∃ xs : List V, SqT K H a xs ∧ xs.length ≤ i⟩
theorem turn_enumT {P : Program} {w : World} {K : PySem.W.Frag} {elts : List Expr} {kk : Nat} {tpos : Pos} (a e it : Addr) (hei : e ≠ it) (hea : e ≠ a) (hai : a ≠ it) :
    Turn P w K (.Tuple elts kk tpos) (IteT K a) [e, it] e (fun i h => (∃ old, IsEnum h e it ((i : Nat) : Int) old) ∧ h.IsTupleIter it a i) where
  mem := by simp
  obj := fun i h st b hb => by
    obtain ⟨⟨old, he⟩, ⟨o, ho, _, hd⟩⟩ := st
    have hb' : b = e ∨ b = it := by simpa using hb
    rcases hb' with z | z
    · subst z
      exact ⟨_, he, fun v q => nomatch q⟩
    · subst z
      exact ⟨o, ho, fun v q => by rw [hd] at q; cases q⟩
  keep := fun i h h' st k => by
    obtain ⟨⟨old, he⟩, hi⟩ := st
    exact ⟨⟨old, k e (by simp) _ he⟩, hi.at fun o q => k it (by simp) o q⟩
  item := by
    intro X hP hw hK hc i pins s σ H E I hf st hg
    subst hP hw hK
    obtain ⟨⟨old, he⟩, hit⟩ := st
    obtain ⟨xs, x, hq, hx⟩ := hg
    obtain ⟨its, rv, p, hz⟩ := I.tuple hq
    obtain ⟨u, hu, ru⟩ := rv.get hx
    have le : e < s.heap.objs.size := Heap.lt_size he
    have li : it < s.heap.objs.size := by
      obtain ⟨_, q, _⟩ := hit
      exact Heap.lt_size q
    have lx : i < its.toArray.size := by
      have := (List.getElem?_eq_some_iff.mp hu).1
      simpa using this
    refine wpAny_pyNext_enum_itemD (Draws.tuple (prog := X.prog) (w := X.w) (A := X.A.in1) (I.ok.hd hc) it a hai its.toArray) he ⟨hit, p⟩ lx hei (by simp [hei, hea]) fun x' h' tk hP ho hst hT hsz hk => ?_
    have ex : x' = u := by
      have : its[i]? = some x' := by simpa using hP
      rw [hu] at this
      exact (Option.some.inj this).symm
    subst ex
    refine ⟨_, rfl, wpAny_letOwnedTupleGo_enum (s := { s with heap := h', toks := tk + 1 }) ho fun h'' he' sb => ?_⟩
    have hT2 : h''.get? s.heap.objs.size = some { cls := .type "tuple", data := .seq #[.int i tk, x'] } := (sb.2 _ (Nat.ne_of_gt le)).trans hT
    have new : ObjOk X.prog X.w (upd H s.heap.objs.size (.tup [.int (i : Nat), x])) h'' s.heap.objs.size (.tup [.int (i : Nat), x]) :=
      ⟨by show 2 ≤ sizeLine; decide, [.int i tk, x'], .cons ⟨_, rfl⟩ (.cons ru .nil), ⟨_, hT2, rfl, _, rfl⟩⟩
    have I1 : Inv X pins σ (upd H s.heap.objs.size (.tup [.int (i : Nat), x])) { s with heap := h'', toks := tk + 1 } :=
      I.turnedNew (ch := [e, it]) (fun b ob hb q => (sb.2 b (fun z => hb (by simp [z]))).trans (hk b ob (fun z => hb (by simp [z])) (fun z => hb (by simp [z])) q)) hf (Nat.le_refl _) new
    refine ⟨.ref s.heap.objs.size, _, I1, rfl, ⟨_, x, rfl, I.hok.fresh (Nat.le_refl _), rfl, fun ys hy => by rw [I.tuple_inj hy hq]; exact hx⟩, ⟨⟨x', ?_⟩, hst.1.at fun o q => (sb.2 it (Ne.symm hei)).trans q⟩, fun b hb => ?_⟩
    · rw [show ((i + 1 : Nat) : Int) = (i : Int) + 1 by omega]
      exact he'
    · have lb : b < s.heap.objs.size := by
        have hb' : b = e ∨ b = it := by simpa using hb
        rcases hb' with z | z <;> (subst z; assumption)
      rw [upd_ne (Nat.ne_of_lt lb)]
      exact (hf b hb).1
  done := by
    intro X hP hw hK hc i pins s σ H E I hf st hg
    subst hP hw hK
    obtain ⟨⟨old, he⟩, hit⟩ := st
    obtain ⟨xs, hq, hx⟩ := hg
    obtain ⟨its, rv, p, hz⟩ := I.tuple hq
    obtain ⟨f0, f1, f2, f3, f4, f5⟩ := hf it (by simp)
    have hl := rv.length
    have D : Draws X.prog X.w X.A.in1 it [it, a] i (fun j v => its.toArray[j]? = some v) (fun j h => j = i ∧ h.IsTupleIter it a j ∧ h.IsTuple a its.toArray) :=
      { live := fun _ _ st => let ⟨o, ho, _⟩ := st.2.1; ⟨o, ho⟩
        frame := fun j h h' st hk => ⟨st.1, (Draws.tuple (prog := X.prog) (w := X.w) (A := X.A.in1) (I.ok.hd hc) it a hai its.toArray).frame j h h' st.2 hk⟩
        item := fun j s' Q' E' hj st' hQ => absurd st'.1 (Nat.ne_of_lt hj)
        done := fun s' Q' E' st' hE => wpAny_nextOf_tuple_end (I.ok.hd hc) st'.2.1 st'.2.2 (by simp; omega) hE }
    exact wpAny_pyNext_enum_endD D he ⟨rfl, hit, p⟩ fun h' eb => ⟨rfl, I.turned (t' := s.toks) (fun b o hb q => eb b o hb q) f0 f1 f3 f4 f5⟩
  self := fun A i s Q E st h => let ⟨⟨_, he⟩, _⟩ := st; wpAny_pyIter_enum he h
def iEnumT (K : PySem.W.Frag) (ta : TA) : TI := fun σ H R => ta σ H fun vs H1 => ∃ a xs, vs = [.ref a] ∧ SqT K H1 a xs ∧ R (IteT K a) H1
theorem pi_enumT {X : Cx} {e : Expr} {ta : TA} {p pos tpos : Pos} {elts : List Expr} {kk : Nat} (hg : Gl X "enumerate") (hm : X.mg "enumerate" = none) (ha : PA X [e] ta) (hs : starEach [e] X.env = [(false, eval e X.env)] := by rfl) :
    PI X (.Tuple elts kk tpos) (.Call (.Name "enumerate" p) [e] [] pos) (iEnumT X.K ta) := by
  refine ⟨fun pins s σ H R I h => ?_⟩
  refine Call_ (ld_blt I hg hm boot_enumerate (PyProof.Rows.callWith_type1 (thn (ha.run pos pins s σ H _ I h) fun us s1 ⟨vs, H1, I1, r1, a, xs, ex, hq, q⟩ => ?_) hs rfl))
  subst ex
  obtain ⟨u, rfl, r⟩ : ∃ u, us = [u] ∧ RelV (.ref a) u := by
    cases r1 with
    | cons r rr =>
      cases rr
      exact ⟨_, rfl, r⟩
  cases r
  obtain ⟨its, rv, p', hz⟩ := I1.tuple hq
  have la : a < s1.heap.objs.size := by
    obtain ⟨_, z, _⟩ := p'
    exact Heap.lt_size z
  refine enum_begins1 (begins_tuple a its.toArray) p' fun h' he hit hk => wpAny_pyIter_enum he ?_
  have I2 : Inv X pins σ H1 { s1 with heap := h' } := I1.kept (t' := s1.toks) hk
  refine ⟨s1.heap.objs.size + 1, [s1.heap.objs.size + 1, s1.heap.objs.size], _, _, H1, rfl, I2, turn_enumT a (s1.heap.objs.size + 1) s1.heap.objs.size (Nat.succ_ne_self _) (Nat.ne_of_gt (Nat.lt_succ_of_lt la)) (Nat.ne_of_lt la), ⟨⟨.none, he⟩, ⟨_, hit, rfl, rfl⟩⟩, fun b hb => ?_, q⟩
  have lb : s1.heap.objs.size ≤ b := by
    have hb' : b = s1.heap.objs.size + 1 ∨ b = s1.heap.objs.size := by simpa using hb
    rcases hb' with z | z <;> rw [z]
    · exact Nat.le_add_right _ _
    · exact Nat.le_refl _
  exact I1.fpOk lb (I1.hok.fresh lb)
def iEnumS (K : PySem.W.Frag) (ta : TA) : TI := fun σ H R => iEnum K ta σ H R ∨ iEnumT K ta σ H R
theorem pi_enumS {X : Cx} {e : Expr} {ta : TA} {p pos tpos : Pos} {elts : List Expr} {kk : Nat} (hg : Gl X "enumerate") (hm : X.mg "enumerate" = none) (ha : PA X [e] ta) (hs : starEach [e] X.env = [(false, eval e X.env)] := by rfl) :
    PI X (.Tuple elts kk tpos) (.Call (.Name "enumerate" p) [e] [] pos) (iEnumS X.K ta) :=
  ⟨fun pins s σ H R I h => h.elim (fun h => (pi_enum hg hm ha hs).run pins s σ H R I h) (fun h => (pi_enumT hg hm ha hs).run pins s σ H R I h)⟩
theorem for_enumS {K : PySem.W.Frag} {a : Addr} {xs : List V} {ta : TA} {g : TG} {tb : TS} {D : Ends} {σ : L2.St} {H : Hp} (Pv : Nat → L2.St → Hp → Prop) (ht : ∀ Q : List V → Hp → Prop, Q [.ref a] H → ta σ H Q) (hq : Sq K H a xs) (h0 : Pv 0 σ H)
    (hl : ∀ i σ H', Pv i σ H' → Same H H')
    (hs : ∀ i x T σ H', xs[i]? = some x → Pv i σ H' → H' T = none → g (.ref T) σ (upd H' T (.tup [.int (i : Nat), x])) fun σ2 H2 => tb { D with nx := Pv (i + 1), ct := Pv (i + 1), bk := D.nx } σ2 H2) (hd : ∀ σ H', Pv xs.length σ H' → D.nx σ H') :
    tFor (iEnumS K ta) g tb D σ H := by
  have walk : ∀ {J : It} {ok : Hp → Prop}, (∀ i H', ok H' → (∀ x, xs[i]? = some x → J.go i H') ∧ (xs.length ≤ i → J.stop i H') ∧ ∀ v H'', J.yld i H' v H'' → ∃ T x, v = .ref T ∧ H' T = none ∧ H'' = upd H' T (.tup [.int (i : Nat), x]) ∧ xs[i]? = some x) → (∀ H', Same H H' → ok H') →
      ∃ W : Nat → Nat → L2.St → Hp → Prop, (∃ m, W 0 m σ H) ∧ ∀ i m σ H, W i m σ H →
        (J.stop i H ∧ D.nx σ H) ∨ (J.go i H ∧ ∃ N : L2.St → Hp → Prop, (∀ σ' H', N σ' H' → ∃ m', m' < m ∧ W (i + 1) m' σ' H') ∧ ∀ v H', J.yld i H v H' → g v σ H' fun σ2 H2 => tb { D with nx := N, ct := N, bk := D.nx } σ2 H2) := fun {J ok} hJ hok => by
    refine ⟨fun i m σ H' => m = xs.length - i ∧ i ≤ xs.length ∧ Pv i σ H', ⟨xs.length, rfl, Nat.zero_le _, h0⟩, ?_⟩
    rintro i m σ' H' ⟨rfl, hi, p⟩
    obtain ⟨j1, j2, j3⟩ := hJ i H' (hok H' (hl i σ' H' p))
    rcases Nat.lt_or_ge i xs.length with hlt | hge
    · refine .inr ⟨j1 _ (List.getElem?_eq_getElem hlt), Pv (i + 1), fun σ2 H2 p2 => ⟨xs.length - (i + 1), by omega, rfl, hlt, p2⟩, fun v H2 y => ?_⟩
      obtain ⟨T, x, rfl, hT, rfl, hx⟩ := j3 v H2 y
      exact hs i x T σ' H' hx p hT
    · have e : i = xs.length := by omega
      subst e
      exact .inl ⟨j2 (Nat.le_refl _), hd σ' H' p⟩
  rcases hq with hq | hq
  · exact .inl (ht _ ⟨a, xs, rfl, hq, walk (J := Ite K a) (ok := fun H' => SqL K H' a xs) (fun i H' z => ⟨fun x hx => ⟨xs, x, z, hx⟩, fun hi => ⟨xs, z, hi⟩, fun v H2 ⟨T, x, e1, e2, e3, e4⟩ => ⟨T, x, e1, e2, e3, e4 xs z⟩⟩) fun H' s => s.seq hq⟩)
  · exact .inr (ht _ ⟨a, xs, rfl, hq, walk (J := IteT K a) (ok := fun H' => SqT K H' a xs) (fun i H' z => ⟨fun x hx => ⟨xs, x, z, hx⟩, fun hi => ⟨xs, z, hi⟩, fun v H2 ⟨T, x, e1, e2, e3, e4⟩ => ⟨T, x, e1, e2, e3, e4 xs z⟩⟩) fun H' s => seqT_same s hq⟩)
end TkS
set_option Elab.async false
set_option linter.all false
set_option maxRecDepth 100000
set_option maxHeartbeats 4000000
/-! comprehensions over a list that is made on the way, and over zip -/
namespace TkS
open PySem PySem.Spec PyProof.Rows L2
theorem lc_listD {K : PySem.W.Frag} {a : Addr} {xs : List V} {ds : List PyData} {tt : TT} {te : TE} {vs : List Nat} {σ : L2.St} {H : Hp} {D : Addr} {Qd : Hp → Prop} {j : Nat} (f : PyData → Bool) (e : PyData → PyData)
    (hq : SqL K H a xs) (hx : DqAll H xs ds) (nD : H D = none) (hl : ds.length ≤ 900) (hw : ∀ x : V, wipe ((wipe σ vs).set j (some x)) vs = wipe σ vs)
    (ht : ∀ (i : Nat) (x : V) (d : PyData) (H' : Hp) (Q : Bool → Hp → Prop), ds[i]? = some d → Same H H' → Dq H' x d → (∀ H'', Same H' H'' → Q (f d) H'') → tt ((wipe σ vs).set j (some x)) H' Q)
    (he : ∀ (i : Nat) (x : V) (d : PyData) (H' : Hp) (Q : VK), ds[i]? = some d → f d = true → Same H H' → Dq H' x d → (∃ acc, H' D = some (.lst acc)) → (∀ y H'', Same H' H'' → Dq (TkS.Off D H'') y (e d) → Q y H'') → te ((wipe σ vs).set j (some x)) H' Q)
    (hd : ∀ H', Same H H' → Dq H' (.ref D) (.list ((ds.filter f).map e)) → Qd H') :
    ∃ W : Nat → Nat → Hp → Prop, (∃ m, W 0 m (upd H D (.lst []))) ∧ ∀ i m H, W i m H →
      ((Itl K a).stop i H ∧ Qd H) ∨ ((Itl K a).go i H ∧ ∃ Nx : Hp → Prop, (∀ H', Nx H' → ∃ m', m' < m ∧ W (i + 1) m' H') ∧ ∀ x H', (Itl K a).yld i H x H' → gName j x (wipe σ vs) H' fun σ2 H2 => wipe σ2 vs = wipe σ vs ∧ tt σ2 H2 fun b H3 =>
        if b = true then te σ2 H3 fun y H4 => ∃ acc, H4 D = some (.lst acc) ∧ acc.length < sizeLine ∧ Nx (upd H4 D (.lst (acc ++ [y]))) else Nx H3) := by
  refine lc_list (xs := xs) (fun i H' => Acc H D (((ds.take i).filter f).map e) H') (Acc.nil nD) (fun i H' _ hP => hP.1.seq hq) (fun i x H' hxi hP => ?_) (fun H' hP => ?_)
  · obtain ⟨d, hdi, kd⟩ := hx.get hxi
    have kd1 := kd.same hP.1
    refine ⟨hw _, ht i x d H' _ hdi hP.1 kd1 fun H2 s2 => ?_⟩
    have hP2 := hP.mv s2
    cases c : f d with
    | true =>
      refine he i x d H2 _ hdi c hP2.1 (kd1.same s2) ⟨_, hP2.2.choose_spec.1⟩ fun y H3 s3 k => ?_
      rw [filter_snoc _ _ hdi, if_pos c]
      refine hP2.put nD ?_ s3 k
      have := len_ft f e (ds.take i)
      rw [List.length_take] at this
      omega
    | false =>
      show Acc _ _ _ _
      rw [filter_snoc _ _ hdi, c, if_neg Bool.false_ne_true]
      exact hP2
  · rw [hx.len, List.take_length] at hP
    exact hd H' hP.1 hP.dq
theorem lc_zipS {t1 t2 : Bool} {K : PySem.W.Frag} {a b : Addr} {xs ys : List V} {g : TG} {tt : TT} {te : TE} {vs : List Nat} {σ : L2.St} {H1 : Hp} {D : Addr} {Qd : Hp → Prop} (hl : xs.length = ys.length) (Pv : Nat → Hp → Prop) (h0 : Pv 0 (upd H1 D (.lst []))) (hq : ∀ i H, Pv i H → RZM.SqS t1 K H a xs ∧ RZM.SqS t2 K H b ys)
    (hs : ∀ (i : Nat) (x y : V) (T : Addr) (H : Hp), xs[i]? = some x → ys[i]? = some y → Pv i H → H T = none → g (.ref T) (wipe σ vs) (upd H T (.tup [x, y])) fun σ2 H2 => wipe σ2 vs = wipe σ vs ∧ tt σ2 H2 fun b H3 =>
      if b = true then te σ2 H3 fun y H4 => ∃ acc, H4 D = some (.lst acc) ∧ acc.length < sizeLine ∧ Pv (i + 1) (upd H4 D (.lst (acc ++ [y]))) else Pv (i + 1) H3) (hd : ∀ H, Pv xs.length H → Qd H) :
    ∃ W : Nat → Nat → Hp → Prop, (∃ m, W 0 m (upd H1 D (.lst []))) ∧ ∀ i m H, W i m H →
      ((RZM.ItzS t1 t2 K a b).stop i H ∧ Qd H) ∨ ((RZM.ItzS t1 t2 K a b).go i H ∧ ∃ Nx : Hp → Prop, (∀ H', Nx H' → ∃ m', m' < m ∧ W (i + 1) m' H') ∧ ∀ x H', (RZM.ItzS t1 t2 K a b).yld i H x H' → g x (wipe σ vs) H' fun σ2 H2 => wipe σ2 vs = wipe σ vs ∧ tt σ2 H2 fun b H3 =>
        if b = true then te σ2 H3 fun y H4 => ∃ acc, H4 D = some (.lst acc) ∧ acc.length < sizeLine ∧ Nx (upd H4 D (.lst (acc ++ [y]))) else Nx H3) := by
  refine ⟨fun i m H => m = xs.length - i ∧ i ≤ xs.length ∧ Pv i H, ⟨xs.length, rfl, Nat.zero_le _, h0⟩, ?_⟩
  rintro i m H ⟨rfl, hi, p⟩
  obtain ⟨qx, qy⟩ := hq i H p
  rcases Nat.lt_or_ge i xs.length with hlt | hge
  · refine .inr ⟨⟨xs, ys, _, _, qx, qy, List.getElem?_eq_getElem hlt, List.getElem?_eq_getElem (by omega)⟩, Pv (i + 1), fun H' p' => ⟨xs.length - (i + 1), by omega, rfl, hlt, p'⟩, fun v H' y => ?_⟩
    obtain ⟨T, x', y', rfl, hT, rfl, f1, f2⟩ := y
    exact hs i x' y' T H (f1 xs qx) (f2 ys qy) p hT
  · have e : i = xs.length := by omega
    subst e
    exact .inl ⟨⟨xs, ys, qx, qy, Or.inl (Nat.le_refl _)⟩, hd H p⟩
end TkS
set_option Elab.async false
set_option linter.all false
set_option maxRecDepth 100000
set_option maxHeartbeats 4000000
/-! comprehensions whose items are known values: over zip, over a list or a tuple, over a range -/
namespace TkS
open PySem PySem.Spec PyProof.Rows L2
theorem sqs_same {t : Bool} {K : PySem.W.Frag} {H H' : Hp} {a : Addr} {xs : List V} (s : Same H H') (h : RZM.SqS t K H a xs) : RZM.SqS t K H' a xs := by
  cases t with
  | true => exact seqT_same s h
  | false => exact s.seq h
theorem sqs_of {K : PySem.W.Frag} {H : Hp} {a : Addr} {xs : List V} (h : Sq K H a xs) : ∃ t, RZM.SqS t K H a xs := h.elim (fun z => ⟨false, z⟩) (fun z => ⟨true, z⟩)
theorem range_snoc {α : Type} (f : Nat → Bool) (e : Nat → α) (i : Nat) : ((List.range (i + 1)).filter f).map e = if f i = true then ((List.range i).filter f).map e ++ [e i] else ((List.range i).filter f).map e := by
  rw [List.range_succ, List.filter_append, List.map_append]
  cases c : f i with
  | true =>
    rw [if_pos rfl, List.filter_cons_of_pos c]
    rfl
  | false =>
    rw [if_neg Bool.false_ne_true, List.filter_cons_of_neg (by rw [c]; exact Bool.false_ne_true)]
    exact List.append_nil _
theorem range_len {α : Type} (f : Nat → Bool) (e : Nat → α) (i : Nat) : (((List.range i).filter f).map e).length ≤ i := by
  rw [List.length_map]
  exact Nat.le_trans (List.length_filter_le _ _) (by rw [List.length_range]; exact Nat.le_refl _)
/-- the list under way -/
def AccV (H0 : Hp) (D : Addr) (vs : List V) (H' : Hp) : Prop := Same H0 H' ∧ H' D = some (.lst vs)
theorem AccV.put {H0 H' H'' : Hp} {D : Addr} {vs : List V} {v : V} (a : AccV H0 D vs H') (nD : H0 D = none) (hl : vs.length ≤ 900) (s : Same H' H'') :
    ∃ acc, H'' D = some (.lst acc) ∧ acc.length < sizeLine ∧ AccV H0 D (vs ++ [v]) (upd H'' D (.lst (acc ++ [v]))) := by
  refine ⟨vs, s _ _ a.2, small1000 (by omega), fun b o e => ?_, upd_same⟩
  rw [upd_ne (ne_of_none e nD)]
  exact s _ _ (a.1 _ _ e)
theorem AccV.mv {H0 H' H'' : Hp} {D : Addr} {vs : List V} (a : AccV H0 D vs H') (s : Same H' H'') : AccV H0 D vs H'' := ⟨a.1.trans s, s _ _ a.2⟩
theorem lc_zipV {t1 t2 : Bool} {K : PySem.W.Frag} {a b : Addr} {xs ys : List V} {g : TG} {tt : TT} {te : TE} {vs : List Nat} {σ : L2.St} {H1 : Hp} {D : Addr} {Qd : Hp → Prop} (f : Nat → Bool) (e : Nat → V) (hl : xs.length = ys.length) (hn : xs.length ≤ 900) (nD : H1 D = none)
    (qx : RZM.SqS t1 K H1 a xs) (qy : RZM.SqS t2 K H1 b ys)
    (hs : ∀ (i : Nat) (x y : V) (T : Addr) (H' : Hp) (R : V → Hp → Prop) (N : Hp → Prop), xs[i]? = some x → ys[i]? = some y → Same H1 H' → H' T = some (.tup [x, y]) → (f i = true → ∀ H'', Same H' H'' → R (e i) H'') → (f i = false → ∀ H'', Same H' H'' → N H'') →
      g (.ref T) (wipe σ vs) H' fun σ2 H2 => wipe σ2 vs = wipe σ vs ∧ tt σ2 H2 fun b H3 => if b = true then te σ2 H3 R else N H3)
    (hd : ∀ H', Same H1 H' → H' D = some (.lst (((List.range xs.length).filter f).map e)) → Qd H') :
    ∃ W : Nat → Nat → Hp → Prop, (∃ m, W 0 m (upd H1 D (.lst []))) ∧ ∀ i m H, W i m H →
      ((RZM.ItzS t1 t2 K a b).stop i H ∧ Qd H) ∨ ((RZM.ItzS t1 t2 K a b).go i H ∧ ∃ Nx : Hp → Prop, (∀ H', Nx H' → ∃ m', m' < m ∧ W (i + 1) m' H') ∧ ∀ x H', (RZM.ItzS t1 t2 K a b).yld i H x H' → g x (wipe σ vs) H' fun σ2 H2 => wipe σ2 vs = wipe σ vs ∧ tt σ2 H2 fun b H3 =>
        if b = true then te σ2 H3 fun y H4 => ∃ acc, H4 D = some (.lst acc) ∧ acc.length < sizeLine ∧ Nx (upd H4 D (.lst (acc ++ [y]))) else Nx H3) := by
  refine lc_zipS hl (fun i H' => AccV H1 D (((List.range i).filter f).map e) H') ⟨same_new nD, upd_same⟩ (fun i H' hP => ⟨sqs_same hP.1 qx, sqs_same hP.1 qy⟩) (fun i x y T H' hx hy hP nT => ?_) (fun H' hP => hd H' hP.1 hP.2)
  have hi : i < xs.length := (List.getElem?_eq_some_iff.mp hx).1
  have sT : Same H' (upd H' T (.tup [x, y])) := same_new nT
  have hP2 := hP.mv sT
  refine hs i x y T _ _ _ hx hy hP2.1 upd_same (fun c H'' s => ?_) (fun c H'' s => ?_)
  · rw [range_snoc, if_pos c]
    exact hP2.put nD (Nat.le_trans (range_len _ _ _) (by omega)) s
  · show AccV _ _ _ _
    rw [range_snoc, c, if_neg Bool.false_ne_true]
    exact hP2.mv s
theorem lc_seqV {K : PySem.W.Frag} {a : Addr} {xs : List V} {tl : TE} {g : TG} {tt : TT} {te : TE} {vs : List Nat} {σ : L2.St} {H : Hp} {Q : VK} (f : Nat → Bool) (e : Nat → V)
    (ht0 : ∀ Q : VK, Q (.ref a) H → tl σ H Q) (hq : Sq K H a xs) (hn : xs.length ≤ 900)
    (hs : ∀ (i : Nat) (x : V) (H' : Hp) (R : V → Hp → Prop) (N : Hp → Prop), xs[i]? = some x → Same H H' → (f i = true → ∀ H'', Same H' H'' → R (e i) H'') → (f i = false → ∀ H'', Same H' H'' → N H'') →
      g x (wipe σ vs) H' fun σ2 H2 => wipe σ2 vs = wipe σ vs ∧ tt σ2 H2 fun b H3 => if b = true then te σ2 H3 R else N H3)
    (hd : ∀ D H', H D = none → Same H H' → H' D = some (.lst (((List.range xs.length).filter f).map e)) → Q (.ref D) H') :
    tLc (iSeq K tl) g tt te vs σ H Q := by
  refine lc_seq (fun D i H' => AccV H D (((List.range i).filter f).map e) H') ht0 hq (fun D nD => ⟨same_new nD, upd_same⟩) (fun D i H' _ _ hP => hP.1) (fun D i x H' nD hx hP => ?_) (fun D H' nD hP => hd D H' nD hP.1 hP.2)
  have hi : i < xs.length := (List.getElem?_eq_some_iff.mp hx).1
  refine hs i x _ _ _ hx hP.1 (fun c H'' s => ?_) (fun c H'' s => ?_)
  · rw [range_snoc, if_pos c]
    exact hP.put nD (Nat.le_trans (range_len _ _ _) (by omega)) s
  · show AccV _ _ _ _
    rw [range_snoc, c, if_neg Bool.false_ne_true]
    exact hP.mv s
theorem range_all {α : Type} (e : Nat → α) (n : Nat) : ((List.range n).filter fun _ => true).map e = (List.range n).map e := by
  rw [List.filter_eq_self.mpr fun _ _ => rfl]
theorem ret_cb_lc {r : List V → Hp → VK → Prop} {wi : TI} {g : TG} {tt : TT} {te : TE} {vs : List Nat} {D : Ends} {σ : L2.St} {H : Hp} (h : tLc wi g tt te vs σ H fun v H1 => r [v] H1 D.rt) : tRet (tCB r (tCons (tLc wi g tt te vs) tNil)) D σ H := h
theorem lc_tupV {K : PySem.W.Frag} {a : Addr} {xs : List V} {g : TG} {tt : TT} {te : TE} {vs : List Nat} {σ : L2.St} {H : Hp} {D : Addr} {Qd : Hp → Prop} (f : Nat → Bool) (e : Nat → V)
    (hq : SqT K H a xs) (hn : xs.length ≤ 900) (nD : H D = none)
    (hs : ∀ (i : Nat) (x : V) (H' : Hp) (R : V → Hp → Prop) (N : Hp → Prop), xs[i]? = some x → Same H H' → (f i = true → ∀ H'', Same H' H'' → R (e i) H'') → (f i = false → ∀ H'', Same H' H'' → N H'') →
      g x (wipe σ vs) H' fun σ2 H2 => wipe σ2 vs = wipe σ vs ∧ tt σ2 H2 fun b H3 => if b = true then te σ2 H3 R else N H3)
    (hd : ∀ H', Same H H' → H' D = some (.lst (((List.range xs.length).filter f).map e)) → Qd H') :
    ∃ W : Nat → Nat → Hp → Prop, (∃ m, W 0 m (upd H D (.lst []))) ∧ ∀ i m H, W i m H →
      ((Itt K a).stop i H ∧ Qd H) ∨ ((Itt K a).go i H ∧ ∃ Nx : Hp → Prop, (∀ H', Nx H' → ∃ m', m' < m ∧ W (i + 1) m' H') ∧ ∀ x H', (Itt K a).yld i H x H' → g x (wipe σ vs) H' fun σ2 H2 => wipe σ2 vs = wipe σ vs ∧ tt σ2 H2 fun b H3 =>
        if b = true then te σ2 H3 fun y H4 => ∃ acc, H4 D = some (.lst acc) ∧ acc.length < sizeLine ∧ Nx (upd H4 D (.lst (acc ++ [y]))) else Nx H3) := by
  refine lc_tup (fun i H' => AccV H D (((List.range i).filter f).map e) H') ⟨same_new nD, upd_same⟩ (fun i H' _ hP => seqT_same hP.1 hq) (fun i x H' hx hP => ?_) (fun H' hP => hd H' hP.1 hP.2)
  have hi : i < xs.length := (List.getElem?_eq_some_iff.mp hx).1
  refine hs i x _ _ _ hx hP.1 (fun c H'' s => ?_) (fun c H'' s => ?_)
  · rw [range_snoc, if_pos c]
    exact hP.put nD (Nat.le_trans (range_len _ _ _) (by omega)) s
  · show AccV _ _ _ _
    rw [range_snoc, c, if_neg Bool.false_ne_true]
    exact hP.mv s
theorem nx_go {f : L2.St → Hp → Prop} {D : Ends} {σ : L2.St} {H : Hp} (hD : D.nx = f) (h : f σ H) : tNext D σ H := by
  unfold tNext
  rw [hD]
  exact h
theorem if_lcOp {r : R2} {wi : TI} {g : TG} {tt : TT} {te tb : TE} {vs : List Nat} {t1 t2 rest : TS} {D : Ends} {σ : L2.St} {H : Hp}
    (h : tLc wi g tt te vs σ H fun x H1 => tb σ H1 fun y H2 => r x y H2 fun v H3 => ∃ b, v = .bl b ∧ if b = true then t1 { D with nx := rest D } σ H3 else t2 { D with nx := rest D } σ H3) :
    tSeq (tIfS (tTest (tOp r (tLc wi g tt te vs) tb)) t1 t2) rest D σ H := h
theorem lc_listD2 {K : PySem.W.Frag} {a : Addr} {xs : List V} {ds : List PyData} {tt : TT} {te : TE} {vs : List Nat} {σ : L2.St} {H : Hp} {D : Addr} {Qd : Hp → Prop} {j : Nat} (f : PyData → Bool) (e : PyData → PyData)
    (hq : SqL K H a xs) (hx : DqAll H xs ds) (nD : H D = none) (hl : ds.length ≤ 900) (hw : ∀ x : V, wipe ((wipe σ vs).set j (some x)) vs = wipe σ vs)
    (ht : ∀ (i : Nat) (x : V) (d : PyData) (H' : Hp) (Q : Bool → Hp → Prop), ds[i]? = some d → Same H H' → Dq H' x d → (∀ H'', Same H' H'' → Q (f d) H'') → tt ((wipe σ vs).set j (some x)) H' Q)
    (he : ∀ (i : Nat) (x : V) (d : PyData) (H' : Hp) (Q : VK), ds[i]? = some d → f d = true → Dq H x d → Same H H' → Dq H' x d → (∃ acc, H' D = some (.lst acc)) → (∀ y H'', Same H' H'' → Dq (TkS.Off D H'') y (e d) → Q y H'') → te ((wipe σ vs).set j (some x)) H' Q)
    (hd : ∀ H', Same H H' → Dq H' (.ref D) (.list ((ds.filter f).map e)) → Qd H') :
    ∃ W : Nat → Nat → Hp → Prop, (∃ m, W 0 m (upd H D (.lst []))) ∧ ∀ i m H, W i m H →
      ((Itl K a).stop i H ∧ Qd H) ∨ ((Itl K a).go i H ∧ ∃ Nx : Hp → Prop, (∀ H', Nx H' → ∃ m', m' < m ∧ W (i + 1) m' H') ∧ ∀ x H', (Itl K a).yld i H x H' → gName j x (wipe σ vs) H' fun σ2 H2 => wipe σ2 vs = wipe σ vs ∧ tt σ2 H2 fun b H3 =>
        if b = true then te σ2 H3 fun y H4 => ∃ acc, H4 D = some (.lst acc) ∧ acc.length < sizeLine ∧ Nx (upd H4 D (.lst (acc ++ [y]))) else Nx H3) := by
  refine lc_list (xs := xs) (fun i H' => Acc H D (((ds.take i).filter f).map e) H') (Acc.nil nD) (fun i H' _ hP => hP.1.seq hq) (fun i x H' hxi hP => ?_) (fun H' hP => ?_)
  · obtain ⟨d, hdi, kd⟩ := hx.get hxi
    have kd1 := kd.same hP.1
    refine ⟨hw _, ht i x d H' _ hdi hP.1 kd1 fun H2 s2 => ?_⟩
    have hP2 := hP.mv s2
    cases c : f d with
    | true =>
      refine he i x d H2 _ hdi c kd hP2.1 (kd1.same s2) ⟨_, hP2.2.choose_spec.1⟩ fun y H3 s3 k => ?_
      rw [filter_snoc _ _ hdi, if_pos c]
      refine hP2.put nD ?_ s3 k
      have := len_ft f e (ds.take i)
      rw [List.length_take] at this
      omega
    | false =>
      show Acc _ _ _ _
      rw [filter_snoc _ _ hdi, c, if_neg Bool.false_ne_true]
      exact hP2
  · rw [hx.len, List.take_length] at hP
    exact hd H' hP.1 hP.dq
theorem same_off {H H' : Hp} {D : Addr} (nD : H D = none) (s : Same H H') : Same H (TkS.Off D H') := fun b o e => off_at (ne_of_none e nD) (s _ _ e)
end TkS
set_option Elab.async false
set_option linter.all false
set_option maxRecDepth 100000
set_option maxHeartbeats 4000000
set_option exponentiation.threshold 5000
namespace K25
open PySem PySem.Spec PyProof.Rows L2 TkS
structure Hand (H : Hp) (h : Addr) : Prop where
  ex : ∃ (c : Addr) (cells : List Int) (p r t : Int), H h = some (.lst [.ref c, .int p, .int r, .int t]) ∧ H c = some (.lst (cells.map V.int)) ∧ c ≠ h ∧ 0 ≤ p ∧ 0 ≤ r ∧ ∀ z ∈ cells, (0 : Int) ≤ z
structure Keep (h : Addr) (H H' : Hp) : Prop where
  kp : ∀ b o, b ≠ h → H b = some o → H' b = some o
  cc : ∀ (c : Addr) (p r t : Int), H h = some (.lst [.ref c, .int p, .int r, .int t]) → ∃ p' r' t' : Int, H' h = some (.lst [.ref c, .int p', .int r', .int t'])
instance {h : Addr} {H H' : Hp} : CoeFun (Keep h H H') (fun _ => ∀ b o, b ≠ h → H b = some o → H' b = some o) := ⟨Keep.kp⟩
theorem Keep.trans {h : Addr} {H H1 H2 : Hp} (a : Keep h H H1) (b : Keep h H1 H2) : Keep h H H2 := ⟨fun c o n e => b c o n (a c o n e), fun c p r t e => by
  obtain ⟨p', r', t', e'⟩ := a.cc c p r t e
  exact b.cc c p' r' t' e'⟩
theorem Keep.refl {h : Addr} {H : Hp} : Keep h H H := ⟨fun _ _ _ e => e, fun c p r t e => ⟨p, r, t, e⟩⟩
theorem Keep.of {h : Addr} {H H' : Hp} (s : Same H H') : Keep h H H' := ⟨fun b o _ e => s b o e, fun c p r t e => ⟨p, r, t, s _ _ e⟩⟩
theorem keep_put {h : Addr} {H : Hp} {c : Addr} {p r t p' r' t' : Int} (e : H h = some (.lst [.ref c, .int p, .int r, .int t])) : Keep h H (upd H h (.lst [.ref c, .int p', .int r', .int t'])) :=
  ⟨fun b u n e => by rw [upd_ne n]; exact e, fun c2 p2 r2 t2 e2 => by
    rw [e] at e2
    cases e2
    exact ⟨p', r', t', upd_same⟩⟩
theorem Hand.same {H H' : Hp} {h : Addr} (e : Same H H') (x : Hand H h) : Hand H' h := by
  obtain ⟨c, cells, p, r, t, h1, h2, q⟩ := x.ex
  exact ⟨c, cells, p, r, t, e _ _ h1, e _ _ h2, q⟩
def sp_law_hand (K : PySem.W.Frag) : Sp := fun vs H Q _ => ∃ (a : Addr) (ns : List Int), vs = [.ref a] ∧ SqL K H a (ns.map V.int) ∧ ns.length ≤ 63 ∧ ∀ H' h, Same H H' → H h = none → Hand H' h → Q (.ref h) H'
def sp_law_mixed (K : PySem.W.Frag) : Sp := fun vs H Q _ => ∃ a b : Int, vs = [.int a, .int b] ∧ ∀ r : Int, 0 ≤ r → Q (.int r) H
def sp_law_draw (K : PySem.W.Frag) : Sp := fun vs H Q _ => ∃ (h : Addr) (m : Int), vs = [.ref h, .int m] ∧ Hand H h ∧ 0 < m ∧ m.natAbs < 2 ^ 128 ∧ ∀ H' r, Keep h H H' → Hand H' h → 0 ≤ r → r < m → Q (.int r) H'
theorem lst_lc {wi : TI} {g : TG} {tt : TT} {te : TE} {vs : List Nat} {ts : TA} {D : Ends} {σ : L2.St} {H : Hp} (h : tLc wi g tt te vs σ H fun v H1 => ts σ H1 fun xs H2 => (v :: xs).length ≤ sizeLine ∧ ∀ l, H2 l = none → D.rt (.ref l) (upd H2 l (.lst (v :: xs)))) : tRet (tLst (tCons (tLc wi g tt te vs) ts)) D σ H := h
section
variable {P : Program} {w : World} {K : PySem.W.Frag} {mg : Str → Option Value} {base : Heap}
theorem cells_at {cells : List Int} {p : Int} (h0 : 0 ≤ p) (h : p < ((cells.map V.int).length : Int)) : ∃ z, z ∈ cells ∧ atI (cells.map V.int) p = some (.int z) := by
  rw [List.length_map] at h
  have hp : p.toNat < cells.length := by omega
  refine ⟨cells[p.toNat], List.getElem_mem hp, at_of (j := p.toNat) (by omega) ?_⟩
  rw [List.getElem?_map, List.getElem?_eq_getElem hp]
  rfl
end
end K25
set_option Elab.async false
set_option linter.all false
set_option maxRecDepth 100000
set_option maxHeartbeats 4000000
set_option exponentiation.threshold 5000
namespace K25
open PySem PySem.Spec PyProof.Rows L2 TkS
/-! Euclid's steps -/
def EuI (n a b i x y : Nat) : Prop := Nat.gcd x y = Nat.gcd a b ∧ (i = 0 → y < 2 ^ n) ∧ (0 < i → y < x ∧ x * y * 2 ^ i < 2 ^ (2 * n + 1))
theorem eu_0 {n a b : Nat} (h : b < 2 ^ n) : EuI n a b 0 a b := ⟨rfl, fun _ => h, fun z => absurd z (by decide)⟩
theorem eu_s {n a b i x y : Nat} (h : EuI n a b i x y) (y0 : 0 < y) : EuI n a b (i + 1) y (x % y) := by
  obtain ⟨g, h0, h1⟩ := h
  have r := Nat.mod_lt x y0
  refine ⟨?_, fun z => absurd z (by omega), fun _ => ⟨r, ?_⟩⟩
  · rw [← g, Nat.gcd_comm x y, Nat.gcd_rec y x, Nat.gcd_comm]
  · rcases Nat.eq_zero_or_pos i with rfl | ip
    · have l := h0 rfl
      have e : y * (x % y) < 2 ^ n * 2 ^ n := Nat.mul_lt_mul'' l (Nat.lt_trans r l)
      rw [← Nat.pow_add] at e
      rw [Nat.zero_add, Nat.pow_one, Nat.pow_succ, Nat.two_mul]
      exact Nat.mul_lt_mul_of_pos_right e (by decide)
    · obtain ⟨l, m⟩ := h1 ip
      have q1 : 1 ≤ x / y := Nat.div_pos (Nat.le_of_lt l) y0
      have e := Nat.div_add_mod x y
      have e2 : y * 1 ≤ y * (x / y) := Nat.mul_le_mul_left y q1
      have k : 2 * (x % y) ≤ x := by omega
      refine Nat.lt_of_le_of_lt ?_ m
      rw [Nat.pow_succ, show y * (x % y) * (2 ^ i * 2) = (y * (2 * (x % y))) * 2 ^ i by
        rw [Nat.mul_comm (2 ^ i) 2, ← Nat.mul_assoc, ← Nat.mul_assoc, Nat.mul_right_comm y 2, Nat.mul_assoc y]]
      refine Nat.mul_le_mul_right _ ?_
      rw [Nat.mul_comm x y]
      exact Nat.mul_le_mul_left y k
theorem eu_e {n a b i x y : Nat} (h : EuI n a b i x y) (hi : 2 * n + 1 ≤ i) : x = Nat.gcd a b := by
  obtain ⟨g, h0, h1⟩ := h
  obtain ⟨l, m⟩ := h1 (by omega)
  have y0 : y = 0 := by
    refine Classical.byContradiction fun c => ?_
    have : 1 * 2 ^ (2 * n + 1) ≤ x * y * 2 ^ i := Nat.mul_le_mul (Nat.mul_pos (by omega) (by omega)) (Nat.pow_le_pow_right (by decide) hi)
    omega
  subst y0
  rw [← g, Nat.gcd_zero_right]
theorem eu_b {n a b i x : Nat} (h : EuI n a b i x 0) : x = Nat.gcd a b := by rw [← h.1, Nat.gcd_zero_right]
theorem abs_nat (a : Int) : (if a < 0 then -a else a) = (a.natAbs : Int) := by split <;> omega
/-! promises -/
def isNumV : V → Bool
  | .int _ => true
  | _ => false
def sp_law_whole : Sp := fun vs H Q _ => ∃ x d, vs = [x] ∧ Dq H x d ∧ Q (.bl (isNumV x)) H
def sp_law_divisor : Sp := fun vs H Q _ => ∃ a b : Int, vs = [.int a, .int b] ∧ Fin 4000 b ∧ Q (.int ((Int.gcd a b : Nat) : Int)) H
def sp_law_lowest : Sp := fun vs H Q _ => ∃ t b : Int, vs = [.int t, .int b] ∧ b ≠ 0 ∧ Fin 4000 b ∧ ∀ l H', Same H H' → Dq H' (.ref l) (frD (low t b)) → Q (.ref l) H'
def sp_law_prime : Sp := fun vs H Q _ => ∃ z : Int, vs = [.int z] ∧ z ≤ 30000 ∧ ∀ r : Bool, (r = true ↔ ∃ p : Nat, z = (p : Int) ∧ Pr p) → Q (.bl r) H
def sp_law_next_prime : Sp := fun vs H Q _ => ∃ n : Nat, vs = [.int (n : Int)] ∧ 2 ≤ n ∧ n ≤ 19997 ∧ ∀ p : Nat, Pr p → p ≤ 19997 → Q (.int (p : Int)) H
def Fp (p : Nat) : Prop := p = 0 ∨ (Pr p ∧ p ≤ 20000)
def sp_law_field : Sp := fun vs H Q _ => ∃ h : Addr, vs = [.ref h] ∧ Hand H h ∧ ∀ (p : Nat) H', Keep h H H' → Hand H' h → Fp p → Q (.int (p : Int)) H'
structure Fld (CR CF : Addr) (H : Hp) (a : Addr) (p : Nat) : Prop where
  fp : Fp p
  fr : p = 0 → FF CF H a
  rs : p ≠ 0 → RF CR H a p
theorem Fld.same {CR CF : Addr} {H H' : Hp} {a : Addr} {p : Nat} (h : Fld CR CF H a p) (s : Same H H') : Fld CR CF H' a p := ⟨h.fp, fun e => (h.fr e).same s, fun e => (h.rs e).same s⟩
def sp_law_made_field (CR CF : Addr) : Sp := fun vs H Q _ => ∃ p : Nat, vs = [.int (p : Int)] ∧ Fp p ∧ ∀ y H', Same H H' → Fld CR CF H' y p → Q (.ref y) H'
/-! numbers of a field -/
def oneD (p : Nat) : PyData := if p = 0 then frD (1, 1) else .int 1
def minusD (p : Nat) : PyData := if p = 0 then frD (-1, 1) else .int ((p : Int) - 1)
def sp_law_const (f : Nat → PyData) : Sp := fun vs H Q _ => ∃ p : Nat, vs = [.int (p : Int)] ∧ ∀ v H', Same H H' → Dq H' v (f p) → Q v H'
theorem pr_19997 : Pr 19997 := (LF.self).mp (by
  have e : lf 19997 = 19997 := by decide +kernel
  have := lf_ok (n := 19997) (by decide) (by decide)
  rw [e] at this
  exact this)
theorem pr_small {n : Nat} (h : lf n = n) (h2 : 2 ≤ n) (l : n < 23104) : Pr n := (LF.self).mp (by
  have := lf_ok (n := n) h2 l
  rw [h] at this
  exact this)
section
variable {P : Program} {w : World} {K : PySem.W.Frag} {mg : Str → Option Value} {base : Heap}
theorem ok_law_whole (T : Txt K mg) : FnOk P w K mg base CX0 1 T.f_law_whole T.d_law_whole ["_law_thing"] sp_law_whole := by
  refine T.F_law_whole.ok sc_law_whole (fun vs H Q E h => ?_) (fun cdv A outer s H vs Q E hr h => ?_)
  · obtain ⟨x, d, rfl, _⟩ := h
    rfl
  · obtain ⟨x, d, rfl, hk, q⟩ := h
    obtain ⟨t, ty, k1, k2, _⟩ := dq_ty (K := K) hk
    refine ⟨_, (pss_one (ps_ret (pe_and (pe_callB call_isi (by rfl) T.m_isinstance (by decide +kernel) (pa_cons (pv 0) (pa_cons (pe_bltn (v := .ty "int") (u := .type "int") (by rfl) T.m_int (by decide +kernel) rfl) pa_nil))) (pe_one (pe_not (pe_callB call_isi (by rfl) T.m_isinstance (by decide +kernel) (pa_cons (pv 0) (pa_cons (pe_bltn (v := .ty "bool") (u := .type "bool") (by rfl) T.m_bool (by decide +kernel) rfl) pa_nil)))))))), ?_⟩
    have two : ∀ r : Bool, Q (.bl (!isBlV x)) H → tNotV (tCB (rIsi K) (tCons (tVar 0) (tCons (tC (.ty "bool")) tNil))) (L2.start ["_law_thing"] [x]) H Q := fun _ z => ⟨x, rfl, x, .ty "bool", t, _, isBlV x, rfl, .ty _, ty, k1, _, rfl, z⟩
    cases hk with
    | non => exact ⟨_, rfl, _, .ty "int", t, _, false, rfl, .ty _, ty, k2, _, rfl, iteF q⟩
    | bl b => exact ⟨_, rfl, _, .ty "int", t, _, true, rfl, .ty _, ty, k2, _, rfl, iteT (two true q)⟩
    | int i => exact ⟨_, rfl, _, .ty "int", t, _, true, rfl, .ty _, ty, k2, _, rfl, iteT (two true q)⟩
    | str z => exact ⟨_, rfl, _, .ty "int", t, _, false, rfl, .ty _, ty, k2, _, rfl, iteF q⟩
    | lst z y => exact ⟨_, rfl, _, .ty "int", t, _, false, rfl, .ty _, ty, k2, _, rfl, iteF q⟩
    | tup z y => exact ⟨_, rfl, _, .ty "int", t, _, false, rfl, .ty _, ty, k2, _, rfl, iteF q⟩
end
end K25
set_option Elab.async false
set_option linter.all false
set_option maxRecDepth 100000
set_option maxHeartbeats 4000000
set_option exponentiation.threshold 5000
namespace K25
open PySem PySem.Spec PyProof.Rows L2 TkS
theorem low_szA {t b u v : Int} (hb : b ≠ 0) (g : Int.gcd u v = 1) (e : t * v = u * b) (v0 : 0 < v) : u.natAbs ≤ t.natAbs ∧ v.natAbs ≤ b.natAbs := by
  have en : t.natAbs * v.natAbs = u.natAbs * b.natAbs := by rw [← Int.natAbs_mul, ← Int.natAbs_mul, e]
  have g' : Nat.gcd u.natAbs v.natAbs = 1 := g
  constructor
  · rcases Nat.eq_zero_or_pos t.natAbs with z | z
    · rw [z, Nat.zero_mul] at en
      rcases Nat.mul_eq_zero.mp en.symm with h | h <;> omega
    · exact Nat.le_of_dvd z (Nat.Coprime.dvd_of_dvd_mul_right g' ⟨b.natAbs, en⟩)
  · exact Nat.le_of_dvd (by omega) (Nat.Coprime.dvd_of_dvd_mul_left (show Nat.gcd v.natAbs u.natAbs = 1 by rw [Nat.gcd_comm]; exact g') ⟨t.natAbs, by rw [← en, Nat.mul_comm]⟩)
theorem low_fin {t b : Int} {m n : Nat} (hb : b ≠ 0) (ht : Fin m t) (hn : Fin n b) : Fin m (low t b).1 ∧ Fin n (low t b).2 := by
  obtain ⟨l1, l2⟩ := low_ok (t := t) hb
  obtain ⟨h1, h2⟩ := low_szA hb l1.2 l2 l1.1
  exact ⟨Nat.lt_of_le_of_lt h1 ht, Nat.lt_of_le_of_lt h2 hn⟩
/-! numbers of a field, as data -/
inductive Nb : Nat → Nat → PyData → Prop
  | fr {k : Nat} {q : Int × Int} : Lowest q → Fin k q.1 → Fin k q.2 → Nb 0 k (frD q)
  | rs {p k x : Nat} : p ≠ 0 → x < p → Nb p k (.int (x : Int))
theorem Nb.up {p k m : Nat} {d : PyData} (h : Nb p k d) (l : k ≤ m) : Nb p m d := by
  cases h with
  | fr a b c => exact .fr a (fin_up b l) (fin_up c l)
  | rs a b => exact .rs a b
def zeroD (p : Nat) : PyData := if p = 0 then frD (0, 1) else .int 0
def frOf : PyData → Int × Int
  | .tuple [.int a, .int b] => (a, b)
  | _ => (0, 1)
def intOf : PyData → Int
  | .int a => a
  | _ => 0
def timesD (p : Nat) (a b : PyData) : PyData := if p = 0 then frD (timesF (frOf a) (frOf b)) else .int (intOf a * intOf b % (p : Int))
def plusD (p : Nat) (a b : PyData) : PyData := if p = 0 then frD (plusF (frOf a) (frOf b)) else .int ((intOf a + intOf b) % (p : Int))
def lessD (p : Nat) (a b : PyData) : PyData := if p = 0 then frD (lessF (frOf a) (frOf b)) else .int ((intOf a - intOf b) % (p : Int))
def sp_law_op (f : Nat → PyData → PyData → PyData) : Sp := fun vs H Q _ => ∃ (p : Nat) (x y : V) (a b : PyData), vs = [.int (p : Int), x, y] ∧ Dq H x a ∧ Dq H y b ∧ Nb p 2000 a ∧ Nb p 2000 b ∧ p ≤ 20000 ∧ ∀ v H', Same H H' → Dq H' v (f p a b) → Q v H'
def sp_law_times2 : Sp := fun vs H Q _ => ∃ (p i j : Nat) (x y : V) (a b : PyData), vs = [.int (p : Int), x, y] ∧ Dq H x a ∧ Dq H y b ∧ Nb p i a ∧ Nb p j b ∧ 0 < i ∧ 0 < j ∧ i + j ≤ 4000 ∧ p ≤ 20000 ∧ ∀ v H', Same H H' → Dq H' v (timesD p a b) → Q v H'
theorem low_b {b : Int} (h : 0 < b) : b ≠ 0 := by omega
theorem mul_ne {x y : Int} (hx : 0 < x) (hy : 0 < y) : x * y ≠ 0 := fun z => by
  rcases Int.mul_eq_zero.mp z with h | h <;> omega
theorem med_lt {x p : Nat} (h : x < p) (l : p ≤ 20000) : Fin 20 (x : Int) := by
  unfold Fin
  rw [Int.natAbs_natCast]
  exact Nat.lt_of_lt_of_le h (Nat.le_trans l (by decide))
/-- the powers of a number, as the law's squarings reckon them -/
structure Pw0 (p : Nat) (a : PyData) (E : Nat) (B : Nat → PyData) : Prop where
  z : B 0 = oneD p
  one : B 1 = a
  m : ∀ m n, m + n ≤ E → timesD p (B m) (B n) = B (m + n)
  nb : ∀ n, n ≤ E → Nb p 2000 (B n)
def sp_law_power0 : Sp := fun vs H Q _ => ∃ (p : Nat) (x : V) (a : PyData) (E : Nat) (B : Nat → PyData), vs = [.int (p : Int), x, .int (E : Int)] ∧ Dq H x a ∧ Pw0 p a E B ∧ p ≤ 20000 ∧ E < 2 ^ 200 ∧ ∀ v H', Same H H' → Dq H' v (B E) → Q v H'
def sp_law_power : Sp := fun vs H Q _ => ∃ (p : Nat) (x : V) (a a' : PyData) (e : Int) (B : Nat → PyData), vs = [.int (p : Int), x, .int e] ∧ Dq H x a ∧ Pw0 p a' e.natAbs B ∧ p ≤ 20000 ∧ e.natAbs < 2 ^ 200 ∧
  (0 ≤ e → a' = a) ∧ (e < 0 → p = 0 → ∃ q, a = frD q ∧ q.1 ≠ 0 ∧ Fin 4000 q.1 ∧ a' = frD (low q.2 q.1)) ∧ (e < 0 → p ≠ 0 → 2 ≤ p ∧ ∃ A, Pw0 p a (p - 2) A ∧ A (p - 2) = a') ∧ ∀ v H', Same H H' → Dq H' v (B e.natAbs) → Q v H'
theorem bits_lt (n : Nat) : n < 2 ^ (Builtin.Int.intBits (n : Int)) := by
  unfold Builtin.Int.intBits
  rw [Int.natAbs_natCast]
  by_cases h : n = 0
  · subst h
    decide
  · have : ((n : Int) == 0) = false := by
      rw [beq_eq_false_iff_ne]
      omega
    rw [this]
    exact Nat.lt_log2_self
theorem bits_le {n m : Nat} (h : n < 2 ^ m) : Builtin.Int.intBits (n : Int) ≤ m := by
  unfold Builtin.Int.intBits
  rw [Int.natAbs_natCast]
  by_cases c : n = 0
  · subst c
    exact Nat.zero_le _
  · have : ((n : Int) == 0) = false := by
      rw [beq_eq_false_iff_ne]
      omega
    rw [this]
    have := (Nat.log2_lt c).mpr h
    exact this
theorem nope {P : Program} {w : World} {K : PySem.W.Frag} {mg : Str → Option Value} {base : Heap} {CX : CXT} {k : Nat} {f : Addr} {fd : FuncData} {ps : List Str} : FnOk P w K mg base CX k f fd ps (fun _ _ _ _ => False) :=
  ⟨fun _ _ _ _ h => h.elim, fun _ _ _ _ _ _ _ _ _ _ _ _ _ h => h.elim⟩
section
variable {P : Program} {w : World} {K : PySem.W.Frag} {mg : Str → Option Value} {base : Heap}
end
end K25
set_option Elab.async false
set_option linter.all false
set_option maxRecDepth 100000
set_option maxHeartbeats 4000000
/-! data that the hand can't be part of: a hand's first item is a list -/
namespace TkS
open PySem PySem.Spec PyProof.Rows L2
def hdD : PyData → Bool
  | .list [.list _, .int _, .int _, .int _] => true
  | _ => false
mutual
def noHd : PyData → Bool
  | .list ds => !hdD (.list ds) && noHds ds
  | .tuple ds => noHds ds
  | _ => true
def noHds : List PyData → Bool
  | [] => true
  | d :: ds => noHd d && noHds ds
end
mutual
theorem dq_hd {H H' : Hp} {h c : Addr} {cs : List V} {p r t : Int} (hh : H h = some (.lst [.ref c, .int p, .int r, .int t])) (hc : H c = some (.lst cs)) (k : ∀ b o, b ≠ h → H b = some o → H' b = some o) : ∀ {v : V} (d : PyData), noHd d = true → Dq H v d → Dq H' v d
  | _, .none, _, .non => .non
  | _, .bool _, _, .bl b => .bl b
  | _, .int _, _, .int i => .int i
  | _, .str _, _, .str x => .str x
  | _, .list ds, n, .lst e u => by
    have n' : (!hdD (.list ds) && noHds ds) = true := n
    obtain ⟨n1, n2⟩ := Bool.and_eq_true_iff.mp n'
    refine .lst (k _ _ (fun z => ?_) e) (dqs_hd hh hc k ds n2 u)
    rw [z, hh] at e
    cases e
    cases u with
    | cons u0 u =>
      cases u with
      | cons u1 u =>
        cases u with
        | cons u2 u =>
          cases u with
          | cons u3 u =>
            cases u
            cases u1
            cases u2
            cases u3
            cases u0 with
            | lst e0 _ => exact absurd n1 (by simp [hdD])
            | tup e0 _ =>
              rw [hc] at e0
              cases e0
  | _, .tuple ds, n, .tup e u => .tup (k _ _ (fun z => by rw [z, hh] at e; cases e) e) (dqs_hd hh hc k ds n u)
theorem dqs_hd {H H' : Hp} {h c : Addr} {cs : List V} {p r t : Int} (hh : H h = some (.lst [.ref c, .int p, .int r, .int t])) (hc : H c = some (.lst cs)) (k : ∀ b o, b ≠ h → H b = some o → H' b = some o) : ∀ {vs : List V} (ds : List PyData), noHds ds = true → DqAll H vs ds → DqAll H' vs ds
  | _, [], _, .nil => .nil
  | _, d :: ds, n, .cons u v => .cons (dq_hd hh hc k d (by
      have n' : (noHd d && noHds ds) = true := n
      exact (Bool.and_eq_true_iff.mp n').1) u) (dqs_hd hh hc k ds (by
      have n' : (noHd d && noHds ds) = true := n
      exact (Bool.and_eq_true_iff.mp n').2) v)
end
theorem noHds_all {ds : List PyData} : noHds ds = true ↔ ∀ d ∈ ds, noHd d = true := by
  induction ds with
  | nil => exact ⟨(fun _ _ m => nomatch m), (fun _ => rfl)⟩
  | cons a ds ih =>
    show (noHd a && noHds ds) = true ↔ _
    rw [Bool.and_eq_true, ih]
    constructor
    · rintro ⟨h1, h2⟩ d m
      rcases List.mem_cons.mp m with e | m
      · rw [e]; exact h1
      · exact h2 d m
    · exact fun h => ⟨h a List.mem_cons_self, fun d m => h d (List.mem_cons_of_mem _ m)⟩
theorem noHd_list {ds : List PyData} (h : ∀ d ∈ ds, noHd d = true) (n : ds.length ≠ 4 ∨ ∀ d ∈ ds, ∀ es, d ≠ .list es) : noHd (.list ds) = true := by
  show (!hdD (.list ds) && noHds ds) = true
  rw [noHds_all.mpr h, Bool.and_true]
  cases c : hdD (.list ds) with
  | false => rfl
  | true =>
    exfalso
    unfold hdD at c
    split at c
    · rename_i es a b cc e
      cases e
      rcases n with n | n
      · exact n rfl
      · exact n _ List.mem_cons_self es rfl
    · cases c
theorem noHd_tup {ds : List PyData} (h : ∀ d ∈ ds, noHd d = true) : noHd (.tuple ds) = true := noHds_all.mpr h
/-! data of before stands beside a new object -/
mutual
theorem dq_new {H : Hp} {l : Addr} {o : HO} (n : H l = none) : ∀ {v : V} (d : PyData), Dq H v d → Dq (TkS.Off l (upd H l o)) v d
  | _, .none, .non => .non
  | _, .bool _, .bl b => .bl b
  | _, .int _, .int i => .int i
  | _, .str _, .str x => .str x
  | _, .list _, .lst e t => .lst (off_at (ne_of_none e n) ((same_new n) _ _ e)) (dqs_new n _ t)
  | _, .tuple _, .tup e t => .tup (off_at (ne_of_none e n) ((same_new n) _ _ e)) (dqs_new n _ t)
theorem dqs_new {H : Hp} {l : Addr} {o : HO} (n : H l = none) : ∀ {vs : List V} (ds : List PyData), DqAll H vs ds → DqAll (TkS.Off l (upd H l o)) vs ds
  | _, [], .nil => .nil
  | _, _ :: _, .cons k t => .cons (dq_new n _ k) (dqs_new n _ t)
end
end TkS
set_option Elab.async false
set_option linter.all false
set_option maxRecDepth 100000
set_option maxHeartbeats 4000000
/-! try with several clauses that each bind the error to one and the same name -/
namespace TkS
open PySem PySem.Spec PyProof.Rows L2
/-- a clause's ends: behind the suite the name is gone -/
def goneE (i : Nat) (D : Ends) : Ends := { nx := fun σ' H' => D.nx (σ'.set i none) H', rt := D.rt, bk := fun σ' H' => D.bk (σ'.set i none) H', ct := fun σ' H' => D.ct (σ'.set i none) H' }
def wAsM (K : PySem.W.Frag) (i : Nat) (Wout : WX) (D : Ends) : List (Value × (Addr → Value → Option Addr → TS)) → WX
  | [] => Wout
  | (c, ts) :: r => fun cls d σ H => ∃ b, PySem.W.exmOne K cls c = some b ∧ (b = true → ∀ a, H a = none → ts a cls d (goneE i D) (σ.set i (some (.ref a))) H) ∧ (b = false → wAsM K i Wout D r cls d σ H)
inductive AsOk (X : Cx) (n : Str) : List ExceptHandler → List (Value × (Addr → Value → Option Addr → TS)) → Prop
  | nil : AsOk X n [] []
  | cons {x : Str} {c : Value} {ts : Addr → Value → Option Addr → TS} {b₀ : Stmt} {suite : List Stmt} {np pos' : Pos} {hds : List ExceptHandler} {l : List (Value × (Addr → Value → Option Addr → TS))} (hc : Names X x c)
      (hsu : ∀ (a : Addr) (oe : Obj) (cls : Value) (d : Option Addr) (pn : List (Addr × Obj)), Zc cls d oe → (∃ vs, oe.data = .fields vs) → PSs (X.suite a ((a, oe) :: pn)) (b₀ :: suite) (ts a cls d)) (r : AsOk X n hds l) :
      AsOk X n (.ExceptHandler (some (.Name x np)) (some n) (b₀ :: suite) pos' :: hds) ((c, ts) :: l)
section
variable {X : Cx} {n : Str} {i : Nat} {body : List Stmt} {h₀ : ExceptHandler} {hds : List ExceptHandler} {l : List (Value × (Addr → Value → Option Addr → TS))} {pos : Pos} {tb : WX → TS} {Wout : WX}
theorem ps_try_asM (hs : X.stack = X.env :: X.outer) (hf : X.env.frame = some X.env.locals) (hN : X.N.Nodup) (hi : X.N[i]? = some n) (hln : X.env.kindOf n = some .local) (tk : Takes X Wout)
    (hb : ∀ (W : WX) (pn : List (Addr × Obj)) (xe : Value → Shared → Prop), Takes (X.tr pn xe) W → PassesOwn (model X.prog X.w) X.A X.env xe → PSs (X.tr pn xe) body (tb W))
    (hh : AsOk X n (h₀ :: hds) l) : PS X (.Try body (h₀ :: hds) [] [] pos) (fun D σ H => tb (wAsM X.K i Wout D l) D σ H) := by
  refine ⟨fun pins s σ H D I h => wpAny_Try_except ?_⟩
  have ok := I.ok
  have hfr : X.A.frames = some (X.env :: X.outer) := by rw [ok.frames, hs]
  refine wpAny_mono ((hb (wAsM X.K i Wout D l) (X.pn ++ pins) (fun e s₁ => wpAny (model X.prog X.w) X.A (noteFrame e X.env) (fun _ s₂ => wpAny (model X.prog X.w) X.A (setFlight e none) (fun _ s₃ =>
    wpAny (model X.prog X.w) X.A (handleBy e X.env (h₀ :: hds)) (SP X pins D) X.xe s₃) X.xe s₂) X.xe s₁) (fun u s' xx => ?_) PassesOwn.looking).run [] s σ H D (I.toTry _) h) (fun f s1 hsp => ?_) (fun e s1 he => he)
  · obtain ⟨a, B, sI, pins', σ', H', cls, d, rfl, J', nb, up, sky, na, os, ag, w⟩ := xx
    have J : Inv X pins σ' H' sI := J'.ofTry ok
    refine Sky.land Zc.steady hfr hf (by rw [← hs]; exact sky) fun h3 fl3 up3 => ?_
    have J3 : Inv X pins σ' H' { s' with heap := h3 } := J.landed nb fl3.1 (up.trans up3) os ag
    obtain ⟨oe3, vs3, he3, hz3, hd3⟩ := fl3.there
    have nfr : a ∉ frs (X.env :: X.outer) := fun hm => by
      obtain ⟨_, o', e', hnf⟩ := fl3.2.2.1.mem hm
      rw [he3] at e'
      cases e'
      exact hnf _ hd3
    have nL : a ≠ X.env.locals := fun z => nfr (List.mem_filterMap.mpr ⟨X.env, List.mem_cons_self, by rw [hf, z]⟩)
    have nF : a ∉ X.fs := fun hm => by
      obtain ⟨e, he, q⟩ := List.mem_filterMap.mp hm
      exact nfr (List.mem_filterMap.mpr ⟨e, List.mem_cons_of_mem _ he, q⟩)
    have S3 := J3.suite he3 hd3 na nL nF
    have go : ∀ {hds' : List ExceptHandler} {l' : List (Value × (Addr → Value → Option Addr → TS))}, AsOk X n hds' l' → wAsM X.K i Wout D l' cls d σ' H' →
        wpAny (model X.prog X.w) X.A (handleBy (.ref a) X.env hds') (SP X pins D) X.xe { s' with heap := h3 } := by
      intro hds' l' hk
      induction hk with
      | nil =>
        intro w
        refine wpAny_handleBy_nil ?_
        obtain ⟨k1, k2, k3, oe, vs, T, oT, ts', he, hz, hd, h1, hr⟩ := id fl3
        unfold PySem.passOn
        refine wpAny_bind (wpAny_field he hd h1 ?_)
        rw [if_neg (show ¬ ((Value.ref T == Value.none) = true) from by simp)]
        have fin : wpAny (model X.prog X.w) X.A (setFlight (.ref a) X.env.frame) (fun _ s4 => wpAny (model X.prog X.w) X.A (throw (.ref a) : Sem Flow) (SP X pins D) X.xe s4) X.xe { s' with heap := h3 } := by
          rw [hf]
          exact HandSPX.setFlight_upZ fl3 fun h4 hh4 up4 => wpAny_throw (tk _ _ ⟨a, B, sI, pins, σ', H', cls, d, rfl, J, nb, (up.trans up3).trans up4, .inr (.inr (by rw [hs]; exact hh4)), na, os, ag, w⟩)
        first
          | exact wpAny_bind (wpAny_pure (wpAny_bind fin))
          | exact wpAny_bind fin
      | @cons x c ts b₀ suite np pos' hds2 l2 hc hsu r ih =>
        intro w
        obtain ⟨b, hb1, hyes, hno⟩ := w
        refine wpAny_handleBy_cons (codeAny_handlers_test ?_) (by intro q; cases q)
        have LM := PySem.W.exm_one (M := model X.prog X.w) (J3.kIn) (fun A Q E s k q => wpAny_typeOf_ref (k _ _ he3) (by rw [hz3.1]; exact q)) hb1
        have test : ∀ {Q : Value → Shared → Prop} {E : Value → Shared → Prop}, Q c { s' with heap := h3 } → wpAny (model X.prog X.w) (X.A.mark (some (.ref a))) (eval (.Name x np) X.env) Q E { s' with heap := h3 } := fun {Q E} q => by
          obtain ⟨hg, hdbg, hm | ⟨hm, hv, hnn⟩⟩ := hc
          · exact ld_glob (X := X.suite a ((a, oe3) :: (X.pn ++ pins))) S3 hg hm q hdbg
          · exact ld_blt (X := X.suite a ((a, oe3) :: (X.pn ++ pins))) S3 hg hm hv q hnn hdbg
        refine test (LM.here ?_)
        cases b with
        | false => exact ih (hno rfl)
        | true =>
          refine codeAny_handlers_suite_as (HandSPX.lands_againZ fl3 fun h4 fl4 up4 => ?_)
          have J4 : Inv X pins σ' H' { s' with heap := h4 } := J.landed nb fl4.1 ((up.trans up3).trans up4) os ag
          obtain ⟨oe4, vs4, he4, hz4, hd4⟩ := fl4.there
          have S4 := J4.suite he4 hd4 na nL nF
          refine store_ok (X := X.suite a ((a, oe4) :: (X.pn ++ pins))) (v := .ref a) S4 hN hi (.inl hln) rfl (fun s5 S5 => ?_) (.inr hln)
          refine wpAny_mono ((hsu a oe4 cls d (X.pn ++ pins) hz4 ⟨_, hd4⟩).run [] s5 _ H' _ S5 (hyes rfl a na)) (fun f s6 hsp => ?_) (fun _ _ z => False.elim z)
          have end_ : ∀ {σ6 : L2.St} {H6 : Hp} {Q : Shared → Prop}, Inv (X.suite a ((a, oe4) :: (X.pn ++ pins))) [] σ6 H6 s6 → (∀ s7, Inv X pins (σ6.set i none) H6 s7 → Q s7) →
              wpAny (model X.prog X.w) X.A (do bindName X.env n .none; unbindBehindTheSuite X.env n pos') (fun _ s7 => Q s7) X.xe s6 := fun {σ6 H6 Q} S6 hq => gone_ok (S6.unsuite ok) hN hi hln hq
          cases f with
          | ret u =>
            obtain ⟨v6, σ6, H6, S6, r6, q6⟩ := hsp
            exact end_ S6 fun s7 J7 => ⟨_, _, _, J7, r6, q6⟩
          | next =>
            obtain ⟨σ6, H6, S6, q6⟩ := hsp
            exact end_ S6 fun s7 J7 => ⟨_, _, J7, q6⟩
          | brk =>
            obtain ⟨σ6, H6, S6, q6⟩ := hsp
            exact end_ S6 fun s7 J7 => ⟨_, _, J7, q6⟩
          | cont =>
            obtain ⟨σ6, H6, S6, q6⟩ := hsp
            exact end_ S6 fun s7 J7 => ⟨_, _, J7, q6⟩
    exact go hh w
  · cases f with
    | ret u =>
      obtain ⟨v, σ', H', J', r, q⟩ := hsp
      exact ⟨v, σ', H', J'.ofTry ok, r, q⟩
    | next =>
      obtain ⟨σ', H', J', q⟩ := hsp
      exact wpAny_execs_nil ⟨σ', H', J'.ofTry ok, q⟩
    | brk =>
      obtain ⟨σ', H', J', q⟩ := hsp
      exact ⟨σ', H', J'.ofTry ok, q⟩
    | cont =>
      obtain ⟨σ', H', J', q⟩ := hsp
      exact ⟨σ', H', J'.ofTry ok, q⟩
end
end TkS
set_option Elab.async false
set_option linter.all false
set_option maxRecDepth 100000
set_option maxHeartbeats 4000000
set_option exponentiation.threshold 5000
namespace K25
open PySem PySem.Spec PyProof.Rows L2 TkS
theorem dq_kp {H H' : Hp} {h : Addr} {v : V} {d : PyData} (hd : Hand H h) (k : Keep h H H') (n : noHd d = true) (q : Dq H v d) : Dq H' v d := by
  obtain ⟨c, cells, p, r, t, e, ec, _⟩ := hd.ex
  exact dq_hd e ec k.kp _ n q
theorem dqs_kp {H H' : Hp} {h : Addr} {v : List V} {d : List PyData} (hd : Hand H h) (k : Keep h H H') (n : noHds d = true) (q : DqAll H v d) : DqAll H' v d := by
  obtain ⟨c, cells, p, r, t, e, ec, _⟩ := hd.ex
  exact dqs_hd e ec k.kp _ n q
theorem hand_ne {H : Hp} {h D : Addr} (hd : Hand H h) (nD : H D = none) : D ≠ h := fun z => by
  obtain ⟨c, cells, p, r, t, e1, _⟩ := hd.ex
  rw [z, e1] at nD
  cases nD
theorem atP {xs : List V} {ds : List PyData} {H : Hp} {r : Int} (k : DqAll H xs ds) (r0 : 0 ≤ r) (r1 : r < (ds.length : Int)) : ∃ v d, atI xs r = some v ∧ d ∈ ds ∧ ds[r.toNat]? = some d ∧ Dq H v d := by
  have lx := k.len
  have hr : r.toNat < xs.length := by omega
  obtain ⟨d, h1, h2⟩ := k.get (List.getElem?_eq_getElem hr)
  exact ⟨_, d, at_of (j := r.toNat) (by omega) (List.getElem?_eq_getElem hr), List.mem_of_getElem? h1, h1, h2⟩
theorem nb_hd {p k : Nat} {d : PyData} (h : Nb p k d) : noHd d = true := by
  cases h <;> rfl
theorem nb_kp {H H' : Hp} {h : Addr} {v : V} {d : PyData} {p k : Nat} (hd : Hand H h) (kp : Keep h H H') (n : Nb p k d) (q : Dq H v d) : Dq H' v d := dq_kp hd kp (nb_hd n) q
theorem nb_shp {p k : Nat} {d : PyData} (h : Nb p k d) : SeqAt.shaped d = true := by
  cases h with
  | fr _ _ _ => exact shp_fr _
  | rs _ _ => rfl
theorem zero_shp (p : Nat) : SeqAt.shaped (zeroD p) = true := by
  unfold zeroD
  split
  · exact shp_fr _
  · rfl
theorem eqv_int (a b : Int) : PyData.eqv (.int a) (.int b) = decide (a = b) := by
  simp [PyData.eqv, Bool.beq_eq_decide_eq]
theorem nb_self {p k : Nat} {d : PyData} (h : Nb p k d) : PyData.eqv d d = true := by
  cases h with
  | fr _ _ _ => rw [eqv_fr, decide_eq_true rfl]
  | rs _ _ => rw [eqv_int, decide_eq_true rfl]
theorem nb_ne {p k m : Nat} {d e : PyData} (h : Nb p k d) (g : Nb p m e) (n : d ≠ e) : PyData.eqv d e = false := by
  cases h with
  | @fr k q _ _ _ =>
    cases g with
    | @fr m r _ _ _ =>
      rw [eqv_fr, decide_eq_false fun c => n (by rw [c])]
    | rs n5 _ => exact absurd rfl n5
  | @rs p k x n0 l0 =>
    cases g with
    | fr _ _ _ => exact absurd rfl n0
    | @rs p m y n1 l1 =>
      rw [eqv_int, decide_eq_false fun c => n (by rw [c])]
theorem fin_small {k : Nat} {z : Int} (h : z.natAbs < 2) (hk : 1 ≤ k) : Fin k z := Nat.lt_of_lt_of_le h (Nat.le_trans (by decide : 2 ≤ 2 ^ 1) (Nat.pow_le_pow_right (by decide) hk))
theorem Fp.cases {p : Nat} (h : Fp p) (h0 : p ≠ 0) : 2 ≤ p := (h.resolve_left h0).1.1
theorem nb_zero {p k : Nat} (h : Fp p) (hk : 1 ≤ k) : Nb p k (zeroD p) := by
  unfold zeroD
  by_cases c : p = 0
  · subst c
    rw [if_pos rfl]
    exact .fr ⟨by decide, rfl⟩ (fin_small (by decide) hk) (fin_small (by decide) hk)
  · rw [if_neg c]
    exact .rs (x := 0) c (by have := h.cases c; omega)
theorem nb_one {p k : Nat} (h : Fp p) (hk : 1 ≤ k) : Nb p k (oneD p) := by
  unfold oneD
  by_cases c : p = 0
  · subst c
    rw [if_pos rfl]
    exact .fr ⟨by decide, rfl⟩ (fin_small (by decide) hk) (fin_small (by decide) hk)
  · rw [if_neg c]
    exact .rs (x := 1) c (by have := h.cases c; omega)
theorem nb_minus {p k : Nat} (h : Fp p) (hk : 1 ≤ k) : Nb p k (minusD p) := by
  unfold minusD
  by_cases c : p = 0
  · subst c
    rw [if_pos rfl]
    exact .fr ⟨by decide, rfl⟩ (fin_small (by decide) hk) (fin_small (by decide) hk)
  · rw [if_neg c]
    have := h.cases c
    have e : (p : Int) - 1 = ((p - 1 : Nat) : Int) := by omega
    rw [e]
    exact .rs c (by omega)
theorem one_nz {p : Nat} : oneD p ≠ zeroD p := by
  unfold oneD zeroD
  split <;> intro z <;> cases z
theorem minus_nz {p : Nat} (h : Fp p) : minusD p ≠ zeroD p := by
  unfold minusD zeroD
  by_cases c : p = 0
  · rw [if_pos c, if_pos c]
    intro z
    cases z
  · rw [if_neg c, if_neg c]
    intro z
    have := PyData.int.inj z
    have := h.cases c
    omega
theorem fr_nz {q : Int × Int} (h : q.1 ≠ 0) : frD q ≠ zeroD 0 := fun z => by
  obtain ⟨a, b⟩ := q
  cases z
  exact h rfl
theorem fr_zero {q : Int × Int} (l : Lowest q) (h : frD q ≠ zeroD 0) : q.1 ≠ 0 := fun z => h (by rw [lowest_zero l z]; rfl)
def sp_law_number (nz : Bool) : Sp := fun vs H Q _ => ∃ (h : Addr) (p : Nat), vs = [.ref h, .int (p : Int)] ∧ Hand H h ∧ Fp p ∧ ∀ v H' d, Keep h H H' → Hand H' h → Dq H' v d → Nb p 4 d → (nz = true → d ≠ zeroD p) → Q v H'
def sp_law_is_number : Sp := fun vs H Q _ => ∃ (p : Nat) (x : V) (d : PyData), vs = [.int (p : Int), x] ∧ Dq H x d ∧ Nb p 3000 d ∧ Q (.bl true) H
def sp_law_same : Sp := fun vs H Q _ => ∃ (p : Nat) (x y : V) (d : PyData), vs = [.int (p : Int), x, y] ∧ Dq H x d ∧ Dq H y d ∧ Nb p 3000 d ∧ Q (.bl true) H
theorem low_nz {t b : Int} (hb : b ≠ 0) (ht : t ≠ 0) : (low t b).1 ≠ 0 := fun z => by
  obtain ⟨l1, l2⟩ := low_ok (t := t) hb
  rw [z, Int.zero_mul] at l2
  have := l1.1
  rcases Int.mul_eq_zero.mp l2 with h | h
  · exact ht h
  · omega
section
variable {P : Program} {w : World} {K : PySem.W.Frag} {mg : Str → Option Value} {base : Heap}
end
end K25
set_option Elab.async false
set_option linter.all false
set_option maxRecDepth 100000
set_option maxHeartbeats 4000000
set_option exponentiation.threshold 5000
namespace TkS
open PySem PySem.Spec PyProof.Rows L2
/-- two readings of one expression -/
theorem pe_or2 {X : Cx} {e : Expr} {t1 t2 : TE} (a : PE X e t1) (b : PE X e t2) : PE X e (fun σ H Q => t1 σ H Q ∨ t2 σ H Q) := ⟨fun pins s σ H Q I h => h.elim (a.run pins s σ H Q I) (b.run pins s σ H Q I)⟩
theorem tail_has {K : PySem.W.Frag} {bmB : List Value} {t : Value} (hb : bmB.contains t = true) : ∀ l : List Value, PySem.W.tailIn K bmB l = true → l.contains t = true
  | [], e => by
    rw [beq_iff_eq.mp e] at hb
    exact hb
  | v :: r, e => by
    unfold PySem.W.tailIn at e
    rcases Bool.or_eq_true_iff.mp e with q | q
    · rw [beq_iff_eq.mp q]
      exact hb
    · split at q
      · split at q
        · obtain ⟨_, q3⟩ := Bool.and_eq_true_iff.mp q
          have := tail_has hb r q3
          rw [List.contains_cons, this, Bool.or_true]
        · cases q
      · cases q
/-- an own error is one of the kit's classes over it -/
theorem kit_exc {K : PySem.W.Frag} {C : Addr} {bmB : List Value} {newId T : String} (q : PySem.W.excIn K C bmB newId = true) (hb : bmB.contains (.type T) = true) (hm : PySem.W.kitMeta T = true) : PySem.W.kitOne K (.ref C) (.type T) = some true := by
  unfold PySem.W.kitOne
  split
  · rfl
  · show (if PySem.W.kitMeta T = true then PySem.W.subIn K (.ref C) (.type T) else none) = some true
    rw [if_pos hm]
    show PySem.W.mroIn K C (.type T) = some true
    unfold PySem.W.excIn at q
    split at q
    · rename_i dd cd sl ho
      split at q
      · rename_i C' bm k0 k1 k2 k3 n k5 hm2 hs
        simp only [Bool.and_eq_true, beq_iff_eq, Bool.not_eq_true'] at q
        obtain ⟨⟨⟨⟨⟨rfl, rfl⟩, hdel⟩, ht⟩, hok⟩, hni⟩ := q
        unfold PySem.W.mroIn PySem.W.clsIn
        rw [ho]
        show (if cd.mro.isEmpty then none else some (cd.mro.contains (.type T))) = some true
        rw [hm2]
        show some _ = some true
        rw [List.contains_cons, tail_has hb _ ht, Bool.or_true]
      · cases q
    · cases q
end TkS
namespace K25
open PySem PySem.Spec PyProof.Rows L2 TkS
def oddsF : List PyData := [.tuple [.int 0, .int 1], .tuple [.int 2, .int 4], .list [.int 1, .int 1], .int 1, .tuple [.int 1, .int (-1)], .tuple [.int 1, .int 0], .none, .tuple [.bool true, .int 1], .tuple [.int 3], .tuple [.int 1, .int 2, .int 3], .tuple [.int 5, .bool true], .tuple [.int 0, .int 2]]
def oddsR (p : Nat) (z : Str) : List PyData := [.int 0, .int (p : Int), .int (-1), .none, .tuple [.int 1, .int 1], .bool true, .str z, .int ((p : Int) + 10 ^ 20)]
def RefuD (p : Nat) (d : PyData) : Prop := (p = 0 → frOk d = false) ∧ (p ≠ 0 → ∀ i, d = .int i → i < 0 ∨ (p : Int) ≤ i)
def OddD (p : Nat) (d : PyData) : Prop := SeqAt.shaped d = true ∧ noHd d = true ∧ (d = zeroD p ∨ RefuD p d)
theorem oddsF_are {d : PyData} (h : d ∈ oddsF) : OddD 0 d := by
  have all : ∀ d ∈ oddsF, SeqAt.shaped d = true ∧ noHd d = true ∧ (d = .tuple [.int 0, .int 1] ∨ frOk d = false) := by
    intro d h
    simp only [oddsF, List.mem_cons, List.not_mem_nil, or_false] at h
    rcases h with rfl | rfl | rfl | rfl | rfl | rfl | rfl | rfl | rfl | rfl | rfl | rfl
    · exact ⟨by decide +kernel, by decide, .inl rfl⟩
    all_goals exact ⟨by decide +kernel, by decide, .inr (by decide +kernel)⟩
  obtain ⟨a, b, c⟩ := all d h
  exact ⟨a, b, c.elim (fun e => .inl (by rw [e]; rfl)) fun e => .inr ⟨fun _ => e, fun z => absurd rfl z⟩⟩
theorem strOk_int (n : Int) : PyData.strOk (Str.ofString (toString n)) = true := by
  unfold PyData.strOk
  rw [← Array.all_toList, List.all_eq_true]
  intro c hc
  refine decide_eq_true (Nat.lt_of_not_le fun z => ?_)
  exact int_text_free' c ⟨by omega, .inr (by omega)⟩ n hc
theorem oddsR_are {p : Nat} {z : Str} {d : PyData} (p0 : p ≠ 0) (hz : PyData.strOk z = true) (h : d ∈ oddsR p z) : OddD p d := by
  have e0 : zeroD p = .int 0 := if_neg p0
  simp only [oddsR, List.mem_cons, List.not_mem_nil, or_false] at h
  rcases h with rfl | rfl | rfl | rfl | rfl | rfl | rfl | rfl
  · exact ⟨rfl, rfl, .inl e0.symm⟩
  · exact ⟨rfl, rfl, .inr ⟨fun z => absurd z p0, fun _ i e => by cases e; exact .inr (Int.le_refl _)⟩⟩
  · exact ⟨rfl, rfl, .inr ⟨fun z => absurd z p0, fun _ i e => by cases e; exact .inl (by decide)⟩⟩
  · exact ⟨rfl, rfl, .inr ⟨fun z => absurd z p0, (fun _ i e => nomatch e)⟩⟩
  · exact ⟨by decide +kernel, rfl, .inr ⟨fun z => absurd z p0, (fun _ i e => nomatch e)⟩⟩
  · exact ⟨rfl, rfl, .inr ⟨fun z => absurd z p0, (fun _ i e => nomatch e)⟩⟩
  · exact ⟨by simp [SeqAt.shaped, PyData.canLay0, PyData.depth, hz], rfl, .inr ⟨fun z => absurd z p0, (fun _ i e => nomatch e)⟩⟩
  · exact ⟨rfl, rfl, .inr ⟨fun z => absurd z p0, fun _ i e => by
      have := PyData.int.inj e
      omega⟩⟩
def OddL (p : Nat) (d : PyData) : Prop := noList d = true ∨ (p = 0 ∧ d = .list [.int 1, .int 1])
theorem oddsF_L {d : PyData} (h : d ∈ oddsF) : OddL 0 d := by
  simp only [oddsF, List.mem_cons, List.not_mem_nil, or_false] at h
  rcases h with rfl | rfl | rfl | rfl | rfl | rfl | rfl | rfl | rfl | rfl | rfl | rfl
  all_goals first
    | exact .inl (by decide)
    | exact .inr ⟨rfl, rfl⟩
theorem oddsR_L {p : Nat} {z : Str} {d : PyData} (h : d ∈ oddsR p z) : OddL p d := by
  simp only [oddsR, List.mem_cons, List.not_mem_nil, or_false] at h
  rcases h with rfl | rfl | rfl | rfl | rfl | rfl | rfl | rfl
  all_goals exact .inl rfl
def sp_law_odd : Sp := fun vs H Q _ => ∃ (h : Addr) (p : Nat), vs = [.ref h, .int (p : Int)] ∧ Hand H h ∧ Fp p ∧ ∀ v H' d, Keep h H H' → Hand H' h → Dq H' v d → OddD p d → OddL p d → Q v H'
section
variable {P : Program} {w : World} {K : PySem.W.Frag} {mg : Str → Option Value} {base : Heap}
end
end K25
set_option Elab.async false
set_option linter.all false
set_option maxRecDepth 100000
set_option maxHeartbeats 4000000
set_option exponentiation.threshold 5000
namespace K25
open PySem PySem.Spec PyProof.Rows L2 TkS
theorem call_isE2 {X : Cx} {a D : Addr} {oe : Obj} {cls : Value} {d : Option Addr} {pn : List (Addr × Obj)} (C : ExcC X.K D) (hz : Zc cls d oe) (hf : ∃ vs, oe.data = .fields vs) : CallR (X.suite a ((a, oe) :: pn)) (.builtin "isinstance") (fun xs H Q => cls = .ref D ∧ d = none ∧ rIsE X.K D a xs H Q) := by
  intro pins s σ H xs us Q I r h
  obtain ⟨rfl, rfl, h⟩ := h
  exact call_isE C hz hf pins s σ H xs us Q I r h
def toldD (d : PyData) : PyData := .list [.str "told", d]
def badD : PyData := .list [.str "bad", .bool true]
def zerD : PyData := .list [.str "zero", .bool true]
def numOk (p : Nat) (d : PyData) : Bool := if p = 0 then frOk d else match d with
  | .int i => decide (0 ≤ i) && decide (i ≤ (p : Int) - 1)
  | _ => false
theorem numOk_rest {H : Hp} {x : V} {d : PyData} {p : Nat} (p0 : p ≠ 0) (k : Dq H x d) : numOk p d = wholeIn x (.int 0) (.int ((p : Int) - 1)) := by
  unfold numOk
  rw [if_neg p0]
  cases k <;> rfl
theorem numOk_nb {p k : Nat} {d : PyData} (h : Nb p k d) : numOk p d = true := by
  unfold numOk
  cases h with
  | fr l _ _ =>
    rw [if_pos rfl]
    exact frOk_is l
  | @rs p k x n l =>
    rw [if_neg n]
    show (decide (0 ≤ (x : Int)) && decide ((x : Int) ≤ (p : Int) - 1)) = true
    rw [decide_eq_true (by omega), decide_eq_true (by omega)]
    rfl
theorem numOk_refu {p : Nat} {d : PyData} (h : RefuD p d) : numOk p d = false := by
  unfold numOk
  by_cases p0 : p = 0
  · rw [if_pos p0]
    exact h.1 p0
  · rw [if_neg p0]
    cases d with
    | int i =>
      show (decide (0 ≤ i) && decide (i ≤ (p : Int) - 1)) = false
      rcases h.2 p0 i rfl with l | l
      · rw [decide_eq_false (by omega), Bool.false_and]
      · rw [decide_eq_false (p := i ≤ (p : Int) - 1) (by omega), Bool.and_false]
    | _ => rfl
def powD (p : Nat) (a : PyData) (e : Int) : Option PyData := if p = 0 then (powF (frOf a) e).map frD else (rpw p (intOf a) e).map PyData.int
theorem two_lst {H : Hp} {l : Addr} {s : Str} {x : V} {d : PyData} (n : H l = none) (k : Dq H x d) : Dq (upd H l (.lst [.str s, x])) (.ref l) (.list [.str s, d]) := .lst upd_same (.cons (.str _) (.cons (k.same (same_new n)) .nil))
theorem fin67 {k : Nat} {z : Int} (h : Fin k z) (l : k ≤ 67) : z.natAbs ≤ 2 ^ 67 := Nat.le_of_lt (fin_up h l)
section
variable {P : Program} {w : World} {K : PySem.W.Frag} {mg : Str → Option Value} {base : Heap}
end
end K25
set_option Elab.async false
set_option linter.all false
set_option maxRecDepth 100000
set_option maxHeartbeats 4000000
set_option exponentiation.threshold 5000
namespace K25
open PySem PySem.Spec PyProof.Rows L2 TkS
theorem fin_pow {k n : Nat} {x : Int} (h : Fin k x) : Fin (k * n + 1) (x ^ n) := by
  unfold Fin at *
  rw [Int.natAbs_pow, Nat.pow_succ, Nat.pow_mul]
  refine Nat.lt_of_le_of_lt (Nat.pow_le_pow_left (Nat.le_of_lt h) n) ?_
  have : 0 < (2 ^ k) ^ n := Nat.pow_pos (Nat.pow_pos (by decide))
  omega
theorem frD_inj {q r : Int × Int} (h : frD q = frD r) : q = r := by
  obtain ⟨a, b⟩ := q
  obtain ⟨c, d⟩ := r
  cases h
  rfl
theorem powD_e0 {p k : Nat} {a : PyData} (h : Nb p k a) : powD p a 0 = some (oneD p) := by
  unfold powD oneD
  cases h with
  | fr _ _ _ =>
    rw [if_pos rfl, if_pos rfl]
    unfold powF
    rw [if_neg (by decide)]
    show some (frD (_ ^ 0, _ ^ 0)) = _
    rw [Int.pow_zero, Int.pow_zero]
  | rs n _ =>
    rw [if_neg n, if_neg n]
    unfold rpw
    rw [if_pos rfl]
    rfl
theorem powD_pos0 {p : Nat} {e : Int} (h : 0 < e) : powD p (zeroD p) e = some (zeroD p) := by
  unfold powD zeroD
  by_cases c : p = 0
  · rw [if_pos c, if_pos c]
    show (powF (0, 1) e).map frD = _
    unfold powF
    rw [if_neg (by omega)]
    show some (frD (0 ^ e.toNat, 1 ^ e.toNat)) = _
    rw [Int.zero_pow (by omega), Int.one_pow]
  · rw [if_neg c, if_neg c]
    show (rpw p 0 e).map PyData.int = _
    unfold rpw
    rw [if_neg (by omega), if_pos rfl, if_neg (by omega)]
    rfl
theorem powD_neg0 {p : Nat} {e : Int} (h : e < 0) : powD p (zeroD p) e = none := by
  unfold powD zeroD
  by_cases c : p = 0
  · rw [if_pos c, if_pos c]
    show (powF (0, 1) e).map frD = _
    unfold powF
    rw [if_pos h, if_pos rfl]
    rfl
  · rw [if_neg c, if_neg c]
    show (rpw p 0 e).map PyData.int = _
    unfold rpw
    rw [if_neg (by omega), if_pos rfl, if_pos h]
    rfl
/-- the powers by the law's squarings, of a fraction -/
theorem pw_fr {q : Int × Int} {E : Nat} (l : Lowest q) (f1 : Fin 40 q.1) (f2 : Fin 40 q.2) (hE : E ≤ 40) : Pw0 0 (frD q) E (fun n => frD (q.1 ^ n, q.2 ^ n)) where
  z := by
    show frD (q.1 ^ 0, q.2 ^ 0) = frD (1, 1)
    rw [Int.pow_zero, Int.pow_zero]
  one := by
    show frD (q.1 ^ 1, q.2 ^ 1) = frD q
    rw [Int.pow_succ, Int.pow_succ, Int.pow_zero, Int.pow_zero, Int.one_mul, Int.one_mul]
  m := fun m n _ => by
    unfold timesD
    rw [if_pos rfl]
    show frD (low (q.1 ^ m * q.1 ^ n) (q.2 ^ m * q.2 ^ n)) = _
    rw [low_times_pow l]
  nb := fun n hn => by
    have hn40 : 40 * n + 1 ≤ 2000 := by omega
    exact .fr (lowest_pow l n) (fin_up (fin_pow f1) hn40) (fin_up (fin_pow f2) hn40)
/-- and of a rest -/
theorem pw_rs {p g E : Nat} (p2 : 2 ≤ p) (h : g < p) : Pw0 p (.int (g : Int)) E (fun n => .int ((g ^ n % p : Nat) : Int)) where
  z := by
    show PyData.int ((g ^ 0 % p : Nat) : Int) = oneD p
    unfold oneD
    rw [if_neg (by omega), Nat.pow_zero, Nat.mod_eq_of_lt (by omega)]
    rfl
  one := by
    show PyData.int ((g ^ 1 % p : Nat) : Int) = _
    rw [Nat.pow_one, Nat.mod_eq_of_lt h]
  m := fun m n _ => by
    unfold timesD
    rw [if_neg (by omega)]
    show PyData.int (((g ^ m % p : Nat) : Int) * ((g ^ n % p : Nat) : Int) % (p : Int)) = _
    rw [← Int.natCast_mul, ← Int.natCast_emod, ← Nat.mul_mod, ← Nat.pow_add]
  nb := fun n _ => .rs (by omega) (Nat.mod_lt _ (by omega))
theorem mul_pow_mod {p x y n : Nat} (h : x * y % p = 1 % p) : x ^ n * y ^ n % p = 1 % p := by
  rw [← Nat.mul_pow, Nat.pow_mod, h, ← Nat.pow_mod, Nat.one_pow]
/-- a negative power by the inverse -/
theorem pow_neg_mod {p x m n : Nat} (pr : Pr p) (nd : ¬ p ∣ x) (h : (m + n) % (p - 1) = 0) : (x ^ (p - 2) % p) ^ n % p = x ^ m % p := by
  have p2 := pr.1
  have h1 : x ^ (p - 2) * x % p = 1 % p := by rw [pow_inv pr nd, Nat.mod_eq_of_lt (by omega)]
  rw [← Nat.pow_mod]
  refine cancel pr (pow_not pr nd n) ?_
  rw [Nat.mul_comm, mul_pow_mod h1, ← Nat.pow_add, Nat.add_comm n m, pow_red pr nd, h, Nat.pow_zero]
theorem rest_nd {p x : Nat} (x0 : x ≠ 0) (l : x < p) : ¬ p ∣ x := not_dvd (by omega) l
/-- the law's power is the power that is due -/
theorem power_due {p : Nat} {a : PyData} {e : Int} (fp : Fp p) (na : Nb p 40 a) (nz : a ≠ zeroD p) (eb : p = 0 → -40 ≤ e ∧ e ≤ 40) : ∃ a' B, Pw0 p a' e.natAbs B ∧ (0 ≤ e → a' = a) ∧
    (e < 0 → p = 0 → ∃ q, a = frD q ∧ q.1 ≠ 0 ∧ Fin 4000 q.1 ∧ a' = frD (low q.2 q.1)) ∧ (e < 0 → p ≠ 0 → 2 ≤ p ∧ ∃ A, Pw0 p a (p - 2) A ∧ A (p - 2) = a') ∧ powD p a e = some (B e.natAbs) := by
  cases na with
  | @fr k q l f1 f2 =>
    obtain ⟨e1, e2⟩ := eb rfl
    have q1 := fr_zero l nz
    unfold powD
    rw [if_pos rfl]
    show ∃ a' B, Pw0 0 a' e.natAbs B ∧ (0 ≤ e → a' = frD q) ∧ _ ∧ _ ∧ (powF q e).map frD = some (B e.natAbs)
    by_cases c : e < 0
    · obtain ⟨g1, g2⟩ := low_fin q1 f2 f1
      refine ⟨_, _, pw_fr (low_ok (t := q.2) q1).1 g1 g2 (by omega), fun z => absurd c (by omega), fun _ _ => ⟨q, rfl, q1, fin_up f1 (by decide), rfl⟩, fun _ z => absurd rfl z, ?_⟩
      unfold powF
      have qn : q ≠ (0, 1) := fun z => q1 (by rw [z])
      have eq1 : quotF (1, 1) q = low q.2 q.1 := by
        show low (1 * q.2) (1 * q.1) = _
        rw [Int.one_mul, Int.one_mul]
      rw [if_pos c, if_neg qn, eq1, show (-e).toNat = e.natAbs by omega]
      rfl
    · refine ⟨_, _, pw_fr l f1 f2 (by omega), fun _ => rfl, fun z => absurd z c, fun z => absurd z c, ?_⟩
      unfold powF
      rw [if_neg c, show e.toNat = e.natAbs by omega]
      rfl
  | @rs p k x n lx =>
    have p2 := fp.cases n
    obtain ⟨pr, le⟩ := fp.resolve_left n
    have x0 : x ≠ 0 := fun z => nz (by
      unfold zeroD
      rw [if_neg n, z]
      rfl)
    have nd := rest_nd x0 lx
    unfold powD
    rw [if_neg n]
    show ∃ a' B, Pw0 p a' e.natAbs B ∧ (0 ≤ e → a' = .int (x : Int)) ∧ _ ∧ _ ∧ (rpw p (x : Int) e).map PyData.int = some (B e.natAbs)
    have xe : ¬ (x : Int) = 0 := by omega
    by_cases c : e < 0
    · refine ⟨_, _, pw_rs p2 (Nat.mod_lt (x ^ (p - 2)) (by omega)), fun z => absurd c (by omega), fun _ z => absurd z n, fun _ _ => ⟨p2, _, pw_rs p2 lx, rfl⟩, ?_⟩
      unfold rpw
      rw [if_neg (by omega), if_neg xe, Int.toNat_natCast]
      have h : ((e % ((p : Int) - 1)).toNat + e.natAbs) % (p - 1) = 0 := by
        have hp : ((p - 1 : Nat) : Int) = (p : Int) - 1 := by omega
        have h0 : 0 ≤ e % ((p : Int) - 1) := Int.emod_nonneg _ (by omega)
        have hd := Int.emod_add_mul_ediv e ((p : Int) - 1)
        refine Nat.mod_eq_zero_of_dvd (Int.ofNat_dvd.mp ⟨-(e / ((p : Int) - 1)), ?_⟩)
        rw [hp, Int.mul_neg, Int.natCast_add, Int.toNat_of_nonneg h0]
        omega
      rw [pow_neg_mod pr nd h]
      rfl
    · refine ⟨_, _, pw_rs p2 lx, fun _ => rfl, fun z => absurd z c, fun z => absurd z c, ?_⟩
      unfold rpw
      by_cases e0 : e = 0
      · subst e0
        rw [if_pos rfl]
        show some (PyData.int 1) = some (.int ((x ^ 0 % p : Nat) : Int))
        rw [Nat.pow_zero, Nat.mod_eq_of_lt (by omega)]
        rfl
      · rw [if_neg e0, if_neg xe, Int.toNat_natCast]
        have h : (e % ((p : Int) - 1)).toNat = e.natAbs % (p - 1) := by
          obtain ⟨n, rfl⟩ : ∃ n : Nat, e = (n : Int) := ⟨e.toNat, by omega⟩
          rw [Int.natAbs_natCast, show (p : Int) - 1 = ((p - 1 : Nat) : Int) by omega, ← Int.natCast_emod, Int.toNat_natCast]
        rw [h, ← pow_red pr nd]
        rfl
theorem powD_none {p : Nat} {a : PyData} {e : Int} (fp : Fp p) (na : Nb p 40 a) (eb : p = 0 → -40 ≤ e ∧ e ≤ 40) (h : powD p a e = none) : a = zeroD p ∧ e < 0 := by
  have az : a = zeroD p := Classical.byContradiction fun nz => by
    obtain ⟨_, _, _, _, _, _, z⟩ := power_due fp na nz eb
    rw [h] at z
    cases z
  refine ⟨az, Classical.byContradiction fun c => ?_⟩
  by_cases e0 : e = 0
  · rw [e0, powD_e0 na] at h
    cases h
  · rw [az, powD_pos0 (by omega)] at h
    cases h
theorem powD_nb {p : Nat} {a c : PyData} {e : Int} (fp : Fp p) (na : Nb p 40 a) (eb : p = 0 → -40 ≤ e ∧ e ≤ 40) (h : powD p a e = some c) : Nb p 2000 c := by
  by_cases nz : a = zeroD p
  · rcases Int.lt_trichotomy e 0 with l | l | l
    · rw [nz, powD_neg0 l] at h
      cases h
    · rw [l, powD_e0 na] at h
      cases h
      exact nb_one fp (by decide)
    · rw [nz, powD_pos0 l] at h
      cases h
      exact nb_zero fp (by decide)
  · obtain ⟨_, B, pw, _, _, _, z⟩ := power_due fp na nz eb
    rw [z] at h
    cases h
    exact pw.nb _ (Nat.le_refl _)
end K25
set_option Elab.async false
set_option linter.all false
set_option maxRecDepth 100000
set_option maxHeartbeats 4000000
/-! a lambda with parameters and captured names, handed to a def as its third argument, called there -/
namespace TkS
open PySem PySem.Spec PyProof.Rows L2 LamX NdefX
/-- a lambda's words -/
abbrev lamF (q : Str) (params : Arguments) (scope : Scope) (cl : List (Str × Addr)) (c' : Addr) : NF := ⟨"<lambda>", q, params, [], scope, cl, c'⟩
theorem cells_un {fs : List Addr} {H HZ : Hp} {h h1 : Heap} {cl : List (Str × Addr)} {fr : List Str} {ws : List (Option V)} (C : CellsAt cl fr ws h H) (un : Un fs [] H HZ h h1) : CellsAt cl fr ws h1 HZ := by
  have cellK : ∀ {c : Addr} {v : Option Value}, H c = none → h.IsCell c v → h1.IsCell c v := fun {c v} n ⟨o, ho, hd⟩ => by
    obtain ⟨sl, q⟩ := un.any ho n (by simp)
    exact ⟨_, q, hd⟩
  refine ⟨C.len, fun y c e => ?_, C.inj, fun i y e => ?_⟩
  · obtain ⟨n, v, z⟩ := C.all y c e
    refine ⟨?_, v, cellK n z⟩
    obtain ⟨o, ho, _⟩ := z
    exact un.free c o ho n (by simp)
  · obtain ⟨c, hc, hv⟩ := C.has i y e
    refine ⟨c, hc, fun v ev => ?_⟩
    obtain ⟨u, r, z⟩ := hv v ev
    exact ⟨u, r, cellK (C.all y c hc).1 z⟩
section
variable {X : Cx} {pins : List (Addr × Obj)} {σ : L2.St} {H : Hp} {s : Shared}
/-- x(e, ..), in the def that got the lambda as x -/
theorem pe_act1 {Ng : List Str} {qg : Str} {sg : Scope} {g f c' : Addr} {cdg pm ctv : Value} {q : Str} {params : Arguments} {body : Expr} {scope : Scope} {cl : List (Str × Addr)} {ps fr N : List Str} {ws : List (Option V)} {k i : Nat} {a : Str} {tb : TE} {e : Expr} {es : List Expr} {t : TA} {p1 p2 : Pos}
    (I : Inv X pins σ H s) (S : NScope N ps fr scope) (C : CellsAt cl fr ws s.heap H) (hf : s.heap.get? f = some (PySem.W.kla_obj "<lambda>" q params body scope cl pm c' ctv)) (hfn : H f = none) (hfr : f ∉ frs X.stack)
    (hbind : ∀ us : List Value, us.length = ps.length → bindArgs (PySem.W.kla_fn "<lambda>" q params body scope cl pm (.ref c') ctv) ⟨us, []⟩ = pure (ps.zip us))
    (hr : Room (k + 1) (X.A.deeper (envOfC qg sg s.heap.objs.size g cdg)))
    (hbody : ∀ (A : Around) (outer : List Env) (s : Shared) (H : Hp), Room k (A.deeper (envF (lamF q params scope cl c') f s.heap.objs.size)) → PE (ncx CX0 X.prog X.w X.K X.mg X.base N (lamF q params scope cl c') f A outer s H E0) body tb)
    (ha : PA (cxOf CX0 X.prog X.w X.K X.mg X.base Ng qg sg g cdg X.A X.stack s H E0).nox (e :: es) t) (hN : Ng[i]? = some a) (hv : Vis sg a)
    (he : starEach (e :: es) (cxOf CX0 X.prog X.w X.K X.mg X.base Ng qg sg g cdg X.A X.stack s H E0).nox.env = (false, eval e (cxOf CX0 X.prog X.w X.K X.mg X.base Ng qg sg g cdg X.A X.stack s H E0).nox.env) :: starEach es (cxOf CX0 X.prog X.w X.K X.mg X.base Ng qg sg g cdg X.A X.stack s H E0).nox.env)
    (hpl : (backTo p2 (starEach es (cxOf CX0 X.prog X.w X.K X.mg X.base Ng qg sg g cdg X.A X.stack s H E0).nox.env)).any (·.1) = false)
    (hd : (a == ("__debug__" : Str)) = false := by decide) (hcd : (a == ("__classdict__" : Str)) = false := by decide) :
    PE (cxOf CX0 X.prog X.w X.K X.mg X.base Ng qg sg g cdg X.A X.stack s H E0).nox (.Call (.Name a p1) (e :: es) [] p2)
      (fun σZ HZ Q => σZ[i]? = some (some (.ref f)) ∧ t σZ HZ fun vs H1 => vs.length = ps.length ∧ H1 c' = some (CodeO c' q) ∧ tb (startF N vs ws) H1 Q) := by
  refine ⟨fun pinsZ sZ σZ HZ Q IZ h => ?_⟩
  obtain ⟨hs, ht⟩ := h
  refine wpAny_Call_Name_kw (thn ((pe_var (pos := p1) (i := i) hN hv hd hcd).run pinsZ sZ σZ HZ (fun v H1 => v = .ref f ∧ H1 = HZ) IZ ⟨.ref f, hs, rfl, rfl⟩) fun u s1 ⟨v, H1, I1, r1, q1⟩ => ?_)
  obtain ⟨ev, eH⟩ := q1
  subst ev
  rw [eH] at I1
  obtain rfl : u = Value.ref f := r1
  have at_ : ∀ {σ' : L2.St} {H' : Hp} {s' : Shared}, Inv (cxOf CX0 X.prog X.w X.K X.mg X.base Ng qg sg g cdg X.A X.stack s H E0).nox pinsZ σ' H' s' → s'.heap.get? f = some (PySem.W.kla_obj "<lambda>" q params body scope cl pm c' ctv) :=
    fun J => J.base.keep f _ hf hfn hfr (fun z => nomatch (show f ∈ ([] : List Addr) from z))
  refine PySem.W.callWith_F (first := []) ⟨_, _, _, _, at_ I1⟩ (thn (ha.run p2 pinsZ s1 σZ HZ _ I1 ht) fun us s2 ⟨vs, H2, I2, r, hl, hc, q2⟩ => ⟨⟨_, _, _, _, at_ I2⟩, ?_⟩) he hpl
  show wpAny _ _ (call (.ref f) us) _ _ _
  have un : Un (frs X.stack) [] H H2 s.heap s2.heap := I2.base
  have C2 := cells_un C un
  obtain ⟨⟨oc, vs', t', hoc, hdc, hvc⟩, _, _⟩ := I2.hok c' _ hc
  have rc : codeAny (model X.prog X.w) (X.A.deeper (envOfC qg sg s.heap.objs.size g cdg)) (.call (.ref f) ⟨us, []⟩) (CR CX0 (envOfC qg sg s.heap.objs.size g cdg :: X.stack) X.prog X.w H2 s2 Q E0) s2 := by
    refine PySem.W.kla_callFunE hr.depth (at_ I2) rfl S.co S.gen rfl ⟨c', oc, vs', t', rfl, hoc, hdc, hvc⟩ ?_
    rw [hbind us (by rw [← r.length]; exact hl)]
    refine wpAny_pure (wpAny_newFunctionEnv S.nocell (fun ⟨n, _⟩ hy => S.par n (List.of_mem_zip hy).1) (fun h₁ hns hsb => ⟨I2.nolimit.fresh _ hsb, ?_⟩) S.kind)
    show codeAny _ _ (.expr body (envF (lamF q params scope cl c') f s2.heap.objs.size)) _ _
    have kp : ∀ b o, s2.heap.get? b = some o → h₁.get? b = some o := fun b o e => hsb.extBut b o (Nat.ne_of_lt (Heap.lt_size e)) (Heap.get?_push_of_some _ e)
    have J : Inv (ncx CX0 X.prog X.w X.K X.mg X.base N (lamF q params scope cl c') f (X.A.deeper (envOfC qg sg s.heap.objs.size g cdg)) (envOfC qg sg s.heap.objs.size g cdg :: X.stack) s2 H2 E0) [] (startF N vs ws) H2 { s2 with heap := h₁, toks := s2.toks + (ps.zip us).length } :=
      inv_startN S hr.hd I2.env0 hl r C2 hns kp
    refine PySem.W.kla_codeExpr (wpAny_mono ((hbody _ _ s2 H2 (hr.deeper _)).run [] _ _ H2 Q J q2) (fun v s' hq => ?_) fun e s' hq => hq)
    obtain ⟨w', H', J', rv, q3⟩ := hq
    exact ⟨w', H', J'.os, J'.bare, J'.base, J'.hok, rv, q3⟩
  refine wpAny_call (codeAny_mono rc fun r s' hq => ?_)
  cases r with
  | error e => exact pass0 pinsZ σZ H2 s2 e s' I2 hq
  | ok fl =>
    cases fl with
    | ret u => exact I2.after hq
    | next => exact False.elim hq
    | brk => exact False.elim hq
    | cont => exact False.elim hq
end
/-- the def that calls what it got as its third argument, named a: TT is what it makes of the lambda's reading -/
def Gives3 (X : Cx) (k : Nat) (Ng : List Str) (x : Str) (sg : Scope) (g : Addr) (cdg : Value) (bg : List Stmt) (a : Str) (q : Str) (TT : (V → Hp → VK → Prop) → Addr → V → V → Hp → VK → Prop) : Prop :=
  ∀ (f c' : Addr) (s : Shared) (H : Hp) (Q : VK) (v1 v2 : V) (tl : V → Hp → VK → Prop), Room k (X.A.deeper (envOfC x sg s.heap.objs.size g cdg)) →
    (∀ (e : Expr) (t : TE) (p1 p2 : Pos), PE (cxOf CX0 X.prog X.w X.K X.mg X.base Ng x sg g cdg X.A X.stack s H E0).nox e t →
      starEach [e] (cxOf CX0 X.prog X.w X.K X.mg X.base Ng x sg g cdg X.A X.stack s H E0).nox.env = [(false, eval e (cxOf CX0 X.prog X.w X.K X.mg X.base Ng x sg g cdg X.A X.stack s H E0).nox.env)] →
      PE (cxOf CX0 X.prog X.w X.K X.mg X.base Ng x sg g cdg X.A X.stack s H E0).nox (.Call (.Name a p1) [e] [] p2) (fun σZ HZ Q => σZ[2]? = some (some (.ref f)) ∧ t σZ HZ fun y H1 => ([y] : List V).length = ([a] : List Str).length ∧ H1 c' = some (CodeO c' q) ∧ tl y H1 Q)) →
    H c' = some (CodeO c' q) → TT tl c' v1 v2 H Q →
    ∃ t, PSs (cxOf CX0 X.prog X.w X.K X.mg X.base Ng x sg g cdg X.A X.stack s H E0).nox bg t ∧ t { nx := fun _ H' => Q .non H', rt := Q } (L2.start Ng [v1, v2, .ref f]) H
def tLam3 (T : List (Addr × Str)) (N : List Str) (js : List Nat) (TT : (V → Hp → VK → Prop) → Addr → V → V → Hp → VK → Prop) (t1 t2 tb : TE) : TE := fun σ H Q => t1 σ H fun v1 H1 => t2 σ H1 fun v2 H2 => Tabs T H2 ∧ ∀ H3 c', ExtN H2 H3 → Tabs T H3 →
  TT (fun y H' Q' => tb (startF N [y] (js.map (slotAt σ))) H' Q') c' v1 v2 H3 Q
section
variable {X : Cx}
/-- x(e1, e2, lambda a: body) -/
theorem pe_lam3 {T : List (Addr × Str)} {TT : (V → Hp → VK → Prop) → Addr → V → V → Hp → VK → Prop} {x a a1 a2 pa : Str} {g c P : Addr} {k : Nat} {pg : Arguments} {bg : List Stmt} {sg : Scope} {dV kV doc pm cdv ct oc : Value} {an od : Option Addr} {osl : Array (Option Value)} {Ng N fr : List Str} {js : List Nat}
    {params : Arguments} {body : Expr} {scope : Scope} {e1 e2 : Expr} {t1 t2 tb : TE} {p lpos pos : Pos} (hg : Gl X x) (hm : X.mg x = some (.ref g)) (hk : PySem.W.keepIn X.K (.ref g) = true)
    (lk : X.K.lookup g = some ⟨oc, od, .func (PySem.W.fnOf x x pg bg sg dV kV doc pm an cdv ct), osl⟩) (hcg : PySem.W.codeIn X.K cdv x = true) (hb : L2.Binds X.K (PySem.W.fnOf x x pg bg sg dV kV doc pm an cdv ct) [a1, a2, a] []) (Sg : FnScope Ng [a1, a2, a] sg) (hNg : Ng[2]? = some a) (hva : Vis sg a)
    (hG : Gives3 X (k + 1) Ng x sg g cdv bg a (X.env.qual ++ "<lambda>") TT)
    (TB : TabB X.base X.mg c P) (hcode : X.env.code = .ref c) (hmT : (P, X.env.qual ++ "<lambda>") ∈ T) (hu : ∀ p ∈ T, p.1 = P → p.2 = X.env.qual ++ "<lambda>") (hr : Room (k + 2) X.A)
    (S : NScope N [pa] fr scope) (hfree : ∀ y ∈ scope.names, y.2 = .free → X.env.scope.names.lookup y.1 = some .cell ∨ X.env.scope.names.lookup y.1 = some .free) (hfr : ∀ y ∈ fr, (y, NameKind.free) ∈ scope.names) (hjs : js.map (fun j => X.N[j]?) = fr.map some)
    (hdef : defaultsOf params X.env = ([], []))
    (hbind : ∀ (q : Str) (cl : List (Str × Addr)) (pm cv ctv : Value) (us : List Value), us.length = 1 → bindArgs (PySem.W.kla_fn "<lambda>" q params body scope cl pm cv ctv) ⟨us, []⟩ = pure ([pa].zip us))
    (h1 : PE X e1 t1) (h2 : PE X e2 t2)
    (hbody : ∀ (A : Around) (outer : List Env) (s : Shared) (H : Hp) (f c' : Addr) (cl : List (Str × Addr)), Room k (A.deeper (envF (lamF (X.env.qual ++ "<lambda>") params scope cl c') f s.heap.objs.size)) → PE (ncx CX0 X.prog X.w X.K X.mg X.base N (lamF (X.env.qual ++ "<lambda>") params scope cl c') f A outer s H E0) body tb)
    (hst : starEach [e1, e2, .Lambda params body scope lpos] X.env = [(false, eval e1 X.env), (false, eval e2 X.env), (false, eval (.Lambda params body scope lpos) X.env)] := by rfl)
    (hst1 : starEach [e2, .Lambda params body scope lpos] X.env = [(false, eval e2 X.env), (false, eval (.Lambda params body scope lpos) X.env)] := by rfl)
    (hdb : (x == ("__debug__" : Str)) = false := by decide) (hd : (a == ("__debug__" : Str)) = false := by decide) (hcd : (a == ("__classdict__" : Str)) = false := by decide) :
    PE X (.Call (.Name x p) [e1, e2, .Lambda params body scope lpos] [] pos) (tLam3 T N js TT t1 t2 tb) := by
  refine ⟨fun pins s σ H Q I h => ?_⟩
  have hff : ∀ y ∈ scope.names, y.2 = .free → ∃ c, X.env.cells.lookup y.1 = some c := fun y hy e => (hfree y hy e).elim (fun z => I.ok.has _ (.inl z)) fun z => I.ok.has _ (.inr z)
  refine wpAny_Call_Name_kw (ld_glob I hg hm ?_ hdb)
  refine PySem.W.callWith_K (h₀ := X.base) I.ok.mod.kin hk ?_ (by rw [hst, hst1]) (by rw [hst1]; rfl)
  rw [hst]
  show wpAny _ _ (spliced ((false, eval e1 X.env) :: backTo pos [(false, eval e2 X.env), (false, eval (.Lambda params body scope lpos) X.env)])) _ _ s
  refine Calls.spliced_cons (thn (h1.run pins s σ H _ I h) fun u1 s1 ⟨v1, H1, I1, r1, q1⟩ => ?_)
  show wpAny _ _ (spliced ((false, eval e2 X.env) :: backTo pos [(false, eval (.Lambda params body scope lpos) X.env)])) _ _ s1
  refine Calls.spliced_cons (thn (h2.run pins s1 σ H1 _ I1 q1) fun u2 s2 ⟨v2, H2, I2, r2, hT, q2⟩ => ?_)
  show wpAny _ _ (spliced ((false, eval (.Lambda params body scope lpos) X.env) :: backTo pos [])) _ _ s2
  refine Calls.spliced_cons (lam_make2 I2 TB hcode hmT hu hT hdef hff fun f c' pm' ctv H3 s' I3 eN T1 hf hfn hfrs hco => ?_)
  refine Calls.spliced_nil ⟨I3.kIn, ?_⟩
  have rc : codeAny (model X.prog X.w) X.A (.call (.ref g) ⟨[u1, u2, .ref f], []⟩) (CR CX0 X.stack X.prog X.w H3 s' Q E0) s' := by
    refine run_ofS (N := Ng) (ps := [a1, a2, a]) (us := [u1, u2, .ref f]) (vs := [v1, v2, .ref f]) lk hcg Sg hr I3.env0 (hb s' [u1, u2, .ref f] I3.kIn rfl) (.cons r1 (.cons r2 (.cons rfl .nil))) rfl fun hr' => ?_
    have C : CellsAt (cloFrom X.env.cells scope.names []) fr (js.map (slotAt σ)) s'.heap H3 := cells_of I3 (Caps.made I3.ok hfree hfr hjs)
    have pz : ∀ (e : Expr) (t : TE) (p1 p2 : Pos), PE (cxOf CX0 X.prog X.w X.K X.mg X.base Ng x sg g cdv X.A X.stack s' H3 E0).nox e t → starEach [e] (cxOf CX0 X.prog X.w X.K X.mg X.base Ng x sg g cdv X.A X.stack s' H3 E0).nox.env = [(false, eval e (cxOf CX0 X.prog X.w X.K X.mg X.base Ng x sg g cdv X.A X.stack s' H3 E0).nox.env)] →
        PE (cxOf CX0 X.prog X.w X.K X.mg X.base Ng x sg g cdv X.A X.stack s' H3 E0).nox (.Call (.Name a p1) [e] [] p2) (fun σZ HZ Q => σZ[2]? = some (some (.ref f)) ∧ t σZ HZ fun y H1 => ([y] : List V).length = ([a] : List Str).length ∧ H1 c' = some (CodeO c' (X.env.qual ++ "<lambda>")) ∧ tb (startF N [y] (js.map (slotAt σ))) H1 Q) := by
      intro e t p1 p2 he hse
      exact pe_act1 (i := 2) (a := a) (p1 := p1) (p2 := p2) I3 S C hf hfn hfrs (hbind _ _ _ _ _) hr' (fun A outer s H hr2 => hbody A outer s H f c' _ hr2) (pa_cons he pa_nil hse) hNg hva hse rfl hd hcd
    obtain ⟨t', ht', hq'⟩ := hG f c' s' H3 Q v1 v2 (fun y H' Q' => tb (startF N [y] (js.map (slotAt σ))) H' Q') hr' pz hco (q2 H3 c' eN T1)
    exact ⟨t', ht'.nox, hq'⟩
  refine wpAny_call (codeAny_mono rc fun r s3 hq => ?_)
  cases r with
  | error e => exact (show False from hq).elim
  | ok fl =>
    cases fl with
    | ret u => exact I3.after hq
    | next => exact False.elim hq
    | brk => exact False.elim hq
    | cont => exact False.elim hq
end
end TkS
set_option Elab.async false
set_option linter.all false
set_option maxRecDepth 100000
set_option maxHeartbeats 4000000
set_option exponentiation.threshold 5000
namespace TkS
open PySem PySem.Spec PyProof.Rows L2 LamX NdefX
/-- a def of the text with its code object -/
structure FunC (K : PySem.W.Frag) (x qual : Str) (st : Stmt) (f : Addr) (fd : FuncData) (c : Addr) : Prop where
  ex : ∃ (oc : Value) (od : Option Addr) (kV doc pm : Value) (an : Option Addr) (ct : Value) (osl : Array (Option Value)),
    fd = PySem.W.fnOf x qual (defArgs st) (defBody st) (defScope st) .none kV doc pm an (.ref c) ct ∧ K.lookup f = some ⟨oc, od, .func fd, osl⟩ ∧ PySem.W.codeIn K (.ref c) qual = true
theorem FunC.ok {P : Program} {w : World} {K : PySem.W.Frag} {mg : Str → Option Value} {base : Heap} {x qual : Str} {st : Stmt} {f : Addr} {fd : FuncData} {c : Addr} {N ps : List Str} {k : Nat} {sp : Sp} (F : FunC K x qual st f fd c) (S : FnScope N ps (defScope st)) (len : ∀ vs H Q E, sp vs H Q E → vs.length = ps.length)
    (hbody : ∀ (A : Around) (outer : List Env) (s : Shared) (H : Hp) (vs : List V) (Q : VK) (E : XK), Room k (A.deeper (envOfC qual (defScope st) s.heap.objs.size f (.ref c))) → sp vs H Q E →
      ∃ t, PSs (cxOf CX0 P w K mg base N qual (defScope st) f (.ref c) A outer s H E).nox (defBody st) t ∧ t { nx := fun _ H' => Q .non H', rt := Q } (start N vs) H) : FnOk P w K mg base CX0 (k + 1) f fd ps sp := by
  obtain ⟨oc, od, kV, doc, pm, an, ct, osl, rfl, lk, hcd⟩ := F.ex
  refine fn_of lk hcd S len fun A outer s H vs Q E hr hsp => ?_
  obtain ⟨t, h, q⟩ := hbody A outer s H vs Q E hr hsp
  exact ⟨t, h.nox, q⟩
theorem ext_at {H H' : Hp} (k : ExtN H H') {b : Addr} {o : HO} (e : H b = some o) (n : ∀ ps, o ≠ .tbl ps) : H' b = some o := k _ _ e n
mutual
theorem dq_ext {H H' : Hp} (k : ExtN H H') : ∀ {v : V} (d : PyData), Dq H v d → Dq H' v d
  | _, .none, .non => .non
  | _, .bool _, .bl b => .bl b
  | _, .int _, .int i => .int i
  | _, .str _, .str x => .str x
  | _, .list _, .lst e u => .lst (k _ _ e fun _ z => nomatch z) (dqs_ext k _ u)
  | _, .tuple _, .tup e u => .tup (k _ _ e fun _ z => nomatch z) (dqs_ext k _ u)
theorem dqs_ext {H H' : Hp} (k : ExtN H H') : ∀ {vs : List V} (ds : List PyData), DqAll H vs ds → DqAll H' vs ds
  | _, [], .nil => .nil
  | _, _ :: _, .cons u v => .cons (dq_ext k _ u) (dqs_ext k _ v)
end
end TkS
namespace K25
open PySem PySem.Spec PyProof.Rows L2 TkS LamX NdefX
theorem RF.ext {C : Addr} {H H' : Hp} {a : Addr} {p : Nat} (x : RF C H a p) (k : ExtN H H') : RF C H' a p := by
  obtain ⟨⟨dx, ha⟩, pr, le⟩ := x
  exact ⟨⟨dx, k _ _ ha fun _ z => nomatch z⟩, pr, le⟩
theorem FF.ext {C : Addr} {H H' : Hp} {a : Addr} (x : FF C H a) (k : ExtN H H') : FF C H' a := by
  obtain ⟨dx, z, o, m, e1, e2, e3, e4⟩ := x.at_
  exact ⟨⟨dx, z, o, m, k _ _ e1 (fun _ z => nomatch z), k _ _ e2 (fun _ z => nomatch z), k _ _ e3 (fun _ z => nomatch z), k _ _ e4 fun _ z => nomatch z⟩⟩
theorem Fld.ext {CR CF : Addr} {H H' : Hp} {a : Addr} {p : Nat} (h : Fld CR CF H a p) (k : ExtN H H') : Fld CR CF H' a p := ⟨h.fp, fun e => (h.fr e).ext k, fun e => (h.rs e).ext k⟩
theorem Hand.ext {H H' : Hp} {h : Addr} (x : Hand H h) (k : ExtN H H') : Hand H' h := by
  obtain ⟨c, cells, p, r, t, h1, h2, q⟩ := x.ex
  exact ⟨c, cells, p, r, t, k _ _ h1 (fun _ z => nomatch z), k _ _ h2 (fun _ z => nomatch z), q⟩
/-! the first bad index -/
def firstBad (g : PyData → Bool) : List PyData → Nat → Option Int
  | [], _ => none
  | d :: ds, i => if g d = true then firstBad g ds (i + 1) else some (i : Int)
def wrongI (g : PyData → Bool) (d : PyData) (n : Int) : Option Int := if seqIs d (.int n) = true then (match itemsD d with
    | some ds => firstBad g ds 0
    | none => some (-1)) else some (-1)
def optV : Option Int → V
  | none => .non
  | some i => .int i
theorem bad_all {g : PyData → Bool} : ∀ (ds : List PyData) (i : Nat), ds.all g = true → firstBad g ds i = none
  | [], _, _ => rfl
  | d :: ds, i, h => by
    rw [List.all_cons, Bool.and_eq_true] at h
    unfold firstBad
    rw [if_pos h.1]
    exact bad_all ds _ h.2
theorem bad_at {g : PyData → Bool} : ∀ (ds : List PyData) (j i : Nat) (d : PyData), ds[j]? = some d → (∀ e ∈ ds.take j, g e = true) → g d = false → firstBad g ds i = some ((i + j : Nat) : Int)
  | [], _, _, _, h, _, _ => by simp at h
  | e :: ds, 0, i, d, h, _, n => by
    simp at h
    subst h
    unfold firstBad
    rw [if_neg (by rw [n]; decide)]
    rfl
  | e :: ds, j + 1, i, d, h, a, n => by
    unfold firstBad
    rw [if_pos (a e (by simp))]
    rw [bad_at ds j (i + 1) d (by simpa using h) (fun x m => a x (by simp [m])) n, Nat.add_assoc, Nat.add_comm 1 j]
def TTw (tl : V → Hp → VK → Prop) (_ : Addr) (v1 v2 : V) (H : Hp) (Q : VK) : Prop := ∃ (d : PyData) (n : Int) (g : PyData → Bool), Dq H v1 d ∧ v2 = .int n ∧
  (∀ (y : V) (d' : PyData) (ds : List PyData) (H1 : Hp) (R : VK), Same H H1 → itemsD d = some ds → d' ∈ ds → Dq H1 y d' → (∀ H2, Same H1 H2 → R (.bl (g d')) H2) → tl y H1 R) ∧ ∀ H', Same H H' → Q (optV (wrongI g d n)) H'
theorem gives_wrong {X : Cx} {K : PySem.W.Frag} {mg : Str → Option Value} (T : Txt K mg) (hK : X.K = K) (hM : X.mg = mg) {k : Nat} {cdg : Value} {q : Str} (hk : 1 ≤ k) : Gives3 X k ["thing", "length", "is_good", "index", "item"] "wrong_index" (defScope s_wrong_index) T.f_wrong_index cdg (defBody s_wrong_index) "is_good" q TTw := by
  subst hK hM
  intro f c' s H Q v1 v2 tl hr hcall hco h
  obtain ⟨d, n, g, kd, rfl, htl, hq⟩ := h
  refine ⟨_, (pss_cons (ps_if (pt_not (pt_val (pe_call (ok_is_sequence T) (hr.mono hk) (by rfl) T.g_is_sequence T.F_is_sequence.kp T.b_is_sequence .nil pass0 (pa_cons (pv 0) (pa_cons (pv 1) pa_nil)))))
        (pss_one (ps_ret (pe_un un_neg pe_int)))
        pss_nil)
      (pss_cons (ps_for PassesOwn.never rfl (pi_enumS (by rfl) T.m_enumerate (pa_cons (pv 0) pa_nil)) (pg_tup rfl (pgs_cons (pg_name (i := 3) sc_wrong_index.nd rfl (.inl rfl)) (pgs_cons (pg_name (i := 4) sc_wrong_index.nd rfl (.inl rfl)) pgs_nil)))
        (pss_one (ps_if (pt_not (pt_val (hcall _ _ _ _ (pv 4) rfl)))
          (pss_one (ps_ret (pv 3)))
          pss_nil)))
      (pss_one (ps_ret pe_non)))), ?_⟩
  refine ⟨_, rfl, _, rfl, v1, .int n, d, rfl, kd, .inr ⟨_, rfl⟩, fun H1 s1 => ⟨_, rfl, ?_⟩⟩
  unfold wrongI at hq
  cases c : seqIs d (.int n) with
  | false =>
    rw [c, if_neg (by decide)] at hq
    exact iteT ⟨1, rfl, hq _ s1⟩
  | true =>
    rw [c, if_pos rfl] at hq
    refine iteF ?_
    cases e : itemsD d with
    | none =>
      unfold seqIs at c
      rw [e] at c
      cases c
    | some ds =>
      rw [e] at hq
      obtain ⟨p, xs, rfl, hxs, hsq⟩ := sq_of (K := X.K) (kd.same s1) e
      have lx := hxs.len
      refine for_enumS (a := p) (xs := xs) (fun i σ H' => ∃ y3 y4, σ = [some (.ref p), some (.int n), some (.ref f), y3, y4] ∧ Same H1 H' ∧ ∀ d' ∈ ds.take i, g d' = true)
        (fun Q h => ⟨_, rfl, h⟩) hsq ⟨_, _, rfl, fun _ _ z => z, fun d' m => by simp at m⟩ (fun i σ H' hP => by obtain ⟨_, _, _, sm, _⟩ := hP; exact sm) (fun i x Z σ H' hx hP nZ => ?_) (fun σ H' hP => ?_)
      · obtain ⟨y3, y4, rfl, s2, hall⟩ := hP
        obtain ⟨d', hd', kd'⟩ := hxs.get hx
        have s3 : Same H1 (upd H' Z (.tup [.int (i : Nat), x])) := s2.trans (same_new nZ)
        refine ⟨Z, _, rfl, SqT.of upd_same, rfl, _, _, rfl, _, _, rfl, rfl, ?_⟩
        refine ⟨rfl, _, rfl, rfl, (s1.trans s3) _ _ hco, htl x d' ds _ _ (s1.trans s3) e (List.mem_of_getElem? hd') (kd'.same s3) fun H2 s4 => ⟨_, rfl, ?_⟩⟩
        cases hb : g d' with
        | false =>
          refine iteT ⟨_, rfl, ?_⟩
          have := bad_at ds i 0 d' hd' hall hb
          rw [Nat.zero_add] at this
          show Q (optV (some (i : Int))) H2
          rw [← this]
          exact hq _ ((s1.trans s3).trans s4)
        | true =>
          refine iteF ⟨_, _, rfl, s3.trans s4, fun d2 m2 => ?_⟩
          rw [List.take_add_one, hd'] at m2
          rcases List.mem_append.mp m2 with m2 | m2
          · exact hall d2 m2
          · rw [List.mem_singleton.mp (show d2 ∈ [d'] from m2)]
            exact hb
      · obtain ⟨y3, y4, rfl, s2, hall⟩ := hP
        rw [lx, List.take_length] at hall
        have := bad_all (g := g) ds 0 (List.all_eq_true.mpr hall)
        show Q (optV none) H'
        rw [← this]
        exact hq _ (s1.trans s2)
end K25
set_option Elab.async false
set_option linter.all false
set_option maxRecDepth 100000
set_option maxHeartbeats 4000000
set_option exponentiation.threshold 5000
namespace K25
open PySem PySem.Spec PyProof.Rows L2 TkS LamX NdefX
def facOk (p : Nat) (d : PyData) : Bool := numOk p d && !PyData.eqv d (zeroD p)
theorem num_form {p : Nat} {d : PyData} (h : numOk p d = true) : (p = 0 ∧ ∃ q, d = frD q ∧ Lowest q) ∨ (p ≠ 0 ∧ ∃ x : Nat, d = .int (x : Int) ∧ x < p) := by
  unfold numOk at h
  by_cases p0 : p = 0
  · rw [if_pos p0] at h
    exact .inl ⟨p0, frOk_of h⟩
  · rw [if_neg p0] at h
    right
    refine ⟨p0, ?_⟩
    cases d with
    | int i =>
      obtain ⟨h1, h2⟩ := Bool.and_eq_true_iff.mp h
      have a := of_decide_eq_true h1
      have b := of_decide_eq_true h2
      exact ⟨i.toNat, by rw [Int.toNat_of_nonneg a], by omega⟩
    | _ => cases h
theorem num_shp {p : Nat} {d : PyData} (h : numOk p d = true) : SeqAt.shaped d = true := by
  rcases num_form h with ⟨_, q, rfl, _⟩ | ⟨_, x, rfl, _⟩
  · exact shp_fr _
  · rfl
theorem fac_nb {p k : Nat} {d : PyData} (n : Nb p k d) (fp : Fp p) (nz : d ≠ zeroD p) : facOk p d = true := by
  unfold facOk
  rw [numOk_nb n, nb_ne n (nb_zero (k := 1) fp (Nat.le_refl _)) nz]
  rfl
theorem fac_bad {p : Nat} {d : PyData} (fp : Fp p) (h : OddD p d) : facOk p d = false := by
  unfold facOk
  rcases h.2.2 with e | r
  · rw [e, nb_self (nb_zero (k := 1) fp (Nat.le_refl _)), Bool.not_true, Bool.and_false]
  · rw [numOk_refu r, Bool.false_and]
def sp_is_number (CR CF : Addr) : Sp := fun vs H Q _ => ∃ (f : Addr) (p : Nat) (x : V) (d : PyData), vs = [.ref f, x] ∧ Fld CR CF H f p ∧ Dq H x d ∧ ∀ H', Same H H' → Q (.bl (numOk p d)) H'
def sp_is_factor (CR CF : Addr) : Sp := fun vs H Q _ => ∃ (f : Addr) (p : Nat) (x : V) (d : PyData), vs = [.ref f, x] ∧ Fld CR CF H f p ∧ Dq H x d ∧ ∀ H', Same H H' → Q (.bl (facOk p d)) H'
theorem firstBad_none {g : PyData → Bool} : ∀ (ds : List PyData) (i : Nat), firstBad g ds i = none → ds.all g = true
  | [], _, _ => rfl
  | d :: ds, i, h => by
    unfold firstBad at h
    split at h
    · rename_i c
      rw [List.all_cons, c, Bool.true_and]
      exact firstBad_none ds _ h
    · cases h
theorem wrong_none {g : PyData → Bool} {d : PyData} {n : Int} (h : wrongI g d n = none) : ∃ ds, itemsD d = some ds ∧ ds.all g = true ∧ (ds.length : Int) = n := by
  unfold wrongI at h
  split at h
  · rename_i c
    cases e : itemsD d with
    | none =>
      rw [e] at h
      cases h
    | some ds =>
      rw [e] at h
      refine ⟨ds, rfl, firstBad_none ds 0 h, ?_⟩
      unfold seqIs at c
      rw [e] at c
      exact of_decide_eq_true c
  · cases h
theorem Pic.ext {C : Addr} {H H' : Hp} {a : Addr} {P W : Int} {ps : List (Int × Int)} (h : Pic C H a P W ps) (k : ExtN H H') : Pic C H' a P W ps := by
  obtain ⟨⟨dx, t, v, xs, h1, h2, h2', h3⟩, h4, h5, h6⟩ := h
  obtain ⟨o, e1, e2⟩ := h2
  exact ⟨⟨dx, t, v, xs, k _ _ h1 (fun _ z => nomatch z), ⟨o, k _ _ e1 (fun _ z => nomatch z), e2⟩, dqs_ext k _ h2', dq_ext k _ h3⟩, h4, h5, h6⟩
section
variable {P : Program} {w : World} {K : PySem.W.Frag} {mg : Str → Option Value} {base : Heap} {cw Pw : Addr}
theorem ok_is_number (T : Txt K mg) : FnOk P w K mg base CX0 4 T.f_is_number T.d_is_number ["field", "thing"] (sp_is_number T.C_RestField T.C_FractionField) := by
  refine T.F_is_number.ok sc_is_number (fun vs H Q E h => ?_) (fun cdv A outer s H vs Q E hr h => ?_)
  · obtain ⟨f, p, x, d, rfl, _⟩ := h
    rfl
  · obtain ⟨f, p, x, d, rfl, hf, kx, q⟩ := h
    refine' ⟨_, (pss_cons ?tr (pss_one (ps_ret pe_bl))), ?_⟩
    case tr =>
      exact ps_try_only (Wout := fun _ _ _ _ => False) rfl rfl ⟨rfl, by decide, Or.inl T.g_BadNumber⟩ L2.takes0
        (fun W pn xe tk _ => pss_one (ps_expr (pe_or2 (pe_methSD (pv 0) T.cl_RestField T.M_RestField_check_number (ok_RestField_check_number T) (hr.mono (by decide)) T.b_RestField_check_number .nil (fun σ => passAt tk σ) (pa_cons (pv 1) pa_nil)) (pe_methSD (pv 0) T.cl_FractionField T.M_FractionField_check_number (ok_FractionField_check_number T) (hr.mono (by decide)) T.b_FractionField_check_number .nil (fun σ => passAt tk σ) (pa_cons (pv 1) pa_nil)))))
        (fun a oe cls d pn hz hf => pss_one (ps_ret pe_bl))
    by_cases p0 : p = 0
    · obtain ⟨dx, z, o, m, ea, _⟩ := (hf.fr p0).at_
      have en : numOk p d = frOk d := if_pos p0
      rw [en] at q
      refine .inr ⟨_, rfl, f, dx, _, rfl, ea, rfl, _, rfl, f, x, d, rfl, kx, fun e H' s => ⟨true, T.mm_BadNumber_BadNumber, fun _ a0 na => (by rw [e] at q; exact q _ s), fun z => Bool.noConfusion z⟩, fun e => (by rw [e] at q; exact q _ fun _ _ z => z)⟩
    · obtain ⟨⟨dx, ha⟩, pr, _⟩ := id (hf.rs p0)
      rw [numOk_rest p0 kx] at q
      refine .inl ⟨_, rfl, f, dx, _, rfl, ha, rfl, _, rfl, f, p, x, d, rfl, hf.rs p0, kx, fun e H' s => ⟨true, T.mm_BadNumber_BadNumber, fun _ a0 na => (by rw [e] at q; exact q _ s), fun z => Bool.noConfusion z⟩, fun e => (by rw [e] at q; exact q _ fun _ _ z => z)⟩
theorem fld_zero (T : Txt K mg) {H : Hp} {f : Addr} {p : Nat} (hf : Fld T.C_RestField T.C_FractionField H f p) : ∃ C dx fs v, H f = some (.ins C dx fs) ∧ Cls K C ∧ NoAttr K C "zero" ∧ fs.lookup ("zero" : Str) = some v ∧ Dq H v (zeroD p) := by
  unfold zeroD
  by_cases p0 : p = 0
  · rw [if_pos p0]
    obtain ⟨dx, z, o, n, ea, ez, eo, em⟩ := (hf.fr p0).at_
    exact ⟨_, dx, _, _, ea, T.cl_FractionField, T.na_FractionField_zero, rfl, fr_dq (q := (0, 1)) ez⟩
  · rw [if_neg p0]
    obtain ⟨⟨dx, ha⟩, pr, le⟩ := id (hf.rs p0)
    exact ⟨_, dx, _, _, ha, T.cl_RestField, T.na_RestField_zero, rfl, .int _⟩
end
end K25
set_option Elab.async false
set_option linter.all false
set_option maxRecDepth 100000
set_option maxHeartbeats 4000000
set_option exponentiation.threshold 5000
namespace K25
open PySem PySem.Spec PyProof.Rows L2 TkS
def sp_rest_of (C : Addr) : Sp := fun vs H Q _ => ∃ (a : Addr) (p : Nat) (x : Int), vs = [.ref a, .int x] ∧ RF C H a p ∧ Q (.int (x % (p : Int))) H
section
variable {P : Program} {w : World} {K : PySem.W.Frag} {mg : Str → Option Value} {base : Heap}
theorem ok_RestField_plus (T : Txt K mg) : FnOk P w K mg base CX0 1 T.f_RestField_plus T.d_RestField_plus ["self", "one", "other"] (sp_rest T.C_RestField (· + ·)) := by
  refine T.F_RestField_plus.ok sc_RestField_plus (fun vs H Q E h => ?_) (fun cdv A outer s H vs Q E hr h => ?_)
  · obtain ⟨a, p, x, y, rfl, _⟩ := h
    rfl
  · obtain ⟨a, p, x, y, rfl, hf, mx, my, q⟩ := h
    refine ⟨_, (pss_one (ps_ret (pe_op op_mod (pe_op op_add (pv 1) (pv 2)) (pe_fld (pv 0) rfl)))), ?_⟩
    obtain ⟨⟨dx, ha⟩, pr, _⟩ := hf
    have p2 := pr.1
    exact ⟨_, rfl, _, rfl, x, y, rfl, rfl, _, rfl, a, T.C_RestField, dx, _, _, rfl, ha, T.cl_RestField, T.na_RestField_prime, rfl, x + y, p, rfl, rfl, (show (0 : Int) < p by omega), q⟩
theorem ok_RestField_less (T : Txt K mg) : FnOk P w K mg base CX0 1 T.f_RestField_less T.d_RestField_less ["self", "one", "other"] (sp_rest T.C_RestField (· - ·)) := by
  refine T.F_RestField_less.ok sc_RestField_less (fun vs H Q E h => ?_) (fun cdv A outer s H vs Q E hr h => ?_)
  · obtain ⟨a, p, x, y, rfl, _⟩ := h
    rfl
  · obtain ⟨a, p, x, y, rfl, hf, mx, my, q⟩ := h
    refine ⟨_, (pss_one (ps_ret (pe_op op_mod (pe_op op_sub (pv 1) (pv 2)) (pe_fld (pv 0) rfl)))), ?_⟩
    obtain ⟨⟨dx, ha⟩, pr, _⟩ := hf
    have p2 := pr.1
    exact ⟨_, rfl, _, rfl, x, y, rfl, rfl, _, rfl, a, T.C_RestField, dx, _, _, rfl, ha, T.cl_RestField, T.na_RestField_prime, rfl, x - y, p, rfl, rfl, (show (0 : Int) < p by omega), q⟩
end
end K25
set_option Elab.async false
set_option linter.all false
set_option maxRecDepth 100000
set_option maxHeartbeats 4000000
set_option exponentiation.threshold 5000
namespace K25
open PySem PySem.Spec PyProof.Rows L2 TkS
def sp_fr_of (C : Addr) : Sp := fun vs H Q _ => ∃ (a : Addr) (z : Int), vs = [.ref a, .int z] ∧ FF C H a ∧ ∀ l H', Same H H' → Dq H' (.ref l) (frD (z, 1)) → Q (.ref l) H'
section
variable {P : Program} {w : World} {K : PySem.W.Frag} {mg : Str → Option Value} {base : Heap}
theorem ok_FractionField_plus (T : Txt K mg) : FnOk P w K mg base CX0 3 T.f_FractionField_plus T.d_FractionField_plus ["self", "one", "other"] (sp_fr2 T.C_FractionField plusF) := by
  refine T.F_FractionField_plus.ok sc_FractionField_plus (fun vs H Q E h => ?_) (fun cdv A outer s H vs Q E hr h => ?_)
  · obtain ⟨a, x, y, q, r, rfl, _⟩ := h
    rfl
  · obtain ⟨a, x, y, q, r, rfl, hf, kx, ky, fq, fr, hQ⟩ := h
    refine ⟨_, (pss_one (ps_ret (pe_call (ok_fraction T) (hr.mono (by decide)) (by rfl) T.g_fraction T.F_fraction.kp T.b_fraction .nil pass0 (pa_cons (pe_op op_add (pe_op op_mulW (pe_ix ix_tup (pv 1) pe_int (fun _ _ => rfl)) (pe_ix ix_tup (pv 2) pe_int (fun _ _ => rfl))) (pe_op op_mulW (pe_ix ix_tup (pv 2) pe_int (fun _ _ => rfl)) (pe_ix ix_tup (pv 1) pe_int (fun _ _ => rfl)))) (pa_cons (pe_op op_mulW (pe_ix ix_tup (pv 1) pe_int (fun _ _ => rfl)) (pe_ix ix_tup (pv 2) pe_int (fun _ _ => rfl))) pa_nil))))), ?_⟩
    obtain ⟨l1, rfl, h1⟩ := fr_at kx
    obtain ⟨l2, rfl, h2⟩ := fr_at ky
    have w1 := Fin.mulW fq.ft fr.fb (by decide) (by decide) (by decide)
    have w2 := Fin.mulW fr.ft fq.fb (by decide) (by decide) (by decide)
    have w3 := Fin.mulW fq.fb fr.fb (by decide) (by decide) (by decide)
    refine ⟨_, rfl, l1, _, 0, _, rfl, rfl, SqT.of h1, at_of (j := 0) rfl rfl, _, rfl, l2, _, 1, _, rfl, rfl, SqT.of h2, at_of (j := 1) rfl rfl, _, _, rfl, rfl, w1, _, rfl, l2, _, 0, _, rfl, rfl, SqT.of h2, at_of (j := 0) rfl rfl, _, rfl, l1, _, 1, _, rfl, rfl, SqT.of h1, at_of (j := 1) rfl rfl, _, _, rfl, rfl, w2, _, _, rfl, rfl, _, rfl, l1, _, 1, _, rfl, rfl, SqT.of h1, at_of (j := 1) rfl rfl, _, rfl, l2, _, 1, _, rfl, rfl, SqT.of h2, at_of (j := 1) rfl rfl, _, _, rfl, rfl, w3, _, _, rfl, fun z => ?_, fin_up (Fin.mul fq.fb fr.fb) (by decide), fun l H' s k => hQ l H' s k⟩
    rcases Int.mul_eq_zero.mp z with e | e
    · exact fq.b0 e
    · exact fr.b0 e
theorem ok_FractionField_less (T : Txt K mg) : FnOk P w K mg base CX0 3 T.f_FractionField_less T.d_FractionField_less ["self", "one", "other"] (sp_fr2 T.C_FractionField lessF) := by
  refine T.F_FractionField_less.ok sc_FractionField_less (fun vs H Q E h => ?_) (fun cdv A outer s H vs Q E hr h => ?_)
  · obtain ⟨a, x, y, q, r, rfl, _⟩ := h
    rfl
  · obtain ⟨a, x, y, q, r, rfl, hf, kx, ky, fq, fr, hQ⟩ := h
    refine ⟨_, (pss_one (ps_ret (pe_call (ok_fraction T) (hr.mono (by decide)) (by rfl) T.g_fraction T.F_fraction.kp T.b_fraction .nil pass0 (pa_cons (pe_op op_sub (pe_op op_mulW (pe_ix ix_tup (pv 1) pe_int (fun _ _ => rfl)) (pe_ix ix_tup (pv 2) pe_int (fun _ _ => rfl))) (pe_op op_mulW (pe_ix ix_tup (pv 2) pe_int (fun _ _ => rfl)) (pe_ix ix_tup (pv 1) pe_int (fun _ _ => rfl)))) (pa_cons (pe_op op_mulW (pe_ix ix_tup (pv 1) pe_int (fun _ _ => rfl)) (pe_ix ix_tup (pv 2) pe_int (fun _ _ => rfl))) pa_nil))))), ?_⟩
    obtain ⟨l1, rfl, h1⟩ := fr_at kx
    obtain ⟨l2, rfl, h2⟩ := fr_at ky
    have w1 := Fin.mulW fq.ft fr.fb (by decide) (by decide) (by decide)
    have w2 := Fin.mulW fr.ft fq.fb (by decide) (by decide) (by decide)
    have w3 := Fin.mulW fq.fb fr.fb (by decide) (by decide) (by decide)
    refine ⟨_, rfl, l1, _, 0, _, rfl, rfl, SqT.of h1, at_of (j := 0) rfl rfl, _, rfl, l2, _, 1, _, rfl, rfl, SqT.of h2, at_of (j := 1) rfl rfl, _, _, rfl, rfl, w1, _, rfl, l2, _, 0, _, rfl, rfl, SqT.of h2, at_of (j := 0) rfl rfl, _, rfl, l1, _, 1, _, rfl, rfl, SqT.of h1, at_of (j := 1) rfl rfl, _, _, rfl, rfl, w2, _, _, rfl, rfl, _, rfl, l1, _, 1, _, rfl, rfl, SqT.of h1, at_of (j := 1) rfl rfl, _, rfl, l2, _, 1, _, rfl, rfl, SqT.of h2, at_of (j := 1) rfl rfl, _, _, rfl, rfl, w3, _, _, rfl, fun z => ?_, fin_up (Fin.mul fq.fb fr.fb) (by decide), fun l H' s k => hQ l H' s k⟩
    rcases Int.mul_eq_zero.mp z with e | e
    · exact fq.b0 e
    · exact fr.b0 e
end
end K25
set_option Elab.async false
set_option linter.all false
set_option maxRecDepth 100000
set_option maxHeartbeats 4000000
set_option exponentiation.threshold 5000
namespace K25
open PySem PySem.Spec PyProof.Rows L2 TkS
def sp_rest_eq (C CF : Addr) : Sp := fun vs H Q _ => ∃ (a b : Addr) (p : Nat), vs = [.ref a, .ref b] ∧ RF C H a p ∧ ((∃ p', RF C H b p' ∧ Q (.bl (decide (p = p'))) H) ∨ (FF CF H b ∧ Q (.bl false) H))
def sp_fr_eq (C CR : Addr) : Sp := fun vs H Q _ => ∃ (a b : Addr), vs = [.ref a, .ref b] ∧ FF C H a ∧ ((FF C H b ∧ Q (.bl true) H) ∨ (∃ p, RF CR H b p ∧ Q (.bl false) H))
section
variable {P : Program} {w : World} {K : PySem.W.Frag} {mg : Str → Option Value} {base : Heap}
theorem ok_RestField_eq (T : Txt K mg) : FnOk P w K mg base CX0 1 T.f_RestField_eq T.d_RestField_eq ["self", "other"] (sp_rest_eq T.C_RestField T.C_FractionField) := by
  refine T.F_RestField_eq.ok sc_RestField_eq (fun vs H Q E h => ?_) (fun cdv A outer s H vs Q E hr h => ?_)
  · obtain ⟨a, b, p, rfl, _⟩ := h
    rfl
  · obtain ⟨a, b, p, rfl, hf, hq⟩ := h
    refine ⟨_, (pss_one (ps_ret (pe_and (pe_callB call_isi (by rfl) T.m_isinstance (by decide +kernel) (pa_cons (pv 1) (pa_cons (pe_glob (v := .ref T.C_RestField) rfl T.g_RestField rfl) pa_nil))) (pe_one (pe_cmpR op_eq (pe_fld (pv 0) rfl) (pe_fld (pv 1) rfl) (nomark _)))))), ?_⟩
    obtain ⟨dx, ha⟩ := hf.at_
    rcases hq with ⟨p', hb, q⟩ | ⟨hb, q⟩
    · obtain ⟨dy, eb⟩ := hb.at_
      refine ⟨_, rfl, .ref b, .ref T.C_RestField, .ref T.C_RestField, .ref T.C_RestField, true, rfl, .own _, .base (.ins eb T.cl_RestField T.RestField_k_class T.RestField_k_get T.RestField_k_takes T.RestField_k_mro), T.RestField_k_isp, true, rfl, iteT ?_⟩
      refine ⟨_, rfl, a, T.C_RestField, dx, _, _, rfl, ha, T.cl_RestField, T.na_RestField_prime, rfl, _, rfl, b, T.C_RestField, dy, _, _, rfl, eb, T.cl_RestField, T.na_RestField_prime, rfl, rfl, ?_⟩
      rw [int_dec]
      have e : decide ((p : Int) = (p' : Int)) = decide (p = p') := decide_eq_decide.mpr ⟨fun z => by omega, fun z => by omega⟩
      rw [e]
      exact q
    · obtain ⟨dy, z, o, m, eb, _⟩ := hb.at_
      exact ⟨_, rfl, .ref b, .ref T.C_RestField, .ref T.C_FractionField, .ref T.C_RestField, false, rfl, .own _, .base (.ins eb T.cl_FractionField T.FractionField_k_class T.FractionField_k_get T.FractionField_k_takes T.FractionField_k_mro), T.kit_FractionField_RestField, false, rfl, iteF q⟩
theorem ok_FractionField_eq (T : Txt K mg) : FnOk P w K mg base CX0 1 T.f_FractionField_eq T.d_FractionField_eq ["self", "other"] (sp_fr_eq T.C_FractionField T.C_RestField) := by
  refine T.F_FractionField_eq.ok sc_FractionField_eq (fun vs H Q E h => ?_) (fun cdv A outer s H vs Q E hr h => ?_)
  · obtain ⟨a, b, rfl, _⟩ := h
    rfl
  · obtain ⟨a, b, rfl, hf, hq⟩ := h
    refine ⟨_, (pss_one (ps_ret (pe_callB call_isi (by rfl) T.m_isinstance (by decide +kernel) (pa_cons (pv 1) (pa_cons (pe_glob (v := .ref T.C_FractionField) rfl T.g_FractionField rfl) pa_nil))))), ?_⟩
    rcases hq with ⟨hb, q⟩ | ⟨p, hb, q⟩
    · obtain ⟨dy, z, o, m, eb, _⟩ := hb.at_
      exact ⟨_, rfl, .ref b, .ref T.C_FractionField, .ref T.C_FractionField, .ref T.C_FractionField, true, rfl, .own _, .base (.ins eb T.cl_FractionField T.FractionField_k_class T.FractionField_k_get T.FractionField_k_takes T.FractionField_k_mro), T.FractionField_k_isp, q⟩
    · obtain ⟨dy, eb⟩ := hb.at_
      exact ⟨_, rfl, .ref b, .ref T.C_FractionField, .ref T.C_RestField, .ref T.C_FractionField, false, rfl, .own _, .base (.ins eb T.cl_RestField T.RestField_k_class T.RestField_k_get T.RestField_k_takes T.RestField_k_mro), T.kit_RestField_FractionField, q⟩
end
end K25
set_option Elab.async false
set_option linter.all false
set_option maxRecDepth 100000
set_option maxHeartbeats 4000000
/-! a walk by enumerate in which tables of code objects may grow -/
namespace TkS
open PySem PySem.Spec PyProof.Rows L2 LamX
theorem seqL_ext {K : PySem.W.Frag} {H H' : Hp} {a : Addr} {xs : List V} (e : ExtN H H') (h : SqL K H a xs) : SqL K H' a xs := by
  rcases h with (h | ⟨o, h⟩) | h
  · exact .inl (.inl (e _ _ h fun _ z => nomatch z))
  · exact .inl (.inr ⟨o, e _ _ h fun _ z => nomatch z⟩)
  · exact .inr h
theorem seqT_ext {K : PySem.W.Frag} {H H' : Hp} {a : Addr} {xs : List V} (e : ExtN H H') (h : SqT K H a xs) : SqT K H' a xs := by
  rcases h with (h | ⟨o, h⟩) | h
  · exact .inl (.inl (e _ _ h fun _ z => nomatch z))
  · exact .inl (.inr ⟨o, e _ _ h fun _ z => nomatch z⟩)
  · exact .inr h
theorem Sq.ext {K : PySem.W.Frag} {H H' : Hp} {a : Addr} {xs : List V} (h : Sq K H a xs) (e : ExtN H H') : Sq K H' a xs := h.elim (fun h => .inl (seqL_ext e h)) fun h => .inr (seqT_ext e h)
theorem for_enumX {K : PySem.W.Frag} {a : Addr} {xs : List V} {ta : TA} {g : TG} {tb : TS} {D : Ends} {σ : L2.St} {H : Hp} (Pv : Nat → L2.St → Hp → Prop) (ht : ∀ Q : List V → Hp → Prop, Q [.ref a] H → ta σ H Q) (hq : Sq K H a xs) (h0 : Pv 0 σ H)
    (hl : ∀ i σ H', Pv i σ H' → ExtN H H')
    (hs : ∀ i x T σ H', xs[i]? = some x → Pv i σ H' → H' T = none → g (.ref T) σ (upd H' T (.tup [.int (i : Nat), x])) fun σ2 H2 => tb { D with nx := Pv (i + 1), ct := Pv (i + 1), bk := D.nx } σ2 H2) (hd : ∀ σ H', Pv xs.length σ H' → D.nx σ H') :
    tFor (iEnumS K ta) g tb D σ H := by
  have walk : ∀ {J : It} {ok : Hp → Prop}, (∀ i H', ok H' → (∀ x, xs[i]? = some x → J.go i H') ∧ (xs.length ≤ i → J.stop i H') ∧ ∀ v H'', J.yld i H' v H'' → ∃ T x, v = .ref T ∧ H' T = none ∧ H'' = upd H' T (.tup [.int (i : Nat), x]) ∧ xs[i]? = some x) → (∀ H', ExtN H H' → ok H') →
      ∃ W : Nat → Nat → L2.St → Hp → Prop, (∃ m, W 0 m σ H) ∧ ∀ i m σ H, W i m σ H →
        (J.stop i H ∧ D.nx σ H) ∨ (J.go i H ∧ ∃ N : L2.St → Hp → Prop, (∀ σ' H', N σ' H' → ∃ m', m' < m ∧ W (i + 1) m' σ' H') ∧ ∀ v H', J.yld i H v H' → g v σ H' fun σ2 H2 => tb { D with nx := N, ct := N, bk := D.nx } σ2 H2) := fun {J ok} hJ hok => by
    refine ⟨fun i m σ H' => m = xs.length - i ∧ i ≤ xs.length ∧ Pv i σ H', ⟨xs.length, rfl, Nat.zero_le _, h0⟩, ?_⟩
    rintro i m σ' H' ⟨rfl, hi, p⟩
    obtain ⟨j1, j2, j3⟩ := hJ i H' (hok H' (hl i σ' H' p))
    rcases Nat.lt_or_ge i xs.length with hlt | hge
    · refine .inr ⟨j1 _ (List.getElem?_eq_getElem hlt), Pv (i + 1), fun σ2 H2 p2 => ⟨xs.length - (i + 1), by omega, rfl, hlt, p2⟩, fun v H2 y => ?_⟩
      obtain ⟨T, x, rfl, hT, rfl, hx⟩ := j3 v H2 y
      exact hs i x T σ' H' hx p hT
    · have e : i = xs.length := by omega
      subst e
      exact .inl ⟨j2 (Nat.le_refl _), hd σ' H' p⟩
  rcases hq with hq | hq
  · exact .inl (ht _ ⟨a, xs, rfl, hq, walk (J := Ite K a) (ok := fun H' => SqL K H' a xs) (fun i H' z => ⟨fun x hx => ⟨xs, x, z, hx⟩, fun hi => ⟨xs, z, hi⟩, fun v H2 ⟨T, x, e1, e2, e3, e4⟩ => ⟨T, x, e1, e2, e3, e4 xs z⟩⟩) fun H' s => seqL_ext s hq⟩)
  · exact .inr (ht _ ⟨a, xs, rfl, hq, walk (J := IteT K a) (ok := fun H' => SqT K H' a xs) (fun i H' z => ⟨fun x hx => ⟨xs, x, z, hx⟩, fun hi => ⟨xs, z, hi⟩, fun v H2 ⟨T, x, e1, e2, e3, e4⟩ => ⟨T, x, e1, e2, e3, e4 xs z⟩⟩) fun H' s => seqT_ext s hq⟩)
end TkS
set_option Elab.async false
set_option linter.all false
set_option maxRecDepth 100000
set_option maxHeartbeats 4000000
set_option exponentiation.threshold 5000
set_option pp.maxSteps 900
namespace TkS
open PySem PySem.Spec PyProof.Rows L2 LamX NdefX
theorem FunC.okX {P : Program} {w : World} {K : PySem.W.Frag} {mg : Str → Option Value} {base : Heap} {x qual : Str} {st : Stmt} {f : Addr} {fd : FuncData} {c : Addr} {N ps : List Str} {k : Nat} {sp : Sp} (F : FunC K x qual st f fd c) (S : FnScope N ps (defScope st)) (len : ∀ vs H Q E, sp vs H Q E → vs.length = ps.length)
    (hbody : ∀ (A : Around) (outer : List Env) (s : Shared) (H : Hp) (vs : List V) (Q : VK) (E : XK), Room k (A.deeper (envOfC qual (defScope st) s.heap.objs.size f (.ref c))) → sp vs H Q E →
      ∃ t, PSs (cxOf (L2.CX P w) P w K mg base N qual (defScope st) f (.ref c) A outer s H E) (defBody st) t ∧ t { nx := fun _ H' => Q .non H', rt := Q } (start N vs) H) : FnOk P w K mg base (L2.CX P w) (k + 1) f fd ps sp := by
  obtain ⟨oc, od, kV, doc, pm, an, ct, osl, rfl, lk, hcd⟩ := F.ex
  exact fn_of lk hcd S len fun A outer s H vs Q E hr hsp => hbody A outer s H vs Q E hr hsp
end TkS
namespace K25
open PySem PySem.Spec PyProof.Rows L2 TkS LamX NdefX
theorem cb_lc {r : List V → Hp → VK → Prop} {wi : TI} {g : TG} {tt : TT} {te : TE} {vs : List Nat} {σ : L2.St} {H : Hp} {Q : VK} (h : tLc wi g tt te vs σ H fun v H1 => r [v] H1 Q) : tCB r (tCons (tLc wi g tt te vs) tNil) σ H Q := h
/-- the lambdas' tables -/
abbrev lamT (Pw : Addr × Addr) : List (Addr × Str) := [(Pw.1, "is_number_row.<locals>.<lambda>"), (Pw.2, "_check_rows.<locals>.<lambda>")]
structure Lm {K : PySem.W.Frag} {mg : Str → Option Value} (T : Txt K mg) (base : Heap) (cw Pw : Addr × Addr) : Prop where
  fn : FunC K "is_number_row" "is_number_row" s_is_number_row T.f_is_number_row T.d_is_number_row cw.1
  fr : FunC K "_check_rows" "_check_rows" s_check_rows T.f_check_rows T.d_check_rows cw.2
  tb : TabB base mg cw.1 Pw.1
  tr : TabB base mg cw.2 Pw.2
  ne : Pw.1 ≠ Pw.2
theorem lam_u1 {Pw : Addr × Addr} (ne : Pw.1 ≠ Pw.2) {p : Addr × Str} (hp : p ∈ lamT Pw) (e : p.1 = Pw.1) : p.2 = ("is_number_row.<locals>.<lambda>" : Str) := by
  rcases List.mem_cons.mp hp with rfl | h
  · rfl
  · rw [List.mem_singleton.mp h] at e
    exact absurd e.symm ne
theorem lam_u2 {Pw : Addr × Addr} (ne : Pw.1 ≠ Pw.2) {p : Addr × Str} (hp : p ∈ lamT Pw) (e : p.1 = Pw.2) : p.2 = ("_check_rows.<locals>.<lambda>" : Str) := by
  rcases List.mem_cons.mp hp with rfl | h
  · exact absurd e ne
  · rw [List.mem_singleton.mp h]
def wrongN (g : PyData → Bool) (d : PyData) : Option Int := match itemsD d with
    | some ds => firstBad g ds 0
    | none => some (-1)
def TTx (Tt : List (Addr × Str)) (tl : V → Hp → VK → Prop) (_ : Addr) (v1 v2 : V) (H : Hp) (Q : VK) : Prop := ∃ (d : PyData) (g : PyData → Bool), Dq H v1 d ∧ v2 = .non ∧ Tabs Tt H ∧
  (∀ (y : V) (d' : PyData) (ds : List PyData) (H1 : Hp) (R : VK), ExtN H H1 → Tabs Tt H1 → itemsD d = some ds → d' ∈ ds → Dq H1 y d' → (∀ H2, ExtN H1 H2 → Tabs Tt H2 → R (.bl (g d')) H2) → tl y H1 R) ∧ ∀ H', ExtN H H' → Tabs Tt H' → Q (optV (wrongN g d)) H'
theorem gives_wrongX {X : Cx} {K : PySem.W.Frag} {mg : Str → Option Value} (T : Txt K mg) (Tt : List (Addr × Str)) (hK : X.K = K) (hM : X.mg = mg) {k : Nat} {cdg : Value} {q : Str} (hk : 1 ≤ k) : Gives3 X k ["thing", "length", "is_good", "index", "item"] "wrong_index" (defScope s_wrong_index) T.f_wrong_index cdg (defBody s_wrong_index) "is_good" q (TTx Tt) := by
  subst hK hM
  intro f c' s H Q v1 v2 tl hr hcall hco h
  obtain ⟨d, g, kd, rfl, ht, htl, hq⟩ := h
  refine ⟨_, (pss_cons (ps_if (pt_not (pt_val (pe_call (ok_is_sequence T) (hr.mono hk) (by rfl) T.g_is_sequence T.F_is_sequence.kp T.b_is_sequence .nil pass0 (pa_cons (pv 0) (pa_cons (pv 1) pa_nil)))))
        (pss_one (ps_ret (pe_un un_neg pe_int)))
        pss_nil)
      (pss_cons (ps_for PassesOwn.never rfl (pi_enumS (by rfl) T.m_enumerate (pa_cons (pv 0) pa_nil)) (pg_tup rfl (pgs_cons (pg_name (i := 3) sc_wrong_index.nd rfl (.inl rfl)) (pgs_cons (pg_name (i := 4) sc_wrong_index.nd rfl (.inl rfl)) pgs_nil)))
        (pss_one (ps_if (pt_not (pt_val (hcall _ _ _ _ (pv 4) rfl)))
          (pss_one (ps_ret (pv 3)))
          pss_nil)))
      (pss_one (ps_ret pe_non)))), ?_⟩
  refine ⟨_, rfl, _, rfl, v1, .non, d, rfl, kd, .inl rfl, fun H1 s1 => ⟨_, rfl, ?_⟩⟩
  unfold wrongN at hq
  cases e : itemsD d with
  | none =>
    have c : seqIs d .non = false := by unfold seqIs; rw [e]
    rw [c]
    rw [e] at hq
    exact iteT ⟨1, rfl, hq _ (ExtN.of s1) (ht.ext s1)⟩
  | some ds =>
    have c : seqIs d .non = true := by unfold seqIs; rw [e]
    rw [c]
    rw [e] at hq
    refine iteF ?_
    · skip
      obtain ⟨p, xs, rfl, hxs, hsq⟩ := sq_of (K := X.K) (kd.same s1) e
      have lx := hxs.len
      refine for_enumX (a := p) (xs := xs) (fun i σ H' => ∃ y3 y4, σ = [some (.ref p), some .non, some (.ref f), y3, y4] ∧ ExtN H1 H' ∧ Tabs Tt H' ∧ ∀ d' ∈ ds.take i, g d' = true)
        (fun Q h => ⟨_, rfl, h⟩) hsq ⟨_, _, rfl, ExtN.refl _, ht.ext s1, fun d' m => by simp at m⟩ (fun i σ H' hP => by obtain ⟨_, _, _, sm, _, _⟩ := hP; exact sm) (fun i x Z σ H' hx hP nZ => ?_) (fun σ H' hP => ?_)
      · obtain ⟨y3, y4, rfl, s2, t2, hall⟩ := hP
        obtain ⟨d', hd', kd'⟩ := hxs.get hx
        have s3 : ExtN H1 (upd H' Z (.tup [.int (i : Nat), x])) := s2.trans (ExtN.of (same_new nZ))
        have t3 : Tabs Tt (upd H' Z (.tup [.int (i : Nat), x])) := t2.ext (same_new nZ)
        refine ⟨Z, _, rfl, SqT.of upd_same, rfl, _, _, rfl, _, _, rfl, rfl, ?_⟩
        refine ⟨rfl, _, rfl, rfl, ((ExtN.of s1).trans s3) _ _ hco (fun _ z => nomatch z), htl x d' ds _ _ ((ExtN.of s1).trans s3) t3 e (List.mem_of_getElem? hd') (dq_ext s3 _ kd') fun H2 s4 t4 => ⟨_, rfl, ?_⟩⟩
        cases hb : g d' with
        | false =>
          refine iteT ⟨_, rfl, ?_⟩
          have := bad_at ds i 0 d' hd' hall hb
          rw [Nat.zero_add] at this
          show Q (optV (some (i : Int))) H2
          rw [← this]
          exact hq _ (((ExtN.of s1).trans s3).trans s4) t4
        | true =>
          refine iteF ⟨_, _, rfl, s3.trans s4, t4, fun d2 m2 => ?_⟩
          rw [List.take_add_one, hd'] at m2
          rcases List.mem_append.mp m2 with m2 | m2
          · exact hall d2 m2
          · rw [List.mem_singleton.mp (show d2 ∈ [d'] from m2)]
            exact hb
      · obtain ⟨y3, y4, rfl, s2, t2, hall⟩ := hP
        rw [lx, List.take_length] at hall
        have := bad_all (g := g) ds 0 (List.all_eq_true.mpr hall)
        show Q (optV none) H'
        rw [← this]
        exact hq _ ((ExtN.of s1).trans s2) t2
/-! rows of numbers -/
def hasB (d : PyData) (lo hi : Int) : Bool := match itemsD d with
  | some ds => decide (lo ≤ (ds.length : Int)) && decide ((ds.length : Int) ≤ hi)
  | none => false
def numRow (p : Nat) (d : PyData) (n : Int) : Bool := (wrongI (numOk p) d n).isNone
def anyNzD (p : Nat) (d : PyData) : Bool := match itemsD d with
  | some ds => ds.any fun x => !PyData.eqv x (zeroD p)
  | none => false
def isRow (p : Nat) (n : Int) (d : PyData) : Bool := numRow p d n && anyNzD p d
def sp_has_between : Sp := fun vs H Q _ => ∃ (x : V) (d : PyData) (lo hi : Int), vs = [x, .int lo, .int hi] ∧ Dq H x d ∧ ∀ H', Same H H' → Q (.bl (hasB d lo hi)) H'
def sp_is_number_row (CR CF : Addr) (Pw : Addr × Addr) : Sp := fun vs H Q _ => ∃ (f : Addr) (p : Nat) (x : V) (d : PyData) (n : Int), vs = [.ref f, x, .int n] ∧ Fld CR CF H f p ∧ Dq H x d ∧ Tabs (lamT Pw) H ∧ ∀ H', ExtN H H' → Tabs (lamT Pw) H' → Q (.bl (numRow p d n)) H'
def sp_is_row (CR CF : Addr) (Pw : Addr × Addr) : Sp := fun vs H Q _ => ∃ (f : Addr) (p : Nat) (x : V) (d : PyData) (n : Int), vs = [.ref f, x, .int n] ∧ Fld CR CF H f p ∧ Dq H x d ∧ n ≤ 900 ∧ Tabs (lamT Pw) H ∧ ∀ H', ExtN H H' → Tabs (lamT Pw) H' → Q (.bl (isRow p n d)) H'
def sp_check_rows (CR CF CB : Addr) (Pw : Addr × Addr) : Sp := fun vs H Q E => ∃ (f : Addr) (p : Nat) (wh : Str) (x : V) (d : PyData) (n : Int), vs = [.ref f, .str wh, x, .int n] ∧ Fld CR CF H f p ∧ Dq H x d ∧ n ≤ 900 ∧ Tabs (lamT Pw) H ∧
  (∀ i, wrongN (isRow p n) d = some i → ∀ H', ExtN H H' → Tabs (lamT Pw) H' → Raised2 CB "what" (.str wh) "index" (.int i) H' E) ∧
  (wrongN (isRow p n) d = none → ∀ H', ExtN H H' → Tabs (lamT Pw) H' → Q .non H')
section
variable {P : Program} {w : World} {K : PySem.W.Frag} {mg : Str → Option Value} {base : Heap} {cw Pw : Addr × Addr}
theorem ok_has_between (T : Txt K mg) : FnOk P w K mg base CX0 3 T.f_has_between T.d_has_between ["thing", "low", "high"] sp_has_between := by
  refine T.F_has_between.ok sc_has_between (fun vs H Q E h => ?_) (fun cdv A outer s H vs Q E hr h => ?_)
  · obtain ⟨x, d, lo, hi, rfl, _⟩ := h
    rfl
  · obtain ⟨x, d, lo, hi, rfl, kx, q⟩ := h
    refine ⟨_, (pss_one (ps_ret (pe_and (pe_call (ok_is_sequence T) (hr.mono (by decide)) (by rfl) T.g_is_sequence T.F_is_sequence.kp T.b1_is_sequence (show L2.Vals [.non] [.none] from .cons rfl .nil) pass0 (pa_cons (pv 0) pa_nil)) (pe_and (pe_cmpR op_le (pv 1) (pe_callB call_len_seq (by rfl) T.m_len (by decide +kernel) (pa_cons (pv 0) pa_nil)) (nomark _)) (pe_one (pe_cmpR op_le (pe_callB call_len_seq (by rfl) T.m_len (by decide +kernel) (pa_cons (pv 0) pa_nil)) (pv 2) (nomark _))))))), ?_⟩
    refine ⟨_, rfl, x, .non, d, rfl, kx, .inl rfl, fun H1 s1 => ⟨_, rfl, ?_⟩⟩
    unfold hasB at q
    cases e : itemsD d with
    | none =>
      have z : seqIs d .non = false := by unfold seqIs; rw [e]
      rw [z]
      rw [e] at q
      exact iteF (q _ s1)
    | some ds =>
      have z : seqIs d .non = true := by unfold seqIs; rw [e]
      rw [z]
      rw [e] at q
      dsimp only at q
      obtain ⟨a, xs, rfl, hxs, hsq⟩ := sq_of (K := K) (kx.same s1) e
      have lx := hxs.len
      refine iteT ⟨_, rfl, _, rfl, a, xs, rfl, hsq, _, _, rfl, rfl, _, rfl, ?_⟩
      rw [lx]
      by_cases c : lo ≤ (ds.length : Int)
      · rw [decide_eq_true c] at q ⊢
        refine iteT ⟨_, rfl, a, xs, rfl, hsq, _, rfl, _, _, rfl, rfl, ?_⟩
        rw [lx]
        exact q _ s1
      · rw [decide_eq_false c] at q ⊢
        exact iteF (q _ s1)
theorem ok_is_number_row (T : Txt K mg) (L : Lm T base cw Pw) : FnOk P w K mg base CX0 9 T.f_is_number_row T.d_is_number_row ["field", "thing", "length"] (sp_is_number_row T.C_RestField T.C_FractionField Pw) := by
  refine L.fn.ok sc_is_number_row (fun vs H Q E h => ?_) (fun A outer s H vs Q E hr h => ?_)
  · obtain ⟨f, p, x, d, n, rfl, _⟩ := h
    rfl
  · obtain ⟨f, p, x, d, n, rfl, hf, kx, tb, q⟩ := h
    obtain ⟨oc, od, kV, doc, pm, an, cdv, ct, osl, ed, lk, hcd⟩ := T.F_wrong_index.ex
    have bi := T.b_wrong_index
    rw [ed] at lk bi
    refine ⟨_, pss_one (ps_ret (pe_cmpR op_isN (pe_lam3 (T := lamT Pw) (TT := TTw) (x := "wrong_index") (a := "is_good") (a1 := "thing") (a2 := "length") (pa := "item") (fr := ["field"]) (js := [0]) (N := ["item", "field"]) (k := 6) (c := cw.1) (P := Pw.1)
      (by rfl) T.g_wrong_index T.F_wrong_index.kp lk hcd bi sc_wrong_index rfl (.inl rfl) (gives_wrong T rfl rfl (k := 7) (by decide)) L.tb rfl (.head _) (fun p hp e => lam_u1 L.ne hp e) hr (nscope_by (by decide +kernel)) (ndef_free (sc := defScope s_is_number_row) (fr := ["field"]) (by decide +kernel)) (ndef_fr (sc := defScope s_is_number_row) (by decide +kernel)) rfl rfl (fun q cl pm cv ctv us hu => match us, hu with | [_], _ => rfl)
      (pv 1) (pv 2) (fun A outer s H f c' cl hr2 => pe_call (ok_is_number T) (hr2.mono (by decide)) (by rfl) T.g_is_number T.F_is_number.kp T.b_is_number .nil pass0 (pa_cons (pv 1) (pa_cons (pv 0) pa_nil)))) pe_non (nomark _))), ?_⟩
    refine ⟨_, rfl, _, rfl, tb, fun H3 c' eN T3 => ⟨d, n, numOk p, dq_ext eN _ kx, rfl, fun y d' ds H4 R s4 e m ky hR => ?_, fun H' s' => ?_⟩⟩
    · exact ⟨_, rfl, _, rfl, f, p, y, d', rfl, (hf.ext eN).same s4, ky, hR⟩
    · have := q _ (eN.trans (ExtN.of s')) (T3.ext s')
      unfold numRow at this
      cases c : wrongI (numOk p) d n with
      | none =>
        rw [c] at this
        exact ⟨rfl, this⟩
      | some i =>
        rw [c] at this
        exact ⟨rfl, this⟩
theorem numRow_of {p : Nat} {d : PyData} {n : Int} (h : numRow p d n = true) : ∃ ds, itemsD d = some ds ∧ ds.all (numOk p) = true ∧ (ds.length : Int) = n := by
  unfold numRow at h
  cases c : wrongI (numOk p) d n with
  | none => exact wrong_none c
  | some i =>
    rw [c] at h
    cases h
theorem ok_is_row (T : Txt K mg) (L : Lm T base cw Pw) : FnOk P w K mg base CX0 10 T.f_is_row T.d_is_row ["field", "thing", "width"] (sp_is_row T.C_RestField T.C_FractionField Pw) := by
  refine T.F_is_row.ok sc_is_row (fun vs H Q E h => ?_) (fun cdv A outer s H vs Q E hr h => ?_)
  · obtain ⟨f, p, x, d, n, rfl, _⟩ := h
    rfl
  · obtain ⟨f, p, x, d, n, rfl, hf, kx, n9, tb, q⟩ := h
    refine ⟨_, (pss_one (ps_ret (pe_and (pe_call (ok_is_number_row T L) (hr.mono (by decide)) (by rfl) T.g_is_number_row T.F_is_number_row.kp T.b_is_number_row .nil pass0 (pa_cons (pv 0) (pa_cons (pv 1) (pa_cons (pv 2) pa_nil)))) (pe_one (pe_callB (cr_any rfl) (by rfl) T.m_any (by decide +kernel) (pa_cons (pe_lc rfl sc_is_row.nd (pi_seq (pv 1)) (blkOk_by (own := [("number", 3)]) (N := ["field", "thing", "width", "number"]) (sc := defScope s_is_row) (by decide +kernel)) (fun _ _ _ _ _ => (pg_name (i := 3) sc_is_row.nd rfl (.inl rfl))) (fun _ _ _ _ _ => pts_nil) (fun _ _ _ _ _ => (pe_cmpR (show OpR _ (compareOp .NotEq) (rNeD K) from op_neD hr.units) (pv 3) (show PE _ _ (tFld K (tVar 0) "zero") from pe_fld (pv 0) rfl) (nomark _)))) pa_nil)))))), ?_⟩
    refine ⟨_, rfl, _, rfl, _, rfl, f, p, x, d, n, rfl, hf, kx, tb, fun H1 e1 t1 => ⟨_, rfl, ?_⟩⟩
    unfold isRow at q
    cases c : numRow p d n with
    | false =>
      rw [c, Bool.false_and] at q
      exact iteF (q _ e1 t1)
    | true =>
      rw [c, Bool.true_and] at q
      obtain ⟨ds, ei, al, ln⟩ := numRow_of c
      unfold anyNzD at q
      rw [ei] at q
      dsimp only at q
      obtain ⟨a, xs, rfl, hxs, hsq⟩ := sq_of (K := K) (dq_ext e1 _ kx) ei
      have lx := hxs.len
      refine iteT ?_
      obtain ⟨C1, dx1, fs1, v1, a1, a2, a3, a4, a5⟩ := fld_zero T (hf.ext e1)
      refine cb_lc ?_
      refine lc_seqV (a := a) (xs := xs) (fun _ => true) (fun i => V.bl (!PyData.eqv (ds.getD i .none) (zeroD p))) (fun Q h => ⟨_, rfl, h⟩) hsq (by omega) (fun i v H2 R N hv s yes no => ?_) (fun D H2 nD s2 hD => ?_)
      · obtain ⟨e, he, ke⟩ := hxs.get hv
        have eq : ds.getD i .none = e := by
          rw [List.getD_eq_getElem?_getD, he]
          rfl
        have ok := List.all_eq_true.mp al e (List.mem_of_getElem? he)
        have yes := yes rfl H2 fun _ _ z => z
        rw [eq] at yes
        exact ⟨rfl, _, rfl, _, rfl, f, C1, dx1, fs1, v1, rfl, s _ _ a1, a2, a3, a4, e, zeroD p, (ke.same s).dp, (a5.same s).dp, num_shp ok, zero_shp p, yes⟩
      · have eB : ((List.range xs.length).filter fun _ => true).map (fun i => V.bl (!PyData.eqv (ds.getD i .none) (zeroD p))) = (ds.map fun e => !PyData.eqv e (zeroD p)).map V.bl := by
          rw [List.filter_eq_self.mpr fun _ _ => rfl, lx, List.map_map]
          refine List.ext_getElem (by simp) fun i h1 h2 => ?_
          simp at h1
          simp [List.getD_eq_getElem?_getD, h1]
        rw [eB] at hD
        refine ⟨D, ds.map fun e => !PyData.eqv e (zeroD p), rfl, SqL.of hD, ?_⟩
        have := q H2 (e1.trans (ExtN.of s2)) (t1.ext s2)
        rw [List.any_map]
        exact this
theorem ok_check_rows (T : Txt K mg) (L : Lm T base cw Pw) : FnOk P w K mg base (L2.CX P w) 15 T.f_check_rows T.d_check_rows ["field", "what", "rows", "width"] (sp_check_rows T.C_RestField T.C_FractionField T.C_BadSpace Pw) := by
  refine L.fr.okX sc_check_rows (fun vs H Q E h => ?_) (fun A outer s H vs Q E hr h => ?_)
  · obtain ⟨f, p, wh, x, d, n, rfl, _⟩ := h
    rfl
  · obtain ⟨f, p, wh, x, d, n, rfl, hf, kx, n9, tb, hE, hQ⟩ := h
    obtain ⟨oc, od, kV, doc, pm, an, cdv, ct, osl, ed, lk, hcd⟩ := T.F_wrong_index.ex
    have bi := T.b_wrong_index
    rw [ed] at lk bi
    refine ⟨_, (pss_cons (ps_set (i := 4) sc_check_rows.nd rfl (.inl rfl) (pe_lam3 (T := lamT Pw) (TT := TTx (lamT Pw)) (x := "wrong_index") (a := "is_good") (a1 := "thing") (a2 := "length") (pa := "row") (fr := ["field", "width"]) (js := [0, 3]) (N := ["row", "field", "width"]) (k := 12) (c := cw.2) (P := Pw.2)
      (by rfl) T.g_wrong_index T.F_wrong_index.kp lk hcd bi sc_wrong_index rfl (.inl rfl) (gives_wrongX T (lamT Pw) rfl rfl (k := 13) (by decide)) L.tr rfl (.tail _ (.head _)) (fun p hp e => lam_u2 L.ne hp e) hr (nscope_by (by decide +kernel)) (ndef_free (sc := defScope s_check_rows) (fr := ["field", "width"]) (by decide +kernel)) (ndef_fr (sc := defScope s_check_rows) (by decide +kernel)) rfl rfl (fun q cl pm cv ctv us hu => match us, hu with | [_], _ => rfl)
      (pv 2) pe_non (fun A outer s H f c' cl hr2 => pe_call (ok_is_row T L) (hr2.mono (by decide)) (by rfl) T.g_is_row T.F_is_row.kp T.b_is_row .nil pass0 (pa_cons (pv 1) (pa_cons (pv 0) (pa_cons (pv 2) pa_nil))))))
      (pss_one (ps_if (pt_cmpR op_notN (pv 4) pe_non (nomark _))
        (pss_one (ps_raise (W := fun cls d _ H => E cls d H) rfl (takes_of rfl rfl rfl rfl) (pmk_oex T.o_BadSpace T.i_BadSpace T.t_BadSpace (ok_BadSpace_init T) (hr.mono (by decide)) T.b_BadSpace_init .nil pass0 (by rfl) T.g_BadSpace (pa_cons (pv 1) (pa_cons (pv 4) pa_nil)))))
        pss_nil))), ?_⟩
    refine ⟨_, rfl, tb, fun H3 c' eN T3 => ⟨d, isRow p n, dq_ext eN _ kx, rfl, T3, fun y d' ds H4 R s4 t4 e m ky hR => ?_, fun H' s' t' => ?_⟩⟩
    · exact ⟨_, rfl, _, rfl, _, rfl, f, p, y, d', n, rfl, (hf.ext eN).ext s4, ky, n9, t4, hR⟩
    · have e0 := eN.trans s'
      cases c : wrongN (isRow p n) d with
      | none => exact ⟨_, rfl, rfl, _, rfl, iteF (hQ c _ e0 t')⟩
      | some i =>
        refine ⟨_, rfl, rfl, _, rfl, iteT ?_⟩
        exact ⟨_, rfl, _, rfl, mk_exc2 fun b H2 s2 nb hb => hE i c _ e0 t' b H2 s2 nb hb⟩
end
end K25
set_option Elab.async false
set_option linter.all false
set_option maxRecDepth 100000
set_option maxHeartbeats 4000000
set_option exponentiation.threshold 5000
set_option pp.maxSteps 900
namespace K25
open PySem PySem.Spec PyProof.Rows L2 TkS LamX NdefX
def rowOf (d : PyData) : List PyData := (itemsD d).getD []
def tupsD (d : PyData) : PyData := .tuple ((rowOf d).map fun r => .tuple (rowOf r))
def headD (d : PyData) : PyData := (rowOf d).headD .none
def lenD (d : PyData) : Int := (rowOf d).length
/-- the refusal of a space, none if it is one -/
def spaceW (p : Nat) (dp dw : PyData) : Option (Str × Int) :=
  if hasB dp 1 5 = false then some ("points", 0) else if hasB dw 1 5 = false then some ("walls", 0) else
  if hasB (headD dp) 1 6 = false then some ("point", 0) else
  match wrongN (isRow p (lenD (headD dp))) dp with
  | some i => some ("point", i)
  | none => match wrongN (isRow p (lenD (headD dp))) dw with
    | some i => some ("wall", i)
    | none => none
theorem hasB_of {d : PyData} {lo hi : Int} (h : hasB d lo hi = true) : ∃ ds, itemsD d = some ds ∧ lo ≤ (ds.length : Int) ∧ (ds.length : Int) ≤ hi := by
  unfold hasB at h
  cases e : itemsD d with
  | none =>
    rw [e] at h
    cases h
  | some ds =>
    rw [e] at h
    obtain ⟨h1, h2⟩ := Bool.and_eq_true_iff.mp h
    exact ⟨ds, rfl, of_decide_eq_true h1, of_decide_eq_true h2⟩
theorem wrongN_none {g : PyData → Bool} {d : PyData} {ds : List PyData} (e : itemsD d = some ds) (h : wrongN g d = none) : ds.all g = true := by
  unfold wrongN at h
  rw [e] at h
  exact firstBad_none ds 0 h
theorem noL_num {p : Nat} {d : PyData} (h : numOk p d = true) : noList d = true := by
  rcases num_form h with ⟨_, q, rfl, _⟩ | ⟨_, x, rfl, _⟩
  · rfl
  · rfl
theorem noLs_all {ds : List PyData} (h : ∀ d ∈ ds, noList d = true) : noLists ds = true := by
  induction ds with
  | nil => rfl
  | cons d ds ih =>
    show (noList d && noLists ds) = true
    rw [h d List.mem_cons_self, ih fun e m => h e (List.mem_cons_of_mem _ m)]
    rfl
theorem isRow_of {p : Nat} {n : Int} {d : PyData} (h : isRow p n d = true) : ∃ es, itemsD d = some es ∧ es.all (numOk p) = true ∧ (es.length : Int) = n ∧ noLists es = true := by
  obtain ⟨es, e1, e2, e3⟩ := numRow_of (Bool.and_eq_true_iff.mp h).1
  exact ⟨es, e1, e2, e3, noLs_all fun d m => noL_num (List.all_eq_true.mp e2 d m)⟩
/-- a space, as it stands in the heap -/
structure SpO (C : Addr) (H : Hp) (a f : Addr) (R S : PyData) (n : Int) : Prop where
  at_ : ∃ dx vp vw, H a = some (.ins C dx [("field", .ref f), ("points", vp), ("walls", vw), ("width", .int n)]) ∧ Dq H vp R ∧ Dq H vw S
theorem SpO.same {C : Addr} {H H' : Hp} {a f : Addr} {R S : PyData} {n : Int} (h : SpO C H a f R S n) (s : Same H H') : SpO C H' a f R S n := by
  obtain ⟨dx, vp, vw, h1, h2, h3⟩ := h.at_
  exact ⟨dx, vp, vw, s _ _ h1, h2.same s, h3.same s⟩
theorem SpO.ext {C : Addr} {H H' : Hp} {a f : Addr} {R S : PyData} {n : Int} (h : SpO C H a f R S n) (s : ExtN H H') : SpO C H' a f R S n := by
  obtain ⟨dx, vp, vw, h1, h2, h3⟩ := h.at_
  exact ⟨dx, vp, vw, s _ _ h1 (fun _ z => nomatch z), dq_ext s _ h2, dq_ext s _ h3⟩
/-- all is kept but the object under way and tables of code objects -/
def KeepX (a : Addr) (H H' : Hp) : Prop := ∀ b o, H b = some o → b ≠ a → (∀ ps, o ≠ .tbl ps) → H' b = some o
def sp_width_of (CB : Addr) : Sp := fun vs H Q E => ∃ (x : V) (d : PyData), vs = [x] ∧ Dq H x d ∧ (hasB d 1 6 = false → ∀ H', Same H H' → Raised2 CB "what" (.str "point") "index" (.int 0) H' E) ∧ (hasB d 1 6 = true → ∀ H', Same H H' → Q (.int (lenD d)) H')
def sp_as_tuples : Sp := fun vs H Q _ => ∃ (x : V) (d : PyData) (ds : List PyData), vs = [x] ∧ Dq H x d ∧ itemsD d = some ds ∧ ds.length ≤ 900 ∧ (∀ r ∈ ds, ∃ es, itemsD r = some es ∧ noLists es = true) ∧ ∀ l H', Same H H' → Dq H' (.ref l) (tupsD d) → Q (.ref l) H'
def sp_Space_init (CR CF C CB : Addr) (Pw : Addr × Addr) : Sp := fun vs H Q E => ∃ (a dx f : Addr) (p : Nat) (x y : V) (dp dw : PyData), vs = [.ref a, .ref f, x, y] ∧ H a = some (.ins C dx []) ∧ Fld CR CF H f p ∧ Dq H x dp ∧ Dq H y dw ∧ Tabs (lamT Pw) H ∧
  (∀ e i, spaceW p dp dw = some (e, i) → ∀ H', ExtN H H' → Tabs (lamT Pw) H' → Raised2 CB "what" (.str e) "index" (.int i) H' E) ∧
  (spaceW p dp dw = none → ∀ H', KeepX a H H' → Tabs (lamT Pw) H' → SpO C H' a f (tupsD dp) (tupsD dw) (lenD (headD dp)) → Q .non H')
section
variable {P : Program} {w : World} {K : PySem.W.Frag} {mg : Str → Option Value} {base : Heap} {cw Pw : Addr × Addr}
theorem ok_width_of (T : Txt K mg) : FnOk P w K mg base (L2.CX P w) 4 T.f_width_of T.d_width_of ["row"] (sp_width_of T.C_BadSpace) := by
  refine T.F_width_of.okX sc_width_of (fun vs H Q E h => ?_) (fun cdv A outer s H vs Q E hr h => ?_)
  · obtain ⟨x, d, rfl, _⟩ := h
    rfl
  · obtain ⟨x, d, rfl, kx, hE, hQ⟩ := h
    refine ⟨_, (pss_cons (ps_if (pt_not (pt_val (pe_call (ok_has_between T) (hr.mono (by decide)) (by rfl) T.g_has_between T.F_has_between.kp T.b_has_between .nil pass0 (pa_cons (pv 0) (pa_cons pe_int (pa_cons (pe_glob (v := .int 6) rfl T.c_MOST_WIDTH ⟨_, rfl⟩) pa_nil))))))
        (pss_one (ps_raise (W := fun cls d _ H => E cls d H) rfl (takes_of rfl rfl rfl rfl) (pmk_oex T.o_BadSpace T.i_BadSpace T.t_BadSpace (ok_BadSpace_init T) (hr.mono (by decide)) T.b_BadSpace_init .nil pass0 (by rfl) T.g_BadSpace (pa_cons pe_str (pa_cons pe_int pa_nil)))))
        pss_nil)
      (pss_one (ps_ret (pe_callB call_len_seq (by rfl) T.m_len (by decide +kernel) (pa_cons (pv 0) pa_nil))))), ?_⟩
    refine ⟨_, rfl, x, d, 1, 6, rfl, kx, fun H1 s1 => ⟨_, rfl, ?_⟩⟩
    cases c : hasB d 1 6 with
    | false => exact iteT (mk_exc2 fun b H2 s2 nb hb => hE c _ s1 b H2 s2 nb hb)
    | true =>
      obtain ⟨ds, e, l1, l2⟩ := hasB_of c
      obtain ⟨a, xs, rfl, hxs, hsq⟩ := sq_of (K := K) (kx.same s1) e
      have lx := hxs.len
      have := hQ c _ s1
      unfold lenD rowOf at this
      rw [e] at this
      refine iteF ⟨_, rfl, a, xs, rfl, hsq, ?_⟩
      rw [lx]
      exact this
theorem ok_as_tuples (T : Txt K mg) : FnOk P w K mg base CX0 2 T.f_as_tuples T.d_as_tuples ["rows"] sp_as_tuples := by
  refine T.F_as_tuples.ok sc_as_tuples (fun vs H Q E h => ?_) (fun cdv A outer s H vs Q E hr h => ?_)
  · obtain ⟨x, d, ds, rfl, _⟩ := h
    rfl
  · obtain ⟨x, d, ds, rfl, kx, e, l9, hn, q⟩ := h
    refine ⟨_, (pss_one (ps_ret (pe_callTy call_tupD (by rfl) T.m_tuple (by decide +kernel) (pa_cons (pe_lc rfl sc_as_tuples.nd (pi_seq (pv 0)) (blkOk_by (own := [("row", 1)]) (N := ["rows", "row"]) (sc := defScope s_as_tuples) (by decide +kernel)) (fun _ _ _ _ _ => (pg_name (i := 1) sc_as_tuples.nd rfl (.inl rfl))) (fun _ _ _ _ _ => pts_nil) (fun _ _ _ _ _ => (pe_callTy call_tupD (by rfl) T.m_tuple (by decide +kernel) (pa_cons (pv 1) pa_nil)))) pa_nil)))), ?_⟩
    obtain ⟨a, xs, rfl, hxs, hsq⟩ := sq_of (K := K) kx e
    refine ret_cb_lc ?_
    refine lc_seqD (f := fun _ => true) (e := fun r => .tuple (rowOf r)) (fun Q h => ⟨_, rfl, h⟩) hsq hxs l9 (fun x => rfl) (fun i x d H' Q _ _ _ h => h _ fun _ _ z => z) (fun D i x d H' Q nD hd _ s k acc h => ?_) (fun D H1 nD s1 kd => ?_)
    · obtain ⟨es, e1, e2⟩ := hn d (List.mem_of_getElem? hd)
      obtain ⟨ac, hac⟩ := acc
      refine ⟨_, rfl, x, d, es, rfl, k, e1, fun l H2 s2 k2 => h _ _ s2 ?_⟩
      unfold rowOf
      rw [e1]
      exact dq_noL (s2 _ _ hac) _ e2 k2
    · rw [List.filter_eq_self.mpr fun _ _ => rfl] at kd
      refine ⟨.ref D, _, _, rfl, kd, rfl, fun l H2 s2 k2 => q l H2 (s1.trans s2) ?_⟩
      unfold tupsD
      show Dq H2 (.ref l) (.tuple (List.map _ ((itemsD d).getD [])))
      rw [e]
      exact k2
theorem fld_ne {CR CF C : Addr} {H : Hp} {f a dx : Addr} {p : Nat} (h : Fld CR CF H f p) (ha : H a = some (.ins C dx [])) : f ≠ a := fun z => by
  subst z
  by_cases c : p = 0
  · obtain ⟨dy, _, _, _, e, _⟩ := (h.fr c).at_
    rw [ha] at e
    cases e
  · obtain ⟨dy, e⟩ := (h.rs c).at_
    rw [ha] at e
    cases e
theorem KeepX.put {a : Addr} {H H1 : Hp} {o : HO} (k : KeepX a H H1) : KeepX a H (upd H1 a o) := fun b x e n t => by
  rw [upd_ne n]
  exact k b x e n t
theorem KeepX.same {a : Addr} {H H1 H2 : Hp} (k : KeepX a H H1) (s : Same H1 H2) : KeepX a H H2 := fun b o e n t => s _ _ (k b o e n t)
theorem KeepX.of {a : Addr} {H H1 : Hp} (k : ExtN H H1) : KeepX a H H1 := fun b o e n t => k b o e t
theorem tabs_put {Tt : List (Addr × Str)} {H : Hp} {a C dx : Addr} {fs : List (Str × V)} {o : HO} (ha : H a = some (.ins C dx fs)) (t : Tabs Tt H) : Tabs Tt (upd H a o) := fun p m => by
  obtain ⟨ps, h1, h2, h3⟩ := t p m
  refine ⟨ps, by rw [upd_ne (fun z => by rw [z, ha] at h1; cases h1)]; exact h1, h2, fun pos cv hc => ?_⟩
  obtain ⟨c, e1, e2⟩ := h3 pos cv hc
  exact ⟨c, e1, by rw [upd_ne (fun z => by rw [z, ha] at e2; cases e2)]; exact e2⟩
theorem rix_sq {K : PySem.W.Frag} {H : Hp} {a : Addr} {xs : List V} {i : Int} {v : V} {Q : VK} (h : Sq K H a xs) (e : atI xs i = some v) (q : Q v H) : rIx K (.ref a) (.int i) H Q :=
  h.elim (fun h => .inl ⟨a, xs, i, v, rfl, rfl, h, e, q⟩) fun h => .inr (.inl ⟨a, xs, i, v, rfl, rfl, h, e, q⟩)
theorem mk_space {CR CF C CB : Addr} {Pw : Addr × Addr} {H1 : Hp} {R : Addr → Hp → Prop} {E : XK} {f : Addr} {p : Nat} {x y : V} {dp dw : PyData} (hf : Fld CR CF H1 f p) (kx : Dq H1 x dp) (ky : Dq H1 y dw) (tb : Tabs (lamT Pw) H1)
    (hE : ∀ e i, spaceW p dp dw = some (e, i) → ∀ H', ExtN H1 H' → Tabs (lamT Pw) H' → Raised2 CB "what" (.str e) "index" (.int i) H' E)
    (hQ : spaceW p dp dw = none → ∀ H' a, ExtN H1 H' → Tabs (lamT Pw) H' → H1 a = none → SpO C H' a f (tupsD dp) (tupsD dw) (lenD (headD dp)) → R a H') :
    ∀ y' dx, H1 y' = none → H1 dx = none → dx ≠ y' → sp_Space_init CR CF C CB Pw (.ref y' :: ([.ref f, x, y] ++ [])) (upd (upd H1 dx (.own y')) y' (.ins C dx [])) (fun v H2 => v = .non ∧ R y' H2) E := fun y' dx nx nd ne => by
  have s0 : Same H1 (upd (upd H1 dx (.own y')) y' (.ins C dx [])) := Same.made nx nd fun b o e _ => e
  exact ⟨y', dx, f, p, x, y, dp, dw, rfl, upd_same, hf.same s0, kx.same s0, ky.same s0, tb.ext s0, fun e i h H' k t => hE e i h H' ((ExtN.of s0).trans k) t,
    fun h H' k t o => ⟨rfl, hQ h H' y' (fun b u e n => k b u (s0 _ _ e) (fun z => by rw [z, nx] at e; cases e) n) t nx o⟩⟩
theorem ok_Space_init (T : Txt K mg) (L : Lm T base cw Pw) : FnOk P w K mg base (L2.CX P w) 17 T.f_Space_init T.d_Space_init ["self", "field", "points", "walls"] (sp_Space_init T.C_RestField T.C_FractionField T.C_Space T.C_BadSpace Pw) := by
  refine T.F_Space_init.okX sc_Space_init (fun vs H Q E h => ?_) (fun cdv A outer s H vs Q E hr h => ?_)
  · obtain ⟨a, dx, f, p, x, y, dp, dw, rfl, _⟩ := h
    rfl
  · obtain ⟨a, dx, f, p, x, y, dp, dw, rfl, ha, hf, kx, ky, tb, hE, hQ⟩ := h
    refine ⟨_, (pss_cons (ps_if (pt_not (pt_val (pe_call (ok_has_between T) (hr.mono (by decide)) (by rfl) T.g_has_between T.F_has_between.kp T.b_has_between .nil pass0 (pa_cons (pv 2) (pa_cons pe_int (pa_cons (pe_glob (v := .int 5) rfl T.c_MOST_CORNERS ⟨_, rfl⟩) pa_nil))))))
        (pss_one (ps_raise (W := fun cls d _ H => E cls d H) rfl (takes_of rfl rfl rfl rfl) (pmk_oex T.o_BadSpace T.i_BadSpace T.t_BadSpace (ok_BadSpace_init T) (hr.mono (by decide)) T.b_BadSpace_init .nil pass0 (by rfl) T.g_BadSpace (pa_cons pe_str (pa_cons pe_int pa_nil)))))
        pss_nil)
      (pss_cons (ps_if (pt_not (pt_val (pe_call (ok_has_between T) (hr.mono (by decide)) (by rfl) T.g_has_between T.F_has_between.kp T.b_has_between .nil pass0 (pa_cons (pv 3) (pa_cons pe_int (pa_cons (pe_glob (v := .int 5) rfl T.c_MOST_CORNERS ⟨_, rfl⟩) pa_nil))))))
        (pss_one (ps_raise (W := fun cls d _ H => E cls d H) rfl (takes_of rfl rfl rfl rfl) (pmk_oex T.o_BadSpace T.i_BadSpace T.t_BadSpace (ok_BadSpace_init T) (hr.mono (by decide)) T.b_BadSpace_init .nil pass0 (by rfl) T.g_BadSpace (pa_cons pe_str (pa_cons pe_int pa_nil)))))
        pss_nil)
      (pss_cons (ps_set (i := 4) sc_Space_init.nd rfl (.inl rfl) (pe_call (ok_width_of T) (hr.mono (by decide)) (by rfl) T.g_width_of T.F_width_of.kp T.b_width_of .nil (passes_call (W := fun cls d _ H => E cls d H) (takes_of rfl rfl rfl rfl) (fun _ _ _ _ h => h)) (pa_cons (pe_ix ix_seq (pv 2) pe_int (fun _ _ => rfl)) pa_nil)))
      (pss_cons (ps_expr (pe_call (ok_check_rows T L) (hr.mono (by decide)) (by rfl) T.g_check_rows T.F_check_rows.kp T.b_check_rows .nil (passes_call (W := fun cls d _ H => E cls d H) (takes_of rfl rfl rfl rfl) (fun _ _ _ _ h => h)) (pa_cons (pv 1) (pa_cons pe_str (pa_cons (pv 2) (pa_cons (pv 4) pa_nil))))))
      (pss_cons (ps_expr (pe_call (ok_check_rows T L) (hr.mono (by decide)) (by rfl) T.g_check_rows T.F_check_rows.kp T.b_check_rows .nil (passes_call (W := fun cls d _ H => E cls d H) (takes_of rfl rfl rfl rfl) (fun _ _ _ _ h => h)) (pa_cons (pv 1) (pa_cons pe_str (pa_cons (pv 3) (pa_cons (pv 4) pa_nil))))))
      (pss_cons (ps_fld (pv 0) (pv 1) rfl)
      (pss_cons (ps_fld (pv 0) (pe_call (ok_as_tuples T) (hr.mono (by decide)) (by rfl) T.g_as_tuples T.F_as_tuples.kp T.b_as_tuples .nil pass0 (pa_cons (pv 2) pa_nil)) rfl)
      (pss_cons (ps_fld (pv 0) (pe_call (ok_as_tuples T) (hr.mono (by decide)) (by rfl) T.g_as_tuples T.F_as_tuples.kp T.b_as_tuples .nil pass0 (pa_cons (pv 3) pa_nil)) rfl)
      (pss_one (ps_fld (pv 0) (pv 4) rfl)))))))))), ?_⟩
    refine ⟨_, rfl, x, dp, 1, 5, rfl, kx, fun H1 s1 => ⟨_, rfl, ?_⟩⟩
    cases c1 : hasB dp 1 5 with
    | false => exact iteT (mk_exc2 fun b H2 s2 nb hb => hE "points" 0 (by unfold spaceW; rw [if_pos c1]) H1 (ExtN.of s1) (tb.ext s1) b H2 s2 nb hb)
    | true =>
    have n1 : ¬ hasB dp 1 5 = false := by rw [c1]; exact Bool.noConfusion
    refine iteF ⟨_, rfl, y, dw, 1, 5, rfl, ky.same s1, fun H2 s2 => ⟨_, rfl, ?_⟩⟩
    have s12 := s1.trans s2
    cases c2 : hasB dw 1 5 with
    | false => exact iteT (mk_exc2 fun b H3 s3 nb hb => hE "walls" 0 (by unfold spaceW; rw [if_neg n1, if_pos c2]) H2 (ExtN.of s12) (tb.ext s12) b H3 s3 nb hb)
    | true =>
    have n2 : ¬ hasB dw 1 5 = false := by rw [c2]; exact Bool.noConfusion
    obtain ⟨ds, ed, d1, d2⟩ := hasB_of c1
    obtain ⟨es, ee, e1, e2⟩ := hasB_of c2
    refine iteF ?_
    obtain ⟨ax, xs, rfl, hxs, hsx⟩ := sq_of (K := K) (kx.same s12) ed
    have lx := hxs.len
    obtain ⟨d0, dr, rfl⟩ : ∃ d0 dr, ds = d0 :: dr := by
      cases ds with
      | nil => simp at d1
      | cons a b => exact ⟨a, b, rfl⟩
    have hd0 : headD dp = d0 := by
      unfold headD rowOf
      rw [ed]
      rfl
    obtain ⟨x0, xr, rfl⟩ : ∃ x0 xr, xs = x0 :: xr := by
      cases xs with
      | nil => simp at lx
      | cons a b => exact ⟨a, b, rfl⟩
    have k0 : Dq H2 x0 d0 := by
      cases hxs with
      | cons k _ => exact k
    have a0 : atI (x0 :: xr) 0 = some x0 := at_of (j := 0) rfl rfl
    refine ⟨_, rfl, ?_⟩
    refine rix_sq hsx a0 ?_
    refine ⟨x0, d0, rfl, k0, fun c3 H3 s3 b H' s nb hb => hE "point" 0 (by unfold spaceW; rw [if_neg n1, if_neg n2, if_pos (by rw [hd0]; exact c3)]) H3 (ExtN.of (s12.trans s3)) (tb.ext (s12.trans s3)) b H' s nb hb, fun c3 H3 s3 => ?_⟩
    have n3 : ¬ hasB (headD dp) 1 6 = false := by rw [hd0, c3]; exact Bool.noConfusion
    obtain ⟨qs, eq, q1, q2⟩ := hasB_of c3
    have w9 : lenD d0 ≤ 900 := by
      unfold lenD rowOf
      rw [eq]
      show (qs.length : Int) ≤ 900
      omega
    have s13 := s12.trans s3
    have W : spaceW p dp dw = match wrongN (isRow p (lenD d0)) dp with
      | some i => some ("point", i)
      | none => match wrongN (isRow p (lenD d0)) dw with
        | some i => some ("wall", i)
        | none => none := by
      unfold spaceW
      rw [if_neg n1, if_neg n2, if_neg n3, hd0]
    dsimp only
    refine ⟨_, rfl, _, rfl, _, rfl, f, p, "point", _, dp, lenD d0, rfl, hf.same s13, kx.same s13, w9, tb.ext s13, fun i c4 H4 e4 t4 b H' s nb hb => hE "point" i (by rw [W, c4]) H4 ((ExtN.of s13).trans e4) t4 b H' s nb hb, fun c4 H4 e4 t4 => ?_⟩
    have e14 := (ExtN.of s13).trans e4
    refine ⟨_, rfl, _, rfl, _, rfl, f, p, "wall", _, dw, lenD d0, rfl, hf.ext e14, dq_ext e14 _ ky, w9, t4, fun i c5 H5 e5 t5 b H' s nb hb => hE "wall" i (by rw [W, c4, c5]) H5 (e14.trans e5) t5 b H' s nb hb, fun c5 H5 e5 t5 => ?_⟩
    have e15 := e14.trans e5
    have a5 := e15 _ _ ha (fun _ z => nomatch z)
    have k5 : KeepX a H H5 := .of e15
    have kx5 := dq_ext e15 _ kx
    have ky5 := dq_ext e15 _ ky
    have Wn : spaceW p dp dw = none := by rw [W, c4, c5]
    have al1 := wrongN_none ed c4
    have al2 := wrongN_none ee c5
    clear hE
    refine ⟨_, rfl, _, rfl, a, T.C_Space, dx, [], rfl, a5, T.cl_Space, T.na_Space_field, by decide, ?_⟩
    have a6 : (upd H5 a (.ins T.C_Space dx (putF "field" (.ref f) []))) a = some (.ins T.C_Space dx [("field", .ref f)]) := upd_same
    have kx6 := dq_put (o := .ins T.C_Space dx (putF "field" (.ref f) [])) a5 _ kx5
    have ky6 := dq_put (o := .ins T.C_Space dx (putF "field" (.ref f) [])) a5 _ ky5
    have t6 := tabs_put (o := .ins T.C_Space dx (putF "field" (.ref f) [])) a5 t5
    have k6 := k5.put (o := .ins T.C_Space dx (putF "field" (.ref f) []))
    generalize upd H5 a (.ins T.C_Space dx (putF "field" (.ref f) [])) = H6 at a6 kx6 ky6 t6 k6 ⊢
    refine ⟨_, rfl, _, dp, _, rfl, kx6, ed, by omega, fun r m => (isRow_of (List.all_eq_true.mp al1 r m)).imp fun _ z => ⟨z.1, z.2.2.2⟩, fun l1 H7 s7 kl1 => ?_⟩
    have a7 := s7 _ _ a6
    refine ⟨_, rfl, a, T.C_Space, dx, _, rfl, a7, T.cl_Space, T.na_Space_points, by simp, ?_⟩
    have a8 : (upd H7 a (.ins T.C_Space dx (putF "points" (.ref l1) [("field", .ref f)]))) a = some (.ins T.C_Space dx [("field", .ref f), ("points", .ref l1)]) := upd_same
    have ky8 := dq_put (o := .ins T.C_Space dx (putF "points" (.ref l1) [("field", .ref f)])) a7 _ (ky6.same s7)
    have kl8 := dq_put (o := .ins T.C_Space dx (putF "points" (.ref l1) [("field", .ref f)])) a7 _ kl1
    have t8 := tabs_put (o := .ins T.C_Space dx (putF "points" (.ref l1) [("field", .ref f)])) a7 (t6.ext s7)
    have k8 := (k6.same s7).put (o := .ins T.C_Space dx (putF "points" (.ref l1) [("field", .ref f)]))
    generalize upd H7 a (.ins T.C_Space dx (putF "points" (.ref l1) [("field", .ref f)])) = H8 at a8 ky8 kl8 t8 k8 ⊢
    refine ⟨_, rfl, _, dw, _, rfl, ky8, ee, by omega, fun r m => (isRow_of (List.all_eq_true.mp al2 r m)).imp fun _ z => ⟨z.1, z.2.2.2⟩, fun l2 H9 s9 kl2 => ?_⟩
    have a9 := s9 _ _ a8
    refine ⟨_, rfl, a, T.C_Space, dx, _, rfl, a9, T.cl_Space, T.na_Space_walls, by simp, ?_⟩
    have a10 : (upd H9 a (.ins T.C_Space dx (putF "walls" (.ref l2) [("field", .ref f), ("points", .ref l1)]))) a = some (.ins T.C_Space dx [("field", .ref f), ("points", .ref l1), ("walls", .ref l2)]) := upd_same
    have kl10 := dq_put (o := .ins T.C_Space dx (putF "walls" (.ref l2) [("field", .ref f), ("points", .ref l1)])) a9 _ (kl8.same s9)
    have kw10 := dq_put (o := .ins T.C_Space dx (putF "walls" (.ref l2) [("field", .ref f), ("points", .ref l1)])) a9 _ kl2
    have t10 := tabs_put (o := .ins T.C_Space dx (putF "walls" (.ref l2) [("field", .ref f), ("points", .ref l1)])) a9 (t8.ext s9)
    have k10 := (k8.same s9).put (o := .ins T.C_Space dx (putF "walls" (.ref l2) [("field", .ref f), ("points", .ref l1)]))
    generalize upd H9 a (.ins T.C_Space dx (putF "walls" (.ref l2) [("field", .ref f), ("points", .ref l1)])) = H10 at a10 kl10 kw10 t10 k10 ⊢
    refine ⟨_, rfl, _, rfl, a, T.C_Space, dx, _, rfl, a10, T.cl_Space, T.na_Space_width, by simp, ?_⟩
    exact hQ Wn _ k10.put (tabs_put a10 t10) ⟨dx, .ref l1, .ref l2, by rw [upd_same, hd0]; rfl, dq_put a10 _ kl10, dq_put a10 _ kw10⟩
end
end K25
set_option Elab.async false
set_option linter.all false
set_option maxRecDepth 100000
set_option maxHeartbeats 4000000
/-! how long a shown list of pairs of small numbers is -/
namespace TkS
open PySem PySem.Spec PyProof.Rows L2
theorem small_pair {a b : Int} (a0 : 0 ≤ a) (a1 : a < 5) (b0 : 0 ≤ b) (b1 : b < 5) :
    (PyData.shown (.tuple [.int a, .int b])).length ≤ 10 ∧ (PyData.shown (.list [.int a, .int b])).length ≤ 10 ∧ PyData.showable (.tuple [.int a, .int b]) = true ∧ PyData.showable (.list [.int a, .int b]) = true := by
  have ha : a = 0 ∨ a = 1 ∨ a = 2 ∨ a = 3 ∨ a = 4 := by omega
  have hb : b = 0 ∨ b = 1 ∨ b = 2 ∨ b = 3 ∨ b = 4 := by omega
  rcases ha with rfl | rfl | rfl | rfl | rfl <;> rcases hb with rfl | rfl | rfl | rfl | rfl <;> decide +kernel
theorem textFrom_le (n : Nat) : ∀ (ts : List Str) (k : Nat) (acc : Str), (∀ t ∈ ts, t.length ≤ n) → (textFrom k acc ts).length ≤ acc.length + ts.length * (n + 2)
  | [], _, acc, _ => by
    show acc.length ≤ acc.length + _
    omega
  | t :: r, k, acc, h => by
    have ih := textFrom_le n r (k + 1) (acc ++ (if k > 0 then ", " else "" : String) ++ t) fun u m => h u (List.mem_cons_of_mem _ m)
    have e : (acc ++ (if k > 0 then ", " else "" : String) ++ t).length = acc.length + (if k > 0 then 2 else 0) + t.length := by
      rw [strLen_append, strLen_append]
      split <;> rfl
    have ht := h t List.mem_cons_self
    have e3 : (t :: r).length * (n + 2) = r.length * (n + 2) + (n + 2) := by
      rw [List.length_cons, Nat.succ_mul]
    rw [e] at ih
    show (textFrom (k + 1) _ r).length ≤ _
    rw [e3]
    have hb : (if k > 0 then 2 else 0 : Nat) ≤ 2 := by split <;> omega
    omega
def SmallPair (d : PyData) : Prop := ∃ a b : Int, 0 ≤ a ∧ a < 5 ∧ 0 ≤ b ∧ b < 5 ∧ (d = .tuple [.int a, .int b] ∨ d = .list [.int a, .int b])
theorem small_show {d : PyData} (h : SmallPair d) : d.shown.length ≤ 10 ∧ d.showable = true ∧ d.hasDict = false ∧ d.depth ≤ 1 := by
  obtain ⟨a, b, a0, a1, b0, b1, rfl | rfl⟩ := h
  · obtain ⟨h1, _, h3, _⟩ := small_pair a0 a1 b0 b1
    exact ⟨h1, h3, by simp [PyData.hasDict, PyData.hasDictAll], by simp [PyData.depth, PyData.depthAll]⟩
  · obtain ⟨_, h2, _, h4⟩ := small_pair a0 a1 b0 b1
    exact ⟨h2, h4, by simp [PyData.hasDict, PyData.hasDictAll], by simp [PyData.depth, PyData.depthAll]⟩
theorem shown_pairs {ds : List PyData} (h : ∀ d ∈ ds, SmallPair d) (hl : ds.length ≤ 30) : (PyData.list ds).showable = true ∧ (PyData.list ds).hasDict = false ∧ (PyData.list ds).depth ≤ 60 ∧ (PyData.list ds).shown.length ≤ sizeLine := by
  have key : PyData.showableAll ds = true ∧ PyData.hasDictAll ds = false ∧ PyData.depthAll ds ≤ 1 ∧ (∀ t ∈ PyData.shownAll ds, t.length ≤ 10) ∧ (PyData.shownAll ds).length = ds.length := by
    clear hl
    induction ds with
    | nil => exact ⟨by simp [PyData.showableAll], by simp [PyData.hasDictAll], by simp [PyData.depthAll], by simp [PyData.shownAll], by simp [PyData.shownAll]⟩
    | cons d ds ih =>
      obtain ⟨i1, i2, i3, i4, i5⟩ := ih fun x m => h x (List.mem_cons_of_mem _ m)
      obtain ⟨s1, s2, s3, s4⟩ := small_show (h d List.mem_cons_self)
      refine ⟨by simp [PyData.showableAll, s2, i1], by simp [PyData.hasDictAll, s3, i2], by simp only [PyData.depthAll]; omega, fun t m => ?_, by simp [PyData.shownAll, i5]⟩
      rw [PyData.shownAll] at m
      rcases List.mem_cons.mp m with e | e
      · rw [e]
        exact s1
      · exact i4 t e
  obtain ⟨k1, k2, k3, k4, k5⟩ := key
  refine ⟨by simp [PyData.showable, k1], by simp [PyData.hasDict, k2], by simp only [PyData.depth]; omega, ?_⟩
  have e := textFrom_le 10 (PyData.shownAll ds) 0 "[" k4
  rw [k5] at e
  have e1 : (PyData.list ds).shown = textFrom 0 "[" (PyData.shownAll ds) ++ "]" := by
    simp only [PyData.shown, listText]
  rw [e1, strLen_append]
  have e2 : (("[" : Str)).length = 1 := rfl
  have e3 : (("]" : Str)).length = 1 := rfl
  rw [e2] at e
  rw [e3]
  have : 1000 ≤ sizeLine := by decide
  omega
end TkS
set_option Elab.async false
set_option linter.all false
set_option maxRecDepth 100000
set_option maxHeartbeats 4000000
set_option exponentiation.threshold 5000
/-! data of bounded depth, width and numbers: it can be laid, shown, compared -/
namespace TkS
open PySem PySem.Spec PyProof.Rows L2
def mild : Nat → PyData → Bool
  | _, .none => true
  | _, .bool _ => true
  | _, .int i => decide (i.natAbs < 10 ^ 121)
  | _, .str x => PyData.canLay0 (.str x) && decide ((PyData.shown (.str x)).length ≤ 130)
  | n + 1, .list ds => decide (ds.length ≤ 40) && ds.all (mild n)
  | n + 1, .tuple ds => decide (ds.length ≤ 40) && ds.all (mild n)
  | _, _ => false
theorem int_len {i : Int} (h : i.natAbs < 10 ^ 121) : (PyData.shown (.int i)).length ≤ 130 := by
  have e : PyData.shown (.int i) = Str.ofString (toString i) := by simp only [PyData.shown]
  rw [e, PySem.ofString_length]
  have nat : ∀ n : Nat, n < 10 ^ 121 → n.repr.length ≤ 121 := fun n hn => by
    have : n.repr = String.ofList (Nat.toDigits 10 n) := rfl
    rw [this, String.length_ofList]
    exact (Nat.length_toDigits_le_iff (by decide) (by decide)).mpr hn
  have e2 : toString i = i.repr := rfl
  rw [e2]
  cases i with
  | ofNat m =>
    have := nat m h
    show m.repr.length ≤ 130
    omega
  | negSucc m =>
    have := nat (m + 1) h
    show ("-" ++ (m + 1).repr).length ≤ 130
    rw [String.length_append]
    have : ("-" : String).length = 1 := by decide
    omega
def bnd : Nat → Nat
  | 0 => 130
  | n + 1 => 40 * (bnd n + 2) + 10
theorem bnd_ge : ∀ n, 130 ≤ bnd n
  | 0 => Nat.le_refl _
  | n + 1 => by
    have := bnd_ge n
    show 130 ≤ 40 * (bnd n + 2) + 10
    omega
theorem join_le (n : Nat) : ∀ ts : List Str, (∀ t ∈ ts, t.length ≤ n) → (Str.join ", " ts).length ≤ ts.length * (n + 2)
  | [], _ => by
    show (0 : Nat) ≤ _
    omega
  | [x], h => by
    show x.length ≤ _
    have := h x List.mem_cons_self
    rw [List.length_singleton]
    omega
  | x :: y :: r, h => by
    have ih := join_le n (y :: r) fun t m => h t (List.mem_cons_of_mem _ m)
    show (x ++ ", " ++ Str.join ", " (y :: r)).length ≤ _
    have e2 : ((", " : String) : Str).length = 2 := rfl
    rw [strLen_append, strLen_append, e2]
    have := h x List.mem_cons_self
    have e3 : (x :: y :: r).length * (n + 2) = (y :: r).length * (n + 2) + (n + 2) := by
      rw [List.length_cons, Nat.succ_mul]
    rw [e3]
    omega
structure Mild (n : Nat) (d : PyData) : Prop where
  lay : d.canLay0 = true
  dep : d.depth ≤ n
  sh : d.showable = true
  len : d.shown.length ≤ bnd n
theorem log_small {i : Int} (h : i.natAbs < 10 ^ 121) : i.natAbs.log2 < 1920 := by
  have : i.natAbs < 2 ^ 1920 := Nat.lt_of_lt_of_le h (by decide)
  by_cases z : i.natAbs = 0
  · rw [z]
    decide
  · exact (Nat.log2_lt z).mpr this
theorem mild_is : ∀ (n : Nat) (d : PyData), mild n d = true → Mild n d
  | n, .none, _ => ⟨by simp [PyData.canLay0], by simp [PyData.depth], by simp [PyData.showable], by
    have : (PyData.shown .none).length = 4 := by decide +kernel
    have := bnd_ge n
    omega⟩
  | n, .bool b, _ => ⟨by simp [PyData.canLay0], by simp [PyData.depth], by simp [PyData.showable], by
    have : (PyData.shown (.bool b)).length ≤ 5 := by cases b <;> decide +kernel
    have := bnd_ge n
    omega⟩
  | n, .int i, h => ⟨by simp [PyData.canLay0], by simp [PyData.depth], by
    have h' : i.natAbs < 10 ^ 121 := by
      unfold mild at h
      exact of_decide_eq_true h
    simp only [PyData.showable]
    exact decide_eq_true (log_small h'), by
    have h' : i.natAbs < 10 ^ 121 := by
      unfold mild at h
      exact of_decide_eq_true h
    exact Nat.le_trans (int_len h') (bnd_ge n)⟩
  | n, .str x, h => by
    have h' : (PyData.canLay0 (.str x) && decide ((PyData.shown (.str x)).length ≤ 130)) = true := by
      unfold mild at h
      exact h
    rw [Bool.and_eq_true] at h'
    exact ⟨h'.1, by simp [PyData.depth], by simp [PyData.showable], Nat.le_trans (of_decide_eq_true h'.2) (bnd_ge n)⟩
  | 0, .list ds, h => by
    unfold mild at h
    cases h
  | 0, .tuple ds, h => by
    unfold mild at h
    cases h
  | n, .dict k, h => by
    unfold mild at h
    cases n <;> cases h
  | n + 1, .list ds, h => by
    have h' : (decide (ds.length ≤ 40) && ds.all (mild n)) = true := by
      unfold mild at h
      exact h
    rw [Bool.and_eq_true] at h'
    have hl := of_decide_eq_true h'.1
    obtain ⟨k1, k2, k3, k4, k5⟩ := mild_all n ds (fun d m => mild_is n d (List.all_eq_true.mp h'.2 d m))
    refine ⟨by simp [PyData.canLay0, k1], by simp only [PyData.depth]; omega, by simp [PyData.showable, k3], ?_⟩
    have e1 : (PyData.list ds).shown = textFrom 0 "[" (PyData.shownAll ds) ++ "]" := by simp only [PyData.shown, listText]
    have e := textFrom_le (bnd n) (PyData.shownAll ds) 0 "[" k4
    rw [e1, strLen_append]
    have e2 : (("[" : Str)).length = 1 := rfl
    have e3 : (("]" : Str)).length = 1 := rfl
    rw [k5, e2] at e
    rw [e3]
    have : ds.length * (bnd n + 2) ≤ 40 * (bnd n + 2) := Nat.mul_le_mul_right _ hl
    show _ ≤ 40 * (bnd n + 2) + 10
    omega
  | n + 1, .tuple ds, h => by
    have h' : (decide (ds.length ≤ 40) && ds.all (mild n)) = true := by
      unfold mild at h
      exact h
    rw [Bool.and_eq_true] at h'
    have hl := of_decide_eq_true h'.1
    obtain ⟨k1, k2, k3, k4, k5⟩ := mild_all n ds (fun d m => mild_is n d (List.all_eq_true.mp h'.2 d m))
    refine ⟨by simp [PyData.canLay0, k1], by simp only [PyData.depth]; omega, by simp [PyData.showable, k3], ?_⟩
    have e := join_le (bnd n) (PyData.shownAll ds) k4
    have e1 : (PyData.tuple ds).shown = ("(" : Str) ++ Str.join ", " (PyData.shownAll ds) ++ (if (PyData.shownAll ds).length == 1 then ",)" else ")" : String) := by simp only [PyData.shown, tupleText]
    rw [e1, strLen_append, strLen_append]
    have e2 : (("(" : Str)).length = 1 := rfl
    have e3 : (((if (PyData.shownAll ds).length == 1 then ",)" else ")" : String) : Str)).length ≤ 2 := by split <;> decide
    rw [e2]
    rw [k5] at e
    have : ds.length * (bnd n + 2) ≤ 40 * (bnd n + 2) := Nat.mul_le_mul_right _ hl
    show _ ≤ 40 * (bnd n + 2) + 10
    omega
where mild_all (n : Nat) : ∀ ds : List PyData, (∀ d ∈ ds, Mild n d) → PyData.canLayAll0 ds = true ∧ PyData.depthAll ds ≤ n ∧ PyData.showableAll ds = true ∧ (∀ t ∈ PyData.shownAll ds, t.length ≤ bnd n) ∧ (PyData.shownAll ds).length = ds.length
  | [], _ => ⟨by simp [PyData.canLayAll0], by simp [PyData.depthAll], by simp [PyData.showableAll], by simp [PyData.shownAll], by simp [PyData.shownAll]⟩
  | d :: ds, h => by
    obtain ⟨k1, k2, k3, k4, k5⟩ := mild_all n ds fun x m => h x (List.mem_cons_of_mem _ m)
    obtain ⟨m1, m2, m3, m4⟩ := h d List.mem_cons_self
    refine ⟨by simp [PyData.canLayAll0, m1, k1], by simp only [PyData.depthAll]; omega, by simp [PyData.showableAll, m3, k3], fun t m => ?_, by simp [PyData.shownAll, k5]⟩
    rw [PyData.shownAll] at m
    rcases List.mem_cons.mp m with e | e
    · rw [e]
      exact m4
    · exact k4 t e
theorem Mild.shaped {n : Nat} {d : PyData} (h : Mild n d) (hn : n ≤ 60) : SeqAt.shaped d = true := by
  unfold SeqAt.shaped
  rw [h.lay, decide_eq_true (by have := h.dep; omega)]
  rfl
theorem Mild.noDict {n : Nat} {d : PyData} (h : Mild n d) : d.hasDict = false := PyData.hasDict_of_canLay d h.lay
theorem Mild.fits {d : PyData} (h : Mild 3 d) : d.shown.length ≤ sizeLine := Nat.le_trans h.len (by decide)
theorem mild_items {n : Nat} {d : PyData} {ds : List PyData} (h : mild (n + 1) d = true) (e : itemsD d = some ds) : ds.length ≤ 40 ∧ ∀ x ∈ ds, mild n x = true := by
  cases d with
  | list es =>
    cases e
    unfold mild at h
    rw [Bool.and_eq_true] at h
    exact ⟨of_decide_eq_true h.1, fun x m => List.all_eq_true.mp h.2 x m⟩
  | tuple es =>
    cases e
    unfold mild at h
    rw [Bool.and_eq_true] at h
    exact ⟨of_decide_eq_true h.1, fun x m => List.all_eq_true.mp h.2 x m⟩
  | _ => cases e
theorem mild_tup {n : Nat} {ds : List PyData} (hl : ds.length ≤ 40) (h : ∀ x ∈ ds, mild n x = true) : mild (n + 1) (.tuple ds) = true := by
  unfold mild
  rw [decide_eq_true hl, List.all_eq_true.mpr h]
  rfl
theorem mild_lst {n : Nat} {ds : List PyData} (hl : ds.length ≤ 40) (h : ∀ x ∈ ds, mild n x = true) : mild (n + 1) (.list ds) = true := by
  unfold mild
  rw [decide_eq_true hl, List.all_eq_true.mpr h]
  rfl
theorem mild_up : ∀ (n : Nat) (d : PyData), mild n d = true → mild (n + 1) d = true
  | n, .none, _ => by unfold mild; rfl
  | n, .bool b, _ => by unfold mild; rfl
  | n, .int i, h => by
    unfold mild at h ⊢
    exact h
  | n, .str x, h => by
    unfold mild at h ⊢
    exact h
  | 0, .list ds, h => by
    unfold mild at h
    cases h
  | 0, .tuple ds, h => by
    unfold mild at h
    cases h
  | n, .dict k, h => by
    unfold mild at h
    cases n <;> cases h
  | n + 1, .list ds, h => by
    obtain ⟨hl, hi⟩ := mild_items h rfl
    exact mild_lst hl fun x m => mild_up n x (hi x m)
  | n + 1, .tuple ds, h => by
    obtain ⟨hl, hi⟩ := mild_items h rfl
    exact mild_tup hl fun x m => mild_up n x (hi x m)
theorem mild_filter {n : Nat} {ds : List PyData} {f : PyData → Bool} (hl : ds.length ≤ 40) (h : ∀ x ∈ ds, mild n x = true) : mild (n + 1) (.list (ds.filter f)) = true :=
  mild_lst (Nat.le_trans (List.length_filter_le _ _) hl) fun x m => h x (List.mem_filter.mp m).1
end TkS
set_option Elab.async false
set_option linter.all false
set_option maxRecDepth 100000
set_option maxHeartbeats 4000000
/-! repr of data of bounded depth, width and numbers -/
namespace TkS
open PySem PySem.Spec PyProof.Rows L2
def rReprM : List V → Hp → VK → Prop := fun xs H Q => ∃ x d, xs = [x] ∧ Dq H x d ∧ mild 3 d = true ∧ Q (.str d.shown) H
theorem call_reprM {X : Cx} (hg : X.A.guards = some []) (hu : X.A.units + 65 < cLine) : CallR X (.builtin "repr") rReprM := by
  intro pins s σ H xs us Q I r h
  obtain ⟨x, d, rfl, k, hm, q⟩ := h
  have M := mild_is 3 d hm
  have big : ∀ a, x = .ref a → wpAny (model X.prog X.w) X.A (call (.builtin "repr") us) (EP X pins σ Q) X.xe s := fun a e => by
    subst e
    exact call_reprD hg hu pins s σ H _ us Q I r ⟨a, d, rfl, k.dp, M.sh, M.noDict, Nat.le_trans M.dep (by decide), M.fits, q⟩
  cases k with
  | non =>
    obtain ⟨u, rfl, ru⟩ := vals1 r
    cases ru
    have e : PyData.shown .none = ("None" : Str) := by simp only [PyData.shown]
    rw [e] at q
    exact PySem.P.repr_of_none ⟨.str _, H, I.tok _, ⟨_, rfl⟩, q⟩
  | bl b =>
    obtain ⟨u, rfl, ru⟩ := vals1 r
    cases ru
    have e : PyData.shown (.bool b) = if b = true then ("True" : Str) else ("False" : Str) := by simp only [PyData.shown]
    rw [e] at q
    exact PySem.P.repr_of_bool ⟨.str _, H, I.tok _, ⟨_, rfl⟩, q⟩
  | int i =>
    obtain ⟨u, rfl, t, rfl⟩ := vals1 r
    have e : PyData.shown (.int i) = Str.ofString (toString i) := by simp only [PyData.shown]
    rw [e] at q
    have hz : i.natAbs.log2 < 1920 := by
      have := M.sh
      simp only [PyData.showable] at this
      exact of_decide_eq_true this
    exact PySem.P.repr_of_int hz ⟨.str _, H, I.tok _, ⟨_, rfl⟩, q⟩
  | str z =>
    obtain ⟨u, rfl, t, rfl⟩ := vals1 r
    have e : PyData.shown (.str z) = reprText z := by simp only [PyData.shown]
    have hs := M.fits
    rw [e] at q hs
    exact PySem.P.repr_of_str ⟨.str _, H, I.tok _, ⟨_, rfl⟩, q⟩ hs
  | lst h1 h2 => exact big _ rfl
  | tup h1 h2 => exact big _ rfl
end TkS
set_option Elab.async false
set_option linter.all false
set_option maxRecDepth 100000
set_option maxHeartbeats 4000000
set_option exponentiation.threshold 5000
/-! data of bounded depth; repr of up to 64 numbers; list() of data; a callee that raises in no case -/
namespace TkS
open PySem PySem.Spec PyProof.Rows L2
def low : Nat → PyData → Bool
  | _, .none => true
  | _, .bool _ => true
  | _, .int _ => true
  | _, .str x => PyData.canLay0 (.str x)
  | n + 1, .list ds => ds.all (low n)
  | n + 1, .tuple ds => ds.all (low n)
  | _, _ => false
theorem low_is : ∀ (n : Nat) (d : PyData), low n d = true → d.canLay0 = true ∧ d.depth ≤ n
  | n, .none, _ => ⟨by simp [PyData.canLay0], by simp [PyData.depth]⟩
  | n, .bool b, _ => ⟨by simp [PyData.canLay0], by simp [PyData.depth]⟩
  | n, .int i, _ => ⟨by simp [PyData.canLay0], by simp [PyData.depth]⟩
  | n, .str x, h => by
    unfold low at h
    exact ⟨h, by simp [PyData.depth]⟩
  | 0, .list ds, h => by
    unfold low at h
    cases h
  | 0, .tuple ds, h => by
    unfold low at h
    cases h
  | n, .dict k, h => by
    unfold low at h
    cases n <;> cases h
  | n + 1, .list ds, h => by
    unfold low at h
    obtain ⟨k1, k2⟩ := low_all n ds fun d m => low_is n d (List.all_eq_true.mp h d m)
    exact ⟨by simp [PyData.canLay0, k1], by simp only [PyData.depth]; omega⟩
  | n + 1, .tuple ds, h => by
    unfold low at h
    obtain ⟨k1, k2⟩ := low_all n ds fun d m => low_is n d (List.all_eq_true.mp h d m)
    exact ⟨by simp [PyData.canLay0, k1], by simp only [PyData.depth]; omega⟩
where low_all (n : Nat) : ∀ ds : List PyData, (∀ d ∈ ds, d.canLay0 = true ∧ d.depth ≤ n) → PyData.canLayAll0 ds = true ∧ PyData.depthAll ds ≤ n
  | [], _ => ⟨by simp [PyData.canLayAll0], by simp [PyData.depthAll]⟩
  | d :: ds, h => by
    obtain ⟨k1, k2⟩ := low_all n ds fun x m => h x (List.mem_cons_of_mem _ m)
    obtain ⟨m1, m2⟩ := h d List.mem_cons_self
    exact ⟨by simp [PyData.canLayAll0, m1, k1], by simp only [PyData.depthAll]; omega⟩
theorem low_shp {n : Nat} {d : PyData} (h : low n d = true) (hn : n ≤ 60) : SeqAt.shaped d = true := by
  obtain ⟨k1, k2⟩ := low_is n d h
  unfold SeqAt.shaped
  rw [k1, decide_eq_true (by omega)]
  rfl
theorem low_refl {n : Nat} {d : PyData} (h : low n d = true) : PyData.eqv d d = true := SeqAt.eqv_refl d (low_is n d h).1
theorem low_tup {n : Nat} {ds : List PyData} (h : ∀ x ∈ ds, low n x = true) : low (n + 1) (.tuple ds) = true := by
  unfold low
  exact List.all_eq_true.mpr h
theorem low_lst {n : Nat} {ds : List PyData} (h : ∀ x ∈ ds, low n x = true) : low (n + 1) (.list ds) = true := by
  unfold low
  exact List.all_eq_true.mpr h
theorem low_up : ∀ (n : Nat) (d : PyData), low n d = true → low (n + 1) d = true
  | n, .none, _ => by unfold low; rfl
  | n, .bool b, _ => by unfold low; rfl
  | n, .int i, _ => by unfold low; rfl
  | n, .str x, h => by
    unfold low at h ⊢
    exact h
  | 0, .list ds, h => by
    unfold low at h
    cases h
  | 0, .tuple ds, h => by
    unfold low at h
    cases h
  | n, .dict k, h => by
    unfold low at h
    cases n <;> cases h
  | n + 1, .list ds, h => by
    unfold low at h
    exact low_lst fun x m => low_up n x (List.all_eq_true.mp h x m)
  | n + 1, .tuple ds, h => by
    unfold low at h
    exact low_tup fun x m => low_up n x (List.all_eq_true.mp h x m)
theorem low_int {n : Nat} {i : Int} : low n (.int i) = true := by unfold low; rfl
theorem low_ints (ns : List Int) : low 1 (.tuple (ns.map PyData.int)) = true := low_tup fun x m => by
  obtain ⟨i, _, rfl⟩ := List.mem_map.mp m
  exact low_int
theorem low_intsL (ns : List Int) : low 1 (.list (ns.map PyData.int)) = true := low_lst fun x m => by
  obtain ⟨i, _, rfl⟩ := List.mem_map.mp m
  exact low_int
def rReprI : List V → Hp → VK → Prop := fun xs H Q => ∃ (x : V) (d : PyData) (ns : List Int), xs = [x] ∧ Dq H x d ∧ itemsD d = some (ns.map PyData.int) ∧ ns.length ≤ 64 ∧ (∀ n ∈ ns, n.natAbs < 10 ^ 121) ∧ Q (.str d.shown) H
theorem call_reprI {X : Cx} (hg : X.A.guards = some []) (hu : X.A.units + 65 < cLine) : CallR X (.builtin "repr") rReprI := by
  intro pins s σ H xs us Q I r h
  obtain ⟨x, d, ns, rfl, k, e, hl, hs, q⟩ := h
  obtain ⟨k1, k2, k3, k4, k5⟩ := mild_is.mild_all 0 (ns.map PyData.int) (fun d m => by
    obtain ⟨i, hi, rfl⟩ := List.mem_map.mp m
    refine mild_is 0 _ ?_
    unfold mild
    exact decide_eq_true (hs i hi))
  have ll : (PyData.shownAll (ns.map PyData.int)).length ≤ 64 := by rw [k5, List.length_map]; exact hl
  have b0 : bnd 0 = 130 := rfl
  rw [b0] at k4
  cases k with
  | lst h1 h2 =>
    cases e
    refine call_reprD hg hu pins s σ H _ us Q I r ⟨_, _, rfl, (Dq.lst h1 h2).dp, by simp [PyData.showable, k3], PyData.hasDict_of_canLay _ (by simp [PyData.canLay0, k1]), by simp only [PyData.depth]; omega, ?_, q⟩
    have e1 : (PyData.list (ns.map PyData.int)).shown = textFrom 0 "[" (PyData.shownAll (ns.map PyData.int)) ++ "]" := by simp only [PyData.shown, listText]
    have e := textFrom_le 130 (PyData.shownAll (ns.map PyData.int)) 0 "[" k4
    rw [e1, strLen_append]
    have e2 : (("[" : Str)).length = 1 := rfl
    have e3 : (("]" : Str)).length = 1 := rfl
    rw [e2] at e
    rw [e3, sizeLine_eq]
    have : (PyData.shownAll (ns.map PyData.int)).length * (130 + 2) ≤ 64 * (130 + 2) := Nat.mul_le_mul_right _ ll
    omega
  | tup h1 h2 =>
    cases e
    refine call_reprD hg hu pins s σ H _ us Q I r ⟨_, _, rfl, (Dq.tup h1 h2).dp, by simp [PyData.showable, k3], PyData.hasDict_of_canLay _ (by simp [PyData.canLay0, k1]), by simp only [PyData.depth]; omega, ?_, q⟩
    have e := join_le 130 (PyData.shownAll (ns.map PyData.int)) k4
    have e1 : (PyData.tuple (ns.map PyData.int)).shown = ("(" : Str) ++ Str.join ", " (PyData.shownAll (ns.map PyData.int)) ++ (if (PyData.shownAll (ns.map PyData.int)).length == 1 then ",)" else ")" : String) := by simp only [PyData.shown, tupleText]
    rw [e1, strLen_append, strLen_append]
    have e2 : (("(" : Str)).length = 1 := rfl
    have e3 : (((if (PyData.shownAll (ns.map PyData.int)).length == 1 then ",)" else ")" : String) : Str)).length ≤ 2 := by split <;> decide
    rw [e2, sizeLine_eq]
    have : (PyData.shownAll (ns.map PyData.int)).length * (130 + 2) ≤ 64 * (130 + 2) := Nat.mul_le_mul_right _ ll
    omega
  | _ => cases e
/-- list(x), x a list or a tuple of data -/
def rLstD : List V → Hp → VK → Prop := fun xs H Q => ∃ x d ds, xs = [x] ∧ Dq H x d ∧ itemsD d = some ds ∧ ∀ l H', Same H H' → H l = none → Dq H' (.ref l) (.list ds) → Q (.ref l) H'
theorem call_lstD {X : Cx} : CallR X (.type "list") rLstD := by
  intro pins s σ H vs us Q I r h
  refine call_list_of pins s σ H vs us Q I r ?_
  obtain ⟨x, d, ds, rfl, k, e, q⟩ := h
  cases k with
  | lst h1 h2 =>
    cases e
    exact ⟨_, _, rfl, .inl (SqL.of h1), fun l nl => q l _ (same_new nl) nl (.lst upd_same (DqAll.same (same_new nl) _ h2))⟩
  | tup h1 h2 =>
    cases e
    exact ⟨_, _, rfl, .inr (SqT.of h1), fun l nl => q l _ (same_new nl) nl (.lst upd_same (DqAll.same (same_new nl) _ h2))⟩
  | _ => cases e
theorem passE0 {P : Program} {w : World} {X : Cx} : Passes (L2.CX P w) X E0 := fun _ _ _ _ _ _ _ h => by
  obtain ⟨_, _, _, _, _, _, _, _, _, _, _, _, z⟩ := h
  exact z.elim
end TkS
set_option Elab.async false
set_option linter.all false
set_option maxRecDepth 100000
set_option maxHeartbeats 4000000
set_option exponentiation.threshold 5000
set_option pp.maxSteps 900
namespace K25
open PySem PySem.Spec PyProof.Rows L2 TkS LamX NdefX
theorem nb_mod {p k : Nat} {z : Int} (p0 : p ≠ 0) : Nb p k (.int (z % (p : Int))) := by
  have h0 : 0 ≤ z % (p : Int) := Int.emod_nonneg _ (by omega)
  have h1 : z % (p : Int) < (p : Int) := Int.emod_lt_of_pos _ (by omega)
  obtain ⟨n, e⟩ : ∃ n : Nat, z % (p : Int) = (n : Int) := ⟨(z % (p : Int)).toNat, by omega⟩
  rw [e]
  exact .rs p0 (by omega)
theorem timesD_nb {p m n : Nat} {a b : PyData} (na : Nb p m a) (nb : Nb p n b) : Nb p (m + n) (timesD p a b) := by
  unfold timesD
  cases na with
  | @fr k r a1 a2 a3 =>
    cases nb with
    | @fr k t b1 b2 b3 =>
      rw [if_pos rfl]
      obtain ⟨f1, f2⟩ := low_fin (mul_ne a1.1 b1.1) (Fin.mul a2 b2) (Fin.mul a3 b3)
      exact .fr (low_ok (mul_ne a1.1 b1.1)).1 f1 f2
    | rs n _ => exact absurd rfl n
  | rs n _ =>
    rw [if_neg n]
    exact nb_mod n
theorem fin_add {k m : Nat} {x y : Int} (hx : Fin k x) (hy : Fin k y) (l : k + 1 ≤ m) : Fin m (x + y) ∧ Fin m (x - y) := by
  have e : 2 ^ (k + 1) ≤ 2 ^ m := Nat.pow_le_pow_right (by decide) l
  unfold Fin at *
  rw [Nat.pow_succ] at e
  omega
theorem nb_lowS {t b : Int} {m : Nat} (b0 : b ≠ 0) (ht : Fin m t) (hb : Fin m b) : Nb 0 m (frD (low t b)) := by
  obtain ⟨f1, f2⟩ := low_fin b0 ht hb
  exact .fr (low_ok b0).1 f1 f2
theorem plusD_nb {p m n : Nat} {a b : PyData} (na : Nb p m a) (nb : Nb p n b) : Nb p (m + n + 1) (plusD p a b) := by
  unfold plusD
  cases na with
  | @fr k r a1 a2 a3 =>
    cases nb with
    | @fr k t b1 b2 b3 =>
      rw [if_pos rfl]
      refine nb_lowS (mul_ne a1.1 b1.1) (fin_add (Fin.mul a2 b3) (fin_up (Fin.mul b2 a3) (by omega)) (Nat.le_refl _)).1 (fin_up (Fin.mul a3 b3) (by omega))
    | rs n _ => exact absurd rfl n
  | rs n _ =>
    rw [if_neg n]
    exact nb_mod n
/-- a point's number at a wall -/
def dotD (p : Nat) : List PyData → List PyData → PyData → PyData
  | x :: xs, y :: ys, a => dotD p xs ys (plusD p a (timesD p x y))
  | _, _, a => a
theorem dot_snoc {p : Nat} {x y : PyData} : ∀ {xs ys : List PyData} {a : PyData}, xs.length = ys.length → dotD p (xs ++ [x]) (ys ++ [y]) a = plusD p (dotD p xs ys a) (timesD p x y)
  | [], [], _, _ => rfl
  | [], _ :: _, _, h => by simp at h
  | _ :: _, [], _, h => by simp at h
  | _ :: xs, _ :: ys, a, h => by
    show dotD p (xs ++ [x]) (ys ++ [y]) _ = plusD p (dotD p xs ys _) _
    exact dot_snoc (by simpa using h)
theorem dot_nb {p j : Nat} : ∀ {xs ys : List PyData} {a : PyData}, (∀ d ∈ xs, Nb p 150 d) → (∀ d ∈ ys, Nb p 150 d) → Nb p j a → Nb p (j + 301 * xs.length) (dotD p xs ys a)
  | [], _, a, _, _, n => n.up (Nat.le_add_right _ _)
  | _ :: _, [], a, _, _, n => n.up (Nat.le_add_right _ _)
  | x :: xs, y :: ys, a, hx, hy, n => by
    have t := timesD_nb (hx x List.mem_cons_self) (hy y List.mem_cons_self)
    have := dot_nb (j := j + (150 + 150) + 1) (fun d m => hx d (List.mem_cons_of_mem _ m)) (fun d m => hy d (List.mem_cons_of_mem _ m)) (plusD_nb n t)
    refine this.up ?_
    rw [List.length_cons]
    omega
theorem dot_take {p : Nat} {xs ys : List PyData} {i : Nat} {x y : PyData} (l : xs.length = ys.length) (hx : xs[i]? = some x) (hy : ys[i]? = some y) (a : PyData) : dotD p (xs.take (i + 1)) (ys.take (i + 1)) a = plusD p (dotD p (xs.take i) (ys.take i) a) (timesD p x y) := by
  rw [List.take_add_one, List.take_add_one, hx, hy]
  exact dot_snoc (by rw [List.length_take, List.length_take, l])
theorem nb_fr {k : Nat} {q : Int × Int} (h : Nb 0 k (frD q)) : Lowest q ∧ Fin k q.1 ∧ Fin k q.2 := by
  generalize e : frD q = d at h
  generalize ez : 0 = z at h
  cases h with
  | fr a b c =>
    rw [frD_inj e]
    exact ⟨a, b, c⟩
  | rs n _ => exact absurd ez.symm n
theorem sqs_of' {K : PySem.W.Frag} {H : Hp} {a : Addr} {xs : List V} (h : Sq K H a xs) : ∃ t, RZM.SqS t K H a xs := h.elim (fun h => ⟨false, h⟩) (fun h => ⟨true, h⟩)
def sp_product_sum (CR CF : Addr) : Sp := fun vs H Q _ => ∃ (f : Addr) (p : Nat) (x y : V) (dx dy : PyData) (ds es : List PyData), vs = [.ref f, x, y] ∧ Fld CR CF H f p ∧ Dq H x dx ∧ itemsD dx = some ds ∧ Dq H y dy ∧ itemsD dy = some es ∧ ds.length = es.length ∧ ds.length ≤ 6 ∧ (∀ d ∈ ds, Nb p 150 d) ∧ (∀ d ∈ es, Nb p 150 d) ∧
  ∀ v H', Same H H' → Dq H' v (dotD p ds es (zeroD p)) → Q v H'
section
variable {P : Program} {w : World} {K : PySem.W.Frag} {mg : Str → Option Value} {base : Heap} {cw Pw : Addr × Addr}
theorem ok_product_sum (T : Txt K mg) : FnOk P w K mg base CX0 6 T.f_product_sum T.d_product_sum ["field", "one", "other"] (sp_product_sum T.C_RestField T.C_FractionField) := by
  refine T.F_product_sum.ok sc_product_sum (fun vs H Q E h => ?_) (fun cdv A outer s H vs Q E hr h => ?_)
  · obtain ⟨f, p, x, y, dx, dy, ds, es, rfl, _⟩ := h
    rfl
  · obtain ⟨f, p, x, y, ddx, ddy, ds, es, rfl, hf, kx, edx, ky, edy, le, l6, nd, ne, q⟩ := h
    refine ⟨_, (pss_cons (ps_set (i := 3) sc_product_sum.nd rfl (.inl rfl) (pe_fld (pv 0) rfl))
      (pss_cons (ps_for PassesOwn.never rfl (RZM.pi_zipS (by rfl) T.m_zip (pa_cons (pv 1) (pa_cons (pv 2) pa_nil))) (pg_tup rfl (pgs_cons (pg_name (i := 4) sc_product_sum.nd rfl (.inl rfl)) (pgs_cons (pg_name (i := 5) sc_product_sum.nd rfl (.inl rfl)) pgs_nil)))
        (pss_one (ps_set (i := 3) sc_product_sum.nd rfl (.inl rfl) (pe_or2 (pe_meth (pv 0) T.cl_RestField T.M_RestField_plus (ok_RestField_plus T) (hr.mono (by decide)) T.b_RestField_plus .nil pass0 (pa_cons (pv 3) (pa_cons (pe_meth (pv 0) T.cl_RestField T.M_RestField_times (ok_RestField_times T) (hr.mono (by decide)) T.b_RestField_times .nil pass0 (pa_cons (pv 4) (pa_cons (pv 5) pa_nil))) pa_nil)))
          (pe_meth (pv 0) T.cl_FractionField T.M_FractionField_plus (ok_FractionField_plus T) (hr.mono (by decide)) T.b_FractionField_plus .nil pass0 (pa_cons (pv 3) (pa_cons (pe_meth (pv 0) T.cl_FractionField T.M_FractionField_times (ok_FractionField_times T) (hr.mono (by decide)) T.b_FractionField_times .nil pass0 (pa_cons (pv 4) (pa_cons (pv 5) pa_nil))) pa_nil)))))))
      (pss_one (ps_ret (pv 3))))), ?_⟩
    have fp := hf.fp
    obtain ⟨C1, dx1, fs1, v1, a1, a2, a3, a4, a5⟩ := fld_zero T hf
    obtain ⟨ax, xs, rfl, hxs, hsx⟩ := sq_of (K := K) kx edx
    obtain ⟨ay, ys, rfl, hys, hsy⟩ := sq_of (K := K) ky edy
    obtain ⟨t1, ht1⟩ := sqs_of' hsx
    obtain ⟨t2, ht2⟩ := sqs_of' hsy
    have lx := hxs.len
    have ly := hys.len
    refine ⟨_, rfl, f, C1, dx1, fs1, v1, rfl, a1, a2, a3, a4, ?_⟩
    refine ⟨_, rfl, _, rfl, t1, t2, ax, ay, xs, ys, rfl, ht1, ht2, ?_⟩
    refine RZM.for_zipS (xs := xs) (ys := ys) (by rw [lx, ly, le]) (fun i σ H' => ∃ v y4 y5, σ = [some (.ref f), some (.ref ax), some (.ref ay), some v, y4, y5] ∧ Same H H' ∧ Dq H' v (dotD p (ds.take i) (es.take i) (zeroD p)))
      ⟨v1, none, none, rfl, fun _ _ z => z, a5⟩ (fun i σ H' hP => ?_) (fun i x y Z σ H' hx hy hP nZ => ?_) (fun σ H' hP => ?_)
    · obtain ⟨_, _, _, _, sm, _⟩ := hP
      exact ⟨sqs_same sm ht1, sqs_same sm ht2⟩
    · obtain ⟨v, y4, y5, rfl, sm, kv⟩ := hP
      have sZ : Same H' (upd H' Z (.tup [x, y])) := same_new nZ
      obtain ⟨d, hd, kd⟩ := hxs.get hx
      obtain ⟨e, he, ke⟩ := hys.get hy
      have hil : i < ds.length := (List.getElem?_eq_some_iff.mp hd).1
      have s2 := sm.trans sZ
      have hf2 := hf.same s2
      have kd2 := kd.same s2
      have ke2 := ke.same s2
      have kv2 := kv.same sZ
      have n1 := nd d (List.mem_of_getElem? hd)
      have n2 := ne e (List.mem_of_getElem? he)
      have acc : Nb p (1 + 301 * 6) (dotD p (ds.take i) (es.take i) (zeroD p)) := (dot_nb (fun d m => nd d (List.mem_of_mem_take m)) (fun d m => ne d (List.mem_of_mem_take m)) (nb_zero fp (Nat.le_refl 1))).up (by rw [List.length_take]; omega)
      have nx := dot_take (p := p) le hd he (zeroD p)
      have nt := timesD_nb n1 n2
      refine ⟨Z, _, rfl, SqT.of upd_same, rfl, _, _, rfl, _, _, rfl, rfl, ?_⟩
      generalize dotD p (ds.take i) (es.take i) (zeroD p) = acc0 at kv2 acc nx
      cases n1 with
      | @fr k r b1 b2 b3 =>
       obtain ⟨dxf, z, o, m, ea, _⟩ := (hf2.fr rfl).at_
       cases n2 with
       | @fr k r' c1 c2 c3 =>
        refine .inr ⟨_, rfl, f, dxf, _, rfl, ea, rfl, _, rfl, _, rfl, f, dxf, _, rfl, ea, rfl, _, rfl, _, rfl, f, x, y, r, r', rfl, hf2.fr rfl, kd2, ke2, ⟨b1, fin_up b2 (by omega), fin_up b3 (by omega)⟩, ⟨c1, fin_up c2 (by omega), fin_up c3 (by omega)⟩, fun l1 H3 s3 k3 => ?_⟩
        cases acc with
        | @fr _ qa la fa1 fa2 =>
          have et : timesD 0 (frD r) (frD r') = frD (timesF r r') := rfl
          rw [et] at nt
          obtain ⟨l3, f3, f4⟩ := nb_fr nt
          refine ⟨f, v, .ref l1, qa, timesF r r', rfl, (hf2.fr rfl).same s3, kv2.same s3, k3, ⟨la, fin_up fa1 (by omega), fin_up fa2 (by omega)⟩, ⟨l3, fin_up f3 (by omega), fin_up f4 (by omega)⟩, fun l H4 s4 k4 => ⟨_, _, _, rfl, (s2.trans s3).trans s4, ?_⟩⟩
          rw [nx]
          exact k4
        | rs n0 _ => exact absurd rfl n0
       | rs n0 _ => exact absurd rfl n0
      | @rs p k xn n b1 =>
        obtain ⟨⟨dxr, ha⟩, pr, le'⟩ := id (hf2.rs n)
        cases n2 with
        | fr _ _ _ => exact absurd rfl n
        | @rs _ _ yn _ c1 =>
        cases kd2
        cases ke2
        refine .inl ⟨_, rfl, f, dxr, _, rfl, ha, rfl, _, rfl, _, rfl, f, dxr, _, rfl, ha, rfl, _, rfl, _, rfl, f, p, (xn : Int), (yn : Int), rfl, hf2.rs n, med_nat b1 le', med_nat c1 le', ?_⟩
        have et : timesD p (.int (xn : Int)) (.int (yn : Int)) = .int ((xn : Int) * (yn : Int) % (p : Int)) := by
          unfold timesD
          rw [if_neg n]
          rfl
        rw [et] at nt nx
        cases acc with
        | fr _ _ _ => exact absurd rfl n
        | @rs _ _ xa _ xl =>
          cases kv2
          obtain ⟨rn, rfl', rl⟩ : ∃ rn : Nat, (xn : Int) * (yn : Int) % (p : Int) = (rn : Int) ∧ rn < p := by
            generalize eg : PyData.int ((xn : Int) * (yn : Int) % (p : Int)) = g at nt
            cases nt with
            | fr _ _ _ => exact absurd rfl n
            | @rs _ _ y _ yl => exact ⟨y, PyData.int.inj eg, yl⟩
          rw [rfl'] at nx
          refine ⟨f, p, (xa : Int), (rn : Int), (by show ([V.ref f, _, V.int ((xn : Int) * (yn : Int) % (p : Int))] : List V) = _; rw [rfl']), hf2.rs n, med_nat xl le', med_nat rl le', _, _, _, rfl, s2, ?_⟩
          rw [nx]
          unfold plusD
          rw [if_neg n]
          exact .int _
    · obtain ⟨v, y4, y5, rfl, sm, kv⟩ := hP
      rw [lx, List.take_length, le, List.take_length] at kv
      exact ⟨_, rfl, q v H' sm kv⟩
end
end K25
set_option Elab.async false
set_option linter.all false
set_option maxRecDepth 100000
set_option maxHeartbeats 4000000
set_option exponentiation.threshold 5000
set_option pp.maxSteps 900
namespace K25
open PySem PySem.Spec PyProof.Rows L2 TkS LamX NdefX
abbrev rowsD (R : List (List PyData)) : PyData := .tuple (R.map .tuple)
/-- rows of numbers of a known size -/
structure Gd (p n : Nat) (R : List (List PyData)) : Prop where
  m1 : 1 ≤ R.length
  m5 : R.length ≤ 5
  n1 : 1 ≤ n
  n6 : n ≤ 6
  ln : ∀ r ∈ R, r.length = n
  nb : ∀ r ∈ R, ∀ d ∈ r, Nb p 150 d
def tableD (p : Nat) (R S : List (List PyData)) : List (List PyData) := R.map fun r => S.map fun t => dotD p r t (zeroD p)
def sp_number_at (CR CF C : Addr) : Sp := fun vs H Q _ => ∃ (a f : Addr) (p n : Nat) (R S : List (List PyData)) (m : Int) (i j : Nat) (r t : List PyData), vs = [.ref a, .int (i : Int), .int (j : Int)] ∧ SpO C H a f (rowsD R) (rowsD S) m ∧ Fld CR CF H f p ∧ Gd p n R ∧ Gd p n S ∧ R[i]? = some r ∧ S[j]? = some t ∧
  ∀ v H', Same H H' → Dq H' v (dotD p r t (zeroD p)) → Q v H'
def sp_full_table_of (CR CF C : Addr) : Sp := fun vs H Q _ => ∃ (a f : Addr) (p n : Nat) (R S : List (List PyData)) (m : Int), vs = [.ref a] ∧ SpO C H a f (rowsD R) (rowsD S) m ∧ Fld CR CF H f p ∧ Gd p n R ∧ Gd p n S ∧ ∀ v H', Same H H' → Dq H' v (rowsD (tableD p R S)) → Q v H'
theorem dqs_at {H : Hp} {xs : List V} {ds : List PyData} {i : Nat} {d : PyData} (h : DqAll H xs ds) (e : ds[i]? = some d) : ∃ x, xs[i]? = some x ∧ Dq H x d := by
  have hi := (List.getElem?_eq_some_iff.mp e).1
  have l := h.len
  obtain ⟨d', e1, e2⟩ := h.get (List.getElem?_eq_getElem (by omega : i < xs.length))
  rw [e] at e1
  cases e1
  exact ⟨_, List.getElem?_eq_getElem (by omega), e2⟩
theorem range_map {α β : Type} (l : List α) (z : α) (g : α → β) : ((List.range l.length).filter fun _ => true).map (fun i => g (l.getD i z)) = l.map g := by
  rw [List.filter_eq_self.mpr fun _ _ => rfl]
  refine List.ext_getElem (by simp) fun i h1 h2 => ?_
  simp at h1
  simp [List.getD_eq_getElem?_getD, h1]
theorem nb_noL {p k : Nat} {d : PyData} (h : Nb p k d) : noList d = true := by
  cases h <;> rfl
theorem Gd.dot {p n : Nat} {R S : List (List PyData)} (fp : Fp p) (gR : Gd p n R) (gS : Gd p n S) {r t : List PyData} (hr : r ∈ R) (ht : t ∈ S) : Nb p 1807 (dotD p r t (zeroD p)) :=
  (dot_nb (gR.nb r hr) (gS.nb t ht) (nb_zero fp (Nat.le_refl 1))).up (by have := gR.ln r hr; have := gR.n6; omega)
section
variable {P : Program} {w : World} {K : PySem.W.Frag} {mg : Str → Option Value} {base : Heap} {cw Pw : Addr × Addr}
theorem ok_number_at (T : Txt K mg) : FnOk P w K mg base CX0 7 T.f_number_at T.d_number_at ["space", "point", "wall"] (sp_number_at T.C_RestField T.C_FractionField T.C_Space) := by
  refine T.F_number_at.ok sc_number_at (fun vs H Q E h => ?_) (fun cdv A outer s H vs Q E hr h => ?_)
  · obtain ⟨a, f, p, n, R, S, m, i, j, r, t, rfl, _⟩ := h
    rfl
  · obtain ⟨a, f, p, n, R, S, m, i, j, r, t, rfl, so, hf, gR, gS, hr', ht, q⟩ := h
    refine ⟨_, (pss_one (ps_ret (pe_call (ok_product_sum T) (hr.mono (by decide)) (by rfl) T.g_product_sum T.F_product_sum.kp T.b_product_sum .nil pass0 (pa_cons (pe_fld (pv 0) rfl) (pa_cons (pe_ix ix_tup (pe_fld (pv 0) rfl) (pv 1) (fun _ _ => rfl)) (pa_cons (pe_ix ix_tup (pe_fld (pv 0) rfl) (pv 2) (fun _ _ => rfl)) pa_nil)))))), ?_⟩
    obtain ⟨dx, vp, vw, ha, kp, kw⟩ := so.at_
    cases kp with
    | @tup b xs _ e1 u1 =>
    cases kw with
    | @tup c ys _ e2 u2 =>
    obtain ⟨x, hx, kx⟩ := dqs_at u1 (i := i) (by rw [List.getElem?_map, hr']; rfl)
    obtain ⟨y, hy, ky⟩ := dqs_at u2 (i := j) (by rw [List.getElem?_map, ht]; rfl)
    have mr := List.mem_of_getElem? hr'
    have mt := List.mem_of_getElem? ht
    refine ⟨_, rfl, a, T.C_Space, dx, _, _, rfl, ha, T.cl_Space, T.na_Space_field, rfl, ?_⟩
    refine ⟨_, rfl, a, T.C_Space, dx, _, _, rfl, ha, T.cl_Space, T.na_Space_points, rfl, _, rfl, b, xs, (i : Int), x, rfl, rfl, SqT.of e1, at_of (j := i) rfl hx, ?_⟩
    refine ⟨_, rfl, a, T.C_Space, dx, _, _, rfl, ha, T.cl_Space, T.na_Space_walls, rfl, _, rfl, c, ys, (j : Int), y, rfl, rfl, SqT.of e2, at_of (j := j) rfl hy, ?_⟩
    exact ⟨f, p, x, y, .tuple r, .tuple t, r, t, rfl, hf, kx, rfl, ky, rfl, by rw [gR.ln r mr, gS.ln t mt], by rw [gR.ln r mr]; exact gR.n6, gR.nb r mr, gS.nb t mt, q⟩
end
end K25
set_option Elab.async false
set_option linter.all false
set_option maxRecDepth 100000
set_option maxHeartbeats 4000000
/-! comprehensions with two fors over tuples, by enumerate or not -/
namespace TkS
open PySem PySem.Spec PyProof.Rows L2
structure Wlk (J : It) (xs : List V) (ok : Hp → Prop) (Y : Nat → V → V → Hp → Hp → Prop) : Prop where
  go : ∀ i x H, ok H → xs[i]? = some x → J.go i H
  stop : ∀ i H, ok H → xs.length ≤ i → J.stop i H
  yld : ∀ i H v H', ok H → J.yld i H v H' → ∃ x, xs[i]? = some x ∧ Y i x v H H'
def Yenum : Nat → V → V → Hp → Hp → Prop := fun i x v H H' => ∃ T, v = .ref T ∧ H T = none ∧ H' = upd H T (.tup [.int (i : Nat), x])
def Ytup : Nat → V → V → Hp → Hp → Prop := fun _ x v H H' => v = x ∧ H' = H
theorem wlk_enum {K : PySem.W.Frag} {a : Addr} {xs : List V} : Wlk (IteT K a) xs (fun H => SqT K H a xs) Yenum where
  go i x H h e := ⟨xs, x, h, e⟩
  stop i H h e := ⟨xs, h, e⟩
  yld i H v H' h y := by
    obtain ⟨T, x, e1, e2, e3, e4⟩ := y
    exact ⟨x, e4 xs h, T, e1, e2, e3⟩
theorem wlk_tup {K : PySem.W.Frag} {a : Addr} {xs : List V} : Wlk (Itt K a) xs (fun H => SqT K H a xs) Ytup where
  go i x H h e := ⟨xs, x, h, e⟩
  stop i H h e := ⟨xs, h, e⟩
  yld i H v H' h y := by
    obtain ⟨e1, e2⟩ := y
    exact ⟨v, e2 xs h, rfl, e1⟩
section
variable {g g1 : TG} {tt tt1 : TT} {te : TE} {vs vs1 : List Nat} {wi1 : TI}
theorem lc2_in {J1 : It} {ys : List V} {ok1 : Hp → Prop} {Y1 : Nat → V → V → Hp → Hp → Prop} {D : Addr} {σ2 : L2.St} {H4 : Hp} {Nx : Hp → Prop} (W : Wlk J1 ys ok1 Y1) (Pv : Nat → Hp → Prop) (h0 : Pv 0 H4) (hok : ∀ j H', Pv j H' → ok1 H')
    (hs : ∀ j y v H5 H6, ys[j]? = some y → Pv j H5 → Y1 j y v H5 H6 → g1 v (wipe σ2 vs1) H6 fun σ3 H7 => wipe σ3 vs1 = wipe σ2 vs1 ∧ tt1 σ3 H7 fun b H8 => if b = true then te σ3 H8 fun u H9 => ∃ acc, H9 D = some (.lst acc) ∧ acc.length < sizeLine ∧ Pv (j + 1) (upd H9 D (.lst (acc ++ [u]))) else Pv (j + 1) H8)
    (hd : ∀ H', Pv ys.length H' → Nx H') :
    ∃ W1 : Nat → Nat → Hp → Prop, (∃ m, W1 0 m H4) ∧ ∀ j k H, W1 j k H →
      (J1.stop j H ∧ Nx H) ∨ (J1.go j H ∧ ∃ Nx1 : Hp → Prop, (∀ H', Nx1 H' → ∃ k', k' < k ∧ W1 (j + 1) k' H') ∧ ∀ x H', J1.yld j H x H' → g1 x (wipe σ2 vs1) H' fun σ3 H5 => wipe σ3 vs1 = wipe σ2 vs1 ∧ tt1 σ3 H5 fun b H6 =>
        if b = true then te σ3 H6 fun y H7 => ∃ acc, H7 D = some (.lst acc) ∧ acc.length < sizeLine ∧ Nx1 (upd H7 D (.lst (acc ++ [y]))) else Nx1 H6) := by
  refine ⟨fun j k H' => k = ys.length - j ∧ j ≤ ys.length ∧ Pv j H', ⟨ys.length, rfl, Nat.zero_le _, h0⟩, ?_⟩
  rintro j k H' ⟨rfl, hj, p⟩
  rcases Nat.lt_or_ge j ys.length with hlt | hge
  · refine .inr ⟨W.go j _ _ (hok j H' p) (List.getElem?_eq_getElem hlt), Pv (j + 1), fun H2 p2 => ⟨ys.length - (j + 1), by omega, rfl, hlt, p2⟩, fun v H2 y => ?_⟩
    obtain ⟨x, hx, hy⟩ := W.yld j H' v H2 (hok j H' p) y
    exact hs j x v H' H2 hx p hy
  · have e : j = ys.length := by omega
    subst e
    exact .inl ⟨W.stop _ _ (hok _ H' p) (Nat.le_refl _), hd H' p⟩
theorem lc2_out {J : It} {xs : List V} {ok : Hp → Prop} {Y : Nat → V → V → Hp → Hp → Prop} {D : Addr} {σ : L2.St} {H1 : Hp} {Qd : Hp → Prop} (W : Wlk J xs ok Y) (Pv : Nat → Hp → Prop) (h0 : Pv 0 (upd H1 D (.lst []))) (hok : ∀ i H', Pv i H' → ok H')
    (hs : ∀ i x v H' H'', xs[i]? = some x → Pv i H' → Y i x v H' H'' → g v (wipe σ vs) H'' fun σ2 H2 => wipe σ2 vs = wipe σ vs ∧ tt σ2 H2 fun b H3 =>
      if b = true then wi1 σ2 H3 fun J1 H4 => ∃ W1 : Nat → Nat → Hp → Prop, (∃ m, W1 0 m H4) ∧ ∀ j k H, W1 j k H →
      (J1.stop j H ∧ Pv (i + 1) H) ∨ (J1.go j H ∧ ∃ Nx1 : Hp → Prop, (∀ H', Nx1 H' → ∃ k', k' < k ∧ W1 (j + 1) k' H') ∧ ∀ x H', J1.yld j H x H' → g1 x (wipe σ2 vs1) H' fun σ3 H5 => wipe σ3 vs1 = wipe σ2 vs1 ∧ tt1 σ3 H5 fun b H6 =>
        if b = true then te σ3 H6 fun y H7 => ∃ acc, H7 D = some (.lst acc) ∧ acc.length < sizeLine ∧ Nx1 (upd H7 D (.lst (acc ++ [y]))) else Nx1 H6)
      else Pv (i + 1) H3)
    (hd : ∀ H', Pv xs.length H' → Qd H') :
    ∃ W : Nat → Nat → Hp → Prop, (∃ m, W 0 m (upd H1 D (.lst []))) ∧ ∀ i m H, W i m H →
  (J.stop i H ∧ Qd H) ∨ (J.go i H ∧ ∃ Nx : Hp → Prop, (∀ H', Nx H' → ∃ m', m' < m ∧ W (i + 1) m' H') ∧ ∀ x H', J.yld i H x H' → g x (wipe σ vs) H' fun σ2 H2 => wipe σ2 vs = wipe σ vs ∧ tt σ2 H2 fun b H3 =>
    if b = true then wi1 σ2 H3 fun J1 H4 => ∃ W1 : Nat → Nat → Hp → Prop, (∃ m, W1 0 m H4) ∧ ∀ j k H, W1 j k H →
      (J1.stop j H ∧ Nx H) ∨ (J1.go j H ∧ ∃ Nx1 : Hp → Prop, (∀ H', Nx1 H' → ∃ k', k' < k ∧ W1 (j + 1) k' H') ∧ ∀ x H', J1.yld j H x H' → g1 x (wipe σ2 vs1) H' fun σ3 H5 => wipe σ3 vs1 = wipe σ2 vs1 ∧ tt1 σ3 H5 fun b H6 =>
        if b = true then te σ3 H6 fun y H7 => ∃ acc, H7 D = some (.lst acc) ∧ acc.length < sizeLine ∧ Nx1 (upd H7 D (.lst (acc ++ [y]))) else Nx1 H6)
    else Nx H3) := by
  refine ⟨fun i k H' => k = xs.length - i ∧ i ≤ xs.length ∧ Pv i H', ⟨xs.length, rfl, Nat.zero_le _, h0⟩, ?_⟩
  rintro i k H' ⟨rfl, hi, p⟩
  rcases Nat.lt_or_ge i xs.length with hlt | hge
  · refine .inr ⟨W.go i _ _ (hok i H' p) (List.getElem?_eq_getElem hlt), Pv (i + 1), fun H2 p2 => ⟨xs.length - (i + 1), by omega, rfl, hlt, p2⟩, fun v H2 y => ?_⟩
    obtain ⟨x, hx, hy⟩ := W.yld i H' v H2 (hok i H' p) y
    exact hs i x v H' H2 hx p hy
  · have e : i = xs.length := by omega
    subst e
    exact .inl ⟨W.stop _ _ (hok _ H' p) (Nat.le_refl _), hd H' p⟩
end
/-! what such a comprehension gathers -/
def selI (f : PyData → Bool) (e : Nat → PyData → PyData) : Nat → List PyData → List PyData
  | _, [] => []
  | j, d :: l => (if f d = true then [e j d] else []) ++ selI f e (j + 1) l
theorem selI_snoc {f : PyData → Bool} {e : Nat → PyData → PyData} {d : PyData} : ∀ {j : Nat} {l : List PyData}, selI f e j (l ++ [d]) = selI f e j l ++ (if f d = true then [e (j + l.length) d] else [])
  | j, [] => by
    show (if f d = true then [e j d] else []) ++ [] = [] ++ _
    rw [List.append_nil, List.nil_append]
    rfl
  | j, x :: l => by
    show (if f x = true then [e j x] else []) ++ selI f e (j + 1) (l ++ [d]) = ((if f x = true then [e j x] else []) ++ selI f e (j + 1) l) ++ _
    rw [selI_snoc (j := j + 1) (l := l), List.append_assoc, List.length_cons, show j + 1 + l.length = j + (l.length + 1) by omega]
theorem selI_len {f : PyData → Bool} {e : Nat → PyData → PyData} : ∀ {j : Nat} {l : List PyData}, (selI f e j l).length ≤ l.length
  | _, [] => Nat.le_refl _
  | j, d :: l => by
    show ((if f d = true then [e j d] else []) ++ selI f e (j + 1) l).length ≤ _
    have := selI_len (f := f) (e := e) (j := j + 1) (l := l)
    rw [List.length_append, List.length_cons]
    split
    · rw [List.length_singleton]
      omega
    · rw [List.length_nil]
      omega
def flatI (F : Nat → List PyData → List PyData) : Nat → List (List PyData) → List PyData
  | _, [] => []
  | i, r :: rs => F i r ++ flatI F (i + 1) rs
theorem flatI_snoc {F : Nat → List PyData → List PyData} {r : List PyData} : ∀ {i : Nat} {rs : List (List PyData)}, flatI F i (rs ++ [r]) = flatI F i rs ++ F (i + rs.length) r
  | i, [] => by
    show F i r ++ [] = [] ++ _
    rw [List.append_nil, List.nil_append]
    rfl
  | i, x :: rs => by
    show F i x ++ flatI F (i + 1) (rs ++ [r]) = (F i x ++ flatI F (i + 1) rs) ++ _
    rw [flatI_snoc (i := i + 1) (rs := rs), List.append_assoc, List.length_cons, show i + 1 + rs.length = i + (rs.length + 1) by omega]
theorem flatI_len {F : Nat → List PyData → List PyData} {n : Nat} (h : ∀ i r, r.length ≤ n → (F i r).length ≤ n) : ∀ {i : Nat} {rs : List (List PyData)}, (∀ r ∈ rs, r.length ≤ n) → (flatI F i rs).length ≤ rs.length * n
  | _, [], _ => Nat.zero_le _
  | i, r :: rs, hr => by
    show (F i r ++ flatI F (i + 1) rs).length ≤ _
    have h1 := h i r (hr r List.mem_cons_self)
    have h2 := flatI_len h (i := i + 1) (rs := rs) fun r m => hr r (List.mem_cons_of_mem _ m)
    rw [List.length_append, List.length_cons, Nat.succ_mul]
    omega
end TkS
set_option Elab.async false
set_option linter.all false
set_option maxRecDepth 100000
set_option maxHeartbeats 4000000
set_option exponentiation.threshold 5000
set_option pp.maxSteps 900
namespace K25
open PySem PySem.Spec PyProof.Rows L2 TkS LamX NdefX
def nzB (p : Nat) (d : PyData) : Bool := !PyData.eqv d (zeroD p)
/-- the table of a space: its numbers that aren't nothing, row by row -/
def tabL (p : Nat) (F : List (List PyData)) : List PyData := flatI (fun _ r => selI (nzB p) (fun _ d => d) 0 r) 0 F
/-- the pairs of a space's picture, as data -/
def prsL (p : Nat) (F : List (List PyData)) : List PyData := flatI (fun i r => selI (nzB p) (fun j _ => prD (i, j)) 0 r) 0 F
theorem selI_mem {f : PyData → Bool} {e : Nat → PyData → PyData} {x : PyData} : ∀ {j : Nat} {l : List PyData}, x ∈ selI f e j l → ∃ k d, l[k]? = some d ∧ f d = true ∧ x = e (j + k) d
  | _, [], h => nomatch h
  | j, d :: l, h => by
    rcases List.mem_append.mp h with h | h
    · split at h
      · rename_i c
        rw [List.mem_singleton] at h
        exact ⟨0, d, rfl, c, h⟩
      · cases h
    · obtain ⟨k, d', e1, e2, e3⟩ := selI_mem h
      exact ⟨k + 1, d', e1, e2, by rw [e3, show j + 1 + k = j + (k + 1) by omega]⟩
theorem flatI_mem {F : Nat → List PyData → List PyData} {x : PyData} : ∀ {i : Nat} {rs : List (List PyData)}, x ∈ flatI F i rs → ∃ k r, rs[k]? = some r ∧ x ∈ F (i + k) r
  | _, [], h => nomatch h
  | i, r :: rs, h => by
    rcases List.mem_append.mp h with h | h
    · exact ⟨0, r, rfl, h⟩
    · obtain ⟨k, r', e1, e2⟩ := flatI_mem h
      exact ⟨k + 1, r', e1, by rw [show i + (k + 1) = i + 1 + k by omega]; exact e2⟩
theorem sel_nodup {f : PyData → Bool} {i : Int} : ∀ {j : Nat} {l : List PyData}, ((selI f (fun k _ => prD (i, (k : Int))) j l).map prOf).Nodup
  | _, [] => .nil
  | j, d :: l => by
    show (((if f d = true then [prD (i, (j : Int))] else []) ++ selI f _ (j + 1) l).map prOf).Nodup
    have ih := sel_nodup (f := f) (i := i) (j := j + 1) (l := l)
    split
    · show (prOf (prD (i, (j : Int))) :: (selI f _ (j + 1) l).map prOf).Nodup
      refine List.nodup_cons.mpr ⟨fun m => ?_, ih⟩
      obtain ⟨x, mx, ex⟩ := List.mem_map.mp m
      obtain ⟨k, d', _, _, rfl⟩ := selI_mem mx
      rw [prOf_prD, prOf_prD] at ex
      have := congrArg Prod.snd ex
      dsimp only at this
      omega
    · exact ih
theorem flat_nodup {f : PyData → Bool} : ∀ {i : Nat} {rs : List (List PyData)}, ((flatI (fun i r => selI f (fun k _ => prD ((i : Int), (k : Int))) 0 r) i rs).map prOf).Nodup
  | _, [] => .nil
  | i, r :: rs => by
    show ((selI f _ 0 r ++ flatI _ (i + 1) rs).map prOf).Nodup
    rw [List.map_append, List.nodup_append]
    refine ⟨sel_nodup, flat_nodup, fun a ma b mb e => ?_⟩
    obtain ⟨x, mx, rfl⟩ := List.mem_map.mp ma
    obtain ⟨y, my, rfl⟩ := List.mem_map.mp mb
    obtain ⟨k, d, _, _, rfl⟩ := selI_mem mx
    obtain ⟨k2, r2, _, m2⟩ := flatI_mem my
    obtain ⟨k3, d3, _, _, rfl⟩ := selI_mem m2
    rw [prOf_prD, prOf_prD] at e
    have := congrArg Prod.fst e
    dsimp only at this
    omega
def prsZ (p : Nat) (F : List (List PyData)) : List (Int × Int) := (prsL p F).map prOf
theorem prsL_mem {p : Nat} {F : List (List PyData)} {x : PyData} (h : x ∈ prsL p F) : ∃ (i j : Nat) (r : List PyData) (d : PyData), F[i]? = some r ∧ r[j]? = some d ∧ nzB p d = true ∧ x = prD ((i : Int), (j : Int)) := by
  obtain ⟨i, r, e1, m⟩ := flatI_mem h
  obtain ⟨j, d, e2, e3, e4⟩ := selI_mem m
  exact ⟨i, j, r, d, e1, e2, e3, by rw [e4]; simp⟩
theorem prsL_is (p : Nat) (F : List (List PyData)) : prsL p F = (prsZ p F).map prD := by
  unfold prsZ
  rw [List.map_map]
  refine (List.map_id _).symm.trans (List.map_congr_left fun x m => ?_)
  obtain ⟨i, j, r, d, _, _, _, rfl⟩ := prsL_mem m
  rfl
theorem prsZ_nodup (p : Nat) (F : List (List PyData)) : (prsZ p F).Nodup := flat_nodup
theorem prsZ_ins {p n m : Nat} {F : List (List PyData)} (hF : F.length = n) (hr : ∀ r ∈ F, r.length = m) : Ins n m (prsZ p F) := fun q h => by
  obtain ⟨x, mx, rfl⟩ := List.mem_map.mp h
  obtain ⟨i, j, r, d, e1, e2, _, rfl⟩ := prsL_mem mx
  have h1 := (List.getElem?_eq_some_iff.mp e1).1
  have h2 := (List.getElem?_eq_some_iff.mp e2).1
  rw [hr r (List.mem_of_getElem? e1)] at h2
  rw [prOf_prD]
  exact ⟨by dsimp only; omega, by dsimp only; omega, by dsimp only; omega, by dsimp only; omega⟩
theorem table_len {p : Nat} {R S : List (List PyData)} : (tableD p R S).length = R.length ∧ ∀ r ∈ tableD p R S, r.length = S.length := ⟨by unfold tableD; rw [List.length_map], fun r m => by
  obtain ⟨x, _, rfl⟩ := List.mem_map.mp m
  rw [List.length_map]⟩
theorem table_nb {p n : Nat} {R S : List (List PyData)} (fp : Fp p) (gR : Gd p n R) (gS : Gd p n S) : ∀ r ∈ tableD p R S, ∀ d ∈ r, Nb p 1807 d := fun r m d md => by
  obtain ⟨x, mx, rfl⟩ := List.mem_map.mp m
  obtain ⟨t, mt, rfl⟩ := List.mem_map.mp md
  exact gR.dot fp gS mx mt
theorem sel_take {f : PyData → Bool} {e : Nat → PyData → PyData} {r : List PyData} {j : Nat} {d : PyData} (h : r[j]? = some d) : selI f e 0 (r.take (j + 1)) = selI f e 0 (r.take j) ++ if f d = true then [e j d] else [] := by
  have hj := (List.getElem?_eq_some_iff.mp h).1
  rw [List.take_add_one, h]
  show selI f e 0 (r.take j ++ [d]) = _
  rw [selI_snoc, List.length_take, Nat.min_eq_left (Nat.le_of_lt hj), Nat.zero_add]
theorem flat_take {F : Nat → List PyData → List PyData} {rs : List (List PyData)} {i : Nat} {r : List PyData} (h : rs[i]? = some r) : flatI F 0 (rs.take (i + 1)) = flatI F 0 (rs.take i) ++ F i r := by
  have hi := (List.getElem?_eq_some_iff.mp h).1
  rw [List.take_add_one, h]
  show flatI F 0 (rs.take i ++ [r]) = _
  rw [flatI_snoc, List.length_take, Nat.min_eq_left (Nat.le_of_lt hi), Nat.zero_add]
theorem flat_sel_len {f : PyData → Bool} {e : Nat → Nat → PyData → PyData} {rs : List (List PyData)} (h5 : rs.length ≤ 5) (hr : ∀ r ∈ rs, r.length ≤ 5) : (flatI (fun i r => selI f (e i) 0 r) 0 rs).length ≤ 25 := by
  have := flatI_len (F := fun i r => selI f (e i) 0 r) (n := 5) (fun i r h => Nat.le_trans selI_len h) (i := 0) hr
  omega
def sp_table_of_space (CR CF C : Addr) : Sp := fun vs H Q _ => ∃ (a f : Addr) (p n : Nat) (R S : List (List PyData)) (m : Int), vs = [.ref a] ∧ SpO C H a f (rowsD R) (rowsD S) m ∧ Fld CR CF H f p ∧ Gd p n R ∧ Gd p n S ∧ ∀ v H', Same H H' → Dq H' v (.tuple (tabL p (tableD p R S))) → Q v H'
def sp_picture_of (CR CF C CP : Addr) : Sp := fun vs H Q _ => ∃ (a f : Addr) (p n : Nat) (R S : List (List PyData)) (m : Int), vs = [.ref a] ∧ SpO C H a f (rowsD R) (rowsD S) m ∧ Fld CR CF H f p ∧ Gd p n R ∧ Gd p n S ∧ ∀ b H', Same H H' → Pic CP H' b R.length S.length (srt (prsZ p (tableD p R S))) → Q (.ref b) H'
theorem yes_go {R : Bool → Hp → Prop} {σ : L2.St} {H : Hp} (h : R true H) : tYes σ H R := h
theorem ret_cbE {r : List V → Hp → VK → Prop} {te : TE} {D : Ends} {σ : L2.St} {H : Hp} (h : te σ H fun v H1 => r [v] H1 D.rt) : tRet (tCB r (tCons te tNil)) D σ H := h
section
variable {P : Program} {w : World} {K : PySem.W.Frag} {mg : Str → Option Value} {base : Heap} {cw Pw : Addr × Addr}
end
end K25
set_option Elab.async false
set_option linter.all false
set_option maxRecDepth 100000
set_option maxHeartbeats 4000000
set_option exponentiation.threshold 5000
set_option pp.maxSteps 900
namespace K25
open PySem PySem.Spec PyProof.Rows L2 TkS LamX NdefX
theorem prs_take {p : Nat} {F : List (List PyData)} {i : Nat} {r : List PyData} (h : F[i]? = some r) : prsL p (F.take (i + 1)) = prsL p (F.take i) ++ selI (nzB p) (fun j _ => prD ((i : Int), (j : Int))) 0 r := flat_take (F := fun i r => selI (nzB p) (fun j _ => prD ((i : Int), (j : Int))) 0 r) h
section
variable {P : Program} {w : World} {K : PySem.W.Frag} {mg : Str → Option Value} {base : Heap} {cw Pw : Addr × Addr}
end
end K25
set_option Elab.async false
set_option linter.all false
set_option maxRecDepth 100000
set_option maxHeartbeats 4000000
set_option exponentiation.threshold 5000
set_option pp.maxSteps 900
namespace K25
open PySem PySem.Spec PyProof.Rows L2 TkS LamX NdefX
theorem Gd.shp {p n : Nat} {R : List (List PyData)} (g : Gd p n R) : SeqAt.shaped (rowsD R) = true := by
  refine low_shp (n := 4) ?_ (by decide)
  refine low_tup fun x m => ?_
  obtain ⟨r, mr, rfl⟩ := List.mem_map.mp m
  refine low_tup fun d md => ?_
  cases g.nb r mr d md with
  | fr _ _ _ => rfl
  | rs _ _ => rfl
def sp_Space_eq (CR CF C : Addr) : Sp := fun vs H Q _ => ∃ (a b f g : Addr) (p q n n' : Nat) (R S R' S' : List (List PyData)) (m m' : Int), vs = [.ref a, .ref b] ∧ SpO C H a f (rowsD R) (rowsD S) m ∧ SpO C H b g (rowsD R') (rowsD S') m' ∧ Fld CR CF H f p ∧ Fld CR CF H g q ∧ (p = 0 ↔ q = 0) ∧
  Gd p n R ∧ Gd p n S ∧ Gd q n' R' ∧ Gd q n' S' ∧ Q (.bl (decide (p = q) && (PyData.eqv (rowsD R) (rowsD R') && PyData.eqv (rowsD S) (rowsD S')))) H
section
variable {P : Program} {w : World} {K : PySem.W.Frag} {mg : Str → Option Value} {base : Heap} {cw Pw : Addr × Addr}
theorem ok_Space_eq (T : Txt K mg) : FnOk P w K mg base CX0 3 T.f_Space_eq T.d_Space_eq ["self", "other"] (sp_Space_eq T.C_RestField T.C_FractionField T.C_Space) := by
  refine T.F_Space_eq.ok sc_Space_eq (fun vs H Q E h => ?_) (fun cdv A outer s H vs Q E hr h => ?_)
  · obtain ⟨a, b, f, g, p, q, n, n', R, S, R', S', m, m', rfl, _⟩ := h
    rfl
  · obtain ⟨a, b, f, g, p, q, n, n', R, S, R', S', m, m', rfl, so, so', hf, hg, pq, gR, gS, gR', gS', hQ⟩ := h
    refine ⟨_, (pss_one (ps_ret (pe_and (pe_callB call_isi (by rfl) T.m_isinstance (by decide +kernel) (pa_cons (pv 1) (pa_cons (pe_glob (v := .ref T.C_Space) rfl T.g_Space rfl) pa_nil))) (pe_and (pe_cmpR (OpR.or (op_eqOwn (ok_RestField_eq T) (hr.mono (by decide)) T.RestField_eq_at T.RestField_eq_fn T.b_RestField_eq pass0) (op_eqOwn (ok_FractionField_eq T) (hr.mono (by decide)) T.FractionField_eq_at T.FractionField_eq_fn T.b_FractionField_eq pass0)) (pe_fld (pv 0) rfl) (pe_fld (pv 1) rfl) (nomark _)) (pe_and (pe_cmpR (op_eqD hr.units) (pe_fld (pv 0) rfl) (pe_fld (pv 1) rfl) (nomark _)) (pe_one (pe_cmpR (op_eqD hr.units) (pe_fld (pv 0) rfl) (pe_fld (pv 1) rfl) (nomark _)))))))), ?_⟩
    obtain ⟨dx, vp, vw, ha, kp, kw⟩ := so.at_
    obtain ⟨dy, vp', vw', hb, kp', kw'⟩ := so'.at_
    refine ⟨_, rfl, .ref b, .ref T.C_Space, .ref T.C_Space, .ref T.C_Space, true, rfl, .own _, .base (.ins hb T.cl_Space T.Space_k_class T.Space_k_get T.Space_k_takes T.Space_k_mro), T.Space_k_isp, true, rfl, iteT ?_⟩
    refine ⟨_, rfl, a, T.C_Space, dx, _, _, rfl, ha, T.cl_Space, T.na_Space_field, rfl, _, rfl, b, T.C_Space, dy, _, _, rfl, hb, T.cl_Space, T.na_Space_field, rfl, ?_⟩
    have go : ∀ (Q1 : VK), (∀ v, v = V.bl (decide (p = q)) → Q1 v H) → (∃ a b dx dy fs gs, V.ref f = .ref a ∧ V.ref g = .ref b ∧ H a = some (.ins T.C_RestField dx fs) ∧ H b = some (.ins T.C_RestField dy gs) ∧ sp_rest_eq T.C_RestField T.C_FractionField [.ref a, .ref b] H (fun v H' => (∃ r, v = .bl r) ∧ Q1 v H') E0) ∨
        (∃ a b dx dy fs gs, V.ref f = .ref a ∧ V.ref g = .ref b ∧ H a = some (.ins T.C_FractionField dx fs) ∧ H b = some (.ins T.C_FractionField dy gs) ∧ sp_fr_eq T.C_FractionField T.C_RestField [.ref a, .ref b] H (fun v H' => (∃ r, v = .bl r) ∧ Q1 v H') E0) := fun Q1 h1 => by
      by_cases c : p = 0
      · have c' := pq.mp c
        obtain ⟨dx1, _, _, _, e1, _⟩ := (hf.fr c).at_
        obtain ⟨dx2, _, _, _, e2, _⟩ := (hg.fr c').at_
        refine .inr ⟨f, g, dx1, dx2, _, _, rfl, rfl, e1, e2, f, g, rfl, hf.fr c, .inl ⟨hg.fr c', ⟨_, rfl⟩, h1 _ ?_⟩⟩
        rw [c, c']
        rfl
      · have c' : q ≠ 0 := fun z => c (pq.mpr z)
        obtain ⟨dx1, e1⟩ := (hf.rs c).at_
        obtain ⟨dx2, e2⟩ := (hg.rs c').at_
        exact .inl ⟨f, g, dx1, dx2, _, _, rfl, rfl, e1, e2, f, g, p, rfl, hf.rs c, .inl ⟨q, hg.rs c', ⟨_, rfl⟩, h1 _ rfl⟩⟩
    refine go _ fun v ev => ?_
    subst ev
    refine ⟨_, rfl, ?_⟩
    by_cases c : p = q
    · rw [decide_eq_true c] at hQ ⊢
      refine iteT ⟨_, rfl, a, T.C_Space, dx, _, _, rfl, ha, T.cl_Space, T.na_Space_points, rfl, _, rfl, b, T.C_Space, dy, _, _, rfl, hb, T.cl_Space, T.na_Space_points, rfl, _, _, kp.dp, kp'.dp, gR.shp, gR'.shp, _, rfl, ?_⟩
      cases c2 : PyData.eqv (rowsD R) (rowsD R') with
      | false =>
        rw [c2] at hQ
        exact iteF hQ
      | true =>
        rw [c2] at hQ
        refine iteT ⟨_, rfl, a, T.C_Space, dx, _, _, rfl, ha, T.cl_Space, T.na_Space_walls, rfl, _, rfl, b, T.C_Space, dy, _, _, rfl, hb, T.cl_Space, T.na_Space_walls, rfl, _, _, kw.dp, kw'.dp, gS.shp, gS'.shp, ?_⟩
        exact hQ
    · rw [decide_eq_false c] at hQ ⊢
      exact iteF hQ
end
end K25
set_option Elab.async false
set_option linter.all false
set_option maxRecDepth 100000
set_option maxHeartbeats 4000000
set_option exponentiation.threshold 5000
set_option pp.maxSteps 900
namespace K25
open PySem PySem.Spec PyProof.Rows L2 TkS LamX NdefX
/-- the heap without the law's state: its list h, and g, the list of great numbers in it -/
def Vw (h g : Addr) (H : Hp) : Hp := TkS.Off g (TkS.Off h H)
structure Hnd (h g : Addr) (H : Hp) : Prop where
  ne : h ≠ g
  ex : ∃ (cells : List Int) (t c : Int), H h = some (.lst [.ref g, .int t, .int c]) ∧ H g = some (.lst (cells.map V.int)) ∧ 0 ≤ t ∧ t < 2 ^ 40 ∧ ∀ z ∈ cells, (0 : Int) ≤ z
/-- all but the state is kept -/
def Kp (h g : Addr) (H H' : Hp) : Prop := ∀ b o, b ≠ h → b ≠ g → H b = some o → H' b = some o
theorem Kp.refl {h g : Addr} {H : Hp} : Kp h g H H := fun _ _ _ _ e => e
theorem Kp.trans {h g : Addr} {H H1 H2 : Hp} (a : Kp h g H H1) (b : Kp h g H1 H2) : Kp h g H H2 := fun c o n m e => b c o n m (a c o n m e)
theorem Kp.of {h g : Addr} {H H' : Hp} (s : Same H H') : Kp h g H H' := fun b o _ _ e => s b o e
theorem Kp.vw {h g : Addr} {H H' : Hp} (k : Kp h g H H') : Same (Vw h g H) (Vw h g H') := by
  intro b o e
  unfold Vw TkS.Off at e ⊢
  by_cases c1 : b = g
  · rw [if_pos c1] at e
    cases e
  · rw [if_neg c1] at e ⊢
    by_cases c2 : b = h
    · rw [if_pos c2] at e
      cases e
    · rw [if_neg c2] at e ⊢
      exact k b o c2 c1 e
theorem vw_at {h g a : Addr} {H : Hp} {o : HO} (n1 : a ≠ h) (n2 : a ≠ g) (e : H a = some o) : Vw h g H a = some o := off_at n2 (off_at n1 e)
theorem vw_same {h g : Addr} {H : Hp} : Same (Vw h g H) H := fun b o e => off_same (h := h) b o (off_same (h := g) b o e)
theorem Hnd.same {h g : Addr} {H H' : Hp} (x : Hnd h g H) (s : Same H H') : Hnd h g H' := by
  obtain ⟨cells, t, c, h1, h2, q⟩ := x.ex
  exact ⟨x.ne, cells, t, c, s _ _ h1, s _ _ h2, q⟩
theorem Hnd.ext {h g : Addr} {H H' : Hp} (x : Hnd h g H) (s : ExtN H H') : Hnd h g H' := by
  obtain ⟨cells, t, c, h1, h2, q⟩ := x.ex
  exact ⟨x.ne, cells, t, c, s _ _ h1 (fun _ z => nomatch z), s _ _ h2 (fun _ z => nomatch z), q⟩
theorem Hnd.fresh {h g a : Addr} {H : Hp} (x : Hnd h g H) (n : H a = none) : a ≠ h ∧ a ≠ g := by
  obtain ⟨cells, t, c, h1, h2, q⟩ := x.ex
  exact ⟨fun z => (by rw [z, h1] at n; cases n), fun z => (by rw [z, h2] at n; cases n)⟩
/-- what was made since stands outside the state -/
theorem Hnd.vwS {h g : Addr} {H H' : Hp} (x : Hnd h g H) (s : Same H H') : Same (Vw h g H) (Vw h g H') := (Kp.of s).vw
mutual
theorem dq_vw {h g : Addr} {H : Hp} (x : Hnd h g H) : ∀ {v : V} (d : PyData), noList d = true → Dq H v d → Dq (Vw h g H) v d
  | _, .none, _, .non => .non
  | _, .bool _, _, .bl b => .bl b
  | _, .int _, _, .int i => .int i
  | _, .str _, _, .str x => .str x
  | _, .list _, n, .lst e u => by cases n
  | _, .tuple ds, n, .tup e u => .tup (by
      obtain ⟨cells, t, c, h1, h2, q⟩ := x.ex
      exact vw_at (fun z => by rw [z, h1] at e; cases e) (fun z => by rw [z, h2] at e; cases e) e) (dqs_vw x ds n u)
theorem dqs_vw {h g : Addr} {H : Hp} (x : Hnd h g H) : ∀ {vs : List V} (ds : List PyData), noLists ds = true → DqAll H vs ds → DqAll (Vw h g H) vs ds
  | _, [], _, .nil => .nil
  | _, d :: ds, n, .cons u v => by
    have n' : (noList d && noLists ds) = true := n
    obtain ⟨n1, n2⟩ := Bool.and_eq_true_iff.mp n'
    exact .cons (dq_vw x d n1 u) (dqs_vw x ds n2 v)
end
theorem ixN_zero {n : Nat} (h : 0 < n) : ixN n 0 = some 0 := by
  unfold ixN
  rw [if_pos (Int.le_refl 0), if_pos (by omega)]
  rfl
theorem all_push {cells : List Int} {z : Int} (h : ∀ x ∈ cells, (0 : Int) ≤ x) (hz : 0 ≤ z) : ∀ x ∈ cells ++ [z], (0 : Int) ≤ x := by
  intro x hx
  rcases List.mem_append.mp hx with e | e
  · exact h x e
  · rw [List.mem_singleton.mp e]
    exact hz
theorem six_zero {n : Nat} (h : 0 < n) : seqIndex? 0 n = some 0 := (ixN_seq (ixN_zero h)).1
def sd_law_start (K : PySem.W.Frag) : Sp := fun vs H Q _ => ∃ (a : Addr) (ns : List Int), vs = [.ref a] ∧ SqL K H a (ns.map V.int) ∧ ns.length ≤ 63 ∧ ∀ H' h g, Same H H' → H h = none → H g = none → Hnd h g H' → Q (.ref h) H'
def sd_law_draw : Sp := fun vs H Q _ => ∃ (h g : Addr) (m : Int), vs = [.ref h, .int m] ∧ Hnd h g H ∧ 0 < m ∧ m < 1073741824 ∧ ∀ H' r, Kp h g H H' → Hnd h g H' → 0 ≤ r → r < m → Q (.int r) H'
section
variable {P : Program} {w : World} {K : PySem.W.Frag} {mg : Str → Option Value} {base : Heap}
theorem ok_law_draw (T : Txt K mg) : FnOk P w K mg base CX0 2 T.f_law_draw T.d_law_draw ["_law_state", "_law_many"] sd_law_draw := by
  refine T.F_law_draw.ok sc_law_draw (fun vs H Q E h => ?_) (fun cdv A outer s H vs Q E hr h => ?_)
  · obtain ⟨h, g, m, rfl, _⟩ := h
    rfl
  · obtain ⟨h, g, m, rfl, hd, m0, m1, q⟩ := h
    refine ⟨_, (pss_cons (ps_set (i := 2) sc_law_draw.nd rfl (.inl rfl) (pe_ix ix_list (pv 0) pe_int (fun _ _ => rfl)))
      (pss_cons (ps_if (pt_truth (pv 2) (by intro _; rfl))
        (pss_cons (ps_set (i := 3) sc_law_draw.nd rfl (.inl rfl) (pe_callTy call_int1 (by rfl) T.m_int (by decide +kernel) (pa_cons (pe_ix ix_list (pv 2) pe_int (fun _ _ => rfl)) pa_nil)))
        (pss_cons (ps_asg (pe_op op_fdiv (pv 3) (pv 1)) (pg_sub (pv 2) pe_int set_list))
        (pss_cons (ps_if (pt_cmpR op_eq (pe_ix ix_list (pv 2) pe_int (fun _ _ => rfl)) pe_int (nomark _))
          (pss_one (ps_expr (pe_bm PySem.F.plainAttrs_list PySem.F.slot_list_pop PySem.F.type_list_pop mt_popAt (pv 2) (pa_cons pe_int pa_nil))))
          pss_nil)
        (pss_one (ps_ret (pe_op op_mod (pe_callTy call_int1 (by rfl) T.m_int (by decide +kernel) (pa_cons (pv 3) pa_nil)) (pv 1)))))))
        pss_nil)
      (pss_cons (ps_asg (pe_op op_add (pe_ix ix_list (pv 0) pe_int (fun _ _ => rfl)) pe_int) (pg_sub (pv 0) pe_int set_list))
      (pss_cons (ps_asg (pe_op op_mod (pe_callTy call_int1 (by rfl) T.m_int (by decide +kernel) (pa_cons (pe_op op_add (pe_op op_add (pe_op op_mul (pe_ix ix_list (pv 0) pe_int (fun _ _ => rfl)) pe_int) (pe_op op_mul (pe_ix ix_list (pv 0) pe_int (fun _ _ => rfl)) pe_int)) pe_int) pa_nil)) pe_int) (pg_sub (pv 0) pe_int set_list))
      (pss_cons (ps_set (i := 4) sc_law_draw.nd rfl (.inl rfl) (pe_op op_mod (pe_callTy call_int1 (by rfl) T.m_int (by decide +kernel) (pa_cons (pe_op op_add (pe_op op_add (pe_op op_mul (pe_ix ix_list (pv 0) pe_int (fun _ _ => rfl)) (pe_ix ix_list (pv 0) pe_int (fun _ _ => rfl))) (pe_op op_mul (pe_ix ix_list (pv 0) pe_int (fun _ _ => rfl)) pe_int)) (pe_op op_fdiv (pe_ix ix_list (pv 0) pe_int (fun _ _ => rfl)) pe_int)) pa_nil)) pe_int))
      (pss_one (ps_ret (pe_op op_mod (pe_callTy call_int1 (by rfl) T.m_int (by decide +kernel) (pa_cons (pe_op op_fdiv (pv 4) pe_int) pa_nil)) (pv 1))))))))), ?_⟩
    obtain ⟨cells, t, c, h1, h2, t0, t1, hc⟩ := hd.ex
    have hn := hd.ne
    refine ⟨_, rfl, h, _, 0, _, rfl, rfl, SqL.of h1, at_of (j := 0) rfl rfl, ?_⟩
    cases cells with
    | cons z zs =>
      have z0 := hc z List.mem_cons_self
      refine ⟨_, rfl, true, .inl ⟨_, SqL.of h2, rfl⟩, iteT ?_⟩
      refine ⟨_, rfl, g, _, 0, _, rfl, rfl, SqL.of h2, at_of (j := 0) rfl rfl, .inl ⟨z, rfl, ?_⟩⟩
      refine ⟨_, rfl, _, rfl, z, m, rfl, rfl, ⟨m0, m1⟩, _, rfl, g, _, 0, 0, rfl, rfl, h2, ixN_zero (by simp), ?_⟩
      have e1 : (upd H g (.lst ((List.map V.int (z :: zs)).set 0 (.int (z / m))))) g = some (.lst (((z / m) :: zs).map V.int)) := upd_same
      have k1 : Kp h g H (upd H g (.lst ((List.map V.int (z :: zs)).set 0 (.int (z / m))))) := fun b o n1 n2 e => by
        rw [upd_ne n2]
        exact e
      have h1' : (upd H g (.lst ((List.map V.int (z :: zs)).set 0 (.int (z / m))))) h = some (.lst [.ref g, .int t, .int c]) := by
        rw [upd_ne hn]
        exact h1
      generalize upd H g (.lst ((List.map V.int (z :: zs)).set 0 (.int (z / m)))) = H1 at e1 k1 h1' ⊢
      have d0 : 0 ≤ z / m := Int.ediv_nonneg z0 (by omega)
      have r0 : 0 ≤ z % m := Int.emod_nonneg _ (by omega)
      have r1 : z % m < m := Int.emod_lt_of_pos _ m0
      refine ⟨_, rfl, g, _, 0, .int (z / m), rfl, rfl, SqL.of e1, at_of (j := 0) rfl rfl, rfl, _, rfl, ite2 (fun c1 => ?_) (fun c1 => ?_)⟩
      · refine ⟨_, rfl, .inl ⟨rfl, _, .inl (.inl e1)⟩, g, _, 0, 0, .int (z / m), rfl, rfl, e1, by decide, by decide, six_zero (by simp), rfl, ?_⟩
        refine ⟨_, rfl, .inl ⟨z, rfl, _, rfl, z, m, rfl, rfl, m0, ?_⟩⟩
        refine q _ _ (fun b o n1 n2 e => ?_) ⟨hn, zs, t, c, ?_, upd_same, t0, t1, fun y m => hc y (List.mem_cons_of_mem _ m)⟩ r0 r1
        · rw [upd_ne n2]
          exact k1 b o n1 n2 e
        · rw [upd_ne hn]
          exact h1'
      · refine ⟨_, rfl, .inl ⟨z, rfl, _, rfl, z, m, rfl, rfl, m0, ?_⟩⟩
        exact q _ _ k1 ⟨hn, (z / m) :: zs, t, c, h1', e1, t0, t1, fun y my => by
          rcases List.mem_cons.mp my with rfl | my
          · exact d0
          · exact hc y (List.mem_cons_of_mem _ my)⟩ r0 r1
    | nil =>
      refine ⟨_, rfl, false, .inl ⟨_, SqL.of h2, rfl⟩, iteF ?_⟩
      refine ⟨_, rfl, h, _, 2, .int c, rfl, rfl, SqL.of h1, at_of (j := 2) rfl rfl, c, 1, rfl, rfl, _, rfl, h, _, 2, 2, rfl, rfl, h1, rfl, ?_⟩
      have e1 : (upd H h (.lst ([V.ref g, .int t, .int c].set 2 (.int (c + 1))))) h = some (.lst [.ref g, .int t, .int (c + 1)]) := upd_same
      have k1 : Kp h g H (upd H h (.lst ([V.ref g, .int t, .int c].set 2 (.int (c + 1))))) := fun b o n1 n2 e => by
        rw [upd_ne n1]
        exact e
      have h2' : (upd H h (.lst ([V.ref g, .int t, .int c].set 2 (.int (c + 1))))) g = some (.lst (([] : List Int).map V.int)) := by
        rw [upd_ne hn.symm]
        exact h2
      generalize upd H h (.lst ([V.ref g, .int t, .int c].set 2 (.int (c + 1)))) = H1 at e1 k1 h2' ⊢
      have mo : (0 : Int) < 2147483647 := by decide
      refine ⟨_, rfl, h, _, 1, .int t, rfl, rfl, SqL.of e1, at_of (j := 1) rfl rfl, t, 48271, rfl, rfl, .inr (by decide), _, rfl, h, _, 2, .int (c + 1), rfl, rfl, SqL.of e1, at_of (j := 2) rfl rfl, c + 1, 7919, rfl, rfl, .inr (by decide), _, _, rfl, rfl, _, 1, rfl, rfl, .inl ⟨_, rfl, _, 2147483647, rfl, rfl, mo, ?_⟩⟩
      generalize (t * 48271 + (c + 1) * 7919 + 1) = u
      have u0 : 0 ≤ u % 2147483647 := Int.emod_nonneg _ (by decide)
      have u1 : u % 2147483647 < 2147483647 := Int.emod_lt_of_pos _ mo
      refine ⟨_, rfl, h, _, 1, 1, rfl, rfl, e1, rfl, ?_⟩
      have e2 : (upd H1 h (.lst ([V.ref g, .int t, .int (c + 1)].set 1 (.int (u % 2147483647))))) h = some (.lst [.ref g, .int (u % 2147483647), .int (c + 1)]) := upd_same
      have k2 : Kp h g H (upd H1 h (.lst ([V.ref g, .int t, .int (c + 1)].set 1 (.int (u % 2147483647))))) := fun b o n1 n2 e => by
        rw [upd_ne n1]
        exact k1 b o n1 n2 e
      have h3 : (upd H1 h (.lst ([V.ref g, .int t, .int (c + 1)].set 1 (.int (u % 2147483647))))) g = some (.lst (([] : List Int).map V.int)) := by
        rw [upd_ne hn.symm]
        exact h2'
      refine ⟨_, rfl, h, _, 1, .int (u % 2147483647), rfl, rfl, SqL.of e2, at_of (j := 1) rfl rfl, _, rfl, h, _, 1, .int (u % 2147483647), rfl, rfl, SqL.of e2, at_of (j := 1) rfl rfl, (u % 2147483647), (u % 2147483647), rfl, rfl, .inl ⟨by omega, by omega⟩, _, rfl, h, _, 2, .int (c + 1), rfl, rfl, SqL.of e2, at_of (j := 2) rfl rfl, c + 1, 65537, rfl, rfl, .inr (by decide), _, _, rfl, rfl, _, rfl, h, _, 1, .int (u % 2147483647), rfl, rfl, SqL.of e2, at_of (j := 1) rfl rfl, (u % 2147483647), 97, rfl, rfl, ⟨by decide, by decide⟩, _, _, rfl, rfl, .inl ⟨_, rfl, _, 2147483629, rfl, rfl, by show (0 : Int) < 2147483629; decide, ?_⟩⟩
      refine ⟨_, rfl, _, 64, rfl, rfl, ⟨by decide, by decide⟩, .inl ⟨_, rfl, _, rfl, _, m, rfl, rfl, m0, ?_⟩⟩
      exact q _ _ k2 ⟨hn, [], (u % 2147483647), c + 1, e2, h3, u0, by omega, fun y my => nomatch my⟩ (Int.emod_nonneg _ (by omega)) (Int.emod_lt_of_pos _ m0)
theorem ok_law_start (T : Txt K mg) : FnOk P w K mg base CX0 1 T.f_law_start T.d_law_start ["_law_script"] (sd_law_start K) := by
  refine T.F_law_start.ok sc_law_start (fun vs H Q E h => ?_) (fun cdv A outer s H vs Q E hr h => ?_)
  · obtain ⟨a, b, rfl, _⟩ := h
    rfl
  · obtain ⟨a, ns, rfl, hS, hlen, q⟩ := h
    refine ⟨_, (pss_cons (ps_set (i := 1) sc_law_start.nd rfl (.inl rfl) (pe_op op_add (pe_callB call_len_seq (by rfl) T.m_len (by decide +kernel) (pa_cons (pv 0) pa_nil)) pe_int))
      (pss_cons (ps_set (i := 2) sc_law_start.nd rfl (.inl rfl) (pe_lst pa_nil))
      (pss_cons (ps_for PassesOwn.never rfl (pi_list (pv 0)) (pg_name (i := 3) sc_law_start.nd rfl (.inl rfl))
        (pss_cons (ps_set (i := 1) sc_law_start.nd rfl (.inl rfl) (pe_op op_mod (pe_callTy call_int1 (by rfl) T.m_int (by decide +kernel) (pa_cons (pe_op op_add (pe_op op_mul (pv 1) pe_int) (pe_callTy call_int1 (by rfl) T.m_int (by decide +kernel) (pa_cons (pv 3) pa_nil))) pa_nil)) pe_int))
        (pss_one (ps_if (pt_cmpR op_ge (pe_callB call_abs (by rfl) T.m_abs (by decide +kernel) (pa_cons (pe_callTy call_int1 (by rfl) T.m_int (by decide +kernel) (pa_cons (pv 3) pa_nil)) pa_nil)) (pe_op op_pow pe_int pe_int) (nomark _))
          (pss_one (ps_expr (pe_bm PySem.F.plainAttrs_list PySem.F.slot_list_append PySem.F.type_list_append mt_append (pv 2) (pa_cons (pe_callB call_abs (by rfl) T.m_abs (by decide +kernel) (pa_cons (pe_callTy call_int1 (by rfl) T.m_int (by decide +kernel) (pa_cons (pv 3) pa_nil)) pa_nil)) pa_nil))))
          pss_nil))))
      (pss_one (ps_ret (pe_lst (pa_cons (pv 2) (pa_cons (pv 1) (pa_cons pe_int pa_nil))))))))), ?_⟩
    refine ⟨_, rfl, a, _, rfl, .inl hS, _, _, rfl, rfl, Nat.zero_le _, fun c nc => ?_⟩
    have s1 : Same H (upd H c (.lst [])) := fun b x e => by
      rw [upd_ne (ne_of_none e nc)]
      exact e
    refine ⟨_, rfl, a, rfl, ⟨_, s1.seq hS⟩, for_list (xs := ns.map V.int) (fun i σ H' => ∃ (t : Int) (y : Option V) (cells : List Int), σ = [some (.ref a), some (.int t), some (.ref c), y] ∧ Same H H' ∧ H' c = some (.lst (cells.map V.int)) ∧ cells.length ≤ i ∧ 0 ≤ t ∧ t < 2 ^ 40 ∧ ∀ z ∈ cells, (0 : Int) ≤ z)
      ⟨_, none, [], rfl, s1, upd_same, Nat.le_refl _, by rw [List.length_map]; omega, by rw [List.length_map]; omega, fun z hz => by cases hz⟩ (fun i σ H' _ hP => by obtain ⟨_, _, _, _, sm, _⟩ := hP; exact sm.seq hS) (fun i x σ H' hx hP => ?_) (fun σ H' hP => ?_)⟩
    · obtain ⟨t, y, cells, rfl, sm, ec, el, t0, t1, hz⟩ := hP
      obtain ⟨n, hn, rfl⟩ : ∃ n, ns[i]? = some n ∧ V.int n = x := by
        rw [List.getElem?_map] at hx
        exact Option.map_eq_some_iff.mp hx
      have hi : i < ns.length := (List.getElem?_eq_some_iff.mp hn).1
      have mo : (0 : Int) < 2147483587 := by decide
      have u0 : 0 ≤ (t * 1693 + n) % 2147483587 := Int.emod_nonneg _ (by decide)
      have u1 : (t * 1693 + n) % 2147483587 < 2147483587 := Int.emod_lt_of_pos _ mo
      refine ⟨_, rfl, t, 1693, rfl, rfl, .inr (by decide), _, rfl, .inl ⟨_, rfl, _, _, rfl, rfl, .inl ⟨_, rfl, _, 2147483587, rfl, rfl, mo, ?_⟩⟩⟩
      refine ⟨_, rfl, .inl ⟨_, rfl, _, rfl, 10, 18, rfl, rfl, ⟨by decide, by decide, by decide⟩, _, _, rfl, rfl, _, rfl, ite2 (fun c1 => ?_) (fun c1 => ?_)⟩⟩
      · refine ⟨_, rfl, .inl ⟨rfl, _, .inl (.inl ec)⟩, _, rfl, .inl ⟨_, rfl, _, rfl, c, _, _, rfl, rfl, ec, ?_, ?_⟩⟩
        · rw [List.length_map]
          exact small1000 (by omega)
        · refine ⟨_, _, cells ++ [(if n < 0 then -n else n)], rfl, fun b u e => ?_, ?_, ?_, u0, by omega, all_push hz (by split <;> omega)⟩
          · rw [upd_ne (ne_of_none e nc)]
            exact sm _ _ e
          · rw [upd_same, List.map_append]
            rfl
          · rw [List.length_append, List.length_singleton]
            omega
      · exact ⟨_, _, cells, rfl, sm, ec, by omega, u0, by omega, hz⟩
    · obtain ⟨t, y, cells, rfl, sm, ec, el, t0, t1, hz⟩ := hP
      refine ⟨_, rfl, _, rfl, (by show 3 ≤ sizeLine; decide), fun h nh => ?_⟩
      have nch : c ≠ h := ne_of_none ec nh
      refine q _ h c (fun b u e => ?_) (sm.free nh) nc ⟨nch.symm, cells, t, 0, upd_same, ?_, t0, t1, hz⟩
      · rw [upd_ne (ne_of_none (sm _ _ e) nh)]
        exact sm _ _ e
      · rw [upd_ne nch]
        exact ec
end
end K25
set_option Elab.async false
set_option linter.all false
set_option maxRecDepth 100000
set_option maxHeartbeats 4000000
set_option exponentiation.threshold 5000
set_option pp.maxSteps 900
namespace K25
open PySem PySem.Spec PyProof.Rows L2 TkS LamX NdefX
def someD (p : Nat) (n : Int) : PyData := if p = 0 then frD (n, 1) else .int (n % (p : Int))
theorem some_zero (p : Nat) : someD p 0 = zeroD p := by
  unfold someD zeroD
  by_cases c : p = 0
  · rw [if_pos c, if_pos c]
  · rw [if_neg c, if_neg c, Int.zero_emod]
theorem some_one {p : Nat} (fp : Fp p) : someD p 1 = oneD p := by
  unfold someD oneD
  by_cases c : p = 0
  · rw [if_pos c, if_pos c]
  · have := fp.cases c
    rw [if_neg c, if_neg c, Int.emod_eq_of_lt (by decide) (by omega)]
theorem Fp.le {p : Nat} (fp : Fp p) : p ≤ 20000 := by
  rcases fp with h | h
  · omega
  · exact h.2
def sl_gcd : Sp := fun vs H Q _ => ∃ a b : Int, vs = [.int a, .int b] ∧ Q (.int ((Int.gcd a b : Nat) : Int)) H
def sl_low : Sp := fun vs H Q _ => ∃ t b : Int, vs = [.int t, .int b] ∧ b ≠ 0 ∧ Fin 4000 b ∧ ∀ l H', Same H H' → Dq H' (.ref l) (frD (low t b)) → Q (.ref l) H'
def sl_some : Sp := fun vs H Q _ => ∃ (p : Nat) (n : Int), vs = [.int (p : Int), .int n] ∧ ∀ v H', Same H H' → Dq H' v (someD p n) → Q v H'
def sl_nought : Sp := fun vs H Q _ => ∃ (p k : Nat) (x : V) (d : PyData), vs = [.int (p : Int), x] ∧ Fp p ∧ Dq H x d ∧ Nb p k d ∧ ∀ H', Same H H' → Q (.bl (!nzB p d)) H'
def sl_dot : Sp := fun vs H Q _ => ∃ (p : Nat) (x y : V) (d e : PyData) (ds es : List PyData), vs = [.int (p : Int), x, y] ∧ Fp p ∧ Dq H x d ∧ itemsD d = some ds ∧ Dq H y e ∧ itemsD e = some es ∧ ds.length = es.length ∧ ds.length ≤ 6 ∧ (∀ d ∈ ds, Nb p 700 d) ∧ (∀ d ∈ es, Nb p 700 d) ∧ (∀ i, i ≤ ds.length → Nb p 1990 (dotD p (ds.take i) (es.take i) (zeroD p))) ∧
  ∀ v H', Same H H' → Dq H' v (dotD p ds es (zeroD p)) → Q v H'
section
variable {P : Program} {w : World} {K : PySem.W.Frag} {mg : Str → Option Value} {base : Heap}
theorem ok_law_gcd (T : Txt K mg) : FnOk P w K mg base CX0 1 T.f_law_gcd T.d_law_gcd ["_law_one", "_law_other"] sl_gcd := by
  refine T.F_law_gcd.ok sc_law_gcd (fun vs H Q E h => ?_) (fun cdv A outer s H vs Q E hr h => ?_)
  · obtain ⟨a, b, rfl, _⟩ := h
    rfl
  · obtain ⟨a, b, rfl, q⟩ := h
    refine ⟨_, (pss_cons (ps_set (i := 0) sc_law_gcd.nd rfl (.inl rfl) (pe_callB call_abs (by rfl) T.m_abs (by decide +kernel) (pa_cons (pv 0) pa_nil)))
      (pss_cons (ps_set (i := 1) sc_law_gcd.nd rfl (.inl rfl) (pe_callB call_abs (by rfl) T.m_abs (by decide +kernel) (pa_cons (pv 1) pa_nil)))
      (pss_cons (ps_while PassesOwn.never (pt_cmpR op_gt (pv 1) pe_int (nomark _))
        (pss_cons (ps_set (i := 2) sc_law_gcd.nd rfl (.inl rfl) (pe_op op_mod (pe_callTy call_int1 (by rfl) T.m_int (by decide +kernel) (pa_cons (pv 0) pa_nil)) (pv 1)))
        (pss_cons (ps_set (i := 0) sc_law_gcd.nd rfl (.inl rfl) (pv 1))
        (pss_one (ps_set (i := 1) sc_law_gcd.nd rfl (.inl rfl) (pv 2))))))
      (pss_one (ps_ret (pv 0)))))), ?_⟩
    refine ⟨_, rfl, a, rfl, _, rfl, b, rfl, ?_⟩
    dsimp only
    rw [abs_nat, abs_nat]
    refine ⟨fun m σ H' => ∃ (x y : Nat) (y2 : Option V), σ = [some (.int (x : Int)), some (.int (y : Int)), y2] ∧ H = H' ∧ Nat.gcd x y = Int.gcd a b ∧ m = y, ⟨_, a.natAbs, b.natAbs, none, rfl, rfl, rfl, rfl⟩, fun m σ H' hW => ?_⟩
    obtain ⟨x, y, y2, rfl, rfl, hg, rfl⟩ := hW
    refine ⟨_, rfl, _, _, rfl, rfl, _, rfl, ite2 (fun c => ?_) (fun c => ?_)⟩
    · have c' : (0 : Int) < (m : Int) := of_decide_eq_true c
      refine ⟨fun σ' H' => ∃ m', m' < m ∧ ∃ (x y : Nat) (y2 : Option V), σ' = [some (.int (x : Int)), some (.int (y : Int)), y2] ∧ H = H' ∧ Nat.gcd x y = Int.gcd a b ∧ m' = y, fun _ _ z => z, ?_⟩
      refine ⟨_, rfl, .inl ⟨_, rfl, _, rfl, x, m, rfl, rfl, c', ?_⟩⟩
      refine ⟨_, rfl, _, rfl, x % m, Nat.mod_lt _ (by omega), m, x % m, _, rfl, rfl, ?_, rfl⟩
      rw [← hg, Nat.gcd_comm x m, Nat.gcd_rec m x, Nat.gcd_comm]
    · have c' : ¬ (0 : Int) < (m : Int) := fun z => c (decide_eq_true z)
      have y0 : m = 0 := by omega
      subst y0
      rw [Nat.gcd_zero_right] at hg
      rw [hg]
      exact ⟨_, rfl, q⟩
theorem ok_law_low (T : Txt K mg) : FnOk P w K mg base CX0 2 T.f_law_low T.d_law_low ["_law_top", "_law_bottom"] sl_low := by
  refine T.F_law_low.ok sc_law_low (fun vs H Q E h => ?_) (fun cdv A outer s H vs Q E hr h => ?_)
  · obtain ⟨t, b, rfl, _⟩ := h
    rfl
  · obtain ⟨t, b, rfl, b0, fb, q⟩ := h
    refine ⟨_, (pss_cons (ps_set (i := 2) sc_law_low.nd rfl (.inl rfl) (pe_call (ok_law_gcd T) (hr.mono (by decide)) (by rfl) T.g_law_gcd T.F_law_gcd.kp T.b_law_gcd .nil pass0 (pa_cons (pv 0) (pa_cons (pv 1) pa_nil))))
      (Evl.pss_cut (ps_if (pt_cmpR op_lt (pv 1) pe_int (nomark _))
        (pss_one (ps_set (i := 2) sc_law_low.nd rfl (.inl rfl) (pe_un un_neg (pv 2))))
        pss_nil)
      (pss_one (ps_ret (pe_tup (pa_cons (pe_op op_fdivA (pv 0) (pv 2)) (pa_cons (pe_op op_fdivA (pv 1) (pv 2)) pa_nil))))))), ?_⟩
    refine ⟨_, rfl, _, rfl, t, b, rfl, ?_⟩
    refine ⟨fun σ H' => σ = [some (.int t), some (.int b), some (.int (gS t b))] ∧ H = H', ?_, fun σ H' hM => ?_⟩
    · refine ⟨_, rfl, _, _, rfl, rfl, _, rfl, ite2 (fun c => ?_) (fun c => ?_)⟩
      · have c' : b < 0 := of_decide_eq_true c
        refine ⟨_, rfl, _, rfl, ?_, rfl⟩
        unfold gS
        rw [if_pos c']
        rfl
      · have c' : ¬ b < 0 := fun z => c (decide_eq_true z)
        refine ⟨?_, rfl⟩
        unfold gS
        rw [if_neg c']
        rfl
    · obtain ⟨rfl, rfl⟩ := hM
      have g0 := gS_ne (t := t) b0
      have gl := fin_log (gS_fin (t := t) b0 fb) (by decide) (by decide)
      refine ⟨_, rfl, _, rfl, t, _, rfl, rfl, ⟨g0, gl⟩, _, rfl, _, rfl, b, _, rfl, rfl, ⟨g0, gl⟩, (by show 2 ≤ sizeLine; decide), fun l nl => ?_⟩
      exact q l _ (same_new nl) (fr_dq (q := low t b) upd_same)
theorem ok_law_some (T : Txt K mg) : FnOk P w K mg base CX0 1 T.f_law_some T.d_law_some ["_law_p", "_law_number_here"] sl_some := by
  refine T.F_law_some.ok sc_law_some (fun vs H Q E h => ?_) (fun cdv A outer s H vs Q E hr h => ?_)
  · obtain ⟨p, n, rfl, _⟩ := h
    rfl
  · obtain ⟨p, n, rfl, q⟩ := h
    refine ⟨_, (pss_cons (ps_if (pt_cmpR op_gt (pv 0) pe_int (nomark _))
        (pss_one (ps_ret (pe_op op_mod (pe_callTy call_int1 (by rfl) T.m_int (by decide +kernel) (pa_cons (pv 1) pa_nil)) (pv 0))))
        pss_nil)
      (pss_one (ps_ret (pe_tup (pa_cons (pv 1) (pa_cons pe_int pa_nil)))))), ?_⟩
    unfold someD at q
    refine ⟨_, rfl, _, _, rfl, rfl, _, rfl, ite2 (fun c => ?_) (fun c => ?_)⟩
    · have c' : (0 : Int) < (p : Int) := of_decide_eq_true c
      rw [if_neg (by omega)] at q
      exact ⟨_, rfl, .inl ⟨_, rfl, _, rfl, n, p, rfl, rfl, c', q _ _ (fun _ _ z => z) (.int _)⟩⟩
    · have c' : ¬ (0 : Int) < (p : Int) := fun z => c (decide_eq_true z)
      rw [if_pos (by omega)] at q
      refine ⟨_, rfl, (by show 2 ≤ sizeLine; decide), fun l nl => ?_⟩
      exact q _ _ (same_new nl) (fr_dq (q := (n, 1)) upd_same)
theorem ok_law_times (T : Txt K mg) : FnOk P w K mg base CX0 3 T.f_law_times T.d_law_times ["_law_p", "_law_one", "_law_other"] (sp_law_op timesD) := by
  refine T.F_law_times.ok sc_law_times (fun vs H Q E h => ?_) (fun cdv A outer s H vs Q E hr h => ?_)
  · obtain ⟨p, x, y, a, b, rfl, _⟩ := h
    rfl
  · obtain ⟨p, x, y, a, b, rfl, ka, kb, na, nb, le, q⟩ := h
    refine ⟨_, (pss_cons (ps_if (pt_cmpR op_gt (pv 0) pe_int (nomark _))
        (pss_one (ps_ret (pe_op op_mod (pe_callTy call_int1 (by rfl) T.m_int (by decide +kernel) (pa_cons (pe_op op_mulW (pv 1) (pv 2)) pa_nil)) (pv 0))))
        pss_nil)
      (pss_one (ps_ret (pe_call (ok_law_low T) (hr.mono (by decide)) (by rfl) T.g_law_low T.F_law_low.kp T.b_law_low .nil pass0 (pa_cons (pe_op op_mulW (pe_ix ix_tup (pv 1) pe_int (fun _ _ => rfl)) (pe_ix ix_tup (pv 2) pe_int (fun _ _ => rfl))) (pa_cons (pe_op op_mulW (pe_ix ix_tup (pv 1) pe_int (fun _ _ => rfl)) (pe_ix ix_tup (pv 2) pe_int (fun _ _ => rfl))) pa_nil)))))), ?_⟩
    unfold timesD at q
    cases na with
    | @fr k r a1 a2 a3 =>
      cases nb with
      | @fr k t b1 b2 b3 =>
        rw [if_pos rfl] at q
        obtain ⟨l1, rfl, h1⟩ := fr_at ka
        obtain ⟨l2, rfl, h2⟩ := fr_at kb
        have w1 := Fin.mulW a2 b2 (by decide) (by decide) (by decide)
        have w2 := Fin.mulW a3 b3 (by decide) (by decide) (by decide)
        refine ⟨_, rfl, _, _, rfl, rfl, _, rfl, iteF ⟨_, rfl, l1, _, 0, _, rfl, rfl, SqT.of h1, at_of (j := 0) rfl rfl, _, rfl, l2, _, 0, _, rfl, rfl, SqT.of h2, at_of (j := 0) rfl rfl, _, _, rfl, rfl, w1, _, rfl, l1, _, 1, _, rfl, rfl, SqT.of h1, at_of (j := 1) rfl rfl, _, rfl, l2, _, 1, _, rfl, rfl, SqT.of h2, at_of (j := 1) rfl rfl, _, _, rfl, rfl, w2, _, _, rfl, mul_ne a1.1 b1.1, Fin.mul a3 b3, fun l H' s k => q _ H' s k⟩⟩
      | rs n _ => exact absurd rfl n
    | @rs p k x n a1 =>
      cases nb with
      | fr _ _ _ => exact absurd rfl n
      | @rs p k y n2 b1 =>
        rw [if_neg n] at q
        cases ka
        cases kb
        have p0 : (0 : Int) < p := by omega
        refine ⟨_, rfl, _, _, rfl, rfl, _, rfl, ite2 (fun _ => ⟨_, rfl, _, rfl, _, _, rfl, rfl, Fin.mulW (med_lt a1 le) (med_lt b1 le) (by decide) (by decide) (by decide), .inl ⟨_, rfl, _, rfl, _, _, rfl, rfl, p0, q _ _ (fun _ _ z => z) (.int _)⟩⟩) (fun c => absurd (decide_eq_true p0) c)⟩
theorem ok_law_plus (T : Txt K mg) : FnOk P w K mg base CX0 3 T.f_law_plus T.d_law_plus ["_law_p", "_law_one", "_law_other"] (sp_law_op plusD) := by
  refine T.F_law_plus.ok sc_law_plus (fun vs H Q E h => ?_) (fun cdv A outer s H vs Q E hr h => ?_)
  · obtain ⟨p, x, y, a, b, rfl, _⟩ := h
    rfl
  · obtain ⟨p, x, y, a, b, rfl, ka, kb, na, nb, le, q⟩ := h
    refine ⟨_, (pss_cons (ps_if (pt_cmpR op_gt (pv 0) pe_int (nomark _))
        (pss_one (ps_ret (pe_op op_mod (pe_callTy call_int1 (by rfl) T.m_int (by decide +kernel) (pa_cons (pe_op op_add (pv 1) (pv 2)) pa_nil)) (pv 0))))
        pss_nil)
      (pss_one (ps_ret (pe_call (ok_law_low T) (hr.mono (by decide)) (by rfl) T.g_law_low T.F_law_low.kp T.b_law_low .nil pass0 (pa_cons (pe_op op_add (pe_op op_mulW (pe_ix ix_tup (pv 1) pe_int (fun _ _ => rfl)) (pe_ix ix_tup (pv 2) pe_int (fun _ _ => rfl))) (pe_op op_mulW (pe_ix ix_tup (pv 2) pe_int (fun _ _ => rfl)) (pe_ix ix_tup (pv 1) pe_int (fun _ _ => rfl)))) (pa_cons (pe_op op_mulW (pe_ix ix_tup (pv 1) pe_int (fun _ _ => rfl)) (pe_ix ix_tup (pv 2) pe_int (fun _ _ => rfl))) pa_nil)))))), ?_⟩
    unfold plusD at q
    cases na with
    | @fr k r a1 a2 a3 =>
      cases nb with
      | @fr k t b1 b2 b3 =>
        rw [if_pos rfl] at q
        obtain ⟨l1, rfl, h1⟩ := fr_at ka
        obtain ⟨l2, rfl, h2⟩ := fr_at kb
        have w1 := Fin.mulW a2 b3 (by decide) (by decide) (by decide)
        have w2 := Fin.mulW b2 a3 (by decide) (by decide) (by decide)
        have w3 := Fin.mulW a3 b3 (by decide) (by decide) (by decide)
        refine ⟨_, rfl, _, _, rfl, rfl, _, rfl, iteF ⟨_, rfl, l1, _, 0, _, rfl, rfl, SqT.of h1, at_of (j := 0) rfl rfl, _, rfl, l2, _, 1, _, rfl, rfl, SqT.of h2, at_of (j := 1) rfl rfl, _, _, rfl, rfl, w1, _, rfl, l2, _, 0, _, rfl, rfl, SqT.of h2, at_of (j := 0) rfl rfl, _, rfl, l1, _, 1, _, rfl, rfl, SqT.of h1, at_of (j := 1) rfl rfl, _, _, rfl, rfl, w2, _, _, rfl, rfl, _, rfl, l1, _, 1, _, rfl, rfl, SqT.of h1, at_of (j := 1) rfl rfl, _, rfl, l2, _, 1, _, rfl, rfl, SqT.of h2, at_of (j := 1) rfl rfl, _, _, rfl, rfl, w3, _, _, rfl, mul_ne a1.1 b1.1, Fin.mul a3 b3, fun l H' s k => q _ H' s k⟩⟩
      | rs n _ => exact absurd rfl n
    | @rs p k x n a1 =>
      cases nb with
      | fr _ _ _ => exact absurd rfl n
      | @rs p k y n2 b1 =>
        rw [if_neg n] at q
        cases ka
        cases kb
        have p0 : (0 : Int) < p := by omega
        refine ⟨_, rfl, _, _, rfl, rfl, _, rfl, ite2 (fun _ => ⟨_, rfl, _, rfl, _, _, rfl, rfl, .inl ⟨_, rfl, _, rfl, _, _, rfl, rfl, p0, q _ _ (fun _ _ z => z) (.int _)⟩⟩) (fun c => absurd (decide_eq_true p0) c)⟩
theorem ok_law_nought (T : Txt K mg) : FnOk P w K mg base CX0 2 T.f_law_nought T.d_law_nought ["_law_p", "_law_thing"] sl_nought := by
  refine T.F_law_nought.ok sc_law_nought (fun vs H Q E h => ?_) (fun cdv A outer s H vs Q E hr h => ?_)
  · obtain ⟨p, k, x, d, rfl, _⟩ := h
    rfl
  · obtain ⟨p, k, x, d, rfl, fp, kx, nd, q⟩ := h
    refine ⟨_, (pss_one (ps_ret (pe_cmpR (op_eqD hr.units) (pv 1) (pe_call (ok_law_some T) (hr.mono (by decide)) (by rfl) T.g_law_some T.F_law_some.kp T.b_law_some .nil pass0 (pa_cons (pv 0) (pa_cons pe_int pa_nil))) (nomark _)))), ?_⟩
    refine ⟨_, rfl, _, rfl, p, 0, rfl, fun v H1 s1 kv => ?_⟩
    rw [some_zero] at kv
    refine ⟨d, zeroD p, (kx.same s1).dp, kv.dp, nb_shp nd, zero_shp p, ?_⟩
    have := q H1 s1
    unfold nzB at this
    rw [Bool.not_not] at this
    exact this
theorem ok_law_dot (T : Txt K mg) : FnOk P w K mg base CX0 5 T.f_law_dot T.d_law_dot ["_law_p", "_law_row_here", "_law_shut"] sl_dot := by
  refine T.F_law_dot.ok sc_law_dot (fun vs H Q E h => ?_) (fun cdv A outer s H vs Q E hr h => ?_)
  · obtain ⟨p, x, y, d, e, ds, es, rfl, _⟩ := h
    rfl
  · obtain ⟨p, x, y, d, e, ds, es, rfl, fp, kx, ed, ky, ee, le, l6, nd, ne, nt, q⟩ := h
    refine ⟨_, (pss_cons (ps_set (i := 3) sc_law_dot.nd rfl (.inl rfl) (pe_call (ok_law_some T) (hr.mono (by decide)) (by rfl) T.g_law_some T.F_law_some.kp T.b_law_some .nil pass0 (pa_cons (pv 0) (pa_cons pe_int pa_nil))))
      (pss_cons (ps_for PassesOwn.never rfl (pi_range1 (by rfl) T.m_range (pa_cons (pe_callB call_len_seq (by rfl) T.m_len (by decide +kernel) (pa_cons (pv 1) pa_nil)) pa_nil)) (pg_name (i := 4) sc_law_dot.nd rfl (.inl rfl))
        (pss_one (ps_set (i := 3) sc_law_dot.nd rfl (.inl rfl) (pe_call (ok_law_plus T) (hr.mono (by decide)) (by rfl) T.g_law_plus T.F_law_plus.kp T.b_law_plus .nil pass0 (pa_cons (pv 0) (pa_cons (pv 3) (pa_cons (pe_call (ok_law_times T) (hr.mono (by decide)) (by rfl) T.g_law_times T.F_law_times.kp T.b_law_times .nil pass0 (pa_cons (pv 0) (pa_cons (pe_ix ix_seq (pv 1) (pv 4) (fun _ _ => rfl)) (pa_cons (pe_ix ix_seq (pv 2) (pv 4) (fun _ _ => rfl)) pa_nil)))) pa_nil)))))))
      (pss_one (ps_ret (pv 3))))), ?_⟩
    obtain ⟨ax, xs, rfl, hxs, hsx⟩ := sq_of (K := K) kx ed
    obtain ⟨ay, ys, rfl, hys, hsy⟩ := sq_of (K := K) ky ee
    have lx := hxs.len
    have ly := hys.len
    refine ⟨_, rfl, p, 0, rfl, fun v1 H1 s1 k1 => ?_⟩
    rw [some_zero] at k1
    refine ⟨_, rfl, ax, xs, rfl, hsx.same s1, _, rfl, by omega, by omega, ?_⟩
    rw [show ((xs.length : Nat) : Int).toNat = ds.length by omega]
    refine for_range (lo := 0) (n := ds.length) (fun i σ H' => ∃ (v : V) (y4 : Option V), σ = [some (.int (p : Int)), some (.ref ax), some (.ref ay), some v, y4] ∧ Same H H' ∧ Dq H' v (dotD p (ds.take i) (es.take i) (zeroD p))) ⟨v1, none, rfl, s1, k1⟩ (fun i σ H' hi hP => ?_) (fun σ H' hP => ?_)
    · obtain ⟨v, y4, rfl, sm, kv⟩ := hP
      have hd := List.getElem?_eq_getElem hi
      have he := List.getElem?_eq_getElem (show i < es.length by omega)
      obtain ⟨x, hx, kx⟩ := dqs_at hxs hd
      obtain ⟨y, hy, ky⟩ := dqs_at hys he
      have n1 := nd _ (List.mem_of_getElem? hd)
      have n2 := ne _ (List.mem_of_getElem? he)
      have nx := dot_take (p := p) le hd he (zeroD p)
      have acc := nt i (Nat.le_of_lt hi)
      refine ⟨_, rfl, _, rfl, _, rfl, _, rfl, _, rfl, ?_⟩
      refine rix_sq (hsx.same sm) (at_of (j := i) (by omega) hx) ?_
      refine ⟨_, rfl, _, rfl, ?_⟩
      refine rix_sq (hsy.same sm) (at_of (j := i) (by omega) hy) ?_
      refine ⟨p, x, y, _, _, rfl, kx.same sm, ky.same sm, n1.up (by decide), n2.up (by decide), fp.le, fun v2 H2 s2 k2 => ?_⟩
      refine ⟨p, v, v2, _, _, rfl, kv.same s2, k2, acc.up (by decide), (timesD_nb n1 n2).up (by decide), fp.le, fun v3 H3 s3 k3 => ?_⟩
      refine ⟨v3, _, rfl, (sm.trans s2).trans s3, ?_⟩
      rw [nx]
      exact k3
    · obtain ⟨v, y4, rfl, sm, kv⟩ := hP
      rw [List.take_length, le, List.take_length] at kv
      exact ⟨_, rfl, q v H' sm kv⟩
end
end K25
set_option Elab.async false
set_option linter.all false
set_option maxRecDepth 100000
set_option maxHeartbeats 4000000
set_option exponentiation.threshold 5000
set_option pp.maxSteps 900
namespace K25
open PySem PySem.Spec PyProof.Rows L2 TkS LamX NdefX
def sl_good : Sp := fun vs H Q _ => ∃ (p : Nat) (x : V) (d : PyData), vs = [.int (p : Int), x] ∧ Dq H x d ∧ Nb p 3000 d ∧ Q (.bl true) H
def sl_good_row : Sp := fun vs H Q _ => ∃ (p : Nat) (x : V) (ds : List PyData), vs = [.int (p : Int), x, .int (ds.length : Int)] ∧ Dq H x (.tuple ds) ∧ (∀ d ∈ ds, Nb p 3000 d) ∧ Q (.bl true) H
def sl_good_rows : Sp := fun vs H Q _ => ∃ (p n : Nat) (x : V) (R : List (List PyData)), vs = [.int (p : Int), x, .int (R.length : Int), .int (n : Int)] ∧ Dq H x (rowsD R) ∧ (∀ r ∈ R, r.length = n) ∧ (∀ r ∈ R, ∀ d ∈ r, Nb p 3000 d) ∧ Q (.bl true) H
def sl_prime : Sp := fun vs H Q _ => ∃ (h g : Addr), vs = [.ref h] ∧ Hnd h g H ∧ ∀ (p : Nat) H', Kp h g H H' → Hnd h g H' → Fp p → p ≤ 9973 → Q (.int (p : Int)) H'
def sl_field (CR CF : Addr) : Sp := fun vs H Q _ => ∃ p : Nat, vs = [.int (p : Int)] ∧ Fp p ∧ ∀ y H', Same H H' → H y = none → Fld CR CF H' y p → Q (.ref y) H'
section
variable {P : Program} {w : World} {K : PySem.W.Frag} {mg : Str → Option Value} {base : Heap}
theorem ok_law_good (T : Txt K mg) : FnOk P w K mg base CX0 2 T.f_law_good T.d_law_good ["_law_p", "_law_thing"] sl_good := by
  refine T.F_law_good.ok sc_law_good (fun vs H Q E h => ?_) (fun cdv A outer s H vs Q E hr h => ?_)
  · obtain ⟨p, x, d, rfl, _⟩ := h
    rfl
  · obtain ⟨p, x, d, rfl, kx, nb, q⟩ := h
    refine ⟨_, (pss_cons (ps_if (pt_cmpR op_gt (pv 0) pe_int (nomark _))
        (pss_one (ps_ret (pe_and (pe_call (ok_law_whole T) (hr.mono (by decide)) (by rfl) T.g_law_whole T.F_law_whole.kp T.b_law_whole .nil pass0 (pa_cons (pv 1) pa_nil)) (pe_one (pe_chain op_le op_lt pe_int (pv 1) (pv 0))))))
        pss_nil)
      (pss_cons (ps_if (PW.pt (pw_or (pt_not (pt_val (pe_callB call_isi (by rfl) T.m_isinstance (by decide +kernel) (pa_cons (pv 1) (pa_cons (pe_bltn (v := .ty "tuple") (u := .type "tuple") (by rfl) T.m_tuple (by decide +kernel) rfl) pa_nil))))) (pw_or (pt_cmpR op_ne (pe_callB call_len_seq (by rfl) T.m_len (by decide +kernel) (pa_cons (pv 1) pa_nil)) pe_int (nomark _)) (pw_or (pt_not (pt_val (pe_call (ok_law_whole T) (hr.mono (by decide)) (by rfl) T.g_law_whole T.F_law_whole.kp T.b_law_whole .nil pass0 (pa_cons (pe_ix ix_tup (pv 1) pe_int (fun _ _ => rfl)) pa_nil)))) (pw_or1 (pt_not (pt_val (pe_call (ok_law_whole T) (hr.mono (by decide)) (by rfl) T.g_law_whole T.F_law_whole.kp T.b_law_whole .nil pass0 (pa_cons (pe_ix ix_tup (pv 1) pe_int (fun _ _ => rfl)) pa_nil)))))))))
        (pss_one (ps_ret pe_bl))
        pss_nil)
      (pss_one (ps_ret (pe_and (pe_cmpR op_gt (pe_ix ix_tup (pv 1) pe_int (fun _ _ => rfl)) pe_int (nomark _)) (pe_one (pe_cmpR op_eq (pe_call (ok_law_gcd T) (hr.mono (by decide)) (by rfl) T.g_law_gcd T.F_law_gcd.kp T.b_law_gcd .nil pass0 (pa_cons (pe_ix ix_tup (pv 1) pe_int (fun _ _ => rfl)) (pa_cons (pe_ix ix_tup (pv 1) pe_int (fun _ _ => rfl)) pa_nil))) pe_int (nomark _)))))))), ?_⟩
    cases nb with
    | @fr k r l f1 f2 =>
      obtain ⟨l1, rfl, h1⟩ := fr_at kx
      obtain ⟨t, ty, k1, k2, k3⟩ := dq_ty (K := K) kx
      refine ⟨_, rfl, ((0 : Nat) : Int), 0, rfl, rfl, _, rfl, iteF ?_⟩
      refine ⟨_, rfl, _, .ty "tuple", t, _, true, rfl, .ty _, ty, k3.2, true, rfl, iteF ?_⟩
      refine ⟨_, rfl, l1, _, rfl, .inr (SqT.of h1), rfl, _, rfl, iteF ?_⟩
      refine ⟨_, rfl, l1, _, 0, _, rfl, rfl, SqT.of h1, at_of (j := 0) rfl rfl, .int r.1, .int r.1, rfl, .int _, true, rfl, iteF ?_⟩
      refine ⟨_, rfl, l1, _, 1, _, rfl, rfl, SqT.of h1, at_of (j := 1) rfl rfl, .int r.2, .int r.2, rfl, .int _, true, rfl, iteF ?_⟩
      refine ⟨_, rfl, l1, _, 1, _, rfl, rfl, SqT.of h1, at_of (j := 1) rfl rfl, r.2, 0, rfl, rfl, _, rfl, ite2 (fun c => ?_) (fun c => ?_)⟩
      · refine ⟨_, rfl, l1, _, 0, _, rfl, rfl, SqT.of h1, at_of (j := 0) rfl rfl, _, rfl, l1, _, 1, _, rfl, rfl, SqT.of h1, at_of (j := 1) rfl rfl, _, _, rfl, rfl, ?_⟩
        rw [l.2]
        exact q
      · exact absurd (decide_eq_true l.1) c
    | @rs p k n p0 l =>
      cases kx
      refine ⟨_, rfl, (p : Int), 0, rfl, rfl, _, rfl, ite2 (fun c => ?_) (fun c => ?_)⟩
      · refine ⟨_, rfl, .int (n : Int), .int (n : Int), rfl, .int _, true, rfl, iteT ?_⟩
        refine ⟨_, rfl, 0, (n : Int), rfl, rfl, _, rfl, ite2 (fun _ => ?_) (fun c => absurd (decide_eq_true (show (0 : Int) ≤ (n : Int) by omega)) c)⟩
        refine ⟨_, rfl, (n : Int), (p : Int), rfl, rfl, ?_⟩
        show Q (.bl (decide ((n : Int) < (p : Int)))) H
        rw [decide_eq_true (show (n : Int) < (p : Int) by omega)]
        exact q
      · exact absurd (decide_eq_true (show (0 : Int) < (p : Int) by omega)) c
theorem ok_law_good_row (T : Txt K mg) : FnOk P w K mg base CX0 3 T.f_law_good_row T.d_law_good_row ["_law_p", "_law_row_here", "_law_width"] sl_good_row := by
  refine T.F_law_good_row.ok sc_law_good_row (fun vs H Q E h => ?_) (fun cdv A outer s H vs Q E hr h => ?_)
  · obtain ⟨p, x, ds, rfl, _⟩ := h
    rfl
  · obtain ⟨p, x, ds, rfl, kx, nd, q⟩ := h
    refine ⟨_, (pss_cons (ps_if (PW.pt (pw_or (pt_not (pt_val (pe_callB call_isi (by rfl) T.m_isinstance (by decide +kernel) (pa_cons (pv 1) (pa_cons (pe_bltn (v := .ty "tuple") (u := .type "tuple") (by rfl) T.m_tuple (by decide +kernel) rfl) pa_nil))))) (pw_or1 (pt_cmpR op_ne (pe_callB call_len_seq (by rfl) T.m_len (by decide +kernel) (pa_cons (pv 1) pa_nil)) (pv 2) (nomark _)))))
        (pss_one (ps_ret pe_bl))
        pss_nil)
      (pss_cons (ps_for PassesOwn.never rfl (pi_tup (pv 1)) (pg_name (i := 3) sc_law_good_row.nd rfl (.inl rfl))
        (pss_one (ps_if (pt_not (pt_val (pe_call (ok_law_good T) (hr.mono (by decide)) (by rfl) T.g_law_good T.F_law_good.kp T.b_law_good .nil pass0 (pa_cons (pv 0) (pa_cons (pv 3) pa_nil)))))
          (pss_one (ps_ret pe_bl))
          pss_nil)))
      (pss_one (ps_ret pe_bl)))), ?_⟩
    obtain ⟨t, ty, k1, k2, k3⟩ := dq_ty (K := K) kx
    cases kx with
    | @tup a xs _ e1 u1 =>
    have lx := u1.len
    refine ⟨_, rfl, _, .ty "tuple", t, _, true, rfl, .ty _, ty, k3.2, true, rfl, iteF ?_⟩
    refine ⟨_, rfl, a, xs, rfl, .inr (SqT.of e1), _, rfl, rfl, _, rfl, ?_⟩
    rw [lx, decide_eq_true (rfl : V.int (ds.length : Int) = _)]
    refine iteF ?_
    refine ⟨_, rfl, a, rfl, ⟨xs, SqT.of e1⟩, for_tup (xs := xs) (fun i σ H' => ∃ y3, σ = [some (.int (p : Int)), some (.ref a), some (.int (ds.length : Int)), y3] ∧ H = H') ⟨none, rfl, rfl⟩ (fun i σ H' _ hP => by obtain ⟨_, _, rfl⟩ := hP; exact SqT.of e1) (fun i x σ H' hx hP => ?_) (fun σ H' hP => ?_)⟩
    · obtain ⟨y3, rfl, rfl⟩ := hP
      obtain ⟨d, hd, kd⟩ := u1.get hx
      exact ⟨_, rfl, _, rfl, p, x, d, rfl, kd, nd d (List.mem_of_getElem? hd), _, rfl, iteF ⟨_, rfl, rfl⟩⟩
    · obtain ⟨y3, rfl, rfl⟩ := hP
      exact q
theorem ok_law_prime (T : Txt K mg) : FnOk P w K mg base CX0 3 T.f_law_prime T.d_law_prime ["_law_state"] sl_prime := by
  refine T.F_law_prime.ok sc_law_prime (fun vs H Q E h => ?_) (fun cdv A outer s H vs Q E hr h => ?_)
  · obtain ⟨h, g, rfl, _⟩ := h
    rfl
  · obtain ⟨h, g, rfl, hd, q⟩ := h
    refine ⟨_, (pss_one (ps_ret (pe_ix ix_tup (pe_tup (pa_cons pe_int (pa_cons pe_int (pa_cons pe_int (pa_cons pe_int (pa_cons pe_int (pa_cons pe_int (pa_cons pe_int (pa_cons pe_int pa_nil))))))))) (pe_call (ok_law_draw T) (hr.mono (by decide)) (by rfl) T.g_law_draw T.F_law_draw.kp T.b_law_draw .nil pass0 (pa_cons (pv 0) (pa_cons pe_int pa_nil))) (fun _ _ => rfl)))), ?_⟩
    refine ⟨(by show 8 ≤ sizeLine; decide), fun l nl => ⟨_, rfl, h, g, 8, rfl, hd.same (same_new nl), by decide, by decide, fun H1 r k1 h1 r0 r1 => ?_⟩⟩
    obtain ⟨n1, n2⟩ := hd.fresh nl
    have e1 := k1 l _ n1 n2 upd_same
    have kk : Kp h g H H1 := (Kp.of (same_new nl)).trans k1
    have fin : ∀ p : Nat, Fp p → p ≤ 9973 → Q (.int (p : Int)) H1 := fun p fp l => q p _ kk h1 fp l
    have cases8 : r = 0 ∨ r = 1 ∨ r = 2 ∨ r = 3 ∨ r = 4 ∨ r = 5 ∨ r = 6 ∨ r = 7 := by omega
    rcases cases8 with rfl | rfl | rfl | rfl | rfl | rfl | rfl | rfl
    · exact ⟨l, _, 0, _, rfl, rfl, SqT.of e1, at_of (j := 0) rfl rfl, fin 3 (.inr ⟨pr_small (by decide +kernel) (by decide) (by decide), by decide⟩) (by decide)⟩
    · exact ⟨l, _, 1, _, rfl, rfl, SqT.of e1, at_of (j := 1) rfl rfl, fin 5 (.inr ⟨pr_small (by decide +kernel) (by decide) (by decide), by decide⟩) (by decide)⟩
    · exact ⟨l, _, 2, _, rfl, rfl, SqT.of e1, at_of (j := 2) rfl rfl, fin 7 (.inr ⟨pr_small (by decide +kernel) (by decide) (by decide), by decide⟩) (by decide)⟩
    · exact ⟨l, _, 3, _, rfl, rfl, SqT.of e1, at_of (j := 3) rfl rfl, fin 0 (.inl rfl) (by decide)⟩
    · exact ⟨l, _, 4, _, rfl, rfl, SqT.of e1, at_of (j := 4) rfl rfl, fin 2 (.inr ⟨pr_small (by decide +kernel) (by decide) (by decide), by decide⟩) (by decide)⟩
    · exact ⟨l, _, 5, _, rfl, rfl, SqT.of e1, at_of (j := 5) rfl rfl, fin 11 (.inr ⟨pr_small (by decide +kernel) (by decide) (by decide), by decide⟩) (by decide)⟩
    · exact ⟨l, _, 6, _, rfl, rfl, SqT.of e1, at_of (j := 6) rfl rfl, fin 101 (.inr ⟨pr_small (by decide +kernel) (by decide) (by decide), by decide⟩) (by decide)⟩
    · exact ⟨l, _, 7, _, rfl, rfl, SqT.of e1, at_of (j := 7) rfl rfl, fin 9973 (.inr ⟨pr_small (by decide +kernel) (by decide) (by decide), by decide⟩) (by decide)⟩
theorem ok_law_field (T : Txt K mg) : FnOk P w K mg base CX0 5 T.f_law_field T.d_law_field ["_law_p"] (sl_field T.C_RestField T.C_FractionField) := by
  refine T.F_law_field.ok sc_law_field (fun vs H Q E h => ?_) (fun cdv A outer s H vs Q E hr h => ?_)
  · obtain ⟨p, rfl, _⟩ := h
    rfl
  · obtain ⟨p, rfl, fp, q⟩ := h
    refine ⟨_, (pss_cons (ps_if (pt_cmpR op_gt (pv 0) pe_int (nomark _))
        (pss_one (ps_ret (pe_make T.M_RestField (ok_RestField_init T) (hr.mono (by decide)) (by rfl) T.g_RestField T.b_RestField_init .nil passL (pa_cons (pv 0) pa_nil))))
        pss_nil)
      (pss_one (ps_ret (pe_make0 T.M_FractionField (ok_FractionField_init T) (hr.mono (by decide)) (by rfl) T.g_FractionField T.b_FractionField_init .nil pass0)))), ?_⟩
    refine ⟨_, rfl, _, _, rfl, rfl, _, rfl, ite2 (fun c => ?_) (fun c => ?_)⟩
    · have c' : (0 : Int) < (p : Int) := of_decide_eq_true c
      have p0 : p ≠ 0 := by omega
      obtain ⟨pr, le⟩ : Pr p ∧ p ≤ 20000 := fp.resolve_left p0
      refine ⟨_, rfl, mk_rest (.int _) (fun e => ?_) fun p' e pr' le' H' y s n f => ?_⟩
      · rw [prime_is pr le] at e
        cases e
      · have : p = p' := by
          have := PyData.int.inj e
          omega
        subst this
        exact q y H' s n ⟨fp, fun z => absurd z p0, fun _ => f⟩
    · have p0 : p = 0 := by
        have : ¬ (0 : Int) < (p : Int) := fun z => c (decide_eq_true z)
        omega
      subst p0
      exact mk_frac fun H' y s n f => q y H' s n ⟨.inl rfl, fun _ => f, fun z => absurd rfl z⟩
end
end K25
set_option Elab.async false
set_option linter.all false
set_option maxRecDepth 100000
set_option maxHeartbeats 4000000
set_option exponentiation.threshold 5000
set_option pp.maxSteps 900
namespace K25
open PySem PySem.Spec PyProof.Rows L2 TkS LamX NdefX
theorem low_eq {t b t' b' : Int} (hb : b ≠ 0) (hb' : b' ≠ 0) (e : t * b' = t' * b) : low t b = low t' b' := by
  obtain ⟨l1, l2⟩ := low_ok (t := t') hb'
  refine low_is hb l1 ?_
  have : (t * (low t' b').2) * b' = ((low t' b').1 * b) * b' := by grind
  exact Int.eq_of_mul_eq_mul_right hb' this
/-- a number as a fraction of a known denominator, of a known size -/
inductive Fb : Nat → Int → Int → PyData → Prop
  | fr {D T t : Int} : 0 < D → -T ≤ t → t ≤ T → Fb 0 D T (frD (low t D))
  | rs {p : Nat} {D T : Int} {x : Nat} : p ≠ 0 → x < p → Fb p D T (.int (x : Int))
theorem Fb.up {p : Nat} {D T T' : Int} {d : PyData} (h : Fb p D T d) (l : T ≤ T') : Fb p D T' d := by
  cases h with
  | fr a b c => exact .fr a (by omega) (by omega)
  | rs a b => exact .rs a b
theorem Fb.scale {p : Nat} {D T c : Int} {d : PyData} (h : Fb p D T d) (c0 : 0 < c) : Fb p (c * D) (c * T) d := by
  cases h with
  | @fr D T t a b e =>
    have : low t D = low (c * t) (c * D) := low_eq (by omega) (by have := Int.mul_pos c0 a; omega) (by grind)
    rw [this]
    refine .fr (Int.mul_pos c0 a) ?_ (Int.mul_le_mul_of_nonneg_left e (by omega))
    have := Int.mul_le_mul_of_nonneg_left b (show 0 ≤ c by omega)
    rw [Int.mul_neg] at this
    exact this
  | rs a b => exact .rs a b
theorem Fb.nb {p k : Nat} {D T : Int} {d : PyData} (h : Fb p D T d) (hD : D < 2 ^ k) (hT : T < 2 ^ k) : Nb p k d := by
  cases h with
  | @fr D T t a b e =>
    have e2 : ((2 ^ k : Nat) : Int) = 2 ^ k := Int.natCast_pow 2 k
    refine nb_lowS (by omega) ?_ ?_ <;> unfold Fin <;> omega
  | rs a b => exact .rs a b
theorem frOf_fr (q : Int × Int) : frOf (frD q) = q := rfl
theorem pos_ne {x : Int} (h : 0 < x) : x ≠ 0 := by omega
theorem fb_rest {p : Nat} {D T : Int} {z : Int} (n : p ≠ 0) : Fb p D T (.int (z % (p : Int))) := by
  obtain ⟨y, e⟩ : ∃ y : Nat, z % (p : Int) = (y : Int) := ⟨(z % (p : Int)).toNat, (Int.toNat_of_nonneg (Int.emod_nonneg _ (by omega))).symm⟩
  have := Int.emod_lt_of_pos z (show (0 : Int) < p by omega)
  rw [e] at this ⊢
  exact .rs n (by omega)
theorem Fb.plus {p : Nat} {D T T' : Int} {a b : PyData} (ha : Fb p D T a) (hb : Fb p D T' b) : Fb p D (T + T') (plusD p a b) := by
  unfold plusD
  cases ha with
  | @fr D T t a1 a2 a3 =>
    cases hb with
    | @fr D T' u b1 b2 b3 =>
      rw [if_pos rfl, frOf_fr, frOf_fr]
      obtain ⟨l1, e1⟩ := low_ok (t := t) (pos_ne a1)
      obtain ⟨l2, e2⟩ := low_ok (t := u) (pos_ne a1)
      have : plusF (low t D) (low u D) = low (t + u) D := low_eq (mul_ne l1.1 l2.1) (pos_ne a1) (by grind)
      rw [this]
      exact .fr a1 (by omega) (by omega)
    | rs n _ => exact absurd rfl n
  | rs n _ =>
    rw [if_neg n]
    exact fb_rest n
theorem abs_mul_le {x y X Y : Int} (h1 : -X ≤ x) (h2 : x ≤ X) (h3 : -Y ≤ y) (h4 : y ≤ Y) : -(X * Y) ≤ x * y ∧ x * y ≤ X * Y := by
  have X0 : 0 ≤ X := by omega
  have Y0 : 0 ≤ Y := by omega
  have a1 := Int.mul_nonneg (show 0 ≤ X - x by omega) (show 0 ≤ Y + y by omega)
  have a2 := Int.mul_nonneg (show 0 ≤ X + x by omega) (show 0 ≤ Y - y by omega)
  have a3 := Int.mul_nonneg (show 0 ≤ X - x by omega) (show 0 ≤ Y - y by omega)
  have a4 := Int.mul_nonneg (show 0 ≤ X + x by omega) (show 0 ≤ Y + y by omega)
  constructor <;> grind
theorem Fb.times {p : Nat} {D D' T T' : Int} {a b : PyData} (ha : Fb p D T a) (hb : Fb p D' T' b) : Fb p (D * D') (T * T') (timesD p a b) := by
  unfold timesD
  cases ha with
  | @fr D T t a1 a2 a3 =>
    cases hb with
    | @fr D' T' u b1 b2 b3 =>
      rw [if_pos rfl, frOf_fr, frOf_fr]
      obtain ⟨l1, e1⟩ := low_ok (t := t) (pos_ne a1)
      obtain ⟨l2, e2⟩ := low_ok (t := u) (pos_ne b1)
      have : timesF (low t D) (low u D') = low (t * u) (D * D') := low_eq (mul_ne l1.1 l2.1) (mul_ne a1 b1) (by grind)
      rw [this]
      obtain ⟨c1, c2⟩ := abs_mul_le a2 a3 b2 b3
      exact .fr (Int.mul_pos a1 b1) c1 c2
    | rs n _ => exact absurd rfl n
  | rs n _ =>
    rw [if_neg n]
    exact fb_rest n
/-- a fraction with one of the bottoms 1, 2, 3 -/
theorem fb_six {t b M : Int} (b1 : 1 ≤ b) (b3 : b ≤ 3) (h1 : -M ≤ t) (h2 : t ≤ M) : Fb 0 6 (6 * M) (frD (low t b)) := by
  have : b = 1 ∨ b = 2 ∨ b = 3 := by omega
  rcases this with rfl | rfl | rfl
  · rw [low_eq (t := t) (b := 1) (t' := 6 * t) (b' := 6) (by decide) (by decide) (by omega)]
    exact .fr (by decide) (by omega) (by omega)
  · rw [low_eq (t := t) (b := 2) (t' := 3 * t) (b' := 6) (by decide) (by decide) (by omega)]
    exact .fr (by decide) (by omega) (by omega)
  · rw [low_eq (t := t) (b := 3) (t' := 2 * t) (b' := 6) (by decide) (by decide) (by omega)]
    exact .fr (by decide) (by omega) (by omega)
theorem low_one : low 1 1 = (1, 1) := low_is (by decide) ⟨by decide, by decide⟩ (by decide)
theorem low_self {M : Int} (h : 0 < M) : low M M = (1, 1) := by
  rw [← low_one]
  exact low_eq (pos_ne h) (by decide) (by omega)
theorem low_zero {M : Int} (h : 0 < M) : low 0 M = (0, 1) := low_is (pos_ne h) ⟨by decide, by decide⟩ (by omega)
theorem fb_one {p : Nat} (fp : Fp p) {M : Int} (h : 0 < M) : Fb p M M (oneD p) := by
  unfold oneD
  by_cases c : p = 0
  · rw [if_pos c]
    subst c
    rw [← low_self h]
    exact .fr h (by omega) (Int.le_refl _)
  · rw [if_neg c]
    have := fp.cases c
    exact .rs (x := 1) c (by omega)
theorem fb_zero {p : Nat} (fp : Fp p) {M T : Int} (h : 0 < M) (t0 : 0 ≤ T) : Fb p M T (zeroD p) := by
  unfold zeroD
  by_cases c : p = 0
  · rw [if_pos c]
    subst c
    rw [← low_zero h]
    exact .fr h (by omega) (by omega)
  · rw [if_neg c]
    have := fp.cases c
    exact .rs (x := 0) c (by omega)
theorem fb_minus {p : Nat} (fp : Fp p) {M : Int} (h : 0 < M) : Fb p M M (minusD p) := by
  unfold minusD
  by_cases c : p = 0
  · rw [if_pos c]
    subst c
    have : low (-M) M = (-1, 1) := low_is (pos_ne h) ⟨by decide, by decide⟩ (by omega)
    rw [← this]
    exact .fr h (by omega) (by omega)
  · rw [if_neg c]
    have := fp.cases c
    have e : ((p : Int) - 1) = ((p - 1 : Nat) : Int) := by omega
    rw [e]
    exact .rs c (by omega)
theorem Fb.dot {p : Nat} {D D' T T' : Int} : ∀ {xs ys : List PyData} {a : PyData} {A : Int}, (∀ d ∈ xs, Fb p D T d) → (∀ d ∈ ys, Fb p D' T' d) → xs.length = ys.length → Fb p (D * D') A a → Fb p (D * D') (A + xs.length * (T * T')) (dotD p xs ys a)
  | [], [], a, A, _, _, _, h => by
    show Fb p (D * D') (A + (0 : Nat) * (T * T')) a
    exact h.up (by omega)
  | [], _ :: _, _, _, _, _, l, _ => by simp at l
  | _ :: _, [], _, _, _, _, l, _ => by simp at l
  | x :: xs, y :: ys, a, A, hx, hy, l, h => by
    have := Fb.dot (xs := xs) (ys := ys) (fun d m => hx d (List.mem_cons_of_mem _ m)) (fun d m => hy d (List.mem_cons_of_mem _ m)) (by simpa using l) (h.plus ((hx x List.mem_cons_self).times (hy y List.mem_cons_self)))
    show Fb p (D * D') _ (dotD p xs ys (plusD p a (timesD p x y)))
    refine this.up ?_
    rw [List.length_cons]
    push_cast
    grind
/-! numbers of either field in a ring -/
def overD (p : Nat) (x y : PyData) : PyData := if p = 0 then frD (quotF (frOf x) (frOf y)) else .int (((intOf x).toNat * (intOf y).toNat ^ (p - 2) % p : Nat) : Int)
structure Phi (p : Nat) (R : Type) [Lean.Grind.CommRing R] (φ : PyData → R) : Prop where
  plus : ∀ {k m : Nat} {a b : PyData}, Nb p k a → Nb p m b → φ (plusD p a b) = φ a + φ b
  times : ∀ {k m : Nat} {a b : PyData}, Nb p k a → Nb p m b → φ (timesD p a b) = φ a * φ b
  zero : φ (zeroD p) = 0
  one : φ (oneD p) = 1
  minus : φ (minusD p) = -1
  over : ∀ {k m : Nat} {a b : PyData}, Nb p k a → Nb p m b → b ≠ zeroD p → φ (overD p a b) * φ b = φ a
  inj : ∀ {k m : Nat} {a b : PyData}, Nb p k a → Nb p m b → φ a = φ b → a = b
def rv (d : PyData) : Rat := ((frOf d).1 : Rat) / ((frOf d).2 : Rat)
theorem rat_ne {b : Int} (h : b ≠ 0) : (b : Rat) ≠ 0 := fun z => h (by exact_mod_cast z)
theorem rv_low {t b : Int} (hb : b ≠ 0) : rv (frD (low t b)) = (t : Rat) / (b : Rat) := by
  obtain ⟨l1, h⟩ := low_ok (t := t) hb
  unfold rv
  rw [frOf_fr]
  have n1 := rat_ne (pos_ne l1.1)
  have n2 := rat_ne hb
  have e : ((t * (low t b).2 : Int) : Rat) = (((low t b).1 * b : Int) : Rat) := by rw [h]
  rw [Rat.intCast_mul, Rat.intCast_mul] at e
  grind
theorem phi_rat : Phi 0 Rat rv where
  plus := fun {k m a b} na nb => by
    cases na with
    | @fr k q l1 _ _ =>
      cases nb with
      | @fr m r l2 _ _ =>
        show rv (frD (plusF q r)) = _
        have n1 := rat_ne (pos_ne l1.1)
        have n2 := rat_ne (pos_ne l2.1)
        unfold plusF
        rw [rv_low (mul_ne l1.1 l2.1), Rat.intCast_mul, Rat.intCast_add, Rat.intCast_mul, Rat.intCast_mul]
        unfold rv
        rw [frOf_fr, frOf_fr]
        grind
      | rs n _ => exact absurd rfl n
    | rs n _ => exact absurd rfl n
  times := fun {k m a b} na nb => by
    cases na with
    | @fr k q l1 _ _ =>
      cases nb with
      | @fr m r l2 _ _ =>
        show rv (frD (timesF q r)) = _
        have n1 := rat_ne (pos_ne l1.1)
        have n2 := rat_ne (pos_ne l2.1)
        unfold timesF
        rw [rv_low (mul_ne l1.1 l2.1), Rat.intCast_mul, Rat.intCast_mul]
        unfold rv
        rw [frOf_fr, frOf_fr]
        grind
      | rs n _ => exact absurd rfl n
    | rs n _ => exact absurd rfl n
  zero := by
    show ((0 : Int) : Rat) / ((1 : Int) : Rat) = 0
    grind
  one := by
    show ((1 : Int) : Rat) / ((1 : Int) : Rat) = 1
    grind
  minus := by
    show ((-1 : Int) : Rat) / ((1 : Int) : Rat) = -1
    grind
  over := fun {k m a b} na nb nz => by
    cases na with
    | @fr k q l1 _ _ =>
      cases nb with
      | @fr m r l2 _ _ =>
        have r1 := fr_zero l2 nz
        show rv (frD (quotF q r)) * _ = _
        have n1 := rat_ne (pos_ne l1.1)
        have n2 := rat_ne (pos_ne l2.1)
        have n3 := rat_ne r1
        unfold quotF
        rw [rv_low (fun z => (Int.mul_eq_zero.mp z).elim (fun h => pos_ne l1.1 h) r1), Rat.intCast_mul, Rat.intCast_mul]
        unfold rv
        rw [frOf_fr, frOf_fr]
        grind
      | rs n _ => exact absurd rfl n
    | rs n _ => exact absurd rfl n
  inj := fun {k m a b} na nb e => by
    cases na with
    | @fr k q l1 _ _ =>
      cases nb with
      | @fr m r l2 _ _ =>
        have n1 := rat_ne (pos_ne l1.1)
        have n2 := rat_ne (pos_ne l2.1)
        unfold rv at e
        rw [frOf_fr, frOf_fr] at e
        have e2 : (q.1 : Rat) * (r.2 : Rat) = (r.1 : Rat) * (q.2 : Rat) := by grind
        rw [← Rat.intCast_mul, ← Rat.intCast_mul] at e2
        rw [low_uniq l1 l2 (by exact_mod_cast e2)]
      | rs n _ => exact absurd rfl n
    | rs n _ => exact absurd rfl n
def rn (p : Nat) [NeZero p] (d : PyData) : _root_.Fin p := Fin.ofNat p (intOf d).toNat
theorem rn_nat {p : Nat} [NeZero p] (x : Nat) : rn p (.int (x : Int)) = Fin.ofNat p x := by
  show Fin.ofNat p ((x : Int)).toNat = _
  rw [Int.toNat_natCast]
theorem ofNat_mod {p : Nat} [NeZero p] (x : Nat) : Fin.ofNat p (x % p) = Fin.ofNat p x := by
  apply Fin.ext
  simp
theorem ofNat_mul {p : Nat} [NeZero p] (x y : Nat) : Fin.ofNat p (x * y) = Fin.ofNat p x * Fin.ofNat p y := by
  apply Fin.ext
  simp [Fin.val_mul]
theorem ofNat_add {p : Nat} [NeZero p] (x y : Nat) : Fin.ofNat p (x + y) = Fin.ofNat p x + Fin.ofNat p y := by
  apply Fin.ext
  simp [Fin.val_add]
theorem times_nat {p x y : Nat} (n : p ≠ 0) : timesD p (.int (x : Int)) (.int (y : Int)) = .int ((x * y % p : Nat) : Int) := by
  unfold timesD
  rw [if_neg n]
  rfl
theorem plus_nat {p x y : Nat} (n : p ≠ 0) : plusD p (.int (x : Int)) (.int (y : Int)) = .int (((x + y) % p : Nat) : Int) := by
  unfold plusD
  rw [if_neg n]
  rfl
theorem over_nat {p x y : Nat} (n : p ≠ 0) : overD p (.int (x : Int)) (.int (y : Int)) = .int ((x * y ^ (p - 2) % p : Nat) : Int) := by
  unfold overD
  rw [if_neg n]
  rfl
theorem nz_nat {p y : Nat} (n : p ≠ 0) (h : PyData.int (y : Int) ≠ zeroD p) : y ≠ 0 := fun z => h (by
  unfold zeroD
  rw [if_neg n, z]
  rfl)
theorem inv_one {p y : Nat} [NeZero p] (pr : Pr p) (y0 : y ≠ 0) (ly : y < p) : Fin.ofNat p (y ^ (p - 2)) * Fin.ofNat p y = 1 := by
  have := pow_inv pr (not_dvd (by omega) ly)
  rw [← ofNat_mul, ← ofNat_mod, this]
  rfl
theorem phi_fin {p : Nat} (n0 : p ≠ 0) (pr : Pr p) [NeZero p] : Phi p (_root_.Fin p) (rn p) where
  plus := fun {k m a b} na nb => by
    cases na with
    | fr _ _ _ => exact absurd rfl n0
    | @rs p k x n lx =>
      cases nb with
      | fr _ _ _ => exact absurd rfl n0
      | @rs p m y n ly => rw [plus_nat n0, rn_nat, rn_nat, rn_nat, ofNat_mod, ofNat_add]
  times := fun {k m a b} na nb => by
    cases na with
    | fr _ _ _ => exact absurd rfl n0
    | @rs p k x n lx =>
      cases nb with
      | fr _ _ _ => exact absurd rfl n0
      | @rs p m y n ly => rw [times_nat n0, rn_nat, rn_nat, rn_nat, ofNat_mod, ofNat_mul]
  zero := by
    unfold zeroD
    rw [if_neg n0]
    exact (rn_nat 0).trans rfl
  one := by
    unfold oneD
    rw [if_neg n0]
    exact (rn_nat 1).trans rfl
  minus := by
    unfold minusD
    rw [if_neg n0, show ((p : Int) - 1) = ((p - 1 : Nat) : Int) by omega, rn_nat]
    have h : Fin.ofNat p (p - 1) + Fin.ofNat p 1 = 0 := by
      rw [← ofNat_add, show p - 1 + 1 = p by omega]
      apply Fin.ext
      simp
    have h1 : Fin.ofNat p 1 = 1 := rfl
    rw [h1] at h
    grind
  over := fun {k m a b} na nb nz => by
    cases na with
    | fr _ _ _ => exact absurd rfl n0
    | @rs p k x n lx =>
      cases nb with
      | fr _ _ _ => exact absurd rfl n0
      | @rs p m y n ly =>
        have := inv_one pr (nz_nat n0 nz) ly
        rw [over_nat n0, rn_nat, rn_nat, rn_nat, ofNat_mod, ofNat_mul]
        grind
  inj := fun {k m a b} na nb e => by
    cases na with
    | fr _ _ _ => exact absurd rfl n0
    | @rs p k x n lx =>
      cases nb with
      | fr _ _ _ => exact absurd rfl n0
      | @rs p m y n ly =>
        rw [rn_nat, rn_nat] at e
        have := congrArg Fin.val e
        simp [Nat.mod_eq_of_lt lx, Nat.mod_eq_of_lt ly] at this
        rw [this]
theorem phi_has {p : Nat} (fp : Fp p) : ∃ (R : Type) (i : Lean.Grind.CommRing R) (φ : PyData → R), Phi p R φ := by
  by_cases c : p = 0
  · subst c
    exact ⟨Rat, inferInstance, rv, phi_rat⟩
  · have : NeZero p := ⟨c⟩
    exact ⟨_, inferInstance, rn p, phi_fin c (fp.resolve_left c).1⟩
end K25
set_option Elab.async false
set_option linter.all false
set_option maxRecDepth 100000
set_option maxHeartbeats 4000000
set_option exponentiation.threshold 5000
set_option pp.maxSteps 900
namespace K25
open PySem PySem.Spec PyProof.Rows L2 TkS LamX NdefX
theorem vw_upd {h g D : Addr} {H : Hp} {o : HO} : TkS.Off D (Vw h g (upd H D o)) = TkS.Off D (Vw h g H) := by
  funext b
  unfold Vw TkS.Off
  by_cases z : b = D
  · rw [if_pos z, if_pos z]
  · rw [if_neg z, if_neg z, upd_ne z]
theorem dqs_upd {h g D : Addr} {H : Hp} {o : HO} {acc xs : List V} {ds : List PyData} (n1 : D ≠ h) (n2 : D ≠ g) (hD : H D = some (.lst acc)) (nl : noLists ds = true) (k : DqAll (Vw h g H) xs ds) : DqAll (Vw h g (upd H D o)) xs ds := by
  have := dqs_noL (vw_at n1 n2 hD) ds nl k
  rw [← vw_upd (o := o)] at this
  exact DqAll.same off_same _ this
theorem dq_upd {h g D : Addr} {H : Hp} {o : HO} {acc : List V} {x : V} {d : PyData} (n1 : D ≠ h) (n2 : D ≠ g) (hD : H D = some (.lst acc)) (nl : noList d = true) (k : Dq (Vw h g H) x d) : Dq (Vw h g (upd H D o)) x d := by
  have := dq_noL (vw_at n1 n2 hD) d nl k
  rw [← vw_upd (o := o)] at this
  exact this.same off_same
theorem Hnd.upd {h g D : Addr} {H : Hp} {o : HO} (x : Hnd h g H) (n1 : D ≠ h) (n2 : D ≠ g) : Hnd h g (L2.upd H D o) := by
  obtain ⟨cells, t, c, h1, h2, q⟩ := x.ex
  exact ⟨x.ne, cells, t, c, by rw [upd_ne (Ne.symm n1)]; exact h1, by rw [upd_ne (Ne.symm n2)]; exact h2, q⟩
theorem Kp.put {h g D : Addr} {H H' : Hp} {o : HO} (k : Kp h g H H') (nD : H D = none) : Kp h g H (upd H' D o) := fun b u n1 n2 e => by
  rw [upd_ne (ne_of_none e nD)]
  exact k b u n1 n2 e
end K25
namespace TkS
open PySem PySem.Spec PyProof.Rows L2
theorem DqAll.set {H : Hp} : ∀ {xs : List V} {ds : List PyData} {v : V} {d : PyData} (n : Nat), DqAll H xs ds → Dq H v d → DqAll H (xs.set n v) (ds.set n d)
  | _, _, _, _, _, .nil, _ => .nil
  | _, _, _, _, 0, .cons _ t, k => .cons k t
  | _, _, _, _, n + 1, .cons h t, k => .cons h (DqAll.set n t k)
end TkS
namespace K25
open PySem PySem.Spec PyProof.Rows L2 TkS LamX NdefX
theorem nbs_noL {p k : Nat} {ds : List PyData} (h : ∀ d ∈ ds, Nb p k d) : noLists ds = true := noLs_all fun d m => nb_noL (h d m)
theorem nz_one {p : Nat} (fp : Fp p) : nzB p (oneD p) = true := by
  unfold nzB
  rw [nb_ne (nb_one fp (Nat.le_refl 1)) (nb_zero fp (Nat.le_refl 1)) fun z => ?_]
  · rfl
  · unfold oneD zeroD at z
    by_cases c : p = 0
    · rw [if_pos c, if_pos c] at z
      have := frD_inj z
      exact absurd (congrArg Prod.fst this) (by decide)
    · rw [if_neg c, if_neg c] at z
      exact absurd (PyData.int.inj z) (by decide)
theorem if_valC {r : List V → Hp → VK → Prop} {te : TE} {t1 t2 : TS} {D : Ends} {σ : L2.St} {H : Hp} (h : te σ H fun v H1 => r [v] H1 fun u H2 => ∃ b, u = .bl b ∧ if b = true then t1 D σ H2 else t2 D σ H2) : tIfS (tTest (tCB r (tCons te tNil))) t1 t2 D σ H := h
/-- what is new since H, the law's state left out: no list that stood in H -/
def Nw (h g : Addr) (H H' : Hp) : Hp := fun b => match H b with
  | some (.lst _) => none
  | _ => Vw h g H' b
theorem nw_some {h g b : Addr} {H H' : Hp} {o : HO} (e : Nw h g H H' b = some o) : (∀ acc, H b ≠ some (.lst acc)) ∧ Vw h g H' b = some o := by
  unfold Nw at e
  split at e
  · cases e
  · rename_i n
    exact ⟨n, e⟩
theorem nw_is {h g b : Addr} {H H' : Hp} {o : HO} (n : ∀ acc, H b ≠ some (.lst acc)) (e : Vw h g H' b = some o) : Nw h g H H' b = some o := by
  unfold Nw
  split
  · rename_i acc z
    exact absurd z (n acc)
  · exact e
theorem vw_some {h g b : Addr} {H : Hp} {o : HO} (e : Vw h g H b = some o) : b ≠ h ∧ b ≠ g ∧ H b = some o := by
  unfold Vw TkS.Off at e
  by_cases c : b = g
  · rw [if_pos c] at e
    cases e
  · rw [if_neg c] at e
    by_cases c2 : b = h
    · rw [if_pos c2] at e
      cases e
    · rw [if_neg c2] at e
      exact ⟨c2, c, e⟩
theorem nw_vw {h g : Addr} {H H' : Hp} : Same (Nw h g H H') (Vw h g H') := fun b o e => (nw_some e).2
theorem nw_off {h g D : Addr} {H H' : Hp} {acc : List V} (hD : H D = some (.lst acc)) : Same (Nw h g H H') (TkS.Off D (Vw h g H')) := fun b o e => by
  obtain ⟨n, e'⟩ := nw_some e
  exact off_at (fun z => n acc (by rw [z]; exact hD)) e'
theorem nw_mono {h g : Addr} {H H' H2 : Hp} (k : Kp h g H' H2) : Same (Nw h g H H') (Nw h g H H2) := fun b o e => by
  obtain ⟨n, e'⟩ := nw_some e
  exact nw_is n (k.vw b o e')
theorem nw_old {h g : Addr} {H H1 H' : Hp} (k : Kp h g H H1) : Same (Nw h g H1 H') (Nw h g H H') := fun b o e => by
  obtain ⟨n, e'⟩ := nw_some e
  obtain ⟨n1, n2, _⟩ := vw_some e'
  exact nw_is (fun acc z => n acc (k b _ n1 n2 z)) e'
theorem Kp.free {h g b : Addr} {H G : Hp} (k : Kp h g H G) (x : Hnd h g G) (n : G b = none) : H b = none := by
  obtain ⟨n1, n2⟩ := x.fresh n
  cases e : H b with
  | none => rfl
  | some o =>
    rw [k b o n1 n2 e] at n
    cases n
theorem nw_at {h g b : Addr} {H H' : Hp} {o : HO} (n : H b = none) (n1 : b ≠ h) (n2 : b ≠ g) (e : H' b = some o) : Nw h g H H' b = some o := nw_is (fun acc z => by rw [n] at z; cases z) (vw_at n1 n2 e)
mutual
theorem dq_nw {h g : Addr} {H H' : Hp} (k : Kp h g H H') : ∀ {v : V} (d : PyData), noList d = true → Dq (Vw h g H') v d → Dq (Nw h g H H') v d
  | _, .none, _, .non => .non
  | _, .bool _, _, .bl b => .bl b
  | _, .int _, _, .int i => .int i
  | _, .str _, _, .str x => .str x
  | _, .list _, n, .lst e u => by cases n
  | _, .tuple ds, n, .tup e u => .tup (by
      obtain ⟨n1, n2, e'⟩ := vw_some e
      exact nw_is (fun acc z => by rw [k _ _ n1 n2 z] at e'; cases e') e) (dqs_nw k ds n u)
theorem dqs_nw {h g : Addr} {H H' : Hp} (k : Kp h g H H') : ∀ {vs : List V} (ds : List PyData), noLists ds = true → DqAll (Vw h g H') vs ds → DqAll (Nw h g H H') vs ds
  | _, [], _, .nil => .nil
  | _, d :: ds, n, .cons u v => by
    have n' : (noList d && noLists ds) = true := n
    obtain ⟨n1, n2⟩ := Bool.and_eq_true_iff.mp n'
    exact .cons (dq_nw k d n1 u) (dqs_nw k ds n2 v)
end
theorem nw_put {h g D : Addr} {H H2 H' : Hp} {o : HO} {acc : List V} (k : Kp h g H H2) (hD : H2 D = some (.lst acc)) : Same (Nw h g H2 H') (Nw h g H (upd H' D o)) := fun b u e => by
  obtain ⟨n, e'⟩ := nw_some e
  obtain ⟨n1, n2, e2⟩ := vw_some e'
  have nb : b ≠ D := fun z => n acc (by rw [z]; exact hD)
  exact nw_is (fun acc z => n acc (k b _ n1 n2 z)) (vw_at n1 n2 (by rw [upd_ne nb]; exact e2))
theorem fbs_noL {p : Nat} {D T : Int} {ds : List PyData} (h : ∀ d ∈ ds, Fb p D T d) : noLists ds = true := noLs_all fun d m => by
  cases h d m <;> rfl
theorem Fb.n24 {p : Nat} {d : PyData} (h : Fb p 6 12582912 d) : Nb p 24 d := h.nb (by decide) (by decide)
def sl_number : Sp := fun vs H Q _ => ∃ (h g : Addr) (p : Nat), vs = [.ref h, .int (p : Int)] ∧ Hnd h g H ∧ Fp p ∧ ∀ v H' d, Kp h g H H' → Hnd h g H' → Dq (Vw h g H') v d → Fb p 6 12582912 d → Q v H'
def sl_row : Sp := fun vs H Q _ => ∃ (h g : Addr) (p n : Nat), vs = [.ref h, .int (p : Int), .int (n : Int)] ∧ Hnd h g H ∧ Fp p ∧ 1 ≤ n ∧ n ≤ 6 ∧
  ∀ a H' ds, Kp h g H H' → Hnd h g H' → Dq (Nw h g H H') (.ref a) (.list ds) → ds.length = n → (∀ d ∈ ds, Fb p 6 12582912 d) → ds.any (nzB p) = true → Q (.ref a) H'
section
variable {P : Program} {w : World} {K : PySem.W.Frag} {mg : Str → Option Value} {base : Heap}
theorem ok_law_number (T : Txt K mg) : FnOk P w K mg base CX0 3 T.f_law_number T.d_law_number ["_law_state", "_law_p"] sl_number := by
  refine T.F_law_number.ok sc_law_number (fun vs H Q E h => ?_) (fun cdv A outer s H vs Q E hr h => ?_)
  · obtain ⟨h, g, p, rfl, _⟩ := h
    rfl
  · obtain ⟨h, g, p, rfl, hd, fp, q⟩ := h
    refine ⟨_, (pss_cons (ps_if (pt_cmpR op_gt (pv 1) pe_int (nomark _))
        (pss_one (ps_ret (pe_call (ok_law_draw T) (hr.mono (by decide)) (by rfl) T.g_law_draw T.F_law_draw.kp T.b_law_draw .nil pass0 (pa_cons (pv 0) (pa_cons (pv 1) pa_nil)))))
        pss_nil)
      (pss_cons (ps_set (i := 2) sc_law_number.nd rfl (.inl rfl) (pe_op op_sub (pe_call (ok_law_draw T) (hr.mono (by decide)) (by rfl) T.g_law_draw T.F_law_draw.kp T.b_law_draw .nil pass0 (pa_cons (pv 0) (pa_cons pe_int pa_nil))) pe_int))
      (Evl.pss_cut (ps_if (pt_cmpR op_eq (pe_call (ok_law_draw T) (hr.mono (by decide)) (by rfl) T.g_law_draw T.F_law_draw.kp T.b_law_draw .nil pass0 (pa_cons (pv 0) (pa_cons pe_int pa_nil))) pe_int (nomark _))
        (pss_one (ps_set (i := 2) sc_law_number.nd rfl (.inl rfl) (pe_op op_add (pv 2) (pe_call (ok_law_draw T) (hr.mono (by decide)) (by rfl) T.g_law_draw T.F_law_draw.kp T.b_law_draw .nil pass0 (pa_cons (pv 0) (pa_cons (pe_op op_pow pe_int pe_int) pa_nil))))))
        pss_nil)
      (pss_one (ps_ret (pe_call (ok_law_low T) (hr.mono (by decide)) (by rfl) T.g_law_low T.F_law_low.kp T.b_law_low .nil pass0 (pa_cons (pv 2) (pa_cons (pe_op op_add pe_int (pe_call (ok_law_draw T) (hr.mono (by decide)) (by rfl) T.g_law_draw T.F_law_draw.kp T.b_law_draw .nil pass0 (pa_cons (pv 0) (pa_cons pe_int pa_nil)))) pa_nil)))))))), ?_⟩
    refine ⟨_, rfl, _, _, rfl, rfl, _, rfl, ite2 (fun c => ?_) (fun c => ?_)⟩
    · have c' : (0 : Int) < (p : Int) := of_decide_eq_true c
      have p0 : p ≠ 0 := by omega
      have le := fp.le
      refine ⟨_, rfl, _, rfl, h, g, (p : Int), rfl, hd, c', by omega, fun H1 r k1 h1 r0 r1 => ?_⟩
      obtain ⟨n, rfl⟩ : ∃ n : Nat, r = (n : Int) := ⟨r.toNat, by omega⟩
      exact q _ H1 (.int _) k1 h1 (.int _) (.rs p0 (by omega))
    · have p0 : p = 0 := by
        have : ¬ (0 : Int) < (p : Int) := fun z => c (decide_eq_true z)
        omega
      subst p0
      refine ⟨_, rfl, h, g, 9, rfl, hd, by decide, by decide, fun H1 r k1 h1 r0 r1 => ⟨_, _, rfl, rfl, ?_⟩⟩
      refine ⟨fun σ H' => ∃ t : Int, σ = [some (.ref h), some (.int ((0 : Nat) : Int)), some (.int t)] ∧ Kp h g H H' ∧ Hnd h g H' ∧ t.natAbs < 2 ^ 21, ?_, fun σ H' hM => ?_⟩
      · refine ⟨_, rfl, h, g, 12, rfl, h1, by decide, by decide, fun H2 r2 k2 h2 r20 r21 => ⟨rfl, _, rfl, ite2 (fun c => ?_) (fun c => ?_)⟩⟩
        · refine ⟨_, rfl, _, rfl, 10, 6, rfl, rfl, ⟨by decide, by decide, by decide⟩, h, g, _, rfl, h2, by decide, by decide, fun H3 r3 k3 h3 r30 r31 => ⟨_, _, rfl, rfl, ?_⟩⟩
          have r31' : r3 < 1000000 := r31
          exact ⟨_, rfl, (k1.trans k2).trans k3, h3, by omega⟩
        · exact ⟨_, rfl, k1.trans k2, h2, by omega⟩
      · obtain ⟨t, rfl, k4, h4, t1⟩ := hM
        refine ⟨_, rfl, _, rfl, h, g, 3, rfl, h4, by decide, by decide, fun H5 r5 k5 h5 r50 r51 => ⟨_, _, rfl, rfl, ?_⟩⟩
        have b0 : 1 + r5 ≠ 0 := by omega
        have ft : Fin 22 t := Nat.lt_trans t1 (by decide)
        have fb : Fin 22 (1 + r5) := by
          unfold Fin
          omega
        obtain ⟨f1, f2⟩ := low_fin b0 ft fb
        refine ⟨t, 1 + r5, rfl, b0, fin_up fb (by decide), fun l H6 s6 k6 => ?_⟩
        exact q _ H6 _ ((k4.trans k5).trans (Kp.of s6)) (h5.same s6) (dq_vw (h5.same s6) _ rfl k6) (fb_six (M := 2097152) (by omega) (by omega) (by omega) (by omega))
theorem ok_law_row (T : Txt K mg) : FnOk P w K mg base CX0 4 T.f_law_row T.d_law_row ["_law_state", "_law_p", "_law_width"] sl_row := by
  refine T.F_law_row.ok sc_law_row (fun vs H Q E h => ?_) (fun cdv A outer s H vs Q E hr h => ?_)
  · obtain ⟨h, g, p, n, rfl, _⟩ := h
    rfl
  · obtain ⟨h, g, p, n, rfl, hd, fp, n1, n6, q⟩ := h
    refine ⟨_, (pss_cons (ps_setLc (i := 3) rfl sc_law_row.nd rfl rfl (sw_true rfl rfl rfl (by decide +kernel)) (pi_range1 (by rfl) T.m_range (pa_cons (pv 2) pa_nil)) (blkOk_by (own := [("_law_k", 4)]) (N := ["_law_state", "_law_p", "_law_width", "_law_row_here", "_law_k", "_law_item"]) (sc := defScope s_law_row) (by decide +kernel)) (fun _ _ _ _ _ => (pg_name (i := 4) sc_law_row.nd rfl (.inl rfl))) (fun _ _ _ _ _ => pts_nil) (fun _ _ _ _ _ => (pe_call (ok_law_number T) (hr.mono (by decide)) (by rfl) T.g_law_number T.F_law_number.kp T.b_law_number .nil pass0 (pa_cons (pv 0) (pa_cons (pv 1) pa_nil)))))
      (Evl.pss_cut (ps_if (pt_val (pe_callB (cr_all rfl) (by rfl) T.m_all (by decide +kernel) (pa_cons (pe_lc rfl sc_law_row.nd (pi_seq (pv 3)) (blkOk_by (own := [("_law_item", 5)]) (N := ["_law_state", "_law_p", "_law_width", "_law_row_here", "_law_k", "_law_item"]) (sc := defScope s_law_row) (by decide +kernel)) (fun _ _ _ _ _ => (pg_name (i := 5) sc_law_row.nd rfl (.inl rfl))) (fun _ _ _ _ _ => pts_nil) (fun _ _ _ _ _ => (pe_call (ok_law_nought T) (hr.mono (by decide)) (by rfl) T.g_law_nought T.F_law_nought.kp T.b_law_nought .nil pass0 (pa_cons (pv 1) (pa_cons (pv 5) pa_nil))))) pa_nil)))
        (pss_one (ps_asg (pe_call (ok_law_some T) (hr.mono (by decide)) (by rfl) T.g_law_some T.F_law_some.kp T.b_law_some .nil pass0 (pa_cons (pv 1) (pa_cons pe_int pa_nil))) (pg_sub (pv 3) (pe_call (ok_law_draw T) (hr.mono (by decide)) (by rfl) T.g_law_draw T.F_law_draw.kp T.b_law_draw .nil pass0 (pa_cons (pv 0) (pa_cons (pv 2) pa_nil))) set_list)))
        pss_nil)
      (pss_one (ps_ret (pv 3))))), ?_⟩
    refine ⟨_, rfl, (n : Int), rfl, by omega, by omega, fun D nD => ?_⟩
    obtain ⟨d1, d2⟩ := hd.fresh nD
    rw [show ((n : Nat) : Int).toNat = n by omega]
    refine lc_range (fun i H' => ∃ ys ds, H' D = some (.lst ys) ∧ DqAll (Vw h g H') ys ds ∧ Kp h g H H' ∧ Hnd h g H' ∧ ds.length = i ∧ ∀ d ∈ ds, Fb p 6 12582912 d) ⟨[], [], upd_same, .nil, Kp.refl.put nD, hd.upd d1 d2, rfl, fun d m => nomatch m⟩ (fun i H1 hi hP => ?_) (fun H1 hP => ?_)
    · obtain ⟨ys, ds, eD, kd, kk, h1, ld, nb⟩ := hP
      have ly := kd.len
      refine ⟨rfl, _, rfl, _, rfl, h, g, p, rfl, h1, fp, fun v H2 d k2 h2 kv nv => ?_⟩
      have eD2 := k2 D _ d1 d2 eD
      refine ⟨ys, eD2, small1000 (by omega), ys ++ [v], ds ++ [d], upd_same, dqs_upd d1 d2 eD2 (fbs_noL (p := p) (D := 6) (T := 12582912) fun e m => ?_) ((DqAll.same k2.vw _ kd).snoc kv), (kk.trans k2).put nD, h2.upd d1 d2, by rw [List.length_append, ld]; rfl, fun e m => ?_⟩
      all_goals
        rcases List.mem_append.mp m with m | m
        · exact nb e m
        · rw [List.mem_singleton.mp m]
          exact nv
    · obtain ⟨ys, ds, eD, kd, kk, h1, ld, nb⟩ := hP
      have ly := kd.len
      refine ⟨fun σ H' => ∃ ys ds, σ = [some (.ref h), some (.int (p : Int)), some (.int (n : Int)), some (.ref D), none, none] ∧ H' D = some (.lst ys) ∧ DqAll (Vw h g H') ys ds ∧ Kp h g H H' ∧ Hnd h g H' ∧ ds.length = n ∧ (∀ d ∈ ds, Fb p 6 12582912 d) ∧ ds.any (nzB p) = true, ?_, fun σ H' hM => ?_⟩
      · refine if_valC ?_
        refine lc_seqV (a := D) (xs := ys) (fun _ => true) (fun i => V.bl (!nzB p (ds.getD i .none))) (fun Q h => ⟨_, rfl, h⟩) (.inl (SqL.of eD)) (by omega) (fun i v H2 R N hv s yes no => ?_) (fun D2 H2 nD2 s2 hD2 => ?_)
        · obtain ⟨e, he, ke⟩ := kd.get hv
          have eq : ds.getD i .none = e := by
            rw [List.getD_eq_getElem?_getD, he]
            rfl
          have yes := yes rfl
          rw [eq] at yes
          exact ⟨rfl, _, rfl, _, rfl, p, 24, v, e, rfl, fp, (ke.same vw_same).same s, (nb e (List.mem_of_getElem? he)).n24, fun H3 s3 => yes H3 s3⟩
        · have eB : ((List.range ys.length).filter fun _ => true).map (fun i => V.bl (!nzB p (ds.getD i .none))) = (ds.map fun e => !nzB p e).map V.bl := by
            rw [ly, range_map ds .none fun d => V.bl (!nzB p d), List.map_map]
            rfl
          rw [eB] at hD2
          have h2 := h1.same s2
          have eD2 := s2 _ _ eD
          have kd2 := DqAll.same (Kp.of s2).vw _ kd
          have kk2 := kk.trans (Kp.of s2)
          refine ⟨D2, ds.map fun e => !nzB p e, rfl, SqL.of hD2, _, rfl, ite2 (fun c => ?_) (fun c => ?_)⟩
          · refine ⟨_, rfl, p, 1, rfl, fun v H3 s3 kv => ?_⟩
            rw [some_one fp] at kv
            refine ⟨_, rfl, _, rfl, _, rfl, h, g, (n : Int), rfl, h2.same s3, by omega, by omega, fun H4 r k4 h4 r0 r1 => ?_⟩
            have k34 : Kp h g H2 H4 := (Kp.of s3).trans k4
            have eD4 := k34 D _ d1 d2 eD2
            have hr' : ixN ys.length r = some r.toNat := by
              unfold ixN
              rw [if_pos r0, if_pos (by omega)]
            refine ⟨D, ys, r, r.toNat, rfl, rfl, eD4, hr', _, ds.set r.toNat (oneD p), rfl, upd_same, ?_, (kk2.trans k34).put nD, h4.upd d1 d2, ?_⟩
            · refine dqs_upd d1 d2 eD4 (fbs_noL (p := p) (D := 6) (T := 12582912) fun e m => ?_) ((DqAll.same k34.vw _ kd2).set r.toNat ((dq_vw (h2.same s3) _ (nb_noL (nb_one fp (Nat.le_refl 1))) kv).same k4.vw))
              rcases List.mem_or_eq_of_mem_set m with m | rfl
              · exact nb e m
              · exact (fb_one fp (by decide)).up (by decide)
            · refine ⟨by rw [List.length_set]; exact ld, fun e m => ?_, List.any_eq_true.mpr ⟨oneD p, List.mem_set (by omega) (oneD p), nz_one fp⟩⟩
              rcases List.mem_or_eq_of_mem_set m with m | rfl
              · exact nb e m
              · exact (fb_one fp (by decide)).up (by decide)
          · refine ⟨ys, ds, rfl, eD2, kd2, kk2, h2, ld, nb, ?_⟩
            refine Decidable.byContradiction fun z => c (List.all_eq_true.mpr fun b mb => ?_)
            obtain ⟨d, md, rfl⟩ := List.mem_map.mp mb
            have : nzB p d ≠ true := fun y => z (List.any_eq_true.mpr ⟨d, md, y⟩)
            cases e : nzB p d with
            | true => exact absurd e this
            | false => rfl
      · obtain ⟨ys, ds, rfl, eD, kd, kk, h1, ld, nb, nz⟩ := hM
        exact ⟨_, rfl, q D H' ds kk h1 (.lst (nw_at nD d1 d2 eD) (dqs_nw kk ds (fbs_noL nb) kd)) ld nb nz⟩
end
end K25
set_option Elab.async false
set_option linter.all false
set_option maxRecDepth 100000
set_option maxHeartbeats 4000000
set_option exponentiation.threshold 5000
set_option pp.maxSteps 900
namespace K25
open PySem PySem.Spec PyProof.Rows L2 TkS LamX NdefX
abbrev lrowsD (R : List (List PyData)) : PyData := .list (R.map .list)
def sl_full : Sp := fun vs H Q _ => ∃ (p n : Nat) (x y : V) (R S : List (List PyData)), vs = [.int (p : Int), x, y] ∧ Fp p ∧ Dq H x (lrowsD R) ∧ Dq H y (lrowsD S) ∧ Gd p n R ∧ Gd p n S ∧ ∀ v H', Same H H' → Dq H' v (lrowsD (tableD p R S)) → Q v H'
section
variable {P : Program} {w : World} {K : PySem.W.Frag} {mg : Str → Option Value} {base : Heap}
theorem ok_law_full (T : Txt K mg) : FnOk P w K mg base CX0 6 T.f_law_full T.d_law_full ["_law_p", "_law_points", "_law_shuts"] sl_full := by
  refine T.F_law_full.ok sc_law_full (fun vs H Q E h => ?_) (fun cdv A outer s H vs Q E hr h => ?_)
  · obtain ⟨p, n, x, y, R, S, rfl, _⟩ := h
    rfl
  · obtain ⟨p, n, x, y, R, S, rfl, fp, kx, ky, gR, gS, q⟩ := h
    refine ⟨_, (pss_one (ps_ret (pe_lc rfl sc_law_full.nd (pi_seq (pv 1)) (blkOk_by (own := [("_law_row_here", 3)]) (N := ["_law_p", "_law_points", "_law_shuts", "_law_row_here", "_law_shut"]) (sc := defScope s_law_full) (by decide +kernel)) (fun _ _ _ _ _ => (pg_name (i := 3) sc_law_full.nd rfl (.inr rfl))) (fun _ _ _ _ _ => pts_nil) (fun _ _ _ _ _ => (show PE _ _ (tLc (iSeq K (tVar 2)) (gName 4) tYes (tCall sl_dot [] E0 (tCons (tVar 0) (tCons (tVar 3) (tCons (tVar 4) tNil)))) [4]) from pe_lc (own := [("_law_shut", 4)]) rfl sc_law_full.nd (pi_seq (pv 2)) (by show BlkOk ["_law_p", "_law_points", "_law_shuts", "_law_row_here", "_law_shut"] { kind := .function, names := [(".0", .local), ("_law_row_here", .cell), ("_law_p", .cell), ("_law_shuts", .cell)], isGenerator := false, isCoroutine := false } _ _; exact blkOk_by (by decide +kernel)) (fun _ _ _ _ _ => (pg_name (i := 4) sc_law_full.nd rfl (.inl rfl))) (fun _ _ _ _ _ => pts_nil) (fun _ _ _ _ _ => (pe_call (ok_law_dot T) (hr.mono (by decide)) (by rfl) T.g_law_dot T.F_law_dot.kp T.b_law_dot .nil pass0 (pa_cons (pv 0) (pa_cons (pv 3) (pa_cons (pv 4) pa_nil)))))))))), ?_⟩
    obtain ⟨ax, xs, rfl, hxs, hsx⟩ := sq_of (K := K) kx rfl
    obtain ⟨ay, ys, rfl, hys, hsy⟩ := sq_of (K := K) ky rfl
    have r5 := gR.m5
    have t5 := gS.m5
    refine lc_seqD (f := fun _ => true) (e := fun d => .list (S.map fun t => dotD p (rowOf d) t (zeroD p))) (fun Q h => ⟨_, rfl, h⟩) hsx hxs (by rw [List.length_map]; omega) (fun x => rfl) (fun i x d H' Q _ _ _ h => h _ fun _ _ z => z) (fun D i x d H1 Q1 nD hd _ s1 k1 acc q1 => ?_) (fun D H1 nD s1 kd => ?_)
    · obtain ⟨ac, hac⟩ := acc
      rw [List.getElem?_map] at hd
      obtain ⟨r, hr', rfl⟩ := Option.map_eq_some_iff.mp hd
      have mr := List.mem_of_getElem? hr'
      change ∀ y H'', Same H1 H'' → Dq (TkS.Off D H'') y (.list (S.map fun t => dotD p r t (zeroD p))) → Q1 y H'' at q1
      refine lc_seqD (f := fun _ => true) (e := fun d => dotD p r (rowOf d) (zeroD p)) (fun Q h => ⟨_, rfl, h⟩) (hsy.same s1) (DqAll.same s1 _ hys) (by rw [List.length_map]; omega) (fun x => rfl) (fun i x d H' Q _ _ _ h => h _ fun _ _ z => z) (fun D2 j y e H2 Q2 nD2 he _ s2 k2 acc2 q2 => ?_) (fun D2 H2 nD2 s2 kd => ?_)
      · obtain ⟨ac2, hac2⟩ := acc2
        rw [List.getElem?_map] at he
        obtain ⟨t, ht', rfl⟩ := Option.map_eq_some_iff.mp he
        have mt := List.mem_of_getElem? ht'
        change ∀ y H'', Same H2 H'' → Dq (TkS.Off D2 H'') y (dotD p r t (zeroD p)) → Q2 y H'' at q2
        exact ⟨_, rfl, _, rfl, _, rfl, p, x, y, .list r, .list t, r, t, rfl, fp, k1.same s2, rfl, k2, rfl, by rw [gR.ln r mr, gS.ln t mt], by rw [gR.ln r mr]; exact gR.n6, fun d m => (gR.nb r mr d m).up (by decide), fun d m => (gS.nb t mt d m).up (by decide), fun i hi => (dot_nb (fun d m => gR.nb r mr d (List.mem_of_mem_take m)) (fun d m => gS.nb t mt d (List.mem_of_mem_take m)) (nb_zero fp (Nat.le_refl 1))).up (by rw [List.length_take]; have := gR.ln r mr; have := gR.n6; omega), fun v H3 s3 kv => q2 v H3 s3 (dq_noL (s3 _ _ hac2) _ (nb_noL (gR.dot fp gS mr mt)) kv)⟩
      · rw [List.filter_eq_self.mpr fun _ _ => rfl, List.map_map] at kd
        refine q1 _ H2 s2 ?_
        change Dq H2 (.ref D2) (.list (S.map fun t => dotD p r t (zeroD p))) at kd
        have hac2 := s2 _ _ hac
        cases kd with
        | lst e u =>
          refine .lst (off_at (fun z => ?_) e) (dqs_noL hac2 _ (noLs_all fun d md => ?_) u)
          · rw [z, hac] at nD2
            cases nD2
          · obtain ⟨t, mt, rfl⟩ := List.mem_map.mp md
            exact nb_noL (gR.dot fp gS mr mt)
    · rw [List.filter_eq_self.mpr fun _ _ => rfl, List.map_map] at kd
      refine q _ H1 s1 ?_
      unfold lrowsD tableD
      rw [List.map_map]
      exact kd
end
end K25
set_option Elab.async false
set_option linter.all false
set_option maxRecDepth 100000
set_option maxHeartbeats 4000000
set_option exponentiation.threshold 5000
set_option pp.maxSteps 900
namespace K25
open PySem PySem.Spec PyProof.Rows L2 TkS LamX NdefX
def sl_tiny (T : Int) : Sp := fun vs H Q _ => ∃ (h g : Addr) (p : Nat), vs = [.ref h, .int (p : Int)] ∧ Hnd h g H ∧ Fp p ∧ ∀ v H' d, Kp h g H H' → Hnd h g H' → Dq (Vw h g H') v d → Fb p 6 T d → Q v H'
section
variable {P : Program} {w : World} {K : PySem.W.Frag} {mg : Str → Option Value} {base : Heap}
theorem ok_law_tiny (T : Txt K mg) : FnOk P w K mg base CX0 3 T.f_law_tiny T.d_law_tiny ["_law_state", "_law_p"] (sl_tiny 24) := by
  refine T.F_law_tiny.ok sc_law_tiny (fun vs H Q E h => ?_) (fun cdv A outer s H vs Q E hr h => ?_)
  · obtain ⟨h, g, p, rfl, _⟩ := h
    rfl
  · obtain ⟨h, g, p, rfl, hd, fp, q⟩ := h
    refine ⟨_, (pss_cons (ps_if (pt_cmpR op_gt (pv 1) pe_int (nomark _))
        (pss_one (ps_ret (pe_op op_add pe_int (pe_call (ok_law_draw T) (hr.mono (by decide)) (by rfl) T.g_law_draw T.F_law_draw.kp T.b_law_draw .nil pass0 (pa_cons (pv 0) (pa_cons (pe_op op_sub (pv 1) pe_int) pa_nil))))))
        pss_nil)
      (pss_one (ps_ret (pe_call (ok_law_low T) (hr.mono (by decide)) (by rfl) T.g_law_low T.F_law_low.kp T.b_law_low .nil pass0 (pa_cons (pe_op op_mul (pe_op op_add pe_int (pe_call (ok_law_draw T) (hr.mono (by decide)) (by rfl) T.g_law_draw T.F_law_draw.kp T.b_law_draw .nil pass0 (pa_cons (pv 0) (pa_cons pe_int pa_nil)))) (pe_op op_sub pe_int (pe_op op_mul pe_int (pe_call (ok_law_draw T) (hr.mono (by decide)) (by rfl) T.g_law_draw T.F_law_draw.kp T.b_law_draw .nil pass0 (pa_cons (pv 0) (pa_cons pe_int pa_nil)))))) (pa_cons (pe_op op_add pe_int (pe_call (ok_law_draw T) (hr.mono (by decide)) (by rfl) T.g_law_draw T.F_law_draw.kp T.b_law_draw .nil pass0 (pa_cons (pv 0) (pa_cons pe_int pa_nil)))) pa_nil)))))), ?_⟩
    refine ⟨_, rfl, _, _, rfl, rfl, _, rfl, ite2 (fun c => ?_) (fun c => ?_)⟩
    · have c' : (0 : Int) < (p : Int) := of_decide_eq_true c
      have p0 : p ≠ 0 := by omega
      have p2 := fp.cases p0
      have le := fp.le
      refine ⟨_, rfl, _, rfl, _, _, rfl, rfl, h, g, (p : Int) - 1, rfl, hd, by omega, by omega, fun H1 r k1 h1 r0 r1 => ⟨1, r, rfl, rfl, ?_⟩⟩
      obtain ⟨n, e⟩ : ∃ n : Nat, 1 + r = (n : Int) := ⟨(1 + r).toNat, by omega⟩
      show Q (.int (1 + r)) H1
      rw [e]
      exact q _ H1 (.int _) k1 h1 (.int _) (.rs p0 (by omega))
    · have p0 : p = 0 := by
        have : ¬ (0 : Int) < (p : Int) := fun z => c (decide_eq_true z)
        omega
      subst p0
      refine ⟨_, rfl, h, g, 4, rfl, hd, by decide, by decide, fun H1 r1 k1 h1 a1 b1 => ⟨1, r1, rfl, rfl, ?_⟩⟩
      refine ⟨_, rfl, h, g, 2, rfl, h1, by decide, by decide, fun H2 r2 k2 h2 a2 b2 => ⟨2, r2, rfl, rfl, .inl ⟨by omega, by omega⟩, 1, _, rfl, rfl, _, _, rfl, rfl, .inl ⟨by omega, by omega⟩, ?_⟩⟩
      refine ⟨_, rfl, h, g, 3, rfl, h2, by decide, by decide, fun H3 r3 k3 h3 a3 b3 => ⟨1, r3, rfl, rfl, ?_⟩⟩
      have hb : -4 ≤ (1 + r1) * (1 - 2 * r2) ∧ (1 + r1) * (1 - 2 * r2) ≤ 4 := by
        have : r2 = 0 ∨ r2 = 1 := by omega
        rcases this with rfl | rfl <;> omega
      refine ⟨_, 1 + r3, rfl, by omega, ?_, fun l H6 s6 k6 => ?_⟩
      · unfold Fin
        exact Nat.lt_of_lt_of_le (show (1 + r3).natAbs < 4 by omega) (by decide)
      exact q _ H6 _ (((k1.trans k2).trans k3).trans (Kp.of s6)) (h3.same s6) (dq_vw (h3.same s6) _ rfl k6) (fb_six (M := 4) (by omega) (by omega) hb.1 hb.2)
theorem ok_law_filled (T : Txt K mg) : FnOk P w K mg base CX0 3 T.f_law_filled T.d_law_filled ["_law_state", "_law_p"] (sl_tiny 12582912) := by
  refine T.F_law_filled.ok sc_law_filled (fun vs H Q E h => ?_) (fun cdv A outer s H vs Q E hr h => ?_)
  · obtain ⟨h, g, p, rfl, _⟩ := h
    rfl
  · obtain ⟨h, g, p, rfl, hd, fp, q⟩ := h
    refine ⟨_, (pss_cons (ps_if (pt_cmpR op_gt (pv 1) pe_int (nomark _))
        (pss_one (ps_ret (pe_op op_add pe_int (pe_call (ok_law_draw T) (hr.mono (by decide)) (by rfl) T.g_law_draw T.F_law_draw.kp T.b_law_draw .nil pass0 (pa_cons (pv 0) (pa_cons (pe_op op_sub (pv 1) pe_int) pa_nil))))))
        pss_nil)
      (pss_cons (ps_set (i := 2) sc_law_filled.nd rfl (.inl rfl) (pe_op op_add pe_int (pe_call (ok_law_draw T) (hr.mono (by decide)) (by rfl) T.g_law_draw T.F_law_draw.kp T.b_law_draw .nil pass0 (pa_cons (pv 0) (pa_cons pe_int pa_nil)))))
      (Evl.pss_cut (ps_if (pt_cmpR op_eq (pe_call (ok_law_draw T) (hr.mono (by decide)) (by rfl) T.g_law_draw T.F_law_draw.kp T.b_law_draw .nil pass0 (pa_cons (pv 0) (pa_cons pe_int pa_nil))) pe_int (nomark _))
        (pss_one (ps_set (i := 2) sc_law_filled.nd rfl (.inl rfl) (pe_op op_add (pv 2) (pe_call (ok_law_draw T) (hr.mono (by decide)) (by rfl) T.g_law_draw T.F_law_draw.kp T.b_law_draw .nil pass0 (pa_cons (pv 0) (pa_cons (pe_op op_pow pe_int pe_int) pa_nil))))))
        pss_nil)
      (pss_one (ps_ret (pe_call (ok_law_low T) (hr.mono (by decide)) (by rfl) T.g_law_low T.F_law_low.kp T.b_law_low .nil pass0 (pa_cons (pe_op op_mul (pv 2) (pe_op op_sub pe_int (pe_op op_mul pe_int (pe_call (ok_law_draw T) (hr.mono (by decide)) (by rfl) T.g_law_draw T.F_law_draw.kp T.b_law_draw .nil pass0 (pa_cons (pv 0) (pa_cons pe_int pa_nil)))))) (pa_cons (pe_op op_add pe_int (pe_call (ok_law_draw T) (hr.mono (by decide)) (by rfl) T.g_law_draw T.F_law_draw.kp T.b_law_draw .nil pass0 (pa_cons (pv 0) (pa_cons pe_int pa_nil)))) pa_nil)))))))), ?_⟩
    refine ⟨_, rfl, _, _, rfl, rfl, _, rfl, ite2 (fun c => ?_) (fun c => ?_)⟩
    · have c' : (0 : Int) < (p : Int) := of_decide_eq_true c
      have p0 : p ≠ 0 := by omega
      have p2 := fp.cases p0
      have le := fp.le
      refine ⟨_, rfl, _, rfl, _, _, rfl, rfl, h, g, (p : Int) - 1, rfl, hd, by omega, by omega, fun H1 r k1 h1 r0 r1 => ⟨1, r, rfl, rfl, ?_⟩⟩
      obtain ⟨n, e⟩ : ∃ n : Nat, 1 + r = (n : Int) := ⟨(1 + r).toNat, by omega⟩
      show Q (.int (1 + r)) H1
      rw [e]
      exact q _ H1 (.int _) k1 h1 (.int _) (.rs p0 (by omega))
    · have p0 : p = 0 := by
        have : ¬ (0 : Int) < (p : Int) := fun z => c (decide_eq_true z)
        omega
      subst p0
      refine ⟨_, rfl, h, g, 4, rfl, hd, by decide, by decide, fun H1 r1 k1 h1 a1 b1 => ⟨1, r1, rfl, rfl, ?_⟩⟩
      refine ⟨fun σ H' => ∃ t : Int, σ = [some (.ref h), some (.int ((0 : Nat) : Int)), some (.int t)] ∧ Kp h g H H' ∧ Hnd h g H' ∧ 1 ≤ t ∧ t ≤ 1000003, ?_, fun σ H' hM => ?_⟩
      · refine ⟨_, rfl, h, g, 12, rfl, h1, by decide, by decide, fun H2 r2 k2 h2 r20 r21 => ⟨rfl, _, rfl, ite2 (fun c => ?_) (fun c => ?_)⟩⟩
        · refine ⟨_, rfl, _, rfl, 10, 6, rfl, rfl, ⟨by decide, by decide, by decide⟩, h, g, _, rfl, h2, by decide, by decide, fun H3 r3 k3 h3 r30 r31 => ⟨_, _, rfl, rfl, ?_⟩⟩
          have r31' : r3 < 1000000 := r31
          exact ⟨_, rfl, (k1.trans k2).trans k3, h3, by omega, by omega⟩
        · exact ⟨_, rfl, k1.trans k2, h2, by omega, by omega⟩
      · obtain ⟨t, rfl, k4, h4, t0, t1⟩ := hM
        refine ⟨_, rfl, _, rfl, h, g, 2, rfl, h4, by decide, by decide, fun H2 r2 k2 h2 a2 b2 => ⟨2, r2, rfl, rfl, .inl ⟨by omega, by omega⟩, 1, _, rfl, rfl, _, _, rfl, rfl, .inl ⟨by omega, by omega⟩, ?_⟩⟩
        refine ⟨_, rfl, h, g, 3, rfl, h2, by decide, by decide, fun H3 r3 k3 h3 a3 b3 => ⟨1, r3, rfl, rfl, ?_⟩⟩
        have hb : -2097152 ≤ t * (1 - 2 * r2) ∧ t * (1 - 2 * r2) ≤ 2097152 := by
          have : r2 = 0 ∨ r2 = 1 := by omega
          rcases this with rfl | rfl <;> omega
        refine ⟨_, 1 + r3, rfl, by omega, ?_, fun l H6 s6 k6 => ?_⟩
        · unfold Fin
          exact Nat.lt_of_lt_of_le (show (1 + r3).natAbs < 4 by omega) (by decide)
        exact q _ H6 _ (((k4.trans k2).trans k3).trans (Kp.of s6)) (h3.same s6) (dq_vw (h3.same s6) _ rfl k6) (fb_six (M := 2097152) (by omega) (by omega) hb.1 hb.2)
end
end K25
set_option Elab.async false
set_option linter.all false
set_option maxRecDepth 100000
set_option maxHeartbeats 4000000
set_option exponentiation.threshold 5000
set_option pp.maxSteps 900
namespace K25
open PySem PySem.Spec PyProof.Rows L2 TkS LamX NdefX
def secD (p : Nat) (x y : PyData) : PyData := timesD p (minusD p) (overD p x y)
theorem over_nb {p k m : Nat} {x y : PyData} (nx : Nb p k x) (ny : Nb p m y) (nz : y ≠ zeroD p) : Nb p (k + m) (overD p x y) := by
  cases nx with
  | @fr k q l1 f1 f2 =>
    cases ny with
    | @fr m r l2 g1 g2 =>
      have r1 := fr_zero l2 nz
      exact nb_lowS (fun z => (Int.mul_eq_zero.mp z).elim (fun h => pos_ne l1.1 h) r1) (Fin.mul f1 g2) (Fin.mul f2 g1)
    | rs n _ => exact absurd rfl n
  | @rs p k x n lx =>
    cases ny with
    | fr _ _ _ => exact absurd rfl n
    | @rs p m y _ ly =>
      rw [over_nat n]
      exact .rs n (Nat.mod_lt _ (by omega))
theorem sec_nb {p k m : Nat} {x y : PyData} (fp : Fp p) (nx : Nb p k x) (ny : Nb p m y) (nz : y ≠ zeroD p) : Nb p (1 + (k + m)) (secD p x y) := timesD_nb (nb_minus fp (Nat.le_refl 1)) (over_nb nx ny nz)
theorem rv_inj {q r : Int × Int} (l1 : Lowest q) (l2 : Lowest r) (e : rv (frD q) = rv (frD r)) : q = r := by
  have n1 := rat_ne (pos_ne l1.1)
  have n2 := rat_ne (pos_ne l2.1)
  unfold rv at e
  rw [frOf_fr, frOf_fr] at e
  have e2 : (q.1 : Rat) * (r.2 : Rat) = (r.1 : Rat) * (q.2 : Rat) := by grind
  rw [← Rat.intCast_mul, ← Rat.intCast_mul] at e2
  exact low_uniq l1 l2 (by exact_mod_cast e2)
theorem sec_phi {p k m : Nat} {R : Type} [Lean.Grind.CommRing R] {φ : PyData → R} (F : Phi p R φ) (fp : Fp p) {x y : PyData} (nx : Nb p k x) (ny : Nb p m y) (nz : y ≠ zeroD p) : φ (secD p x y) * φ y = - φ x := by
  unfold secD
  rw [F.times (nb_minus (k := 1) fp (Nat.le_refl 1)) (over_nb nx ny nz), F.minus]
  have := F.over nx ny nz
  grind
theorem rv_quot {u r : Int × Int} (l1 : Lowest u) (l2 : Lowest r) (r1 : r.1 ≠ 0) : u.2 * r.1 ≠ 0 ∧ rv (frD (quotF u r)) = rv (frD u) * ((r.2 : Rat) / (r.1 : Rat)) := by
  have n1 := rat_ne (pos_ne l1.1)
  have n2 := rat_ne (pos_ne l2.1)
  have n3 := rat_ne r1
  have b2 : u.2 * r.1 ≠ 0 := fun z => (Int.mul_eq_zero.mp z).elim (fun h => pos_ne l1.1 h) r1
  refine ⟨b2, ?_⟩
  unfold quotF
  rw [rv_low b2, Rat.intCast_mul, Rat.intCast_mul]
  unfold rv
  rw [frOf_fr]
  grind
theorem sec_fr {q r : Int × Int} (l1 : Lowest q) (l2 : Lowest r) (r1 : r.1 ≠ 0) : frD (quotF (lessF (0, 1) q) r) = secD 0 (frD q) (frD r) := by
  have n1 := rat_ne (pos_ne l1.1)
  have b1 : (1 : Int) * q.2 ≠ 0 := by have := l1.1; omega
  have L : Lowest (lessF (0, 1) q) := (low_ok (t := 0 * q.2 - q.1 * 1) b1).1
  have e1 : rv (frD (lessF (0, 1) q)) = - rv (frD q) := by
    unfold lessF
    rw [rv_low b1, Int.zero_mul, Int.mul_one, Int.one_mul, Int.zero_sub, Rat.intCast_neg]
    unfold rv
    rw [frOf_fr]
    grind
  obtain ⟨b2, e2⟩ := rv_quot L l2 r1
  obtain ⟨b3, e3⟩ := rv_quot l1 l2 r1
  have M : Lowest (quotF q r) := (low_ok b3).1
  have e4 : rv (frD (timesF (-1, 1) (quotF q r))) = - rv (frD (quotF q r)) := by
    unfold timesF
    rw [rv_low (mul_ne (by decide) M.1), Rat.intCast_mul, Rat.intCast_mul]
    unfold rv
    rw [frOf_fr]
    have := rat_ne (pos_ne M.1)
    grind
  refine congrArg frD (rv_inj (low_ok b2).1 (low_ok (mul_ne (by decide) M.1)).1 ?_)
  show rv (frD (quotF (lessF (0, 1) q) r)) = rv (frD (timesF (-1, 1) (quotF q r)))
  rw [e2, e4, e3, e1]
  grind
theorem sec_rs {p x y r : Nat} (fp : Fp p) (n0 : p ≠ 0) (lx : x < p) (ly : y < p) (y0 : y ≠ 0) (h : (r : Int) * (y : Int) % (p : Int) = 1) : PyData.int ((0 - (x : Int)) % (p : Int) * (r : Int) % (p : Int)) = secD p (.int (x : Int)) (.int (y : Int)) := by
  have pr := (fp.resolve_left n0).1
  have p2 := pr.1
  have : NeZero p := ⟨n0⟩
  have F := phi_fin n0 pr
  have fx : (0 - (x : Int)) % (p : Int) = (((p - x) % p : Nat) : Int) := by
    rw [show (0 - (x : Int)) = ((p - x : Nat) : Int) - (p : Int) by omega, Int.sub_emod, Int.emod_self, Int.sub_zero, Int.emod_emod_of_dvd _ (Int.dvd_refl _)]
    rfl
  have fr : (((p - x) % p : Nat) : Int) * (r : Int) % (p : Int) = (((p - x) % p * r % p : Nat) : Int) := rfl
  rw [fx, fr]
  have yz : PyData.int (y : Int) ≠ zeroD p := fun z => by
    unfold zeroD at z
    rw [if_neg n0] at z
    have := PyData.int.inj z
    omega
  have nx : Nb p 1 (.int (x : Int)) := .rs n0 lx
  have ny : Nb p 1 (.int (y : Int)) := .rs n0 ly
  refine F.inj (k := 1) (.rs n0 (Nat.mod_lt _ (by omega))) (sec_nb fp nx ny yz) ?_
  have s := sec_phi F fp nx ny yz
  have h1 : Fin.ofNat p r * Fin.ofNat p y = 1 := by
    rw [← ofNat_mul, ← ofNat_mod]
    have : r * y % p = 1 := by exact_mod_cast h
    rw [this]
    rfl
  have h2 : Fin.ofNat p (p - x) + Fin.ofNat p x = 0 := by
    rw [← ofNat_add, show p - x + x = p by omega]
    apply Fin.ext
    simp
  rw [rn_nat] at *
  rw [rn_nat] at s
  rw [ofNat_mod, ofNat_mul, ofNat_mod]
  grind
/-- the weights at two numbers, not both zero: they make zero of them -/
def w1D (p : Nat) (y : PyData) : PyData := if nzB p y = true then oneD p else zeroD p
def w2D (p : Nat) (x y : PyData) : PyData := if nzB p y = true then secD p x y else oneD p
theorem nz_iff {p k : Nat} {y : PyData} (fp : Fp p) (ny : Nb p k y) : nzB p y = true ↔ y ≠ zeroD p := by
  unfold nzB
  constructor
  · intro h z
    rw [z] at h
    rw [nb_self (nb_zero fp (Nat.le_refl 1))] at h
    cases h
  · intro h
    rw [nb_ne ny (nb_zero fp (Nat.le_refl 1)) h]
    rfl
def sp_weights_on (CR CF : Addr) : Sp := fun vs H Q _ => ∃ (f : Addr) (p : Nat) (v : V) (x y : PyData), vs = [.ref f, v] ∧ Fld CR CF H f p ∧ Dq H v (.tuple [x, y]) ∧ Nb p 150 x ∧ Nb p 150 y ∧
  ∀ l H', Same H H' → Dq H' (.ref l) (.tuple [w1D p y, w2D p x y]) → Q (.ref l) H'
theorem two_dqN {H : Hp} {xs : List V} {x y : PyData} (u : DqAll H xs [x, y]) : ∃ a b, xs = [a, b] ∧ Dq H a x ∧ Dq H b y := by
  cases u with
  | cons h t => cases t with
    | cons h2 t2 => cases t2; exact ⟨_, _, rfl, h, h2⟩
section
variable {P : Program} {w : World} {K : PySem.W.Frag} {mg : Str → Option Value} {base : Heap} {cw Pw : Addr × Addr}
theorem fld_one (T : Txt K mg) {H : Hp} {f : Addr} {p : Nat} (hf : Fld T.C_RestField T.C_FractionField H f p) : ∃ C dx fs v, H f = some (.ins C dx fs) ∧ Cls K C ∧ NoAttr K C "one" ∧ fs.lookup ("one" : Str) = some v ∧ Dq H v (oneD p) := by
  unfold oneD
  by_cases p0 : p = 0
  · rw [if_pos p0]
    obtain ⟨dx, z, o, n, ea, ez, eo, em⟩ := (hf.fr p0).at_
    exact ⟨_, dx, _, _, ea, T.cl_FractionField, T.na_FractionField_one, rfl, fr_dq (q := (1, 1)) eo⟩
  · rw [if_neg p0]
    obtain ⟨⟨dx, ha⟩, pr, le⟩ := id (hf.rs p0)
    exact ⟨_, dx, _, _, ha, T.cl_RestField, T.na_RestField_one, rfl, .int _⟩
theorem ok_weights_on (T : Txt K mg) : FnOk P w K mg base CX0 9 T.f_weights_on T.d_weights_on ["field", "numbers"] (sp_weights_on T.C_RestField T.C_FractionField) := by
  refine T.F_weights_on.ok sc_weights_on (fun vs H Q E h => ?_) (fun cdv A outer s H vs Q E hr h => ?_)
  · obtain ⟨f, p, v, x, y, rfl, _⟩ := h
    rfl
  · obtain ⟨f, p, v, x, y, rfl, hf, kv, nx, ny, q⟩ := h
    refine ⟨_, (pss_cons (ps_asg (pv 1) (pg_tup rfl (pgs_cons (pg_name (i := 2) sc_weights_on.nd rfl (.inl rfl)) (pgs_cons (pg_name (i := 3) sc_weights_on.nd rfl (.inl rfl)) pgs_nil))))
      (pss_cons (ps_if (pt_cmpR (op_eqD hr.units) (pv 3) (pe_fld (pv 0) rfl) (nomark _))
        (pss_one (ps_ret (pe_tup (pa_cons (pe_fld (pv 0) rfl) (pa_cons (pe_fld (pv 0) rfl) pa_nil)))))
        pss_nil)
      (pss_one (ps_ret (pe_tup (pa_cons (pe_fld (pv 0) rfl) (pa_cons (pe_or2 (pe_meth (pv 0) T.cl_RestField T.M_RestField_quotient (ok_RestField_quotient T) (hr.mono (by decide)) T.b_RestField_quotient .nil passL (pa_cons (pe_meth (pv 0) T.cl_RestField T.M_RestField_less (ok_RestField_less T) (hr.mono (by decide)) T.b_RestField_less .nil pass0 (pa_cons (pe_fld (pv 0) rfl) (pa_cons (pv 2) pa_nil))) (pa_cons (pv 3) pa_nil)))
        (pe_meth (pv 0) T.cl_FractionField T.M_FractionField_quotient (ok_FractionField_quotient T) (hr.mono (by decide)) T.b_FractionField_quotient .nil passL (pa_cons (pe_meth (pv 0) T.cl_FractionField T.M_FractionField_less (ok_FractionField_less T) (hr.mono (by decide)) T.b_FractionField_less .nil pass0 (pa_cons (pe_fld (pv 0) rfl) (pa_cons (pv 2) pa_nil))) (pa_cons (pv 3) pa_nil)))) pa_nil))))))), ?_⟩
    have fp := hf.fp
    cases kv with
    | @tup l xs _ e u =>
    obtain ⟨vx, vy, rfl, kx, ky⟩ := two_dqN u
    obtain ⟨C0, d0, fs0, v0, a1, a2, a3, a4, a5⟩ := fld_zero T hf
    obtain ⟨C1, d1, fs1, v1, b1, b2, b3, b4, b5⟩ := fld_one T hf
    refine ⟨_, rfl, l, _, rfl, SqT.of e, rfl, _, _, rfl, _, _, rfl, rfl, ?_⟩
    refine ⟨_, rfl, _, rfl, f, C0, d0, fs0, v0, rfl, a1, a2, a3, a4, y, zeroD p, ky.dp, a5.dp, nb_shp ny, zero_shp p, _, rfl, ite2 (fun c => ?_) (fun c => ?_)⟩
    · have e1 : w1D p y = zeroD p := if_neg fun z => by unfold nzB at z; rw [c] at z; cases z
      have e2 : w2D p x y = oneD p := if_neg fun z => by unfold nzB at z; rw [c] at z; cases z
      rw [e1, e2] at q
      refine ⟨_, rfl, f, C0, d0, fs0, v0, rfl, a1, a2, a3, a4, _, rfl, f, C1, d1, fs1, v1, rfl, b1, b2, b3, b4, (by show 2 ≤ sizeLine; decide), fun l nl => ?_⟩
      have s := same_new (o := .tup [v0, v1]) nl
      exact q l _ s (.tup upd_same (.cons (a5.same s) (.cons (b5.same s) .nil)))
    · have nz : nzB p y = true := by
        unfold nzB
        cases z : PyData.eqv y (zeroD p) with
        | true => exact absurd z c
        | false => rfl
      have e1 : w1D p y = oneD p := if_pos nz
      have e2 : w2D p x y = secD p x y := if_pos nz
      rw [e1, e2] at q
      have ynz := (nz_iff fp ny).mp nz
      refine ⟨_, rfl, f, C1, d1, fs1, v1, rfl, b1, b2, b3, b4, ?_⟩
      cases nx with
      | @fr k qx l1 f1 f2 =>
        cases ny with
        | @fr k r l2 g1 g2 =>
          obtain ⟨dxf, z, o, m, ea, ez, eo, em⟩ := (hf.fr rfl).at_
          have r1 := fr_zero l2 ynz
          have b1' : (1 : Int) * qx.2 ≠ 0 := by have := l1.1; omega
          have fL : Fin 1000 (lessF (0, 1) qx).1 ∧ Fin 1000 (lessF (0, 1) qx).2 := low_fin b1' (by rw [Int.zero_mul, Int.mul_one, Int.zero_sub]; unfold Fin; rw [Int.natAbs_neg]; exact fin_up f1 (by decide)) (by rw [Int.one_mul]; exact fin_up f2 (by decide))
          refine .inr ⟨_, rfl, f, dxf, _, rfl, ea, rfl, _, rfl, f, dxf, _, rfl, ea, rfl, _, rfl, f, T.C_FractionField, dxf, _, _, rfl, ea, T.cl_FractionField, T.na_FractionField_zero, rfl, _, rfl, f, _, vx, (0, 1), qx, rfl, hf.fr rfl, fr_dq (q := (0, 1)) ez, kx, ⟨⟨by decide, by decide⟩, fin_small (by decide) (by decide), fin_small (by decide) (by decide)⟩, ⟨l1, fin_up f1 (by decide), fin_up f2 (by decide)⟩, fun l3 H3 s3 k3 => ?_⟩
          refine ⟨_, rfl, f, .ref l3, vy, lessF (0, 1) qx, r, rfl, (hf.fr rfl).same s3, k3, ky.same s3, ⟨(low_ok b1').1, fin_up fL.1 (by decide), fin_up fL.2 (by decide)⟩, ⟨l2, fin_up g1 (by decide), fin_up g2 (by decide)⟩, fun z => absurd (by rw [z]) r1, fun _ l4 H4 s4 k4 => ?_⟩
          rw [sec_fr l1 l2 r1] at k4
          refine ⟨(by show 2 ≤ sizeLine; decide), fun l5 n5 => ?_⟩
          have s5 := same_new (o := .tup [v1, .ref l4]) n5
          exact q l5 _ ((s3.trans s4).trans s5) (.tup upd_same (.cons (((b5.same s3).same s4).same s5) (.cons (k4.same s5) .nil)))
        | rs n _ => exact absurd rfl n
      | @rs p k xn n lx =>
        cases ny with
        | fr _ _ _ => exact absurd rfl n
        | @rs _ _ yn _ ly =>
          cases kx
          cases ky
          obtain ⟨⟨dxr, ha⟩, pr, le'⟩ := id (hf.rs n)
          have y0 := nz_nat n ynz
          obtain ⟨r, er, rp, hr1⟩ := rpw_inv pr (y := (yn : Int)) (by omega) (by omega) (by omega)
          have e3 : ∃ m : Nat, (0 - (xn : Int)) % (p : Int) = (m : Int) ∧ m < p := ⟨((0 - (xn : Int)) % (p : Int)).toNat, by have := Int.emod_nonneg (0 - (xn : Int)) (show (p : Int) ≠ 0 by omega); omega, by have := Int.emod_nonneg (0 - (xn : Int)) (show (p : Int) ≠ 0 by omega); have := Int.emod_lt_of_pos (0 - (xn : Int)) (show (0 : Int) < p by omega); omega⟩
          have es := sec_rs fp n lx ly y0 hr1
          obtain ⟨m, em, lm⟩ := e3
          rw [em] at es
          refine .inl ⟨_, rfl, f, dxr, _, rfl, ha, rfl, _, rfl, f, dxr, _, rfl, ha, rfl, _, rfl, f, T.C_RestField, dxr, _, _, rfl, ha, T.cl_RestField, T.na_RestField_zero, rfl, _, rfl, f, p, 0, (xn : Int), rfl, hf.rs n, med_nat (n := 0) (show (0 : Nat) < p by omega) le', med_nat lx le', ?_⟩
          rw [em]
          refine ⟨_, rfl, f, p, (m : Int), (yn : Int), rfl, hf.rs n, by omega, by omega, by omega, by omega, fun z => absurd z (by omega), fun r' er' => ?_⟩
          rw [er] at er'
          cases er'
          refine ⟨(by show 2 ≤ sizeLine; decide), fun l5 n5 => ?_⟩
          have s5 := same_new (o := .tup [v1, .int ((m : Int) * (r : Int) % (p : Int))]) n5
          refine q l5 _ s5 (.tup upd_same (.cons (b5.same s5) (.cons ?_ .nil)))
          rw [← es]
          exact .int _
end
end K25
set_option Elab.async false
set_option linter.all false
set_option maxRecDepth 100000
set_option maxHeartbeats 4000000
set_option exponentiation.threshold 5000
set_option pp.maxSteps 900
namespace K25
open PySem PySem.Spec PyProof.Rows L2 TkS LamX NdefX
theorem some_minus {p : Nat} (fp : Fp p) : someD p (-1) = minusD p := by
  unfold someD minusD
  by_cases c : p = 0
  · rw [if_pos c, if_pos c]
  · have := fp.cases c
    rw [if_neg c, if_neg c]
    refine congrArg PyData.int ?_
    rw [show (-1 : Int) = ((p : Int) - 1) + (p : Int) * (-1) by omega, Int.add_mul_emod_self_left, Int.emod_eq_of_lt (by omega) (by omega)]
def sl_minus : Sp := fun vs H Q _ => ∃ (p : Nat) (x : V) (d : PyData), vs = [.int (p : Int), x] ∧ Fp p ∧ Dq H x d ∧ Nb p 1900 d ∧ ∀ v H', Same H H' → Dq H' v (timesD p (minusD p) d) → Q v H'
def sl_over : Sp := fun vs H Q _ => ∃ (p : Nat) (x y : V) (a b : PyData), vs = [.int (p : Int), x, y] ∧ Fp p ∧ Dq H x a ∧ Dq H y b ∧ Nb p 1000 a ∧ Nb p 1000 b ∧ b ≠ zeroD p ∧ ∀ v H', Same H H' → Dq H' v (overD p a b) → Q v H'
theorem pow_odd (b n : Nat) : b ^ n = (b * b) ^ (n / 2) * (if n % 2 = 1 then b else 1) := by
  have e : n = 2 * (n / 2) + n % 2 := by omega
  have h : n % 2 = 0 ∨ n % 2 = 1 := by omega
  rcases h with h | h
  · rw [h, if_neg (by decide), Nat.mul_one, ← Nat.pow_two, ← Nat.pow_mul]
    congr 1
    omega
  · rw [h, if_pos rfl, ← Nat.pow_two, ← Nat.pow_mul, ← Nat.pow_succ]
    congr 1
    omega
section
variable {P : Program} {w : World} {K : PySem.W.Frag} {mg : Str → Option Value} {base : Heap}
theorem ok_law_minus (T : Txt K mg) : FnOk P w K mg base CX0 4 T.f_law_minus T.d_law_minus ["_law_p", "_law_one"] sl_minus := by
  refine T.F_law_minus.ok sc_law_minus (fun vs H Q E h => ?_) (fun cdv A outer s H vs Q E hr h => ?_)
  · obtain ⟨p, x, d, rfl, _⟩ := h
    rfl
  · obtain ⟨p, x, d, rfl, fp, kx, nd, q⟩ := h
    refine ⟨_, (pss_one (ps_ret (pe_call (ok_law_times T) (hr.mono (by decide)) (by rfl) T.g_law_times T.F_law_times.kp T.b_law_times .nil pass0 (pa_cons (pv 0) (pa_cons (pe_call (ok_law_some T) (hr.mono (by decide)) (by rfl) T.g_law_some T.F_law_some.kp T.b_law_some .nil pass0 (pa_cons (pv 0) (pa_cons (pe_un un_neg pe_int) pa_nil))) (pa_cons (pv 1) pa_nil)))))), ?_⟩
    refine ⟨_, rfl, _, rfl, 1, rfl, p, -1, rfl, fun v H1 s1 k1 => ?_⟩
    rw [some_minus fp] at k1
    exact ⟨_, rfl, p, v, x, minusD p, d, rfl, k1, kx.same s1, nb_minus fp (by decide), nd.up (by decide), fp.le, fun v2 H2 s2 k2 => q v2 H2 (s1.trans s2) k2⟩
theorem ok_law_over (T : Txt K mg) : FnOk P w K mg base CX0 3 T.f_law_over T.d_law_over ["_law_p", "_law_one", "_law_other"] sl_over := by
  refine T.F_law_over.ok sc_law_over (fun vs H Q E h => ?_) (fun cdv A outer s H vs Q E hr h => ?_)
  · obtain ⟨p, x, y, a, b, rfl, _⟩ := h
    rfl
  · obtain ⟨p, x, y, a, b, rfl, fp, kx, ky, na, nb, nz, q⟩ := h
    refine ⟨_, (pss_cons (ps_if (pt_cmpR op_eq (pv 0) pe_int (nomark _))
        (pss_one (ps_ret (pe_call (ok_law_low T) (hr.mono (by decide)) (by rfl) T.g_law_low T.F_law_low.kp T.b_law_low .nil pass0 (pa_cons (pe_op op_mulW (pe_ix ix_tup (pv 1) pe_int (fun _ _ => rfl)) (pe_ix ix_tup (pv 2) pe_int (fun _ _ => rfl))) (pa_cons (pe_op op_mulW (pe_ix ix_tup (pv 1) pe_int (fun _ _ => rfl)) (pe_ix ix_tup (pv 2) pe_int (fun _ _ => rfl))) pa_nil)))))
        pss_nil)
      (pss_cons (ps_set (i := 3) sc_law_over.nd rfl (.inl rfl) (pe_op op_mod (pe_callTy call_int1 (by rfl) T.m_int (by decide +kernel) (pa_cons (pv 1) pa_nil)) (pv 0)))
      (pss_cons (ps_set (i := 4) sc_law_over.nd rfl (.inl rfl) (pe_op op_mod (pe_callTy call_int1 (by rfl) T.m_int (by decide +kernel) (pa_cons (pv 2) pa_nil)) (pv 0)))
      (pss_cons (ps_set (i := 5) sc_law_over.nd rfl (.inl rfl) (pe_op op_sub (pv 0) pe_int))
      (pss_cons (ps_while PassesOwn.never (pt_cmpR op_gt (pv 5) pe_int (nomark _))
        (Evl.pss_cut (ps_if (pt_cmpR op_eq (pe_op op_mod (pe_callTy call_int1 (by rfl) T.m_int (by decide +kernel) (pa_cons (pv 5) pa_nil)) pe_int) pe_int (nomark _))
          (pss_one (ps_set (i := 3) sc_law_over.nd rfl (.inl rfl) (pe_op op_mod (pe_callTy call_int1 (by rfl) T.m_int (by decide +kernel) (pa_cons (pe_op op_mulW (pv 3) (pv 4)) pa_nil)) (pv 0))))
          pss_nil)
        (pss_cons (ps_set (i := 4) sc_law_over.nd rfl (.inl rfl) (pe_op op_mod (pe_callTy call_int1 (by rfl) T.m_int (by decide +kernel) (pa_cons (pe_op op_mulW (pv 4) (pv 4)) pa_nil)) (pv 0)))
        (pss_one (ps_set (i := 5) sc_law_over.nd rfl (.inl rfl) (pe_op op_fdiv (pv 5) pe_int))))))
      (pss_one (ps_ret (pv 3)))))))), ?_⟩
    unfold overD at q
    cases na with
    | @fr k r a1 a2 a3 =>
      cases nb with
      | @fr k t b1 b2 b3 =>
        rw [if_pos rfl] at q
        obtain ⟨l1, rfl, h1⟩ := fr_at kx
        obtain ⟨l2, rfl, h2⟩ := fr_at ky
        have t1 := fr_zero b1 nz
        have w1 := Fin.mulW a2 b3 (by decide) (by decide) (by decide)
        have w2 := Fin.mulW a3 b2 (by decide) (by decide) (by decide)
        exact ⟨_, rfl, rfl, _, rfl, iteT ⟨_, rfl, l1, _, 0, _, rfl, rfl, SqT.of h1, at_of (j := 0) rfl rfl, _, rfl, l2, _, 1, _, rfl, rfl, SqT.of h2, at_of (j := 1) rfl rfl, _, _, rfl, rfl, w1, _, rfl, l1, _, 1, _, rfl, rfl, SqT.of h1, at_of (j := 1) rfl rfl, _, rfl, l2, _, 0, _, rfl, rfl, SqT.of h2, at_of (j := 0) rfl rfl, _, _, rfl, rfl, w2, _, _, rfl, (fun z => (Int.mul_eq_zero.mp z).elim (fun h => pos_ne a1.1 h) t1), fin_up (Fin.mul a3 b2) (by decide), fun l H' s k => q _ H' s k⟩⟩
      | rs n _ => exact absurd rfl n
    | @rs p k X n lx =>
      cases nb with
      | fr _ _ _ => exact absurd rfl n
      | @rs _ _ Y _ ly =>
        rw [if_neg n] at q
        cases kx
        cases ky
        have p2 := fp.cases n
        have le := fp.le
        have p0 : (0 : Int) < (p : Int) := by omega
        refine ⟨_, rfl, rfl, _, rfl, ite2 (fun c => ?_) (fun _ => ?_)⟩
        · exact absurd (show (p : Int) = 0 by simpa using c) (by omega)
        refine ⟨_, rfl, .inl ⟨_, rfl, _, rfl, _, _, rfl, rfl, p0, _, rfl, .inl ⟨_, rfl, _, rfl, _, _, rfl, rfl, p0, ?_⟩⟩⟩
        refine ⟨_, rfl, _, _, rfl, rfl, ?_⟩
        dsimp only
        have ex : (X : Int) % (p : Int) = (X : Int) := Int.emod_eq_of_lt (by omega) (by omega)
        have ey : (Y : Int) % (p : Int) = (Y : Int) := Int.emod_eq_of_lt (by omega) (by omega)
        rw [ex, ey]
        refine ⟨fun m σ H' => ∃ (o b : Nat), σ = [some (.int (p : Int)), some (.int (X : Int)), some (.int (Y : Int)), some (.int (o : Int)), some (.int (b : Int)), some (.int (m : Int))] ∧ H = H' ∧ o < p ∧ b < p ∧ m ≤ 20000 ∧ o * b ^ m % p = X * Y ^ (p - 2) % p, ⟨p - 2, X, Y, by rw [show ((p - 2 : Nat) : Int) = (p : Int) - 2 by omega]; rfl, rfl, lx, ly, by omega, rfl⟩, fun m σ H' hW => ?_⟩
        obtain ⟨o, b, rfl, rfl, lo, lb, lm, hp⟩ := hW
        refine ⟨_, rfl, _, _, rfl, rfl, _, rfl, ite2 (fun c => ?_) (fun c => ?_)⟩
        · have c' : (0 : Int) < (m : Int) := of_decide_eq_true c
          refine ⟨fun σ' H' => ∃ m', m' < m ∧ ∃ (o b : Nat), σ' = [some (.int (p : Int)), some (.int (X : Int)), some (.int (Y : Int)), some (.int (o : Int)), some (.int (b : Int)), some (.int (m' : Int))] ∧ H = H' ∧ o < p ∧ b < p ∧ m' ≤ 20000 ∧ o * b ^ m' % p = X * Y ^ (p - 2) % p, fun _ _ z => z, ?_⟩
          have po := pow_odd b m
          have wb := Fin.mulW (med_lt lb le) (med_lt lb le) (by decide) (by decide) (by decide)
          have wo := Fin.mulW (med_lt lo le) (med_lt lb le) (by decide) (by decide) (by decide)
          refine ⟨fun σ H' => ∃ o' : Nat, σ = [some (.int (p : Int)), some (.int (X : Int)), some (.int (Y : Int)), some (.int (o' : Int)), some (.int (b : Int)), some (.int (m : Int))] ∧ H = H' ∧ o' < p ∧ o' * (b * b) ^ (m / 2) % p = X * Y ^ (p - 2) % p, ?_, fun σ H' hM => ?_⟩
          · refine ⟨_, rfl, .inl ⟨_, rfl, _, 2, rfl, rfl, (by show (0 : Int) < 2; decide), rfl, _, rfl, ite2 (fun c2 => ?_) (fun c2 => ?_)⟩⟩
            · have c2' : (m : Int) % 2 = 1 := by simpa using c2
              refine ⟨_, rfl, _, rfl, _, _, rfl, rfl, wo, .inl ⟨_, rfl, _, rfl, _, _, rfl, rfl, p0, ?_⟩⟩
              refine ⟨o * b % p, rfl, rfl, Nat.mod_lt _ (by omega), ?_⟩
              rw [if_pos (show m % 2 = 1 by omega)] at po
              rw [po] at hp
              rw [← hp, Nat.mod_mul_mod]
              congr 1
              rw [Nat.mul_assoc, Nat.mul_comm b]
            · have c2' : ¬ (m : Int) % 2 = 1 := fun z => c2 (by simpa using z)
              refine ⟨o, rfl, rfl, lo, ?_⟩
              rw [if_neg (show ¬ m % 2 = 1 by omega), Nat.mul_one] at po
              rw [← po]
              exact hp
          · obtain ⟨o', rfl, rfl, lo', hp'⟩ := hM
            refine ⟨_, rfl, _, rfl, _, _, rfl, rfl, wb, .inl ⟨_, rfl, _, rfl, _, _, rfl, rfl, p0, ?_⟩⟩
            refine ⟨_, rfl, _, _, rfl, rfl, ⟨by decide, by decide⟩, ?_⟩
            refine ⟨m / 2, by omega, o', b * b % p, rfl, rfl, lo', Nat.mod_lt _ (by omega), by omega, ?_⟩
            rw [← hp', Nat.mul_mod, ← Nat.pow_mod, ← Nat.mul_mod]
        · have c' : ¬ (0 : Int) < (m : Int) := fun z => c (decide_eq_true z)
          have m0 : m = 0 := by omega
          subst m0
          rw [Nat.pow_zero, Nat.mul_one, Nat.mod_eq_of_lt lo] at hp
          refine ⟨_, rfl, q _ _ (fun _ _ z => z) ?_⟩
          rw [hp]
          exact .int _
end
end K25
set_option Elab.async false
set_option linter.all false
set_option maxRecDepth 100000
set_option maxHeartbeats 4000000
set_option exponentiation.threshold 5000
set_option pp.maxSteps 900
namespace K25
open PySem PySem.Spec PyProof.Rows L2 TkS LamX NdefX
/-- new lists, one for each row: none of them the state, none of X -/
structure Rws (h g : Addr) (X : List Addr) (H0 H : Hp) (ls : List Addr) (R : List (List PyData)) : Prop where
  len : ls.length = R.length
  nd : ls.Nodup
  at_ : ∀ (i : Nat) (l : Addr) (r : List PyData), ls[i]? = some l → R[i]? = some r → l ≠ h ∧ l ≠ g ∧ l ∉ X ∧ H0 l = none ∧ ∃ xs, H l = some (.lst xs) ∧ DqAll (Vw h g H) xs r
theorem Rws.kp {h g : Addr} {X : List Addr} {H0 H H' : Hp} {ls : List Addr} {R : List (List PyData)} (x : Rws h g X H0 H ls R) (k : Kp h g H H') : Rws h g X H0 H' ls R :=
  ⟨x.len, x.nd, fun i l r a b => by
    obtain ⟨f1, f2, f3, f4, xs, e, u⟩ := x.at_ i l r a b
    exact ⟨f1, f2, f3, f4, xs, k l _ f1 f2 e, DqAll.same k.vw _ u⟩⟩
theorem Rws.put {h g : Addr} {X : List Addr} {H0 H : Hp} {ls : List Addr} {R : List (List PyData)} {i : Nat} {l : Addr} {r r' : List PyData} {xs zs : List V} (x : Rws h g X H0 H ls R) (hl : ls[i]? = some l) (hr : R[i]? = some r) (eL : H l = some (.lst xs)) (nl : ∀ r ∈ R, noLists r = true) (nl' : noLists r' = true) (u : DqAll (Vw h g H) zs r') : Rws h g X H0 (upd H l (.lst zs)) ls (R.set i r') := by
  obtain ⟨f1, f2, f3, lnone, _⟩ := x.at_ i l r hl hr
  refine ⟨by rw [List.length_set]; exact x.len, x.nd, fun j l' r2 ha hb => ?_⟩
  by_cases c : j = i
  · subst c
    rw [hl] at ha
    obtain rfl := Option.some.inj ha
    rw [List.getElem?_set_self (List.getElem?_eq_some_iff.mp hr).1] at hb
    obtain rfl := Option.some.inj hb
    exact ⟨f1, f2, f3, lnone, _, upd_same, dqs_upd f1 f2 eL nl' u⟩
  · rw [List.getElem?_set_ne (Ne.symm c)] at hb
    obtain ⟨g1, g2, g3, g4, ys, e, w⟩ := x.at_ j l' r2 ha hb
    have ne : l' ≠ l := fun z => by
      subst z
      obtain ⟨i1a, i1b⟩ := List.getElem?_eq_some_iff.mp ha
      obtain ⟨i2a, i2b⟩ := List.getElem?_eq_some_iff.mp hl
      exact c ((List.getElem_inj x.nd).mp (i1b.trans i2b.symm))
    exact ⟨g1, g2, g3, g4, ys, by rw [upd_ne ne]; exact e, dqs_upd f1 f2 eL (nl r2 (List.mem_of_getElem? hb)) w⟩
/-- all is kept but the state and the rows -/
def Kpx (h g : Addr) (ls : List Addr) (H H' : Hp) : Prop := ∀ b o, b ≠ h → b ≠ g → b ∉ ls → H b = some o → H' b = some o
theorem Kpx.refl {h g : Addr} {ls : List Addr} {H : Hp} : Kpx h g ls H H := fun _ _ _ _ _ e => e
theorem Kpx.kp {h g : Addr} {ls : List Addr} {H H1 H2 : Hp} (a : Kpx h g ls H H1) (b : Kp h g H1 H2) : Kpx h g ls H H2 := fun c o n m k e => b c o n m (a c o n m k e)
theorem Kpx.trans {h g : Addr} {ls : List Addr} {H H1 H2 : Hp} (a : Kpx h g ls H H1) (b : Kpx h g ls H1 H2) : Kpx h g ls H H2 := fun c o n m k e => b c o n m k (a c o n m k e)
theorem Kpx.put {h g l : Addr} {ls : List Addr} {H H1 : Hp} {o : HO} (a : Kpx h g ls H H1) (m : l ∈ ls) : Kpx h g ls H (upd H1 l o) := fun c o n1 n2 k e => by
  rw [upd_ne (fun z => k (by rw [z]; exact m))]
  exact a c o n1 n2 k e
def Dk : Nat → Int
  | 0 => 36
  | k + 1 => 6 * Dk k
def Tk : Nat → Int
  | 0 => 281474976710656
  | k + 1 => 30 * Tk k
theorem Tk.pos : ∀ k, 0 < Tk k
  | 0 => by decide
  | k + 1 => by
    have := Tk.pos k
    show (0 : Int) < 30 * Tk k
    omega
theorem Dk.pos : ∀ k, 0 < Dk k
  | 0 => by decide
  | k + 1 => by
    have := Dk.pos k
    show (0 : Int) < 6 * Dk k
    omega
/-- a row as it stands after k turns of the shear -/
structure Gr (p n k : Nat) (r : List PyData) : Prop where
  ln : r.length = n
  fb : ∀ d ∈ r, Fb p (Dk k) (Tk k) d
  nz : r.any (nzB p) = true
theorem fb_step {p k : Nat} {d : PyData} (h : Fb p (Dk k) (Tk k) d) : Fb p (Dk (k + 1)) (Tk (k + 1)) d := (h.scale (show (0 : Int) < 6 by decide)).up (by have := Tk.pos k; show 6 * Tk k ≤ 30 * Tk k; omega)
theorem Gr.step {p n k : Nat} {r : List PyData} (x : Gr p n k r) : Gr p n (k + 1) r := ⟨x.ln, fun d m => fb_step (x.fb d m), x.nz⟩
theorem fb_to4 {p : Nat} {d : PyData} : ∀ {k : Nat}, k ≤ 4 → Fb p (Dk k) (Tk k) d → Fb p (Dk 4) (Tk 4) d
  | 0, _, h => fb_step (fb_step (fb_step (fb_step h)))
  | 1, _, h => fb_step (fb_step (fb_step h))
  | 2, _, h => fb_step (fb_step h)
  | 3, _, h => fb_step h
  | 4, _, h => h
  | k + 5, l, _ => absurd l (by omega)
theorem fb4_nb {p : Nat} {d : PyData} (h : Fb p (Dk 4) (Tk 4) d) : Nb p 68 d := h.nb (by decide) (by decide)
theorem Gr.nb {p n k : Nat} {r : List PyData} (x : Gr p n k r) (l : k ≤ 4) : ∀ d ∈ r, Nb p 68 d := fun d m => fb4_nb (fb_to4 l (x.fb d m))
theorem Gr.nl {p n k : Nat} {r : List PyData} (x : Gr p n k r) : noLists r = true := fbs_noL x.fb
theorem shear_nz {p k m lo hi : Nat} {r : List PyData} {a b x : PyData} (fp : Fp p) (hr : ∀ d ∈ r, Nb p k d) (hlo : r[lo]? = some b) (hhi : r[hi]? = some a) (ne : lo ≠ hi) (nx : Nb p m x) (hx : b = zeroD p → x = zeroD p → a = zeroD p) (h : r.any (nzB p) = true) : (r.set hi x).any (nzB p) = true := by
  refine Decidable.byContradiction fun z => ?_
  have al : ∀ d ∈ r.set hi x, ∀ j, Nb p j d → d = zeroD p := fun d md j nd => by
    refine Classical.byContradiction fun q => z (List.any_eq_true.mpr ⟨d, md, (nz_iff fp nd).mpr q⟩)
  have hhl := (List.getElem?_eq_some_iff.mp hhi).1
  have xz := al x (List.mem_set hhl x) m nx
  have mb : b ∈ r.set hi x := List.mem_of_getElem? (by rw [List.getElem?_set_ne (Ne.symm ne)]; exact hlo)
  have bz := al b mb k (hr b (List.mem_of_getElem? hlo))
  have az := hx bz xz
  obtain ⟨d, md, nd⟩ := List.any_eq_true.mp h
  have dn := (nz_iff fp (hr d md)).mp nd
  obtain ⟨j, hj⟩ := List.getElem?_of_mem md
  by_cases c : j = hi
  · subst c
    rw [hhi] at hj
    exact dn ((Option.some.inj hj).symm.trans az)
  · exact dn (al d (List.mem_of_getElem? (by rw [List.getElem?_set_ne (Ne.symm c)]; exact hj)) k (hr d md))
theorem plus_zero_back {p k m : Nat} {a b : PyData} (fp : Fp p) (na : Nb p k a) (nb : Nb p m b) (hb : b = zeroD p) (h : plusD p a b = zeroD p) : a = zeroD p := by
  obtain ⟨R, i, φ, F⟩ := phi_has fp
  have e := F.plus na nb
  rw [h, hb, F.zero] at e
  refine F.inj na (nb_zero (k := 1) fp (Nat.le_refl 1)) ?_
  rw [F.zero]
  grind
theorem times_zero {p k : Nat} {f : PyData} (fp : Fp p) (nf : Nb p k f) : timesD p f (zeroD p) = zeroD p := by
  obtain ⟨R, i, φ, F⟩ := phi_has fp
  have nz := nb_zero (p := p) (k := 1) fp (Nat.le_refl 1)
  refine F.inj (timesD_nb nf nz) nz ?_
  rw [F.times nf nz, F.zero]
  grind
end K25
set_option Elab.async false
set_option linter.all false
set_option maxRecDepth 100000
set_option maxHeartbeats 4000000
set_option exponentiation.threshold 5000
set_option pp.maxSteps 900
namespace K25
open PySem PySem.Spec PyProof.Rows L2 TkS LamX NdefX
/-- the shear's turn under way: j rows of ls are done -/
def Sh (h g : Addr) (X : List Addr) (H0 H : Hp) (ls : List Addr) (p n k : Nat) (vf : V) (fd : PyData) (j : Nat) (H' : Hp) : Prop := ∃ R', Kpx h g ls H H' ∧ Hnd h g H' ∧ Rws h g X H0 H' ls R' ∧ Dq (Vw h g H') vf fd ∧ ∀ i r, R'[i]? = some r → (i < j → Gr p n (k + 1) r) ∧ (j ≤ i → Gr p n k r)
theorem Sh.go {h g : Addr} {X : List Addr} {H0 H H' : Hp} {ls : List Addr} {p n k j : Nat} {vf : V} {fd : PyData} {l : Addr} (x : Sh h g X H0 H ls p n k vf fd j H') (hl : ls[j]? = some l) (nf : noList fd = true) :
    ∃ r xs, l ≠ h ∧ l ≠ g ∧ H' l = some (.lst xs) ∧ DqAll (Vw h g H') xs r ∧ Gr p n k r ∧ Dq (Vw h g H') vf fd ∧ ∀ H'' zs r', Same H' H'' → DqAll (Vw h g H'') zs r' → Gr p n (k + 1) r' → Sh h g X H0 H ls p n k vf fd (j + 1) (upd H'' l (.lst zs)) := by
  obtain ⟨R, kx, hd, rw', kf, al⟩ := x
  have hj := (List.getElem?_eq_some_iff.mp hl).1
  rw [rw'.len] at hj
  have hr := List.getElem?_eq_getElem hj
  generalize R[j] = r at hr
  obtain ⟨f1, f2, f3, f4, xs, e, u⟩ := rw'.at_ j l r hl hr
  refine ⟨r, xs, f1, f2, e, u, (al j r hr).2 (Nat.le_refl _), kf, fun H'' zs r' s uz gr => ?_⟩
  have nlr : ∀ r ∈ R, noLists r = true := fun r m => by
    obtain ⟨i, hi⟩ := List.getElem?_of_mem m
    by_cases c : i < j
    · exact ((al i r hi).1 c).nl
    · exact ((al i r hi).2 (by omega)).nl
  refine ⟨R.set j r', (kx.kp (Kp.of s)).put (List.mem_of_getElem? hl), (hd.same s).upd f1 f2, (rw'.kp (Kp.of s)).put hl hr (s _ _ e) nlr gr.nl uz, dq_upd f1 f2 (s _ _ e) nf (kf.same (Kp.of s).vw), fun i r2 h2 => ?_⟩
  by_cases c : i = j
  · subst c
    rw [List.getElem?_set_self (List.getElem?_eq_some_iff.mp hr).1] at h2
    obtain rfl := Option.some.inj h2
    exact ⟨fun _ => gr, fun z => absurd z (by omega)⟩
  · rw [List.getElem?_set_ne (Ne.symm c)] at h2
    exact ⟨fun z => (al i r2 h2).1 (by omega), fun z => (al i r2 h2).2 (by omega)⟩
theorem gr_set {p n k lo hi : Nat} {r : List PyData} {a b t : PyData} (fp : Fp p) (k4 : k ≤ 4) (g : Gr p n k r) (hlo : r[lo]? = some b) (hhi : r[hi]? = some a) (ne : lo ≠ hi) (ft : Fb p (6 * Dk k) (24 * Tk k) t) (tz : b = zeroD p → t = zeroD p) : Gr p n (k + 1) (r.set hi (plusD p a t)) := by
  have na := g.nb k4 a (List.mem_of_getElem? hhi)
  have fx : Fb p (Dk (k + 1)) (Tk (k + 1)) (plusD p a t) := (((g.fb a (List.mem_of_getElem? hhi)).scale (show (0 : Int) < 6 by decide)).plus ft).up (by show 6 * Tk k + 24 * Tk k ≤ 30 * Tk k; omega)
  have nt : ∃ m, Nb p m t := by
    have h5 : Dk k < 2 ^ (6 + (Dk k).toNat + (24 * Tk k).toNat) := by
      have := Nat.lt_two_pow_self (n := 6 + (Dk k).toNat + (24 * Tk k).toNat)
      have e : ((2 ^ (6 + (Dk k).toNat + (24 * Tk k).toNat) : Nat) : Int) = 2 ^ (6 + (Dk k).toNat + (24 * Tk k).toNat) := Int.natCast_pow 2 _
      omega
    refine ⟨3 + (6 + (6 * Dk k).toNat + (24 * Tk k).toNat), ft.nb ?_ ?_⟩
    all_goals
      have := Nat.lt_two_pow_self (n := 3 + (6 + (6 * Dk k).toNat + (24 * Tk k).toNat))
      have e : ((2 ^ (3 + (6 + (6 * Dk k).toNat + (24 * Tk k).toNat)) : Nat) : Int) = 2 ^ (3 + (6 + (6 * Dk k).toNat + (24 * Tk k).toNat)) := Int.natCast_pow 2 _
      omega
  obtain ⟨m, nt⟩ := nt
  refine ⟨by rw [List.length_set]; exact g.ln, fun d md => ?_, shear_nz fp (g.nb k4) hlo hhi ne (plusD_nb na nt) (fun bz xz => plus_zero_back fp na nt (tz bz) xz) g.nz⟩
  rcases List.mem_or_eq_of_mem_set md with md | rfl
  · exact fb_step (g.fb d md)
  · exact fx
def sl_shear : Sp := fun vs H Q _ => ∃ (h g D1 D2 : Addr) (p n : Nat) (l1 l2 : List Addr) (H0 : Hp) (R : List (List PyData)), vs = [.ref h, .int (p : Int), .ref D1, .ref D2] ∧ Hnd h g H ∧ Fp p ∧ 1 ≤ n ∧ n ≤ 6 ∧ 1 ≤ l1.length ∧ D1 ≠ h ∧ D1 ≠ g ∧ D2 ≠ h ∧ D2 ≠ g ∧ H D1 = some (.lst (l1.map V.ref)) ∧ H D2 = some (.lst (l2.map V.ref)) ∧ Rws h g [D1, D2] H0 H (l1 ++ l2) R ∧ (∀ r ∈ R, Gr p n 0 r) ∧
  ∀ H' R', Kpx h g (l1 ++ l2) H H' → Hnd h g H' → Rws h g [D1, D2] H0 H' (l1 ++ l2) R' → (∀ r ∈ R', Gr p n 4 r) → Q .non H'
section
variable {P : Program} {w : World} {K : PySem.W.Frag} {mg : Str → Option Value} {base : Heap}
theorem ok_law_shear (T : Txt K mg) : FnOk P w K mg base CX0 5 T.f_law_shear T.d_law_shear ["_law_state", "_law_p", "_law_points", "_law_shuts"] sl_shear := by
  refine T.F_law_shear.ok sc_law_shear (fun vs H Q E h => ?_) (fun cdv A outer s H vs Q E hr h => ?_)
  · obtain ⟨h, g, D1, D2, p, n, l1, l2, H0, R, rfl, _⟩ := h
    rfl
  · obtain ⟨h, g, D1, D2, p, n, l1, l2, H0, R, rfl, hd, fp, n1, n6, len1, d1, d2, d3, d4, e1, e2, rws, gr, q⟩ := h
    refine ⟨_, (pss_cons (ps_set (i := 4) sc_law_shear.nd rfl (.inl rfl) (pe_callB call_len_seq (by rfl) T.m_len (by decide +kernel) (pa_cons (pe_ix ix_list (pv 2) pe_int (fun _ _ => rfl)) pa_nil)))
      (pss_one (ps_for PassesOwn.never rfl (pi_range1 (by rfl) T.m_range (pa_cons (pe_call (ok_law_draw T) (hr.mono (by decide)) (by rfl) T.g_law_draw T.F_law_draw.kp T.b_law_draw .nil pass0 (pa_cons (pv 0) (pa_cons pe_int pa_nil))) pa_nil)) (pg_name (i := 5) sc_law_shear.nd rfl (.inl rfl))
        (pss_one (ps_if (pt_cmpR op_gt (pv 4) pe_int (nomark _))
          (pss_cons (ps_set (i := 6) sc_law_shear.nd rfl (.inl rfl) (pe_call (ok_law_draw T) (hr.mono (by decide)) (by rfl) T.g_law_draw T.F_law_draw.kp T.b_law_draw .nil pass0 (pa_cons (pv 0) (pa_cons (pv 4) pa_nil))))
          (pss_cons (ps_set (i := 7) sc_law_shear.nd rfl (.inl rfl) (pe_op op_mod (pe_callTy call_int1 (by rfl) T.m_int (by decide +kernel) (pa_cons (pe_op op_add (pe_op op_add (pv 6) pe_int) (pe_call (ok_law_draw T) (hr.mono (by decide)) (by rfl) T.g_law_draw T.F_law_draw.kp T.b_law_draw .nil pass0 (pa_cons (pv 0) (pa_cons (pe_op op_sub (pv 4) pe_int) pa_nil)))) pa_nil)) (pv 4)))
          (pss_cons (ps_set (i := 8) sc_law_shear.nd rfl (.inl rfl) (pe_call (ok_law_tiny T) (hr.mono (by decide)) (by rfl) T.g_law_tiny T.F_law_tiny.kp T.b_law_tiny .nil pass0 (pa_cons (pv 0) (pa_cons (pv 1) pa_nil))))
          (Evl.pss_cut (ps_for PassesOwn.never rfl (pi_list (pv 2)) (pg_name (i := 9) sc_law_shear.nd rfl (.inl rfl))
            (pss_one (ps_asg (pe_call (ok_law_plus T) (hr.mono (by decide)) (by rfl) T.g_law_plus T.F_law_plus.kp T.b_law_plus .nil pass0 (pa_cons (pv 1) (pa_cons (pe_ix ix_list (pv 9) (pv 7) (fun _ _ => rfl)) (pa_cons (pe_call (ok_law_times T) (hr.mono (by decide)) (by rfl) T.g_law_times T.F_law_times.kp T.b_law_times .nil pass0 (pa_cons (pv 1) (pa_cons (pv 8) (pa_cons (pe_ix ix_list (pv 9) (pv 6) (fun _ _ => rfl)) pa_nil)))) pa_nil)))) (pg_sub (pv 9) (pv 7) set_list))))
          (pss_one (ps_for PassesOwn.never rfl (pi_list (pv 3)) (pg_name (i := 9) sc_law_shear.nd rfl (.inl rfl))
            (pss_one (ps_asg (pe_call (ok_law_plus T) (hr.mono (by decide)) (by rfl) T.g_law_plus T.F_law_plus.kp T.b_law_plus .nil pass0 (pa_cons (pv 1) (pa_cons (pe_ix ix_list (pv 9) (pv 6) (fun _ _ => rfl)) (pa_cons (pe_call (ok_law_minus T) (hr.mono (by decide)) (by rfl) T.g_law_minus T.F_law_minus.kp T.b_law_minus .nil pass0 (pa_cons (pv 1) (pa_cons (pe_call (ok_law_times T) (hr.mono (by decide)) (by rfl) T.g_law_times T.F_law_times.kp T.b_law_times .nil pass0 (pa_cons (pv 1) (pa_cons (pv 8) (pa_cons (pe_ix ix_list (pv 9) (pv 7) (fun _ _ => rfl)) pa_nil)))) pa_nil))) pa_nil)))) (pg_sub (pv 9) (pv 6) set_list)))))))))
          pss_nil))))), ?_⟩
    have lR := rws.len
    rw [List.length_append] at lR
    have noX : ∀ l ∈ l1 ++ l2, l ∉ [D1, D2] := fun l m => by
      obtain ⟨i, hi⟩ := List.getElem?_of_mem m
      have hi' := (List.getElem?_eq_some_iff.mp hi).1
      rw [List.length_append] at hi'
      exact (rws.at_ i l _ hi (List.getElem?_eq_getElem (show i < R.length by omega))).2.2.1
    have m1 : D1 ∉ l1 ++ l2 := fun m => noX D1 m List.mem_cons_self
    have m2 : D2 ∉ l1 ++ l2 := fun m => noX D2 m (List.mem_cons_of_mem _ List.mem_cons_self)
    have hl0 : (l1 ++ l2)[0]? = some l1[0] := by rw [List.getElem?_append_left (by omega)]; exact List.getElem?_eq_getElem (by omega)
    have hr0 := List.getElem?_eq_getElem (show 0 < R.length by omega)
    obtain ⟨_, _, _, _, xs0, ex0, ux0⟩ := rws.at_ 0 _ _ hl0 hr0
    have lx0 := ux0.len
    rw [(gr _ (List.mem_of_getElem? hr0)).ln] at lx0
    refine ⟨_, rfl, D1, l1.map V.ref, 0, .ref l1[0], rfl, rfl, SqL.of e1, at_of (j := 0) rfl (by rw [List.getElem?_map, List.getElem?_eq_getElem (show 0 < l1.length by omega)]; rfl), _, xs0, rfl, .inl (SqL.of ex0), ?_⟩
    refine ⟨_, rfl, h, g, 5, rfl, hd, by decide, by decide, fun H1 r0 k1 h1 r00 r01 => ⟨r0, rfl, by omega, by omega, ?_⟩⟩
    rw [lx0]
    obtain ⟨tn, rfl⟩ : ∃ tn : Nat, r0 = (tn : Int) := ⟨r0.toNat, by omega⟩
    rw [show ((tn : Int)).toNat = tn by omega]
    refine for_range (lo := 0) (n := tn) (fun k σ H' => ∃ (y5 y6 y7 y8 y9 : Option V) (R' : List (List PyData)), σ = [some (.ref h), some (.int (p : Int)), some (.ref D1), some (.ref D2), some (.int (n : Int)), y5, y6, y7, y8, y9] ∧ Kpx h g (l1 ++ l2) H H' ∧ Hnd h g H' ∧ Rws h g [D1, D2] H0 H' (l1 ++ l2) R' ∧ ∀ r ∈ R', Gr p n k r) ⟨none, none, none, none, none, R, rfl, Kpx.refl.kp k1, h1, rws.kp k1, gr⟩ (fun k σ H' hk hP => ?_) (fun σ H' hP => ?_)
    · obtain ⟨y5, y6, y7, y8, y9, R', rfl, kx, h2, rw2, gr2⟩ := hP
      have k3 : k ≤ 3 := by omega
      refine ⟨_, rfl, (n : Int), 1, rfl, rfl, _, rfl, ite2 (fun c => ?_) (fun c => ?_)⟩
      · have c' : (1 : Int) < (n : Int) := of_decide_eq_true c
        refine ⟨_, rfl, _, rfl, h, g, (n : Int), rfl, h2, by omega, by omega, fun H3 a k3 h3 a0 a1 => ?_⟩
        obtain ⟨lo, rfl⟩ : ∃ lo : Nat, a = (lo : Int) := ⟨a.toNat, by omega⟩
        refine ⟨_, rfl, (lo : Int), 1, rfl, rfl, _, rfl, _, rfl, (n : Int), 1, rfl, rfl, h, g, (n : Int) - 1, rfl, h3, by omega, by omega, fun H4 b k4 h4 b0 b1 => ⟨_, b, rfl, rfl, .inl ⟨_, rfl, _, rfl, _, (n : Int), rfl, rfl, by omega, ?_⟩⟩⟩
        obtain ⟨hi, ehi, lhi, ne⟩ : ∃ hi : Nat, ((lo : Int) + 1 + b) % (n : Int) = (hi : Int) ∧ hi < n ∧ lo ≠ hi := by
          by_cases z : (lo : Int) + 1 + b < (n : Int)
          · refine ⟨((lo : Int) + 1 + b).toNat, by rw [Int.emod_eq_of_lt (by omega) z]; omega, by omega, by omega⟩
          · refine ⟨((lo : Int) + 1 + b - (n : Int)).toNat, ?_, by omega, by omega⟩
            rw [show (lo : Int) + 1 + b = ((lo : Int) + 1 + b - (n : Int)) + (n : Int) * 1 by omega, Int.add_mul_emod_self_left, Int.emod_eq_of_lt (by omega) (by omega)]
            omega
        dsimp only
        rw [ehi]
        refine ⟨_, rfl, _, rfl, h, g, p, rfl, h4, fp, fun vf H5 fd k5 h5 kf ff => ?_⟩
        have llo : lo < n := by omega
        have nfd : Nb p 5 fd := ff.nb (by decide) (by decide)
        have nof := nb_noL nfd
        have k35 := (k3.trans k4).trans k5
        have sh0 : Sh h g [D1, D2] H0 H (l1 ++ l2) p n k vf fd 0 H5 := ⟨R', kx.kp k35, h5, rw2.kp k35, kf, fun i r hi => ⟨fun z => absurd z (by omega), fun _ => gr2 r (List.mem_of_getElem? hi)⟩⟩
        have k44 : k ≤ 4 := by omega
        refine ⟨fun σ H' => ∃ y9, σ = [some (.ref h), some (.int (p : Int)), some (.ref D1), some (.ref D2), some (.int (n : Int)), some (.int (0 + (k : Int))), some (.int (lo : Int)), some (.int (hi : Int)), some vf, y9] ∧ Sh h g [D1, D2] H0 H (l1 ++ l2) p n k vf fd l1.length H', ?_, fun σ H' hM => ?_⟩
        · have top : ∀ {j H'}, Sh h g [D1, D2] H0 H (l1 ++ l2) p n k vf fd j H' → H' D1 = some (.lst (l1.map V.ref)) := fun ⟨_, kx, _⟩ => kx D1 _ d1 d2 m1 e1
          refine ⟨_, rfl, D1, rfl, ⟨_, SqL.of (top sh0)⟩, for_list (xs := l1.map V.ref) (fun j σ H' => ∃ y9, σ = [some (.ref h), some (.int (p : Int)), some (.ref D1), some (.ref D2), some (.int (n : Int)), some (.int (0 + (k : Int))), some (.int (lo : Int)), some (.int (hi : Int)), some vf, y9] ∧ Sh h g [D1, D2] H0 H (l1 ++ l2) p n k vf fd j H') ⟨y9, rfl, sh0⟩ (fun i σ H' _ hP => by obtain ⟨_, _, sh⟩ := hP; exact SqL.of (top sh)) (fun j x σ H' hx hP => ?_) (fun σ H' hP => ?_)⟩
          · obtain ⟨y9, rfl, sh⟩ := hP
            rw [List.getElem?_map] at hx
            obtain ⟨l, hl, rfl⟩ := Option.map_eq_some_iff.mp hx
            have hll : (l1 ++ l2)[j]? = some l := by rw [List.getElem?_append_left (List.getElem?_eq_some_iff.mp hl).1]; exact hl
            obtain ⟨r, xs, f1, f2, eL, u, g1, kf1, nxt⟩ := sh.go hll nof
            have lx := u.len
            rw [g1.ln] at lx
            obtain ⟨db, hb⟩ : ∃ d, r[lo]? = some d := ⟨_, List.getElem?_eq_getElem (show lo < r.length by rw [g1.ln]; exact llo)⟩
            obtain ⟨da, ha⟩ : ∃ d, r[hi]? = some d := ⟨_, List.getElem?_eq_getElem (show hi < r.length by rw [g1.ln]; exact lhi)⟩
            obtain ⟨vb, hvb, kvb⟩ := dqs_at u hb
            obtain ⟨va, hva, kva⟩ := dqs_at u ha
            have nb := g1.nb k44 db (List.mem_of_getElem? hb)
            have na := g1.nb k44 da (List.mem_of_getElem? ha)
            have nt := timesD_nb nfd nb
            refine ⟨_, rfl, _, rfl, _, rfl, l, xs, (hi : Int), va, rfl, rfl, SqL.of eL, at_of (j := hi) rfl hva, ?_⟩
            refine ⟨_, rfl, _, rfl, _, rfl, _, rfl, l, xs, (lo : Int), vb, rfl, rfl, SqL.of eL, at_of (j := lo) rfl hvb, ?_⟩
            refine ⟨p, vf, vb, fd, db, rfl, kf1.same vw_same, kvb.same vw_same, nfd.up (by decide), nb.up (by decide), fp.le, fun v6 H6 s6 k6 => ?_⟩
            refine ⟨p, va, v6, da, _, rfl, (kva.same vw_same).same s6, k6, na.up (by decide), nt.up (by decide), fp.le, fun v7 H7 s7 k7 => ?_⟩
            have s67 := s6.trans s7
            have hxi : ixN xs.length (hi : Int) = some hi := by
              unfold ixN
              rw [if_pos (by omega), if_pos (by omega)]
              rfl
            refine ⟨_, rfl, _, rfl, l, xs, (hi : Int), hi, rfl, rfl, s67 _ _ eL, hxi, ?_⟩
            have g2 := gr_set fp k44 g1 hb ha ne ((ff.times (g1.fb db (List.mem_of_getElem? hb)))) (fun z => by rw [z]; exact times_zero fp nfd)
            have kvs : Same (Vw h g H') (Vw h g H7) := (Kp.of s67).vw
            have hd7 : Hnd h g H7 := by
              obtain ⟨_, _, hdx, _⟩ := sh
              exact hdx.same s67
            exact ⟨_, rfl, nxt H7 _ _ s67 ((DqAll.same kvs _ u).set hi (dq_vw hd7 _ (nb_noL (plusD_nb na nt)) k7)) g2⟩
          · obtain ⟨y9, rfl, sh⟩ := hP
            rw [List.length_map] at sh
            exact ⟨y9, rfl, sh⟩
        · obtain ⟨y9, rfl, sh1⟩ := hM
          have top : ∀ {j H'}, Sh h g [D1, D2] H0 H (l1 ++ l2) p n k vf fd j H' → H' D2 = some (.lst (l2.map V.ref)) := fun ⟨_, kx, _⟩ => kx D2 _ d3 d4 m2 e2
          refine ⟨_, rfl, D2, rfl, ⟨_, SqL.of (top sh1)⟩, for_list (xs := l2.map V.ref) (fun j σ H' => ∃ y9, σ = [some (.ref h), some (.int (p : Int)), some (.ref D1), some (.ref D2), some (.int (n : Int)), some (.int (0 + (k : Int))), some (.int (lo : Int)), some (.int (hi : Int)), some vf, y9] ∧ Sh h g [D1, D2] H0 H (l1 ++ l2) p n k vf fd (l1.length + j) H') ⟨y9, rfl, sh1⟩ (fun i σ H' _ hP => by obtain ⟨_, _, sh⟩ := hP; exact SqL.of (top sh)) (fun j x σ H' hx hP => ?_) (fun σ H' hP => ?_)⟩
          · obtain ⟨y9, rfl, sh⟩ := hP
            rw [List.getElem?_map] at hx
            obtain ⟨l, hl, rfl⟩ := Option.map_eq_some_iff.mp hx
            have hll : (l1 ++ l2)[l1.length + j]? = some l := by rw [List.getElem?_append_right (by omega), Nat.add_sub_cancel_left]; exact hl
            obtain ⟨r, xs, f1, f2, eL, u, g1, kf1, nxt⟩ := sh.go hll nof
            have lx := u.len
            rw [g1.ln] at lx
            obtain ⟨da, ha⟩ : ∃ d, r[lo]? = some d := ⟨_, List.getElem?_eq_getElem (show lo < r.length by rw [g1.ln]; exact llo)⟩
            obtain ⟨db, hb⟩ : ∃ d, r[hi]? = some d := ⟨_, List.getElem?_eq_getElem (show hi < r.length by rw [g1.ln]; exact lhi)⟩
            obtain ⟨vb, hvb, kvb⟩ := dqs_at u hb
            obtain ⟨va, hva, kva⟩ := dqs_at u ha
            have nb := g1.nb k44 db (List.mem_of_getElem? hb)
            have na := g1.nb k44 da (List.mem_of_getElem? ha)
            have nt := timesD_nb nfd nb
            have nt2 := timesD_nb (nb_minus (k := 1) fp (Nat.le_refl 1)) nt
            refine ⟨_, rfl, _, rfl, _, rfl, l, xs, (lo : Int), va, rfl, rfl, SqL.of eL, at_of (j := lo) rfl hva, ?_⟩
            refine ⟨_, rfl, _, rfl, _, rfl, _, rfl, _, rfl, l, xs, (hi : Int), vb, rfl, rfl, SqL.of eL, at_of (j := hi) rfl hvb, ?_⟩
            refine ⟨p, vf, vb, fd, db, rfl, kf1.same vw_same, kvb.same vw_same, nfd.up (by decide), nb.up (by decide), fp.le, fun v6 H6 s6 k6 => ?_⟩
            refine ⟨p, v6, _, rfl, fp, k6, nt.up (by decide), fun v6b H6b s6b k6b => ?_⟩
            have s6' := s6.trans s6b
            refine ⟨p, va, v6b, da, _, rfl, (kva.same vw_same).same s6', k6b, na.up (by decide), nt2.up (by decide), fp.le, fun v7 H7 s7 k7 => ?_⟩
            have s67 := s6'.trans s7
            have hxi : ixN xs.length (lo : Int) = some lo := by
              unfold ixN
              rw [if_pos (by omega), if_pos (by omega)]
              rfl
            refine ⟨_, rfl, _, rfl, l, xs, (lo : Int), lo, rfl, rfl, s67 _ _ eL, hxi, ?_⟩
            have fm : Fb p (6 * Dk k) (24 * Tk k) (timesD p (minusD p) (timesD p fd db)) := by
              have := (fb_minus fp (show (0 : Int) < 1 by decide)).times (ff.times (g1.fb db (List.mem_of_getElem? hb)))
              rw [Int.one_mul, Int.one_mul] at this
              exact this
            have g2 := gr_set fp k44 g1 hb ha (Ne.symm ne) fm (fun z => by rw [z, times_zero fp nfd]; exact times_zero fp (nb_minus (k := 1) fp (Nat.le_refl 1)))
            have kvs : Same (Vw h g H') (Vw h g H7) := (Kp.of s67).vw
            have hd7 : Hnd h g H7 := by
              obtain ⟨_, _, hdx, _⟩ := sh
              exact hdx.same s67
            exact ⟨_, rfl, nxt H7 _ _ s67 ((DqAll.same kvs _ u).set lo (dq_vw hd7 _ (nb_noL (plusD_nb na nt2)) k7)) g2⟩
          · obtain ⟨y9, rfl, sh⟩ := hP
            rw [List.length_map] at sh
            obtain ⟨R2, kx2, hd2, rws2, _, al2⟩ := sh
            refine ⟨_, _, _, _, y9, R2, rfl, kx2, hd2, rws2, fun r m => ?_⟩
            obtain ⟨i, hi⟩ := List.getElem?_of_mem m
            have li := (List.getElem?_eq_some_iff.mp hi).1
            have lR2 := rws2.len
            rw [List.length_append] at lR2
            exact (al2 i r hi).1 (by omega)
      · exact ⟨_, y6, y7, y8, y9, R', rfl, kx, h2, rw2, fun r m => (gr2 r m).step⟩
    · obtain ⟨y5, y6, y7, y8, y9, R', rfl, kx, h2, rw2, gr2⟩ := hP
      refine q H' R' kx h2 rw2 fun r m => ?_
      have g := gr2 r m
      exact ⟨g.ln, fun d md => fb_to4 (by omega) (g.fb d md), g.nz⟩
end
end K25
set_option Elab.async false
set_option linter.all false
set_option maxRecDepth 100000
set_option maxHeartbeats 4000000
set_option exponentiation.threshold 5000
set_option pp.maxSteps 900
namespace K25
open PySem PySem.Spec PyProof.Rows L2 TkS LamX NdefX
theorem fb6_to4 {p : Nat} {d : PyData} (h : Fb p 6 12582912 d) : Fb p (Dk 4) (Tk 4) d := (h.scale (show (0 : Int) < 7776 by decide)).up (by decide)
theorem lc_rows {h g D : Addr} {p n m j : Nat} {H1 : Hp} {te : TE} {vs : List Nat} {σ : L2.St} {Qd : Hp → Prop} (hd : Hnd h g H1) (nD : H1 D = none) (fp : Fp p) (n1 : 1 ≤ n) (n6 : n ≤ 6) (m5 : m ≤ 5) (hw : ∀ x : V, wipe ((wipe σ vs).set j (some x)) vs = wipe σ vs)
    (he : ∀ (x : V) (H' : Hp) (Q' : VK), sl_row [.ref h, .int (p : Int), .int (n : Int)] H' Q' E0 → te ((wipe σ vs).set j (some x)) H' Q')
    (hq : ∀ R H', Kp h g H1 H' → Hnd h g H' → Dq (Vw h g H') (.ref D) (lrowsD R) → (∀ r ∈ R, Gr p n 4 r) → R.length = m → Qd H') :
    ∃ W : Nat → Nat → Hp → Prop, (∃ m, W 0 m (upd H1 D (.lst []))) ∧ ∀ i k H, W i k H →
      ((Itr 0 m).stop i H ∧ Qd H) ∨ ((Itr 0 m).go i H ∧ ∃ Nx : Hp → Prop, (∀ H', Nx H' → ∃ m', m' < k ∧ W (i + 1) m' H') ∧ ∀ x H', (Itr 0 m).yld i H x H' → gName j x (wipe σ vs) H' fun σ2 H2 => wipe σ2 vs = wipe σ vs ∧ tYes σ2 H2 fun b H3 =>
        if b = true then te σ2 H3 fun y H4 => ∃ acc, H4 D = some (.lst acc) ∧ acc.length < sizeLine ∧ Nx (upd H4 D (.lst (acc ++ [y]))) else Nx H3) := by
  obtain ⟨d1, d2⟩ := hd.fresh nD
  refine lc_range (fun i H' => ∃ ys R, H' D = some (.lst ys) ∧ DqAll (TkS.Off D (Vw h g H')) ys (R.map .list) ∧ Kp h g H1 H' ∧ Hnd h g H' ∧ R.length = i ∧ (∀ r ∈ R, Gr p n 4 r)) ⟨[], [], upd_same, .nil, Kp.refl.put nD, hd.upd d1 d2, rfl, fun r m => nomatch m⟩ (fun i H' hi hP => ?_) (fun H' hP => ?_)
  · obtain ⟨ys, R, eD, kd, kk, hh, lR, al⟩ := hP
    have ly := kd.len
    rw [List.length_map] at ly
    refine ⟨hw _, he _ _ _ ⟨h, g, p, n, rfl, hh, fp, n1, n6, fun a H2 ds k2 h2 ka ld nb nz => ?_⟩⟩
    have eD2 := k2 D _ d1 d2 eD
    refine ⟨ys, eD2, small1000 (by omega), ys ++ [.ref a], R ++ [ds], upd_same, ?_, (kk.trans k2).put nD, h2.upd d1 d2, by rw [List.length_append, lR]; rfl, fun r mr => ?_⟩
    · rw [vw_upd, List.map_append]
      exact (DqAll.same (off_of k2.vw) _ kd).snoc (ka.same (nw_off eD))
    · rcases List.mem_append.mp mr with mr | mr
      · exact al r mr
      · rw [List.mem_singleton.mp mr]
        exact ⟨ld, fun d m => fb6_to4 (nb d m), nz⟩
  · obtain ⟨ys, R, eD, kd, kk, hh, lR, al⟩ := hP
    exact hq R H' kk hh (.lst (vw_at d1 d2 eD) (DqAll.same off_same _ kd)) al lR
def sl_lots : Sp := fun vs H Q _ => ∃ (h g : Addr) (p m1 m2 : Nat), vs = [.ref h, .int (p : Int), .int (m1 : Int), .int (m2 : Int)] ∧ Hnd h g H ∧ Fp p ∧ 1 ≤ m1 ∧ m1 ≤ 4 ∧ 1 ≤ m2 ∧ m2 ≤ 4 ∧
  ∀ l H' D1 D2 n R S, Kp h g H H' → Hnd h g H' → H' l = some (.tup [.ref D1, .ref D2]) → Dq H' (.ref D1) (lrowsD R) → Dq H' (.ref D2) (lrowsD S) → 1 ≤ n → n ≤ 6 → R.length = m1 → S.length = m2 → (∀ r ∈ R, Gr p n 4 r) → (∀ r ∈ S, Gr p n 4 r) → Q (.ref l) H'
section
variable {P : Program} {w : World} {K : PySem.W.Frag} {mg : Str → Option Value} {base : Heap}
theorem ok_law_narrow (T : Txt K mg) : FnOk P w K mg base CX0 5 T.f_law_narrow T.d_law_narrow ["_law_state", "_law_p", "_law_many_points", "_law_many_shuts"] sl_lots := by
  refine T.F_law_narrow.ok sc_law_narrow (fun vs H Q E h => ?_) (fun cdv A outer s H vs Q E hr h => ?_)
  · obtain ⟨h, g, p, m1, m2, rfl, _⟩ := h
    rfl
  · obtain ⟨h, g, p, m1, m2, rfl, hd, fp, a1, a4, b1, b4, q⟩ := h
    refine ⟨_, (pss_cons (ps_set (i := 4) sc_law_narrow.nd rfl (.inr rfl) (pe_op op_add pe_int (pe_call (ok_law_draw T) (hr.mono (by decide)) (by rfl) T.g_law_draw T.F_law_draw.kp T.b_law_draw .nil pass0 (pa_cons (pv 0) (pa_cons pe_int pa_nil)))))
      (pss_cons (ps_setLc (i := 5) rfl sc_law_narrow.nd rfl rfl (sw_true rfl rfl rfl (by decide +kernel)) (pi_range1 (by rfl) T.m_range (pa_cons (pv 2) pa_nil)) (blkOk_by (own := [("_law_k", 7)]) (N := ["_law_state", "_law_p", "_law_many_points", "_law_many_shuts", "_law_width", "_law_points", "_law_shuts", "_law_k"]) (sc := defScope s_law_narrow) (by decide +kernel)) (fun _ _ _ _ _ => (pg_name (i := 7) sc_law_narrow.nd rfl (.inl rfl))) (fun _ _ _ _ _ => pts_nil) (fun _ _ _ _ _ => (pe_call (ok_law_row T) (hr.mono (by decide)) (by rfl) T.g_law_row T.F_law_row.kp T.b_law_row .nil pass0 (pa_cons (pv 0) (pa_cons (pv 1) (pa_cons (pv 4) pa_nil))))))
      (pss_cons (ps_setLc (i := 6) rfl sc_law_narrow.nd rfl rfl (sw_true rfl rfl rfl (by decide +kernel)) (pi_range1 (by rfl) T.m_range (pa_cons (pv 3) pa_nil)) (blkOk_by (own := [("_law_k", 7)]) (N := ["_law_state", "_law_p", "_law_many_points", "_law_many_shuts", "_law_width", "_law_points", "_law_shuts", "_law_k"]) (sc := defScope s_law_narrow) (by decide +kernel)) (fun _ _ _ _ _ => (pg_name (i := 7) sc_law_narrow.nd rfl (.inl rfl))) (fun _ _ _ _ _ => pts_nil) (fun _ _ _ _ _ => (pe_call (ok_law_row T) (hr.mono (by decide)) (by rfl) T.g_law_row T.F_law_row.kp T.b_law_row .nil pass0 (pa_cons (pv 0) (pa_cons (pv 1) (pa_cons (pv 4) pa_nil))))))
      (pss_one (ps_ret (pe_tup (pa_cons (pv 5) (pa_cons (pv 6) pa_nil)))))))), ?_⟩
    refine ⟨_, rfl, h, g, 4, rfl, hd, by decide, by decide, fun H1 r k1 h1 r0 r1 => ⟨1, r, rfl, rfl, ?_⟩⟩
    obtain ⟨n, en, n1, n4⟩ : ∃ n : Nat, 1 + r = (n : Int) ∧ 1 ≤ n ∧ n ≤ 4 := ⟨(1 + r).toNat, by omega, by omega, by omega⟩
    dsimp only
    rw [en]
    refine ⟨_, rfl, (m1 : Int), rfl, by omega, by omega, fun D nD => ?_⟩
    rw [show ((m1 : Nat) : Int).toNat = m1 by omega]
    refine lc_rows (p := p) (n := n) h1 nD fp n1 (by omega) (by omega) (fun x => rfl) (fun x H' Q' h => ⟨_, rfl, _, rfl, _, rfl, h⟩) fun R H2 k2 h2 kR gR lR => ?_
    refine ⟨_, rfl, (m2 : Int), rfl, by omega, by omega, fun D2 nD2 => ?_⟩
    rw [show ((m2 : Nat) : Int).toNat = m2 by omega]
    refine lc_rows (p := p) (n := n) h2 nD2 fp n1 (by omega) (by omega) (fun x => rfl) (fun x H' Q' h => ⟨_, rfl, _, rfl, _, rfl, h⟩) fun S H3 k3 h3 kS gS lS => ?_
    refine ⟨_, rfl, _, rfl, (by show 2 ≤ sizeLine; decide), fun l nl => ?_⟩
    have sn := same_new (o := .tup [.ref D, .ref D2]) nl
    exact q l _ D D2 n R S (((k1.trans k2).trans k3).trans (Kp.of sn)) (h3.same sn) upd_same (((kR.same k3.vw).same vw_same).same sn) ((kS.same vw_same).same sn) n1 (by omega) lR lS gR gS
end
end K25
set_option Elab.async false
set_option linter.all false
set_option maxRecDepth 100000
set_option maxHeartbeats 4000000
set_option exponentiation.threshold 5000
set_option pp.maxSteps 900
namespace K25
open PySem PySem.Spec PyProof.Rows L2 TkS LamX NdefX
theorem lc_nums {T : Int} {h g D : Addr} {p m j : Nat} {H1 : Hp} {te : TE} {vs : List Nat} {σ : L2.St} {Qd : Hp → Prop} (hd : Hnd h g H1) (nD : H1 D = none) (fp : Fp p) (m9 : m ≤ 900) (hw : ∀ x : V, wipe ((wipe σ vs).set j (some x)) vs = wipe σ vs)
    (he : ∀ (x : V) (H' : Hp) (Q' : VK), sl_tiny T [.ref h, .int (p : Int)] H' Q' E0 → te ((wipe σ vs).set j (some x)) H' Q')
    (hq : ∀ ds ys H', Kp h g H1 H' → Hnd h g H' → H' D = some (.lst ys) → DqAll (Vw h g H') ys ds → (∀ d ∈ ds, Fb p 6 T d) → ds.length = m → Qd H') :
    ∃ W : Nat → Nat → Hp → Prop, (∃ m, W 0 m (upd H1 D (.lst []))) ∧ ∀ i k H, W i k H →
      ((Itr 0 m).stop i H ∧ Qd H) ∨ ((Itr 0 m).go i H ∧ ∃ Nx : Hp → Prop, (∀ H', Nx H' → ∃ m', m' < k ∧ W (i + 1) m' H') ∧ ∀ x H', (Itr 0 m).yld i H x H' → gName j x (wipe σ vs) H' fun σ2 H2 => wipe σ2 vs = wipe σ vs ∧ tYes σ2 H2 fun b H3 =>
        if b = true then te σ2 H3 fun y H4 => ∃ acc, H4 D = some (.lst acc) ∧ acc.length < sizeLine ∧ Nx (upd H4 D (.lst (acc ++ [y]))) else Nx H3) := by
  obtain ⟨d1, d2⟩ := hd.fresh nD
  refine lc_range (fun i H' => ∃ ys ds, H' D = some (.lst ys) ∧ DqAll (Vw h g H') ys ds ∧ Kp h g H1 H' ∧ Hnd h g H' ∧ ds.length = i ∧ ∀ d ∈ ds, Fb p 6 T d) ⟨[], [], upd_same, .nil, Kp.refl.put nD, hd.upd d1 d2, rfl, fun d m => nomatch m⟩ (fun i H' hi hP => ?_) (fun H' hP => ?_)
  · obtain ⟨ys, ds, eD, kd, kk, hh, ld, nb⟩ := hP
    have ly := kd.len
    refine ⟨hw _, he _ _ _ ⟨h, g, p, rfl, hh, fp, fun v H2 d k2 h2 kv nv => ?_⟩⟩
    have eD2 := k2 D _ d1 d2 eD
    refine ⟨ys, eD2, small1000 (by omega), ys ++ [v], ds ++ [d], upd_same, dqs_upd d1 d2 eD2 (fbs_noL (p := p) (D := 6) (T := T) fun e m => ?_) ((DqAll.same k2.vw _ kd).snoc kv), (kk.trans k2).put nD, h2.upd d1 d2, by rw [List.length_append, ld]; rfl, fun e m => ?_⟩
    all_goals
      rcases List.mem_append.mp m with m | m
      · exact nb e m
      · rw [List.mem_singleton.mp m]
        exact nv
  · obtain ⟨ys, ds, eD, kd, kk, hh, ld, nb⟩ := hP
    exact hq ds ys H' kk hh eD kd nb ld
def sl_grid : Sp := fun vs H Q _ => ∃ (h g : Addr) (p m1 m2 : Nat), vs = [.ref h, .int (p : Int), .int (m1 : Int), .int (m2 : Int)] ∧ Hnd h g H ∧ Fp p ∧ 1 ≤ m1 ∧ m1 ≤ 4 ∧ 1 ≤ m2 ∧ m2 ≤ 4 ∧
  ∀ a H' F, Kp h g H H' → Hnd h g H' → Dq (Vw h g H') (.ref a) (lrowsD F) → F.length = m1 → (∀ r ∈ F, r.length = m2 ∧ ∀ d ∈ r, Fb p (Dk 0) (Tk 0) d) → Q (.ref a) H'
theorem fb6_to0 {p : Nat} {d : PyData} (h : Fb p 6 12582912 d) : Fb p (Dk 0) (Tk 0) d := (h.scale (show (0 : Int) < 6 by decide)).up (by decide)
section
variable {P : Program} {w : World} {K : PySem.W.Frag} {mg : Str → Option Value} {base : Heap}
theorem ok_law_grid (T : Txt K mg) : FnOk P w K mg base CX0 4 T.f_law_grid T.d_law_grid ["_law_state", "_law_p", "_law_many_points", "_law_many_shuts"] sl_grid := by
  refine T.F_law_grid.ok sc_law_grid (fun vs H Q E h => ?_) (fun cdv A outer s H vs Q E hr h => ?_)
  · obtain ⟨h, g, p, m1, m2, rfl, _⟩ := h
    rfl
  · obtain ⟨h, g, p, m1, m2, rfl, hd, fp, a1, a4, b1, b4, q⟩ := h
    refine ⟨_, (pss_cons (ps_setLc (i := 5) rfl sc_law_grid.nd rfl rfl (sw_true rfl rfl rfl (by decide +kernel)) (pi_range1 (by rfl) T.m_range (pa_cons (pv 2) pa_nil)) (blkOk_by (own := [("_law_i", 4)]) (N := ["_law_state", "_law_p", "_law_many_points", "_law_many_shuts", "_law_i", "_law_ones", "_law_j", "_law_others", "_law_rough", "_law_full_here", "_law_row_here", "_law_number_here", "_law_kind"]) (sc := defScope s_law_grid) (by decide +kernel)) (fun _ _ _ _ _ => (pg_name (i := 4) sc_law_grid.nd rfl (.inl rfl))) (fun _ _ _ _ _ => pts_nil) (fun _ _ _ _ _ => (pe_call (ok_law_filled T) (hr.mono (by decide)) (by rfl) T.g_law_filled T.F_law_filled.kp T.b_law_filled .nil pass0 (pa_cons (pv 0) (pa_cons (pv 1) pa_nil)))))
      (pss_cons (ps_setLc (i := 7) rfl sc_law_grid.nd rfl rfl (sw_true rfl rfl rfl (by decide +kernel)) (pi_range1 (by rfl) T.m_range (pa_cons (pv 3) pa_nil)) (blkOk_by (own := [("_law_j", 6)]) (N := ["_law_state", "_law_p", "_law_many_points", "_law_many_shuts", "_law_i", "_law_ones", "_law_j", "_law_others", "_law_rough", "_law_full_here", "_law_row_here", "_law_number_here", "_law_kind"]) (sc := defScope s_law_grid) (by decide +kernel)) (fun _ _ _ _ _ => (pg_name (i := 6) sc_law_grid.nd rfl (.inl rfl))) (fun _ _ _ _ _ => pts_nil) (fun _ _ _ _ _ => (pe_call (ok_law_filled T) (hr.mono (by decide)) (by rfl) T.g_law_filled T.F_law_filled.kp T.b_law_filled .nil pass0 (pa_cons (pv 0) (pa_cons (pv 1) pa_nil)))))
      (pss_cons (ps_set (i := 8) sc_law_grid.nd rfl (.inl rfl) (pe_op op_add pe_int (pe_call (ok_law_draw T) (hr.mono (by decide)) (by rfl) T.g_law_draw T.F_law_draw.kp T.b_law_draw .nil pass0 (pa_cons (pv 0) (pa_cons pe_int pa_nil)))))
      (pss_cons (ps_set (i := 9) sc_law_grid.nd rfl (.inl rfl) (pe_lst pa_nil))
      (pss_cons (ps_for PassesOwn.never rfl (pi_range1 (by rfl) T.m_range (pa_cons (pv 2) pa_nil)) (pg_name (i := 4) sc_law_grid.nd rfl (.inl rfl))
        (pss_cons (ps_set (i := 10) sc_law_grid.nd rfl (.inl rfl) (pe_lst pa_nil))
        (Evl.pss_cut (ps_for PassesOwn.never rfl (pi_range1 (by rfl) T.m_range (pa_cons (pv 3) pa_nil)) (pg_name (i := 6) sc_law_grid.nd rfl (.inl rfl))
          (pss_cons (ps_set (i := 11) sc_law_grid.nd rfl (.inl rfl) (pe_call (ok_law_times T) (hr.mono (by decide)) (by rfl) T.g_law_times T.F_law_times.kp T.b_law_times .nil pass0 (pa_cons (pv 1) (pa_cons (pe_ix ix_list (pv 5) (pv 4) (fun _ _ => rfl)) (pa_cons (pe_ix ix_list (pv 7) (pv 6) (fun _ _ => rfl)) pa_nil)))))
          (pss_cons (ps_set (i := 12) sc_law_grid.nd rfl (.inl rfl) (pe_call (ok_law_draw T) (hr.mono (by decide)) (by rfl) T.g_law_draw T.F_law_draw.kp T.b_law_draw .nil pass0 (pa_cons (pv 0) (pa_cons (pv 8) pa_nil))))
          (Evl.pss_cut (ps_if (pt_cmpR op_eq (pv 12) pe_int (nomark _))
            (pss_one (ps_set (i := 11) sc_law_grid.nd rfl (.inl rfl) (pe_call (ok_law_number T) (hr.mono (by decide)) (by rfl) T.g_law_number T.F_law_number.kp T.b_law_number .nil pass0 (pa_cons (pv 0) (pa_cons (pv 1) pa_nil)))))
            pss_nil)
          (pss_one (ps_expr (pe_bm PySem.F.plainAttrs_list PySem.F.slot_list_append PySem.F.type_list_append mt_append (pv 10) (pa_cons (pv 11) pa_nil))))))))
        (pss_one (ps_expr (pe_bm PySem.F.plainAttrs_list PySem.F.slot_list_append PySem.F.type_list_append mt_append (pv 9) (pa_cons (pv 10) pa_nil)))))))
      (pss_one (ps_ret (pv 9)))))))), ?_⟩
    refine ⟨_, rfl, (m1 : Int), rfl, by omega, by omega, fun D5 nD5 => ?_⟩
    rw [show ((m1 : Nat) : Int).toNat = m1 by omega]
    refine lc_nums (T := 12582912) (p := p) hd nD5 fp (by omega) (fun x => rfl) (fun x H' Q' h => ⟨_, rfl, _, rfl, h⟩) fun os xs H1 k1 h1 e5 k5 f5 l5 => ?_
    refine ⟨_, rfl, (m2 : Int), rfl, by omega, by omega, fun D7 nD7 => ?_⟩
    rw [show ((m2 : Nat) : Int).toNat = m2 by omega]
    refine lc_nums (T := 12582912) (p := p) h1 nD7 fp (by omega) (fun x => rfl) (fun x H' Q' h => ⟨_, rfl, _, rfl, h⟩) fun ts ys H2 k2 h2 e7 k7 f7 l7 => ?_
    obtain ⟨n5a, n5b⟩ := hd.fresh nD5
    obtain ⟨n7a, n7b⟩ := h1.fresh nD7
    have e5' := k2 D5 _ n5a n5b e5
    have k5' := DqAll.same k2.vw _ k5
    refine ⟨_, rfl, h, g, 7, rfl, h2, by decide, by decide, fun H3 r k3 h3 r0 r1 => ⟨2, r, rfl, rfl, ?_⟩⟩
    refine ⟨Nat.zero_le _, fun D9 nD9 => ?_⟩
    obtain ⟨n9a, n9b⟩ := h3.fresh nD9
    refine ⟨_, rfl, (m1 : Int), rfl, by omega, by omega, ?_⟩
    rw [show ((m1 : Nat) : Int).toNat = m1 by omega]
    have k123 := (k1.trans k2).trans k3
    refine for_range (lo := 0) (n := m1) (fun i σ H' => ∃ (y4 y6 y10 y11 y12 : Option V) (zs : List V) (F : List (List PyData)), σ = [some (.ref h), some (.int (p : Int)), some (.int (m1 : Int)), some (.int (m2 : Int)), y4, some (.ref D5), y6, some (.ref D7), some (.int (2 + r)), some (.ref D9), y10, y11, y12] ∧ Kp h g H3 H' ∧ Hnd h g H' ∧ H' D9 = some (.lst zs) ∧ DqAll (TkS.Off D9 (Vw h g H')) zs (F.map .list) ∧ F.length = i ∧ ∀ r ∈ F, r.length = m2 ∧ ∀ d ∈ r, Fb p (Dk 0) (Tk 0) d) ⟨none, none, none, none, none, [], [], rfl, Kp.refl.put nD9, h3.upd n9a n9b, upd_same, .nil, rfl, fun r m => nomatch m⟩ (fun i σ H' hi hP => ?_) (fun σ H' hP => ?_)
    · obtain ⟨y4, y6, y10, y11, y12, zs, F, rfl, kx, hx, e9, u9, lF, al⟩ := hP
      have k3x := k3.trans kx
      have e5x := k3x D5 _ n5a n5b e5'
      have e7x := k3x D7 _ n7a n7b e7
      have k5x := DqAll.same k3x.vw _ k5'
      have k7x := DqAll.same k3x.vw _ k7
      refine ⟨Nat.zero_le _, fun D10 nD10 => ?_⟩
      obtain ⟨n10a, n10b⟩ := hx.fresh nD10
      have ne910 : D9 ≠ D10 := ne_of_none e9 nD10
      refine ⟨fun σ H'' => ∃ (y6 y11 y12 : Option V) (ys : List V) (rw' : List PyData), σ = [some (.ref h), some (.int (p : Int)), some (.int (m1 : Int)), some (.int (m2 : Int)), some (.int (0 + (i : Int))), some (.ref D5), y6, some (.ref D7), some (.int (2 + r)), some (.ref D9), some (.ref D10), y11, y12] ∧ Kp h g H' H'' ∧ Hnd h g H'' ∧ H'' D10 = some (.lst ys) ∧ DqAll (Vw h g H'') ys rw' ∧ rw'.length = m2 ∧ ∀ d ∈ rw', Fb p (Dk 0) (Tk 0) d, ?_, fun σ H'' hM => ?_⟩
      · refine ⟨_, rfl, (m2 : Int), rfl, by omega, by omega, ?_⟩
        rw [show ((m2 : Nat) : Int).toNat = m2 by omega]
        refine for_range (lo := 0) (n := m2) (fun j σ H'' => ∃ (y6 y11 y12 : Option V) (ys : List V) (rw' : List PyData), σ = [some (.ref h), some (.int (p : Int)), some (.int (m1 : Int)), some (.int (m2 : Int)), some (.int (0 + (i : Int))), some (.ref D5), y6, some (.ref D7), some (.int (2 + r)), some (.ref D9), some (.ref D10), y11, y12] ∧ Kp h g H' H'' ∧ Hnd h g H'' ∧ H'' D10 = some (.lst ys) ∧ DqAll (Vw h g H'') ys rw' ∧ rw'.length = j ∧ ∀ d ∈ rw', Fb p (Dk 0) (Tk 0) d) ⟨y6, y11, y12, [], [], rfl, Kp.refl.put nD10, hx.upd n10a n10b, upd_same, .nil, rfl, fun d m => nomatch m⟩ (fun j σ H6 hj hP => ?_) (fun σ H6 hP => hP)
        obtain ⟨y6, y11, y12, vs, rw', rfl, k6, h6, e10, u10, l10, al10⟩ := hP
        obtain ⟨d1, hd1⟩ : ∃ d, os[i]? = some d := ⟨_, List.getElem?_eq_getElem (show i < os.length by omega)⟩
        obtain ⟨d2, hd2⟩ : ∃ d, ts[j]? = some d := ⟨_, List.getElem?_eq_getElem (show j < ts.length by omega)⟩
        obtain ⟨v1, hv1, kv1⟩ := dqs_at k5x hd1
        obtain ⟨v2, hv2, kv2⟩ := dqs_at k7x hd2
        have fb1 := f5 d1 (List.mem_of_getElem? hd1)
        have fb2 := f7 d2 (List.mem_of_getElem? hd2)
        have lv := u10.len
        refine ⟨_, rfl, _, rfl, _, rfl, D5, xs, 0 + (i : Int), v1, rfl, rfl, SqL.of (k6 D5 _ n5a n5b e5x), at_of (j := i) (by omega) hv1, ?_⟩
        refine ⟨_, rfl, _, rfl, D7, ys, 0 + (j : Int), v2, rfl, rfl, SqL.of (k6 D7 _ n7a n7b e7x), at_of (j := j) (by omega) hv2, ?_⟩
        refine ⟨p, v1, v2, d1, d2, rfl, (kv1.same k6.vw).same vw_same, (kv2.same k6.vw).same vw_same, fb1.n24.up (by decide), fb2.n24.up (by decide), fp.le, fun v7 H7 s7 k7' => ?_⟩
        have fb3 : Fb p (Dk 0) (Tk 0) (timesD p d1 d2) := (fb1.times fb2).up (by decide)
        refine ⟨_, rfl, _, rfl, h, g, 2 + r, rfl, h6.same s7, by omega, by omega, fun H8 r8 k8 h8 r80 r81 => ?_⟩
        have k78 := (Kp.of s7).trans k8
        have kv8 : Dq (Vw h g H8) v7 (timesD p d1 d2) := (dq_vw (h6.same s7) _ (nb_noL (timesD_nb fb1.n24 fb2.n24)) k7').same k8.vw
        refine ⟨fun σ H'' => ∃ (v : V) (d : PyData), σ = [some (.ref h), some (.int (p : Int)), some (.int (m1 : Int)), some (.int (m2 : Int)), some (.int (0 + (i : Int))), some (.ref D5), some (.int (0 + (j : Int))), some (.ref D7), some (.int (2 + r)), some (.ref D9), some (.ref D10), some v, some (.int r8)] ∧ Kp h g H6 H'' ∧ Hnd h g H'' ∧ Dq (Vw h g H'') v d ∧ Fb p (Dk 0) (Tk 0) d, ?_, fun σ H'' hM => ?_⟩
        · refine ⟨_, rfl, rfl, _, rfl, ite2 (fun c => ?_) (fun c => ?_)⟩
          · refine ⟨_, rfl, _, rfl, h, g, p, rfl, h8, fp, fun v9 H9 d9 k9 h9 kv9 f9 => ?_⟩
            exact ⟨v9, d9, rfl, k78.trans k9, h9, kv9, fb6_to0 f9⟩
          · exact ⟨v7, _, rfl, k78, h8, kv8, fb3⟩
        · obtain ⟨v, d, rfl, kz, hz, kvz, fz⟩ := hM
          have e10z := kz D10 _ n10a n10b e10
          refine ⟨_, rfl, .inl ⟨rfl, vs, SqL.of e10z⟩, _, rfl, D10, vs, v, rfl, rfl, e10z, small1000 (by omega), ?_⟩
          refine ⟨_, _, _, vs ++ [v], rw' ++ [d], rfl, (k6.trans kz).put nD10, hz.upd n10a n10b, upd_same, dqs_upd n10a n10b e10z (fbs_noL (p := p) (D := Dk 0) (T := Tk 0) fun e m => ?_) ((DqAll.same kz.vw _ u10).snoc kvz), by rw [List.length_append, l10]; rfl, fun e m => ?_⟩
          all_goals
            rcases List.mem_append.mp m with m | m
            · exact al10 e m
            · rw [List.mem_singleton.mp m]
              exact fz
      · obtain ⟨y6, y11, y12, vs, rw', rfl, k6, h6, e10, u10, l10, al10⟩ := hM
        have e9x := k6 D9 _ n9a n9b e9
        have lz := u9.len
        rw [List.length_map] at lz
        refine ⟨_, rfl, .inl ⟨rfl, zs, SqL.of e9x⟩, _, rfl, D9, zs, _, rfl, rfl, e9x, small1000 (by omega), ?_⟩
        refine ⟨_, _, _, _, _, zs ++ [.ref D10], F ++ [rw'], rfl, (kx.trans k6).put nD9, h6.upd n9a n9b, upd_same, ?_, by rw [List.length_append, lF]; rfl, fun e m => ?_⟩
        · rw [vw_upd, List.map_append]
          refine (DqAll.same (off_of k6.vw) _ u9).snoc (.lst (off_at ne910.symm (vw_at n10a n10b e10)) (dqs_noL (vw_at n9a n9b e9x) _ (fbs_noL al10) u10))
        · rcases List.mem_append.mp m with m | m
          · exact al e m
          · rw [List.mem_singleton.mp m]
            exact ⟨l10, al10⟩
    · obtain ⟨y4, y6, y10, y11, y12, zs, F, rfl, kx, hx, e9, u9, lF, al⟩ := hP
      exact ⟨_, rfl, q D9 H' F (k123.trans kx) hx (.lst (vw_at n9a n9b e9) (DqAll.same off_same _ u9)) lF al⟩
end
end K25
set_option Elab.async false
set_option linter.all false
set_option maxRecDepth 100000
set_option maxHeartbeats 4000000
set_option exponentiation.threshold 5000
set_option pp.maxSteps 900
namespace K25
open PySem PySem.Spec PyProof.Rows L2 TkS LamX NdefX
theorem kp_free {h g l : Addr} {H H' : Hp} (k : Kp h g H H') (x : Hnd h g H') (n : H' l = none) : H l = none := by
  obtain ⟨f1, f2⟩ := x.fresh n
  cases e : H l with
  | none => rfl
  | some o =>
    rw [k l o f1 f2 e] at n
    cases n
theorem Rws.push {h g l : Addr} {X : List Addr} {H0 H H' : Hp} {ls : List Addr} {R : List (List PyData)} {r : List PyData} {xs : List V} (x : Rws h g X H0 H ls R) (k : Kp h g H H') (nl : H l = none) (n1 : l ≠ h) (n2 : l ≠ g) (nX : l ∉ X) (n0 : H0 l = none) (e : H' l = some (.lst xs)) (u : DqAll (Vw h g H') xs r) : Rws h g X H0 H' (ls ++ [l]) (R ++ [r]) := by
  have lls := x.len
  refine ⟨by rw [List.length_append, List.length_append, lls]; rfl, ?_, fun j l' r' a b => ?_⟩
  · rw [List.nodup_append]
    refine ⟨x.nd, List.nodup_cons.mpr ⟨List.not_mem_nil, .nil⟩, fun a ma b mb z => ?_⟩
    rw [List.mem_singleton] at mb
    subst mb
    subst z
    obtain ⟨j, hj⟩ := List.getElem?_of_mem ma
    have hj' := (List.getElem?_eq_some_iff.mp hj).1
    obtain ⟨_, _, _, _, ys, e2, _⟩ := x.at_ j a (R[j]'(by omega)) hj (List.getElem?_eq_getElem _)
    rw [e2] at nl
    cases nl
  · by_cases c : j < R.length
    · rw [List.getElem?_append_left (by omega)] at a b
      obtain ⟨f1, f2, f3, f4, ys, e, u⟩ := x.at_ j l' r' a b
      exact ⟨f1, f2, f3, f4, ys, k l' _ f1 f2 e, DqAll.same k.vw _ u⟩
    · have hj := (List.getElem?_eq_some_iff.mp b).1
      rw [List.length_append] at hj
      have : j = R.length := by simp at hj; omega
      subst this
      rw [List.getElem?_append_right (by omega), lls, Nat.sub_self] at a
      rw [List.getElem?_append_right (by omega), Nat.sub_self] at b
      simp at a b
      subst a b
      exact ⟨n1, n2, nX, n0, xs, e, u⟩
theorem Rws.top {h g D : Addr} {X : List Addr} {H0 H : Hp} {ls : List Addr} {R : List (List PyData)} {acc : List V} {o : HO} (x : Rws h g X H0 H ls R) (m : D ∈ X) (d1 : D ≠ h) (d2 : D ≠ g) (e : H D = some (.lst acc)) (nl : ∀ r ∈ R, noLists r = true) : Rws h g X H0 (upd H D o) ls R :=
  ⟨x.len, x.nd, fun i l r a b => by
    obtain ⟨f1, f2, f3, f4, xs, e2, u⟩ := x.at_ i l r a b
    exact ⟨f1, f2, f3, f4, xs, by rw [upd_ne (fun z => f3 (by rw [z]; exact m))]; exact e2, dqs_upd d1 d2 e (nl r (List.mem_of_getElem? b)) u⟩⟩
theorem Rws.more {h g D : Addr} {X : List Addr} {H0 H : Hp} {ls : List Addr} {R : List (List PyData)} (x : Rws h g X H0 H ls R) (n : H D = none) : Rws h g (X ++ [D]) H0 H ls R :=
  ⟨x.len, x.nd, fun i l r a b => by
    obtain ⟨f1, f2, f3, f4, xs, e2, u⟩ := x.at_ i l r a b
    refine ⟨f1, f2, fun m => ?_, f4, xs, e2, u⟩
    rcases List.mem_append.mp m with m | m
    · exact f3 m
    · rw [List.mem_singleton.mp m, n] at e2
      cases e2⟩
theorem dq_rows {H : Hp} : ∀ {ls : List Addr} {R : List (List PyData)}, ls.length = R.length → (∀ (i : Nat) (l : Addr) (r : List PyData), ls[i]? = some l → R[i]? = some r → ∃ xs, H l = some (.lst xs) ∧ DqAll H xs r) → DqAll H (ls.map V.ref) (R.map .list)
  | [], [], _, _ => .nil
  | [], _ :: _, e, _ => by simp at e
  | _ :: _, [], e, _ => by simp at e
  | l :: ls, r :: R, e, f => by
    obtain ⟨xs, e1, u⟩ := f 0 l r rfl rfl
    exact .cons (.lst e1 u) (dq_rows (by simpa using e) fun i l r a b => f (i + 1) l r (by simpa using a) (by simpa using b))
/-- a row of numbers that may be all zero -/
structure G1 (p n : Nat) (r : List PyData) : Prop where
  ln : r.length = n
  fb : ∀ d ∈ r, Fb p (Dk 0) (Tk 0) d
theorem G1.nl {p n : Nat} {r : List PyData} (x : G1 p n r) : noLists r = true := fbs_noL x.fb
theorem Gr.g1 {p n : Nat} {r : List PyData} (x : Gr p n 0 r) : G1 p n r := ⟨x.ln, x.fb⟩
def unitL (p n i : Nat) : List PyData := (List.range n).map fun k => if k = i then oneD p else zeroD p
theorem unit_gr {p n i : Nat} (fp : Fp p) (h : i < n) : Gr p n 0 (unitL p n i) := by
  refine ⟨by unfold unitL; rw [List.length_map, List.length_range], fun d m => ?_, List.any_eq_true.mpr ⟨oneD p, List.mem_map.mpr ⟨i, List.mem_range.mpr h, if_pos rfl⟩, nz_one fp⟩⟩
  obtain ⟨k, _, rfl⟩ := List.mem_map.mp m
  split
  · exact (fb_one fp (Dk.pos 0)).up (by decide)
  · exact fb_zero fp (Dk.pos 0) (by decide)
theorem Fb.nl {p : Nat} {D T : Int} {d : PyData} (h : Fb p D T d) : noList d = true := by cases h <;> rfl
theorem getD2 {F : List (List PyData)} {i j : Nat} {r : List PyData} {d : PyData} (h1 : F[i]? = some r) (h2 : r[j]? = some d) : (F.getD i []).getD j .none = d := by
  have : F.getD i [] = r := by
    rw [List.getD_eq_getElem?_getD, h1]
    rfl
  rw [this, List.getD_eq_getElem?_getD, h2]
  rfl
def sl_wide : Sp := fun vs H Q _ => ∃ (h g af : Addr) (p m1 m2 : Nat) (F : List (List PyData)), vs = [.ref h, .int (p : Int), .ref af] ∧ Hnd h g H ∧ Fp p ∧ 1 ≤ m1 ∧ m1 ≤ 4 ∧ 1 ≤ m2 ∧ m2 ≤ 4 ∧ Dq (Vw h g H) (.ref af) (lrowsD F) ∧ F.length = m1 ∧ (∀ r ∈ F, r.length = m2 ∧ ∀ d ∈ r, Fb p (Dk 0) (Tk 0) d) ∧
  ∀ l H' D1 D2 n R S, Kp h g H H' → Hnd h g H' → H' l = some (.tup [.ref D1, .ref D2]) → Dq H' (.ref D1) (lrowsD R) → Dq H' (.ref D2) (lrowsD S) → 1 ≤ n → n ≤ 6 → R.length = m1 → S.length = m2 → (∀ r ∈ R, Gr p n 4 r) → (∀ r ∈ S, Gr p n 4 r) → Q (.ref l) H'
section
variable {P : Program} {w : World} {K : PySem.W.Frag} {mg : Str → Option Value} {base : Heap}
theorem ok_law_wide (T : Txt K mg) : FnOk P w K mg base CX0 6 T.f_law_wide T.d_law_wide ["_law_state", "_law_p", "_law_full_here"] sl_wide := by
  refine T.F_law_wide.ok sc_law_wide (fun vs H Q E h => ?_) (fun cdv A outer s H vs Q E hr h => ?_)
  · obtain ⟨h, g, af, p, m1, m2, F, rfl, _⟩ := h
    rfl
  · obtain ⟨h, g, af, p, m1, m2, F, rfl, hd, fp, a1, a4, b1, b4, kF, lF, gF, q⟩ := h
    refine ⟨_, (pss_cons (ps_set (i := 3) sc_law_wide.nd rfl (.inl rfl) (pe_op op_add (pe_callB call_len_seq (by rfl) T.m_len (by decide +kernel) (pa_cons (pv 2) pa_nil)) (pe_call (ok_law_draw T) (hr.mono (by decide)) (by rfl) T.g_law_draw T.F_law_draw.kp T.b_law_draw .nil pass0 (pa_cons (pv 0) (pa_cons (pe_op op_sub pe_int (pe_callB call_len_seq (by rfl) T.m_len (by decide +kernel) (pa_cons (pv 2) pa_nil))) pa_nil)))))
      (pss_cons (ps_set (i := 4) sc_law_wide.nd rfl (.inl rfl) (pe_lst pa_nil))
      (Evl.pss_cut (ps_for PassesOwn.never rfl (pi_range1 (by rfl) T.m_range (pa_cons (pe_callB call_len_seq (by rfl) T.m_len (by decide +kernel) (pa_cons (pv 2) pa_nil)) pa_nil)) (pg_name (i := 5) sc_law_wide.nd rfl (.inr rfl))
        (pss_one (ps_expr (pe_bm PySem.F.plainAttrs_list PySem.F.slot_list_append PySem.F.type_list_append mt_append (pv 4) (pa_cons (pe_lc rfl sc_law_wide.nd (pi_range1 (by rfl) T.m_range (pa_cons (pv 3) pa_nil)) (blkOk_by (own := [("_law_k", 9)]) (N := ["_law_state", "_law_p", "_law_full_here", "_law_width", "_law_points", "_law_i", "_law_shuts", "_law_j", "_law_shut", "_law_k", "_law_item"]) (sc := defScope s_law_wide) (by decide +kernel)) (fun _ _ _ _ _ => (pg_name (i := 9) sc_law_wide.nd rfl (.inl rfl))) (fun _ _ _ _ _ => pts_nil) (fun _ _ _ _ _ => (pe_call (ok_law_some T) (hr.mono (by decide)) (by rfl) T.g_law_some T.F_law_some.kp T.b_law_some .nil pass0 (pa_cons (pv 1) (pa_cons (pe_callTy call_int1 (by rfl) T.m_int (by decide +kernel) (pa_cons (pe_cmpR op_eq (pv 5) (pv 9) (nomark _)) pa_nil)) pa_nil))))) pa_nil)))))
      (pss_cons (ps_set (i := 6) sc_law_wide.nd rfl (.inl rfl) (pe_lst pa_nil))
      (Evl.pss_cut (ps_for PassesOwn.never rfl (pi_range1 (by rfl) T.m_range (pa_cons (pe_callB call_len_seq (by rfl) T.m_len (by decide +kernel) (pa_cons (pe_ix ix_list (pv 2) pe_int (fun _ _ => rfl)) pa_nil)) pa_nil)) (pg_name (i := 7) sc_law_wide.nd rfl (.inr rfl))
        (pss_cons (ps_set (i := 8) sc_law_wide.nd rfl (.inl rfl) (pe_op op_catDL (pe_lc rfl sc_law_wide.nd (pi_range1 (by rfl) T.m_range (pa_cons (pe_callB call_len_seq (by rfl) T.m_len (by decide +kernel) (pa_cons (pv 2) pa_nil)) pa_nil)) (blkOk_by (own := [("_law_i", 5)]) (N := ["_law_state", "_law_p", "_law_full_here", "_law_width", "_law_points", "_law_i", "_law_shuts", "_law_j", "_law_shut", "_law_k", "_law_item"]) (sc := defScope s_law_wide) (by decide +kernel)) (fun _ _ _ _ _ => (pg_name (i := 5) sc_law_wide.nd rfl (.inl rfl))) (fun _ _ _ _ _ => pts_nil) (fun _ _ _ _ _ => (show PE _ _ (tOp (rIxL K) (tOp (rIxL K) (tVar 2) (tVar 5)) (tVar 7)) from pe_ix ix_list (pe_ix ix_list (pv 2) (pv 5) (fun _ _ => rfl)) (pv 7) (fun _ _ => rfl)))) (pe_lc rfl sc_law_wide.nd (pi_range1 (by rfl) T.m_range (pa_cons (pe_op op_sub (pv 3) (pe_callB call_len_seq (by rfl) T.m_len (by decide +kernel) (pa_cons (pv 2) pa_nil))) pa_nil)) (blkOk_by (own := [("_law_k", 9)]) (N := ["_law_state", "_law_p", "_law_full_here", "_law_width", "_law_points", "_law_i", "_law_shuts", "_law_j", "_law_shut", "_law_k", "_law_item"]) (sc := defScope s_law_wide) (by decide +kernel)) (fun _ _ _ _ _ => (pg_name (i := 9) sc_law_wide.nd rfl (.inl rfl))) (fun _ _ _ _ _ => pts_nil) (fun _ _ _ _ _ => (pe_call (ok_law_number T) (hr.mono (by decide)) (by rfl) T.g_law_number T.F_law_number.kp T.b_law_number .nil pass0 (pa_cons (pv 0) (pa_cons (pv 1) pa_nil)))))))
        (pss_one (ps_expr (pe_bm PySem.F.plainAttrs_list PySem.F.slot_list_append PySem.F.type_list_append mt_append (pv 6) (pa_cons (pv 8) pa_nil))))))
      (Evl.pss_cut (ps_for PassesOwn.never rfl (pi_range1 (by rfl) T.m_range (pa_cons (pe_callB call_len_seq (by rfl) T.m_len (by decide +kernel) (pa_cons (pv 6) pa_nil)) pa_nil)) (pg_name (i := 7) sc_law_wide.nd rfl (.inr rfl))
        (pss_one (ps_if (pt_val (pe_callB (cr_all rfl) (by rfl) T.m_all (by decide +kernel) (pa_cons (pe_lc rfl sc_law_wide.nd (pi_seq (pe_ix ix_list (pv 6) (pv 7) (fun _ _ => rfl))) (blkOk_by (own := [("_law_item", 10)]) (N := ["_law_state", "_law_p", "_law_full_here", "_law_width", "_law_points", "_law_i", "_law_shuts", "_law_j", "_law_shut", "_law_k", "_law_item"]) (sc := defScope s_law_wide) (by decide +kernel)) (fun _ _ _ _ _ => (pg_name (i := 10) sc_law_wide.nd rfl (.inl rfl))) (fun _ _ _ _ _ => pts_nil) (fun _ _ _ _ _ => (pe_call (ok_law_nought T) (hr.mono (by decide)) (by rfl) T.g_law_nought T.F_law_nought.kp T.b_law_nought .nil pass0 (pa_cons (pv 1) (pa_cons (pv 10) pa_nil))))) pa_nil)))
          (pss_cons (ps_set (i := 8) sc_law_wide.nd rfl (.inl rfl) (pe_ix ix_list (pv 6) (pv 7) (fun _ _ => rfl)))
          (pss_one (ps_asg (pe_call (ok_law_some T) (hr.mono (by decide)) (by rfl) T.g_law_some T.F_law_some.kp T.b_law_some .nil pass0 (pa_cons (pv 1) (pa_cons pe_int pa_nil))) (pg_sub (pv 8) pe_int set_list))))
          pss_nil)))
      (pss_cons (ps_expr (pe_call (ok_law_shear T) (hr.mono (by decide)) (by rfl) T.g_law_shear T.F_law_shear.kp T.b_law_shear .nil pass0 (pa_cons (pv 0) (pa_cons (pv 1) (pa_cons (pv 4) (pa_cons (pv 6) pa_nil))))))
      (pss_one (ps_ret (pe_tup (pa_cons (pv 4) (pa_cons (pv 6) pa_nil)))))))))))), ?_⟩
    cases kF with
    | @lst _ fs _ eF uF =>
    obtain ⟨af1, af2, eF'⟩ := vw_some eF
    have lfs := uF.len
    rw [List.length_map] at lfs
    refine ⟨_, rfl, af, fs, rfl, .inl (SqL.of eF'), ?_⟩
    refine ⟨_, rfl, _, rfl, af, fs, rfl, .inl (SqL.of eF'), 7, _, rfl, rfl, h, g, 7 - (fs.length : Int), rfl, hd, by omega, by omega, fun H1 r k1 h1 r0 r1 => ⟨_, r, rfl, rfl, ?_⟩⟩
    obtain ⟨n, en, n1, n6, mn⟩ : ∃ n : Nat, (fs.length : Int) + r = (n : Int) ∧ 1 ≤ n ∧ n ≤ 6 ∧ m1 ≤ n := ⟨((fs.length : Int) + r).toNat, by omega, by omega, by omega, by omega⟩
    dsimp only
    rw [en]
    refine ⟨Nat.zero_le _, fun D1 nD1 => ?_⟩
    obtain ⟨d1, d2⟩ := h1.fresh nD1
    have nD1H := kp_free k1 h1 nD1
    refine ⟨fun σ H' => ∃ (y5 : Option V) (l1 : List Addr) (R1 : List (List PyData)), σ = [some (.ref h), some (.int (p : Int)), some (.ref af), some (.int (n : Int)), some (.ref D1), y5, none, none, none, none, none] ∧ Kp h g H H' ∧ Hnd h g H' ∧ H' D1 = some (.lst (l1.map V.ref)) ∧ Rws h g [D1] H H' l1 R1 ∧ R1.length = m1 ∧ ∀ r ∈ R1, Gr p n 0 r, ?_, fun σ H' hM => ?_⟩
    · refine ⟨_, rfl, af, fs, rfl, .inl (SqL.of ((k1.put (o := .lst []) nD1H) af _ af1 af2 eF')), (fs.length : Int), rfl, by omega, by omega, ?_⟩
      rw [show ((fs.length : Nat) : Int).toNat = m1 by omega]
      refine for_range (lo := 0) (n := m1) (fun i σ H' => ∃ (y5 : Option V) (l1 : List Addr) (R1 : List (List PyData)), σ = [some (.ref h), some (.int (p : Int)), some (.ref af), some (.int (n : Int)), some (.ref D1), y5, none, none, none, none, none] ∧ Kp h g H H' ∧ Hnd h g H' ∧ H' D1 = some (.lst (l1.map V.ref)) ∧ Rws h g [D1] H H' l1 R1 ∧ R1.length = i ∧ ∀ r ∈ R1, Gr p n 0 r) ⟨none, [], [], rfl, k1.put nD1H, h1.upd d1 d2, upd_same, ⟨rfl, .nil, fun i l r a => by simp at a⟩, rfl, fun r m => nomatch m⟩ (fun i σ H' hi hP => ?_) (fun σ H' hP => hP)
      obtain ⟨y5, l1, R1, rfl, kx, hx, e1, rws, lR, al⟩ := hP
      have ll1 := rws.len
      refine ⟨_, rfl, .inl ⟨rfl, l1.map V.ref, SqL.of e1⟩, ?_⟩
      refine ⟨_, rfl, (n : Int), rfl, by omega, by omega, fun D nD => ?_⟩
      rw [show ((n : Nat) : Int).toNat = n by omega]
      refine lc_rngD (fun _ => true) (fun k => if k = i then oneD p else zeroD p) nD (by omega) (fun _ => rfl) (fun k H3 Q3 hk s3 q3 => q3 _ fun _ _ z => z) (fun k H3 Q3 hk _ s3 acc q3 => ?_) (fun H3 s3 kD => ?_)
      · obtain ⟨ac, hac⟩ := acc
        have ek : someD p (if (decide (V.int (0 + (i : Int)) = V.int (0 + (k : Int)))) = true then 1 else 0) = if k = i then oneD p else zeroD p := by
          by_cases c : k = i
          · subst c
            rw [if_pos (by simp), if_pos rfl, some_one fp]
          · rw [if_neg (by rw [int_dec]; simp; omega), if_neg c, some_zero]
        refine ⟨_, rfl, _, rfl, _, rfl, rfl, .inr ⟨_, rfl, p, _, rfl, fun v H4 s4 kv => q3 v H4 s4 ?_⟩⟩
        rw [ek] at kv
        refine dq_noL (s4 _ _ hac) _ ?_ kv
        split
        · exact nb_noL (nb_one fp (Nat.le_refl 1))
        · exact nb_noL (nb_zero fp (Nat.le_refl 1))
      · rw [List.filter_eq_self.mpr fun _ _ => rfl] at kD
        change Dq H3 (.ref D) (.list (unitL p n i)) at kD
        cases kD with
        | @lst _ us _ eD uD =>
        have gu := unit_gr fp (show i < n by omega)
        have h3 := hx.same s3
        obtain ⟨f1, f2⟩ := hx.fresh nD
        have neD : D ≠ D1 := (ne_of_none e1 nD).symm
        have rws' := rws.push (Kp.of s3) nD f1 f2 (fun m => neD (List.mem_singleton.mp m)) (kp_free kx hx nD) eD (dqs_vw h3 _ gu.nl uD)
        have al' : ∀ r ∈ R1 ++ [unitL p n i], Gr p n 0 r := fun r m => by
          rcases List.mem_append.mp m with m | m
          · exact al r m
          · rw [List.mem_singleton.mp m]
            exact gu
        refine ⟨D1, l1.map V.ref, .ref D, rfl, rfl, s3 _ _ e1, small1000 (by rw [List.length_map]; omega), ?_⟩
        exact ⟨_, l1 ++ [D], R1 ++ [unitL p n i], rfl, (kx.trans (Kp.of s3)).put nD1H, h3.upd d1 d2, by rw [upd_same, List.map_append]; rfl, rws'.top List.mem_cons_self d1 d2 (s3 _ _ e1) fun r m => (al' r m).nl, by rw [List.length_append, lR]; rfl, al'⟩
    obtain ⟨y5, l1, R1, rfl, kx, hx, e1, rws, lR, al⟩ := hM
    refine ⟨Nat.zero_le _, fun D2 nD2 => ?_⟩
    obtain ⟨d3, d4⟩ := hx.fresh nD2
    have nD2H := kp_free kx hx nD2
    have ne12 : D1 ≠ D2 := ne_of_none e1 nD2
    have ll1 := rws.len
    have rws0 : Rws h g [D1, D2] H (L2.upd H' D2 (.lst [])) (l1 ++ []) (R1 ++ []) := by
      rw [List.append_nil, List.append_nil]
      exact (rws.more nD2).kp (Kp.refl.put nD2)
    obtain ⟨F0, hF0⟩ : ∃ r, F[0]? = some r := ⟨_, List.getElem?_eq_getElem (show 0 < F.length by omega)⟩
    obtain ⟨v0, hv0, kv0⟩ := dqs_at uF (i := 0) (d := .list F0) (by rw [List.getElem?_map, hF0]; rfl)
    have lF0 := (gF F0 (List.mem_of_getElem? hF0)).1
    cases kv0 with
    | @lst a0 f0s _ e0 u0 =>
    obtain ⟨a01, a02, e0'⟩ := vw_some e0
    have lf0 := u0.len
    refine ⟨fun σ H' => ∃ (y5 y7 y8 : Option V) (l2 : List Addr) (R2 : List (List PyData)), σ = [some (.ref h), some (.int (p : Int)), some (.ref af), some (.int (n : Int)), some (.ref D1), y5, some (.ref D2), y7, y8, none, none] ∧ Kp h g H H' ∧ Hnd h g H' ∧ H' D1 = some (.lst (l1.map V.ref)) ∧ H' D2 = some (.lst (l2.map V.ref)) ∧ Rws h g [D1, D2] H H' (l1 ++ l2) (R1 ++ R2) ∧ R2.length = m2 ∧ ∀ r ∈ R2, G1 p n r, ?_, fun σ H' hM => ?_⟩
    · have kx2 := kx.put (o := .lst []) nD2H
      refine ⟨_, rfl, af, fs, 0, .ref a0, rfl, rfl, SqL.of (kx2 af _ af1 af2 eF'), at_of (j := 0) rfl hv0, a0, f0s, rfl, .inl (SqL.of (kx2 a0 _ a01 a02 e0')), _, rfl, by omega, by omega, ?_⟩
      rw [show ((f0s.length : Nat) : Int).toNat = m2 by omega]
      refine for_range (lo := 0) (n := m2) (fun j σ H' => ∃ (y5 y7 y8 : Option V) (l2 : List Addr) (R2 : List (List PyData)), σ = [some (.ref h), some (.int (p : Int)), some (.ref af), some (.int (n : Int)), some (.ref D1), y5, some (.ref D2), y7, y8, none, none] ∧ Kp h g H H' ∧ Hnd h g H' ∧ H' D1 = some (.lst (l1.map V.ref)) ∧ H' D2 = some (.lst (l2.map V.ref)) ∧ Rws h g [D1, D2] H H' (l1 ++ l2) (R1 ++ R2) ∧ R2.length = j ∧ ∀ r ∈ R2, G1 p n r) ⟨y5, none, none, [], [], rfl, kx2, hx.upd d3 d4, by rw [upd_ne ne12]; exact e1, upd_same, rws0, rfl, fun r m => nomatch m⟩ (fun j σ H5 hj hP => ?_) (fun σ H' hP => hP)
      obtain ⟨y5, y7, y8, l2, R2, rfl, kx5, hx5, e15, e25, rws5, lR2, al2⟩ := hP
      have ll2 := rws5.len
      rw [List.length_append, List.length_append] at ll2
      have eF5 := kx5 af _ af1 af2 eF'
      refine ⟨_, rfl, af, fs, rfl, .inl (SqL.of eF5), (fs.length : Int), rfl, by omega, by omega, fun DA nDA => ?_⟩
      rw [show ((fs.length : Nat) : Int).toNat = m1 by omega]
      have gd : ∀ i, i < m1 → ∃ r d, F[i]? = some r ∧ r[j]? = some d ∧ (F.getD i []).getD j .none = d ∧ r ∈ F ∧ d ∈ r := fun i hi => by
        have h1 := List.getElem?_eq_getElem (show i < F.length by omega)
        have m1 := List.mem_of_getElem? h1
        have l1 := (gF _ m1).1
        have h2 := List.getElem?_eq_getElem (show j < F[i].length by omega)
        exact ⟨_, _, h1, h2, getD2 h1 h2, m1, List.mem_of_getElem? h2⟩
      refine lc_rngD (fun _ => true) (fun i => (F.getD i []).getD j .none) nDA (by omega) (fun _ => rfl) (fun k H3 Q3 hk s3 q3 => q3 _ fun _ _ z => z) (fun i H6 Q6 hi _ s6 acc q6 => ?_) (fun H6 s6 kA => ?_)
      · obtain ⟨ac, hac⟩ := acc
        obtain ⟨ri, di, hri, hdi, edi, mri, mdi⟩ := gd i hi
        obtain ⟨vi, hvi, kvi⟩ := dqs_at (DqAll.same kx5.vw _ uF) (i := i) (d := .list ri) (by rw [List.getElem?_map, hri]; rfl)
        cases kvi with
        | @lst ai rs _ ei ui =>
        obtain ⟨_, _, ei'⟩ := vw_some ei
        obtain ⟨vd, hvd, kvd⟩ := dqs_at ui hdi
        refine ⟨_, rfl, _, rfl, af, fs, 0 + (i : Int), .ref ai, rfl, rfl, SqL.of (s6 _ _ eF5), at_of (j := i) (by omega) hvi, ?_⟩
        refine ⟨_, rfl, ai, rs, 0 + (j : Int), vd, rfl, rfl, SqL.of (s6 _ _ ei'), at_of (j := j) (by omega) hvd, ?_⟩
        refine q6 vd H6 (fun _ _ z => z) ?_
        rw [edi]
        exact dq_noL hac _ ((gF ri mri).2 di mdi).nl ((kvd.same vw_same).same s6)
      · rw [List.filter_eq_self.mpr fun _ _ => rfl] at kA
        have fA : ∀ d ∈ (List.range m1).map fun i => (F.getD i []).getD j .none, Fb p (Dk 0) (Tk 0) d := fun d md => by
          obtain ⟨i, mi, rfl⟩ := List.mem_map.mp md
          obtain ⟨ri, di, hri, hdi, edi, mri, mdi⟩ := gd i (List.mem_range.mp mi)
          rw [edi]
          exact (gF ri mri).2 di mdi
        have lA : ((List.range m1).map fun i => (F.getD i []).getD j .none).length = m1 := by rw [List.length_map, List.length_range]
        generalize (List.range m1).map (fun i => (F.getD i []).getD j .none) = rA at kA fA lA
        cases kA with
        | @lst _ us _ eA uA =>
        obtain ⟨fa1, fa2⟩ := hx5.fresh nDA
        have hx6 := hx5.same s6
        refine ⟨_, rfl, _, rfl, af, fs, rfl, .inl (SqL.of (s6 _ _ eF5)), (n : Int), (fs.length : Int), rfl, rfl, _, rfl, by omega, by omega, fun DB nDB => ?_⟩
        rw [show ((n : Int) - (fs.length : Int)).toNat = n - m1 by omega]
        refine lc_nums (T := 12582912) (p := p) hx6 nDB fp (by omega) (fun x => rfl) (fun x H' Q' h => ⟨_, rfl, _, rfl, h⟩) fun ds ys H7 k7 h7 eB uB fB lB => ?_
        have uA7 : DqAll (Vw h g H7) us rA := DqAll.same k7.vw _ (dqs_vw hx6 _ (fbs_noL fA) uA)
        refine ⟨rA, ds, .lst (k7 DA _ fa1 fa2 eA) (DqAll.same vw_same _ uA7), .lst eB (DqAll.same vw_same _ uB), by omega, fun l H8 s8 nl kl => ?_⟩
        cases kl with
        | @lst _ ws _ el ul =>
        have g1 : G1 p n (rA ++ ds) := ⟨by rw [List.length_append]; omega, fun d md => by
          rcases List.mem_append.mp md with md | md
          · exact fA d md
          · exact fb6_to0 (fB d md)⟩
        have k58 := ((Kp.of s6).trans k7).trans (Kp.of s8)
        have k57 := (Kp.of (h := h) (g := g) s6).trans k7
        have nl5 := kp_free k57 h7 nl
        obtain ⟨fl1, fl2⟩ := h7.fresh nl
        have h8 := h7.same s8
        have nl1 : l ≠ D1 := (ne_of_none e15 nl5).symm
        have nl2 : l ≠ D2 := (ne_of_none e25 nl5).symm
        have rws8 := rws5.push k58 nl5 fl1 fl2 (fun m => by
          rcases List.mem_cons.mp m with m | m
          · exact nl1 m
          · exact nl2 (List.mem_singleton.mp m)) (kp_free kx5 hx5 nl5) el (dqs_vw h8 _ g1.nl ul)
        rw [List.append_assoc, List.append_assoc] at rws8
        have e28 := k58 D2 _ d3 d4 e25
        have al3 : ∀ r ∈ R2 ++ [rA ++ ds], G1 p n r := fun r m => by
          rcases List.mem_append.mp m with m | m
          · exact al2 r m
          · rw [List.mem_singleton.mp m]
            exact g1
        refine ⟨_, rfl, .inl ⟨rfl, l2.map V.ref, SqL.of e28⟩, _, rfl, D2, l2.map V.ref, .ref l, rfl, rfl, e28, small1000 (by rw [List.length_map]; omega), ?_⟩
        refine ⟨_, _, _, l2 ++ [l], R2 ++ [rA ++ ds], rfl, (kx5.trans k58).put nD2H, h8.upd d3 d4, by rw [upd_ne ne12]; exact k58 D1 _ d1 d2 e15, by rw [upd_same, List.map_append]; rfl, rws8.top (List.mem_cons_of_mem _ List.mem_cons_self) d3 d4 e28 fun r m => ?_, by rw [List.length_append, lR2]; rfl, al3⟩
        rcases List.mem_append.mp m with m | m
        · exact (al r m).nl
        · exact (al3 r m).nl
    clear rws0 rws e1 hx kx
    obtain ⟨y5, y7, y8, l2, R2, rfl, kx, hx, e1, e2, rws, lR2, al2⟩ := hM
    have ll2 := rws.len
    rw [List.length_append, List.length_append] at ll2
    refine ⟨fun σ H' => ∃ (y5 y7 y8 : Option V) (R2 : List (List PyData)), σ = [some (.ref h), some (.int (p : Int)), some (.ref af), some (.int (n : Int)), some (.ref D1), y5, some (.ref D2), y7, y8, none, none] ∧ Kp h g H H' ∧ Hnd h g H' ∧ H' D1 = some (.lst (l1.map V.ref)) ∧ H' D2 = some (.lst (l2.map V.ref)) ∧ Rws h g [D1, D2] H H' (l1 ++ l2) (R1 ++ R2) ∧ R2.length = m2 ∧ ∀ r ∈ R2, Gr p n 0 r, ?_, fun σ H' hM => ?_⟩
    · refine ⟨_, rfl, D2, l2.map V.ref, rfl, .inl (SqL.of e2), _, rfl, by rw [List.length_map]; omega, by rw [List.length_map]; omega, ?_⟩
      rw [show (((l2.map V.ref).length : Nat) : Int).toNat = m2 by rw [List.length_map]; omega]
      refine for_range (lo := 0) (n := m2) (fun j σ H' => ∃ (y5 y7 y8 : Option V) (R2 : List (List PyData)), σ = [some (.ref h), some (.int (p : Int)), some (.ref af), some (.int (n : Int)), some (.ref D1), y5, some (.ref D2), y7, y8, none, none] ∧ Kp h g H H' ∧ Hnd h g H' ∧ H' D1 = some (.lst (l1.map V.ref)) ∧ H' D2 = some (.lst (l2.map V.ref)) ∧ Rws h g [D1, D2] H H' (l1 ++ l2) (R1 ++ R2) ∧ R2.length = m2 ∧ ∀ i r, R2[i]? = some r → G1 p n r ∧ (i < j → Gr p n 0 r)) ⟨y5, y7, y8, R2, rfl, kx, hx, e1, e2, rws, lR2, fun i r hi => ⟨al2 r (List.mem_of_getElem? hi), fun z => absurd z (by omega)⟩⟩ (fun j σ H5 hj hP => ?_) (fun σ H' hP => ?_)
      · obtain ⟨y5, y7, y8, R2, rfl, kx5, hx5, e15, e25, rws5, lR2, al5⟩ := hP
        obtain ⟨l, hl⟩ : ∃ l, l2[j]? = some l := ⟨_, List.getElem?_eq_getElem (show j < l2.length by omega)⟩
        obtain ⟨r, hr2⟩ : ∃ r, R2[j]? = some r := ⟨_, List.getElem?_eq_getElem (show j < R2.length by omega)⟩
        have hll : (l1 ++ l2)[l1.length + j]? = some l := by rw [List.getElem?_append_right (by omega), Nat.add_sub_cancel_left]; exact hl
        have hrr : (R1 ++ R2)[l1.length + j]? = some r := by rw [show l1.length = R1.length by omega, List.getElem?_append_right (by omega), Nat.add_sub_cancel_left]; exact hr2
        obtain ⟨f1, f2, f3, f4, ws, el, ul⟩ := rws5.at_ _ l r hll hrr
        have g1 := (al5 j r hr2).1
        have lw := ul.len
        rw [g1.ln] at lw
        have nlall : ∀ r ∈ R1 ++ R2, noLists r = true := fun r m => by
          rcases List.mem_append.mp m with m | m
          · exact (al r m).nl
          · obtain ⟨i, hi⟩ := List.getElem?_of_mem m
            exact (al5 i r hi).1.nl
        have hlm : (l2.map V.ref)[j]? = some (.ref l) := by rw [List.getElem?_map, hl]; rfl
        refine if_valC ?_
        refine lc_seqV (a := l) (xs := ws) (fun _ => true) (fun i => V.bl (!nzB p (r.getD i .none))) (fun Q h => ⟨_, rfl, _, rfl, D2, l2.map V.ref, 0 + (j : Int), .ref l, rfl, rfl, SqL.of e25, at_of (j := j) (by omega) hlm, h⟩) (.inl (SqL.of el)) (by omega) (fun i v H2 Rr N hv s yes no => ?_) (fun D3 H2 nD3 s2 hD3 => ?_)
        · obtain ⟨e, he, ke⟩ := ul.get hv
          have eq : r.getD i .none = e := by
            rw [List.getD_eq_getElem?_getD, he]
            rfl
          have yes := yes rfl
          rw [eq] at yes
          exact ⟨rfl, _, rfl, _, rfl, p, 68, v, e, rfl, fp, (ke.same vw_same).same s, fb4_nb (fb_to4 (by decide) (g1.fb e (List.mem_of_getElem? he))), fun H3 s3 => yes H3 s3⟩
        · have eB : ((List.range ws.length).filter fun _ => true).map (fun i => V.bl (!nzB p (r.getD i .none))) = (r.map fun e => !nzB p e).map V.bl := by
            rw [show ws.length = r.length by rw [lw, g1.ln], range_map r .none fun d => V.bl (!nzB p d), List.map_map]
            rfl
          rw [eB] at hD3
          have h2 := hx5.same s2
          have k2 := kx5.trans (Kp.of s2)
          refine ⟨D3, r.map fun e => !nzB p e, rfl, SqL.of hD3, _, rfl, ite2 (fun c => ?_) (fun c => ?_)⟩
          · refine ⟨_, rfl, _, rfl, D2, l2.map V.ref, 0 + (j : Int), .ref l, rfl, rfl, SqL.of (s2 _ _ e25), at_of (j := j) (by omega) hlm, ?_⟩
            refine ⟨_, rfl, p, 1, rfl, fun v H3 s3 kv => ?_⟩
            rw [some_one fp] at kv
            have s23 := s2.trans s3
            have hx0 : ixN ws.length 0 = some 0 := ixN_zero (by omega)
            refine ⟨_, rfl, l, ws, 0, 0, rfl, rfl, s23 _ _ el, hx0, ?_⟩
            have gn : Gr p n 0 (r.set 0 (oneD p)) := ⟨by rw [List.length_set]; exact g1.ln, fun d md => by
              rcases List.mem_or_eq_of_mem_set md with md | rfl
              · exact g1.fb d md
              · exact (fb_one fp (Dk.pos 0)).up (by decide), List.any_eq_true.mpr ⟨oneD p, List.mem_set (by rw [g1.ln]; omega) (oneD p), nz_one fp⟩⟩
            have rwsN := (rws5.kp (Kp.of s23)).put hll hrr (s23 _ _ el) nlall gn.nl ((DqAll.same (Kp.of s23).vw _ ul).set 0 (dq_vw (hx5.same s23) _ (nb_noL (nb_one (k := 1) fp (Nat.le_refl 1))) kv))
            have eset : (R1 ++ R2).set (l1.length + j) (r.set 0 (oneD p)) = R1 ++ R2.set j (r.set 0 (oneD p)) := by
              rw [show l1.length = R1.length by omega, List.set_append_right _ _ (by omega), Nat.add_sub_cancel_left]
            rw [eset] at rwsN
            have nl1 : l ≠ D1 := fun z => f3 (by rw [z]; exact List.mem_cons_self)
            have nl2 : l ≠ D2 := fun z => f3 (by rw [z]; exact List.mem_cons_of_mem _ List.mem_cons_self)
            refine ⟨_, _, _, R2.set j (r.set 0 (oneD p)), rfl, (kx5.trans (Kp.of s23)).put f4, (hx5.same s23).upd f1 f2, by rw [upd_ne nl1.symm]; exact s23 _ _ e15, by rw [upd_ne nl2.symm]; exact s23 _ _ e25, rwsN, by rw [List.length_set]; exact lR2, fun i r2 h2 => ?_⟩
            by_cases ci : i = j
            · subst ci
              rw [List.getElem?_set_self (by omega)] at h2
              obtain rfl := Option.some.inj h2
              exact ⟨gn.g1, fun _ => gn⟩
            · rw [List.getElem?_set_ne (Ne.symm ci)] at h2
              exact ⟨(al5 i r2 h2).1, fun z => (al5 i r2 h2).2 (by omega)⟩
          · refine ⟨_, _, _, R2, rfl, k2, h2, s2 _ _ e15, s2 _ _ e25, rws5.kp (Kp.of s2), lR2, fun i r2 h2 => ⟨(al5 i r2 h2).1, fun z => ?_⟩⟩
            by_cases ci : i = j
            · subst ci
              rw [hr2] at h2
              obtain rfl := Option.some.inj h2
              refine ⟨g1.ln, g1.fb, Decidable.byContradiction fun z => c (List.all_eq_true.mpr fun b mb => ?_)⟩
              obtain ⟨d, md, rfl⟩ := List.mem_map.mp mb
              have : nzB p d ≠ true := fun y => z (List.any_eq_true.mpr ⟨d, md, y⟩)
              cases e : nzB p d with
              | true => exact absurd e this
              | false => rfl
            · exact (al5 i r2 h2).2 (by omega)
      · obtain ⟨y5, y7, y8, R2, rfl, kx5, hx5, e15, e25, rws5, lR2, al5⟩ := hP
        refine ⟨y5, y7, y8, R2, rfl, kx5, hx5, e15, e25, rws5, lR2, fun r m => ?_⟩
        obtain ⟨i, hi⟩ := List.getElem?_of_mem m
        exact (al5 i r hi).2 (by have := (List.getElem?_eq_some_iff.mp hi).1; omega)
    clear rws e1 e2 hx kx lR2 al2 ll2
    obtain ⟨y5, y7, y8, R2, rfl, kx, hx, e1, e2, rws, lR2, al2⟩ := hM
    have ll2 := rws.len
    rw [List.length_append, List.length_append] at ll2
    refine ⟨_, rfl, _, rfl, _, rfl, _, rfl, h, g, D1, D2, p, n, l1, l2, H, R1 ++ R2, rfl, hx, fp, n1, n6, by omega, d1, d2, d3, d4, e1, e2, rws, fun r m => ?_, fun H8 R' kpx h8 rws8 al8 => ?_⟩
    · rcases List.mem_append.mp m with m | m
      · exact al r m
      · exact al2 r m
    have noH : ∀ l ∈ l1 ++ l2, H l = none := fun l m => by
      obtain ⟨i, hi⟩ := List.getElem?_of_mem m
      have hi' := (List.getElem?_eq_some_iff.mp hi).1
      rw [List.length_append] at hi'
      exact (rws.at_ i l _ hi (List.getElem?_eq_getElem (show i < (R1 ++ R2).length by rw [List.length_append]; omega))).2.2.2.1
    have noD : D1 ∉ l1 ++ l2 ∧ D2 ∉ l1 ++ l2 := by
      have go : ∀ l ∈ l1 ++ l2, l ∉ [D1, D2] := fun l m => by
        obtain ⟨i, hi⟩ := List.getElem?_of_mem m
        have hi' := (List.getElem?_eq_some_iff.mp hi).1
        rw [List.length_append] at hi'
        exact (rws.at_ i l _ hi (List.getElem?_eq_getElem (show i < (R1 ++ R2).length by rw [List.length_append]; omega))).2.2.1
      exact ⟨fun m => go D1 m List.mem_cons_self, fun m => go D2 m (List.mem_cons_of_mem _ List.mem_cons_self)⟩
    have kx8 : Kp h g H H8 := fun b o nh ng e => kpx b o nh ng (fun m => by rw [noH b m] at e; cases e) (kx b o nh ng e)
    have e18 := kpx D1 _ d1 d2 noD.1 e1
    have e28 := kpx D2 _ d3 d4 noD.2 e2
    have ll8 := rws8.len
    rw [List.length_append] at ll8
    have kD1 : Dq H8 (.ref D1) (lrowsD (R'.take m1)) := by
      refine .lst e18 (dq_rows (by rw [List.length_take]; omega) fun i l r a b => ?_)
      have hi := (List.getElem?_eq_some_iff.mp a).1
      rw [List.getElem?_take, if_pos (by omega)] at b
      obtain ⟨_, _, _, _, xs, e, u⟩ := rws8.at_ i l r (by rw [List.getElem?_append_left hi]; exact a) b
      exact ⟨xs, e, DqAll.same vw_same _ u⟩
    have kD2 : Dq H8 (.ref D2) (lrowsD (R'.drop m1)) := by
      refine .lst e28 (dq_rows (by rw [List.length_drop]; omega) fun i l r a b => ?_)
      rw [List.getElem?_drop] at b
      obtain ⟨_, _, _, _, xs, e, u⟩ := rws8.at_ (m1 + i) l r (by rw [List.getElem?_append_right (by omega), show m1 + i - l1.length = i by omega]; exact a) b
      exact ⟨xs, e, DqAll.same vw_same _ u⟩
    refine ⟨_, rfl, _, rfl, (by show 2 ≤ sizeLine; decide), fun l nl => ?_⟩
    have sn := same_new (o := .tup [.ref D1, .ref D2]) nl
    exact q l _ D1 D2 n (R'.take m1) (R'.drop m1) (kx8.trans (Kp.of sn)) (h8.same sn) upd_same (kD1.same sn) (kD2.same sn) n1 n6 (by rw [List.length_take]; omega) (by rw [List.length_drop]; omega) (fun r m => al8 r (List.mem_of_mem_take m)) (fun r m => al8 r (List.mem_of_mem_drop m))
end
end K25
set_option Elab.async false
set_option linter.all false
set_option maxRecDepth 100000
set_option maxHeartbeats 4000000
set_option exponentiation.threshold 5000
set_option pp.maxSteps 900
namespace K25
open PySem PySem.Spec PyProof.Rows L2 TkS LamX NdefX
theorem asgE {te : TE} {gi : TG} {rest : TS} {D : Ends} {σ : L2.St} {H : Hp} (h : te σ H fun y H2 => gi y σ H2 (rest D)) : tSeq (tAsg te gi) rest D σ H := h
def sl_sum : Sp := fun vs H Q _ => ∃ (p n : Nat) (x y : V) (ws : List PyData) (R : List (List PyData)), vs = [.int (p : Int), x, y, .int (n : Int)] ∧ Fp p ∧ Dq H x (.list ws) ∧ Dq H y (lrowsD R) ∧ ws.length = R.length ∧ R.length ≤ 2 ∧ n ≤ 6 ∧ (∀ d ∈ ws, Nb p 150 d) ∧ (∀ r ∈ R, r.length = n ∧ ∀ d ∈ r, Nb p 150 d) ∧
  ∀ v H', Same H H' → Dq H' v (.tuple ((List.range n).map fun j => dotD p ws (R.map fun r => r.getD j .none) (zeroD p))) → Q v H'
section
variable {P : Program} {w : World} {K : PySem.W.Frag} {mg : Str → Option Value} {base : Heap}
theorem ok_law_sum (T : Txt K mg) : FnOk P w K mg base CX0 4 T.f_law_sum T.d_law_sum ["_law_p", "_law_weights", "_law_rows", "_law_width"] sl_sum := by
  refine T.F_law_sum.ok sc_law_sum (fun vs H Q E h => ?_) (fun cdv A outer s H vs Q E hr h => ?_)
  · obtain ⟨p, n, x, y, ws, R, rfl, _⟩ := h
    rfl
  · obtain ⟨p, n, x, y, ws, R, rfl, fp, kx, ky, lw, l2, n6, nw, nr, q⟩ := h
    refine ⟨_, (pss_cons (ps_set (i := 5) sc_law_sum.nd rfl (.inr rfl) (pe_lc rfl sc_law_sum.nd (pi_range1 (by rfl) T.m_range (pa_cons (pv 3) pa_nil)) (blkOk_by (own := [("_law_k", 4)]) (N := ["_law_p", "_law_weights", "_law_rows", "_law_width", "_law_k", "_law_total", "_law_i"]) (sc := defScope s_law_sum) (by decide +kernel)) (fun _ _ _ _ _ => (pg_name (i := 4) sc_law_sum.nd rfl (.inl rfl))) (fun _ _ _ _ _ => pts_nil) (fun _ _ _ _ _ => (pe_call (ok_law_some T) (hr.mono (by decide)) (by rfl) T.g_law_some T.F_law_some.kp T.b_law_some .nil pass0 (pa_cons (pv 0) (pa_cons pe_int pa_nil))))))
      (pss_cons (ps_for PassesOwn.never rfl (pi_range1 (by rfl) T.m_range (pa_cons (pe_callB call_len_seq (by rfl) T.m_len (by decide +kernel) (pa_cons (pv 2) pa_nil)) pa_nil)) (pg_name (i := 4) sc_law_sum.nd rfl (.inr rfl))
        (pss_one (ps_set (i := 5) sc_law_sum.nd rfl (.inr rfl) (pe_lc rfl sc_law_sum.nd (pi_range1 (by rfl) T.m_range (pa_cons (pv 3) pa_nil)) (blkOk_by (own := [("_law_i", 6)]) (N := ["_law_p", "_law_weights", "_law_rows", "_law_width", "_law_k", "_law_total", "_law_i"]) (sc := defScope s_law_sum) (by decide +kernel)) (fun _ _ _ _ _ => (pg_name (i := 6) sc_law_sum.nd rfl (.inl rfl))) (fun _ _ _ _ _ => pts_nil) (fun _ _ _ _ _ => (pe_call (ok_law_plus T) (hr.mono (by decide)) (by rfl) T.g_law_plus T.F_law_plus.kp T.b_law_plus .nil pass0 (pa_cons (pv 0) (pa_cons (show PE _ _ (tOp (rIxL K) (tVar 5) (tVar 6)) from pe_ix ix_list (pv 5) (pv 6) (fun _ _ => rfl)) (pa_cons (pe_call (ok_law_times T) (hr.mono (by decide)) (by rfl) T.g_law_times T.F_law_times.kp T.b_law_times .nil pass0 (pa_cons (pv 0) (pa_cons (show PE _ _ (tOp (rIxL K) (tVar 1) (tVar 4)) from pe_ix ix_list (pv 1) (pv 4) (fun _ _ => rfl)) (pa_cons (show PE _ _ (tOp (rIxL K) (tOp (rIxL K) (tVar 2) (tVar 4)) (tVar 6)) from pe_ix ix_list (pe_ix ix_list (pv 2) (pv 4) (fun _ _ => rfl)) (pv 6) (fun _ _ => rfl)) pa_nil)))) pa_nil)))))))))
      (pss_one (ps_ret (pe_callTy call_tupD (by rfl) T.m_tuple (by decide +kernel) (pa_cons (pv 5) pa_nil)))))), ?_⟩
    cases kx with
    | @lst ax xs _ ex ux =>
    cases ky with
    | @lst ay ys _ ey uy =>
    have lx := ux.len
    have ly := uy.len
    rw [List.length_map] at ly
    refine asgE ?_
    refine ⟨_, rfl, (n : Int), rfl, by omega, by omega, fun D nD => ?_⟩
    rw [show ((n : Nat) : Int).toNat = n by omega]
    refine lc_rngD (fun _ => true) (fun _ => zeroD p) nD (by omega) (fun _ => rfl) (fun j H1 Q1 hj s1 q1 => q1 _ fun _ _ z => z) (fun j H1 Q1 hj _ s1 acc q1 => ?_) (fun H1 s1 kD => ?_)
    · obtain ⟨ac, hac⟩ := acc
      refine ⟨_, rfl, p, 0, rfl, fun v H2 s2 kv => q1 v H2 s2 ?_⟩
      rw [some_zero] at kv
      exact dq_noL (s2 _ _ hac) _ (nb_noL (nb_zero fp (Nat.le_refl 1))) kv
    rw [List.filter_eq_self.mpr fun _ _ => rfl] at kD
    refine ⟨_, rfl, ay, ys, rfl, .inl (SqL.of (s1 _ _ ey)), _, rfl, by omega, by omega, ?_⟩
    rw [show ((ys.length : Nat) : Int).toNat = R.length by omega]
    have nj : ∀ j, j < n → ∀ d ∈ (R.map fun r => r.getD j .none), Nb p 150 d := fun j hj d md => by
      obtain ⟨r, mr, rfl⟩ := List.mem_map.mp md
      have := (nr r mr).1
      rw [List.getD_eq_getElem?_getD, List.getElem?_eq_getElem (show j < r.length by omega)]
      exact (nr r mr).2 _ (List.getElem_mem _)
    refine for_range (lo := 0) (n := R.length) (fun i σ H' => ∃ (t : Addr) (y4 y6 : Option V), σ = [some (.int (p : Int)), some (.ref ax), some (.ref ay), some (.int (n : Int)), y4, some (.ref t), y6] ∧ Same H H' ∧ Dq H' (.ref t) (.list ((List.range n).map fun j => dotD p (ws.take i) ((R.map fun r => r.getD j .none).take i) (zeroD p)))) ⟨D, none, none, rfl, s1, kD⟩ (fun i σ H' hi hP => ?_) (fun σ H' hP => ?_)
    · obtain ⟨t, y4, y6, rfl, sm, kt⟩ := hP
      cases kt with
      | @lst _ ts _ et ut =>
      have lt := ut.len
      rw [List.length_map, List.length_range] at lt
      have hw := List.getElem?_eq_getElem (show i < ws.length by omega)
      have hr' := List.getElem?_eq_getElem hi
      obtain ⟨vw, hvw, kvw⟩ := dqs_at ux hw
      obtain ⟨vr, hvr, kvr⟩ := dqs_at uy (i := i) (d := .list R[i]) (by rw [List.getElem?_map, hr']; rfl)
      have nwi := nw _ (List.mem_of_getElem? hw)
      obtain ⟨lri, nri⟩ := nr _ (List.mem_of_getElem? hr')
      generalize ws[i] = wi at *
      generalize R[i] = ri at *
      cases kvr with
      | @lst ar zs _ er ur =>
      refine ⟨_, rfl, (n : Int), rfl, by omega, by omega, fun D2 nD2 => ?_⟩
      rw [show ((n : Nat) : Int).toNat = n by omega]
      refine lc_rngD (fun _ => true) (fun j => dotD p (ws.take (i + 1)) ((R.map fun r => r.getD j .none).take (i + 1)) (zeroD p)) nD2 (by omega) (fun _ => rfl) (fun j H1 Q1 hj s1 q1 => q1 _ fun _ _ z => z) (fun j H3 Q1 hj _ s3 acc q1 => ?_) (fun H3 s3 kD3 => ?_)
      · obtain ⟨ac, hac⟩ := acc
        have nx := dot_take (p := p) (xs := ws) (ys := R.map fun r => r.getD j .none) (i := i) (x := wi) (y := ri.getD j .none) (by rw [List.length_map]; exact lw) hw (by rw [List.getElem?_map, hr']; rfl) (zeroD p)
        have accN : Nb p (1 + 301 * 2) (dotD p (ws.take i) ((R.map fun r => r.getD j .none).take i) (zeroD p)) := (dot_nb (fun d m => nw d (List.mem_of_mem_take m)) (fun d m => nj j hj d (List.mem_of_mem_take m)) (nb_zero fp (Nat.le_refl 1))).up (by rw [List.length_take]; omega)
        have hrj := List.getElem?_eq_getElem (show j < ri.length by omega)
        have egd : ri.getD j .none = ri[j] := by
          rw [List.getD_eq_getElem?_getD, hrj]
          rfl
        obtain ⟨vz, hvz, kvz⟩ := dqs_at ur hrj
        obtain ⟨vt, hvt, kvt⟩ := dqs_at ut (i := j) (d := dotD p (ws.take i) ((R.map fun r => r.getD j .none).take i) (zeroD p)) (by rw [List.getElem?_map, List.getElem?_range hj]; rfl)
        have nz := nri _ (List.mem_of_getElem? hrj)
        rw [egd] at nx
        generalize dotD p (ws.take i) ((R.map fun r => r.getD j .none).take i) (zeroD p) = ac0 at *
        have nt := timesD_nb nwi nz
        refine ⟨_, rfl, _, rfl, _, rfl, t, ts, 0 + (j : Int), vt, rfl, rfl, SqL.of (s3 _ _ et), at_of (j := j) (by omega) hvt, ?_⟩
        refine ⟨_, rfl, _, rfl, _, rfl, ax, xs, 0 + (i : Int), vw, rfl, rfl, SqL.of ((sm.trans s3) _ _ ex), at_of (j := i) (by omega) hvw, ?_⟩
        refine ⟨_, rfl, _, rfl, ay, ys, 0 + (i : Int), .ref ar, rfl, rfl, SqL.of ((sm.trans s3) _ _ ey), at_of (j := i) (by omega) hvr, ?_⟩
        refine ⟨_, rfl, ar, zs, 0 + (j : Int), vz, rfl, rfl, SqL.of ((sm.trans s3) _ _ er), at_of (j := j) (by omega) hvz, ?_⟩
        refine ⟨p, vw, vz, wi, _, rfl, kvw.same (sm.trans s3), kvz.same (sm.trans s3), nwi.up (by decide), nz.up (by decide), fp.le, fun v4 H4 s4 k4 => ?_⟩
        refine ⟨p, vt, v4, _, _, rfl, (kvt.same s3).same s4, k4, accN.up (by decide), nt.up (by decide), fp.le, fun v5 H5 s5 k5 => ?_⟩
        refine q1 v5 H5 (s4.trans s5) ?_
        rw [nx]
        exact dq_noL ((s4.trans s5) _ _ hac) _ (nb_noL (plusD_nb accN nt)) k5
      · rw [List.filter_eq_self.mpr fun _ _ => rfl] at kD3
        exact ⟨D2, _, _, rfl, sm.trans s3, kD3⟩
    · obtain ⟨t, y4, y6, rfl, sm, kt⟩ := hP
      have e1 : ((List.range n).map fun j => dotD p (ws.take R.length) ((R.map fun r => r.getD j .none).take R.length) (zeroD p)) = (List.range n).map fun j => dotD p ws (R.map fun r => r.getD j .none) (zeroD p) := by
        refine List.map_congr_left fun j _ => ?_
        rw [List.take_of_length_le (by omega), List.take_of_length_le (by rw [List.length_map]; omega)]
      rw [e1] at kt
      refine ⟨_, rfl, .ref t, _, _, rfl, kt, rfl, fun l H4 s4 k4 => q (.ref l) H4 (sm.trans s4) k4⟩
end
end K25
set_option Elab.async false
set_option linter.all false
set_option maxRecDepth 100000
set_option maxHeartbeats 4000000
set_option exponentiation.threshold 5000
set_option pp.maxSteps 900
namespace K25
open PySem PySem.Spec PyProof.Rows L2 TkS LamX NdefX
/-- a meet, as it stands in the heap -/
structure MtO (C : Addr) (H : Hp) (a : Addr) (x y z : PyData) : Prop where
  at_ : ∃ dx vx vy vz, H a = some (.ins C dx [("first", vx), ("second", vy), ("row", vz)]) ∧ Dq H vx x ∧ Dq H vy y ∧ Dq H vz z
theorem MtO.same {C : Addr} {H H' : Hp} {a : Addr} {x y z : PyData} (h : MtO C H a x y z) (s : Same H H') : MtO C H' a x y z := by
  obtain ⟨dx, vx, vy, vz, h1, h2, h3, h4⟩ := h.at_
  exact ⟨dx, vx, vy, vz, s _ _ h1, h2.same s, h3.same s, h4.same s⟩
def sp_Meet_init (C : Addr) : Sp := fun vs H Q _ => ∃ (a dx : Addr) (vx vy vz : V) (x y z : PyData), vs = [.ref a, vx, vy, vz] ∧ H a = some (.ins C dx []) ∧ Dq H vx x ∧ Dq H vy y ∧ Dq H vz z ∧ ∀ H', KeepA a H H' → MtO C H' a x y z → Q .non H'
theorem mk_meet {C : Addr} {H1 : Hp} {R : Addr → Hp → Prop} {E : XK} {vx vy vz : V} {x y z : PyData} (kx : Dq H1 vx x) (ky : Dq H1 vy y) (kz : Dq H1 vz z) (hQ : ∀ H' a, Same H1 H' → H1 a = none → MtO C H' a x y z → R a H') :
    ∀ y' dx, H1 y' = none → H1 dx = none → dx ≠ y' → sp_Meet_init C (.ref y' :: ([vx, vy, vz] ++ [])) (upd (upd H1 dx (.own y')) y' (.ins C dx [])) (fun v H2 => v = .non ∧ R y' H2) E := fun y' dx nx nd ne => by
  have s0 : Same H1 (upd (upd H1 dx (.own y')) y' (.ins C dx [])) := Same.made nx nd fun b o e _ => e
  exact ⟨y', dx, vx, vy, vz, x, y, z, rfl, upd_same, kx.same s0, ky.same s0, kz.same s0, fun H' k m => ⟨rfl, hQ H' y' (Same.made nx nd k) nx m⟩⟩
section
variable {P : Program} {w : World} {K : PySem.W.Frag} {mg : Str → Option Value} {base : Heap} {cw Pw : Addr × Addr}
theorem ok_Meet_init (T : Txt K mg) : FnOk P w K mg base CX0 1 T.f_Meet_init T.d_Meet_init ["self", "first", "second", "row"] (sp_Meet_init T.C_Meet) := by
  refine T.F_Meet_init.ok sc_Meet_init (fun vs H Q E h => ?_) (fun cdv A outer s H vs Q E hr h => ?_)
  · obtain ⟨a, dx, vx, vy, vz, x, y, z, rfl, _⟩ := h
    rfl
  · obtain ⟨a, dx, vx, vy, vz, x, y, z, rfl, ha, kx, ky, kz, q⟩ := h
    refine ⟨_, (pss_cons (ps_fld (pv 0) (pv 1) rfl)
      (pss_cons (ps_fld (pv 0) (pv 2) rfl)
      (pss_one (ps_fld (pv 0) (pv 3) rfl)))), ?_⟩
    refine ⟨_, rfl, _, rfl, a, T.C_Meet, dx, [], rfl, ha, T.cl_Meet, T.na_Meet_first, by decide, ?_⟩
    refine ⟨_, rfl, _, rfl, a, T.C_Meet, dx, _, rfl, upd_same, T.cl_Meet, T.na_Meet_second, (by show (1 : Nat) < 1000; decide), ?_⟩
    refine ⟨_, rfl, _, rfl, a, T.C_Meet, dx, _, rfl, upd_same, T.cl_Meet, T.na_Meet_row, (by show (2 : Nat) < 1000; decide), ?_⟩
    refine q _ (((KeepA.put (fun b o e _ => e)).put).put) ⟨dx, vx, vy, vz, upd_same, ?_, ?_, ?_⟩
    · exact dq_put upd_same _ (dq_put upd_same _ (dq_put ha _ kx))
    · exact dq_put upd_same _ (dq_put upd_same _ (dq_put ha _ ky))
    · exact dq_put upd_same _ (dq_put upd_same _ (dq_put ha _ kz))
end
end K25
set_option Elab.async false
set_option linter.all false
set_option maxRecDepth 100000
set_option maxHeartbeats 4000000
set_option exponentiation.threshold 5000
set_option pp.maxSteps 900
namespace K25
open PySem PySem.Spec PyProof.Rows L2 TkS LamX NdefX
def colD (L : List PyData) (j : Nat) : List PyData := L.map fun d => (rowOf d).getD j .none
theorem noLs_mem : ∀ {ds : List PyData} {d : PyData}, noLists ds = true → d ∈ ds → noList d = true
  | x :: ds, d, h, m => by
    have h' : (noList x && noLists ds) = true := h
    obtain ⟨a, b⟩ := Bool.and_eq_true_iff.mp h'
    rcases List.mem_cons.mp m with rfl | m
    · exact a
    · exact noLs_mem b m
def sp_columns_of : Sp := fun vs H Q _ => ∃ (n : Nat) (x : V) (d : PyData) (L : List PyData), vs = [.int (n : Int), x] ∧ n ≤ 900 ∧ Dq H x d ∧ itemsD d = some L ∧ L.length ≤ 900 ∧ (∀ e ∈ L, ∃ r, itemsD e = some r ∧ n ≤ r.length ∧ noLists r = true) ∧
  ∀ D H', Same H H' → H D = none → Dq H' (.ref D) (.list ((List.range n).map fun j => .list (colD L j))) → Q (.ref D) H'
section
variable {P : Program} {w : World} {K : PySem.W.Frag} {mg : Str → Option Value} {base : Heap} {cw Pw : Addr × Addr}
theorem ok_columns_of (T : Txt K mg) : FnOk P w K mg base CX0 1 T.f_columns_of T.d_columns_of ["width", "rows"] sp_columns_of := by
  refine T.F_columns_of.ok sc_columns_of (fun vs H Q E h => ?_) (fun cdv A outer s H vs Q E hr h => ?_)
  · obtain ⟨n, x, d, L, rfl, _⟩ := h
    rfl
  · obtain ⟨n, x, d, L, rfl, n9, kx, ed, l9, al, q⟩ := h
    refine ⟨_, (pss_one (ps_ret (pe_lc rfl sc_columns_of.nd (pi_range1 (by rfl) T.m_range (pa_cons (pv 0) pa_nil)) (blkOk_by (own := [("place", 2)]) (N := ["width", "rows", "place", "row"]) (sc := defScope s_columns_of) (by decide +kernel)) (fun _ _ _ _ _ => (pg_name (i := 2) sc_columns_of.nd rfl (.inr rfl))) (fun _ _ _ _ _ => pts_nil) (fun _ _ _ _ _ => (show PE _ _ (tLc (iSeq K (tVar 1)) (gName 3) tYes (tOp (rIx K) (tVar 3) (tVar 2)) [3]) from pe_lc (own := [("row", 3)]) rfl sc_columns_of.nd (pi_seq (pv 1)) (by show BlkOk ["width", "rows", "place", "row"] { kind := .function, names := [(".0", .local), ("place", .cell), ("rows", .cell)], isGenerator := false, isCoroutine := false } _ _; exact blkOk_by (by decide +kernel)) (fun _ _ _ _ _ => (pg_name (i := 3) sc_columns_of.nd rfl (.inl rfl))) (fun _ _ _ _ _ => pts_nil) (fun _ _ _ _ _ => (pe_ix ix_seq (pv 3) (pv 2) (fun _ _ => rfl)))))))), ?_⟩
    obtain ⟨ax, xs, rfl, hxs, hsx⟩ := sq_of (K := K) kx ed
    refine ⟨_, rfl, (n : Int), rfl, by omega, by omega, fun D nD => ?_⟩
    rw [show ((n : Nat) : Int).toNat = n by omega]
    refine lc_rngD (fun _ => true) (fun j => .list (colD L j)) nD (by omega) (fun _ => rfl) (fun j H1 Q1 hj s1 q1 => q1 _ fun _ _ z => z) (fun j H1 Q1 hj _ s1 acc q1 => ?_) (fun H1 s1 kD => ?_)
    · obtain ⟨ac, hac⟩ := acc
      refine lc_seqD (f := fun _ => true) (e := fun d => (rowOf d).getD j .none) (fun Q h => ⟨_, rfl, h⟩) (hsx.same s1) (DqAll.same s1 _ hxs) l9 (fun x => rfl) (fun i x d H' Q _ _ _ h => h _ fun _ _ z => z) (fun D2 i y e H2 Q2 nD2 he _ s2 k2 acc2 q2 => ?_) (fun D2 H2 nD2 s2 kd => ?_)
      · obtain ⟨ac2, hac2⟩ := acc2
        obtain ⟨r, er, nr, nl⟩ := al e (List.mem_of_getElem? he)
        obtain ⟨ay, ys, rfl, hys, hsy⟩ := sq_of (K := K) k2 er
        have hr' := List.getElem?_eq_getElem (show j < r.length by omega)
        obtain ⟨z, hz, kz⟩ := dqs_at hys hr'
        have eg : (rowOf e).getD j .none = r[j] := by
          unfold rowOf
          rw [er]
          show r.getD j .none = _
          rw [List.getD_eq_getElem?_getD, hr']
          rfl
        refine ⟨_, rfl, _, rfl, ?_⟩
        refine rix_sq hsy (at_of (j := j) (by omega) hz) ?_
        refine q2 _ _ (fun _ _ z => z) ?_
        rw [eg]
        exact dq_noL hac2 _ (noLs_mem nl (List.getElem_mem _)) kz
      · rw [List.filter_eq_self.mpr fun _ _ => rfl] at kd
        refine q1 _ H2 s2 ?_
        have hac2 := s2 _ _ hac
        cases kd with
        | lst e u =>
          refine .lst (off_at (fun z => ?_) e) (dqs_noL hac2 _ (noLs_all fun x m => ?_) u)
          · rw [z, hac] at nD2
            cases nD2
          · obtain ⟨e', m', rfl⟩ := List.mem_map.mp m
            obtain ⟨r, er, nr, nl⟩ := al e' m'
            unfold rowOf
            rw [er]
            show noList (r.getD j .none) = true
            rw [List.getD_eq_getElem?_getD, List.getElem?_eq_getElem (show j < r.length by omega)]
            exact noLs_mem nl (List.getElem_mem _)
    · rw [List.filter_eq_self.mpr fun _ _ => rfl] at kD
      exact q D H1 s1 nD kD
end
end K25
set_option Elab.async false
set_option linter.all false
set_option maxRecDepth 100000
set_option maxHeartbeats 4000000
set_option exponentiation.threshold 5000
set_option pp.maxSteps 900
namespace K25
open PySem PySem.Spec PyProof.Rows L2 TkS LamX NdefX
/-- rows, at least one, all of n numbers -/
def sp_columns_as_rows : Sp := fun vs H Q _ => ∃ (n : Nat) (x : V) (d : PyData) (L : List PyData), vs = [x] ∧ n ≤ 900 ∧ Dq H x d ∧ itemsD d = some L ∧ 1 ≤ L.length ∧ L.length ≤ 900 ∧ (∀ e ∈ L, ∃ r, itemsD e = some r ∧ r.length = n ∧ noLists r = true) ∧
  ∀ D H', Same H H' → H D = none → Dq H' (.ref D) (.list ((List.range n).map fun j => .list (colD L j))) → Q (.ref D) H'
section
variable {P : Program} {w : World} {K : PySem.W.Frag} {mg : Str → Option Value} {base : Heap} {cw Pw : Addr × Addr}
theorem ok_columns_as_rows (T : Txt K mg) : FnOk P w K mg base CX0 2 T.f_columns_as_rows T.d_columns_as_rows ["rows"] sp_columns_as_rows := by
  refine T.F_columns_as_rows.ok sc_columns_as_rows (fun vs H Q E h => ?_) (fun cdv A outer s H vs Q E hr h => ?_)
  · obtain ⟨n, x, d, L, rfl, _⟩ := h
    rfl
  · obtain ⟨n, x, d, L, rfl, n9, kx, ed, l1, l9, al, q⟩ := h
    refine ⟨_, (pss_one (ps_ret (pe_ifExp (pt_truth (pv 0) (by intro _; rfl)) (pe_call (ok_columns_of T) (hr.mono (by decide)) (by rfl) T.g_columns_of T.F_columns_of.kp T.b_columns_of .nil pass0 (pa_cons (pe_callB call_len_seq (by rfl) T.m_len (by decide +kernel) (pa_cons (pe_ix ix_seq (pv 0) pe_int (fun _ _ => rfl)) pa_nil)) (pa_cons (pv 0) pa_nil))) (pe_lst pa_nil)))), ?_⟩
    obtain ⟨ax, xs, rfl, hxs, hsx⟩ := sq_of (K := K) kx ed
    have lx := hxs.len
    have he0 := List.getElem?_eq_getElem (show 0 < L.length by omega)
    obtain ⟨x0, hx0, kx0⟩ := dqs_at hxs he0
    obtain ⟨r0, er0, lr0, nl0⟩ := al _ (List.getElem_mem (show 0 < L.length by omega))
    obtain ⟨a0, x0s, rfl, hx0s, hs0⟩ := sq_of (K := K) kx0 er0
    have l0 := hx0s.len
    have ne : (!xs.isEmpty) = true := by
      cases xs with
      | nil => rw [List.length_nil] at lx; omega
      | cons a b => rfl
    refine ⟨_, rfl, true, hsx.elim (fun h => .inl ⟨xs, h, ne.symm⟩) (fun h => .inr (.inl ⟨xs, h, ne.symm⟩)), iteT ?_⟩
    refine ⟨_, rfl, ?_⟩
    refine rix_sq hsx (at_of (j := 0) rfl hx0) ?_
    refine ⟨a0, x0s, rfl, hs0, _, rfl, n, .ref ax, d, L, ?_, n9, kx, ed, l9, fun e m => ?_, q⟩
    · rw [l0, lr0]
      rfl
    · obtain ⟨r, e1, e2, e3⟩ := al e m
      exact ⟨r, e1, by omega, e3⟩
end
end K25
set_option Elab.async false
set_option linter.all false
set_option maxRecDepth 100000
set_option maxHeartbeats 4000000
set_option exponentiation.threshold 5000
set_option pp.maxSteps 900
namespace K25
open PySem PySem.Spec PyProof.Rows L2 TkS LamX NdefX
section
variable {P : Program} {w : World} {K : PySem.W.Frag} {mg : Str → Option Value} {base : Heap} {cw Pw : Addr × Addr}
/-- the product of one row of weights and m rows of n numbers -/
def sp_rows_product (CR CF : Addr) : Sp := fun vs H Q _ => ∃ (f : Addr) (p n : Nat) (x y : V) (dx dy : PyData) (A B : List (List PyData)) (c c2 : List PyData → PyData), vs = [.ref f, x, y] ∧ Fld CR CF H f p ∧ (∀ r, itemsD (c r) = some r) ∧ (∀ r, itemsD (c2 r) = some r) ∧ Dq H x dx ∧ itemsD dx = some (A.map c) ∧ Dq H y dy ∧ itemsD dy = some (B.map c2) ∧
  A.length ≤ 900 ∧ 1 ≤ B.length ∧ B.length ≤ 6 ∧ n ≤ 900 ∧ (∀ r ∈ A, r.length = B.length ∧ ∀ d ∈ r, Nb p 150 d) ∧ (∀ r ∈ B, r.length = n ∧ ∀ d ∈ r, Nb p 150 d) ∧
  ∀ l H', Same H H' → Dq H' (.ref l) (rowsD (A.map fun r => (List.range n).map fun j => dotD p r (B.map fun b => b.getD j .none) (zeroD p))) → Q (.ref l) H'
theorem ret_callE {sp : Sp} {E : XK} {te : TE} {D : Ends} {σ : L2.St} {H : Hp} (h : te σ H fun v H1 => sp ([v] ++ []) H1 D.rt E) : tRet (tCall sp [] E (tCons te tNil)) D σ H := h
theorem ok_rows_product (T : Txt K mg) : FnOk P w K mg base CX0 8 T.f_rows_product T.d_rows_product ["field", "rows", "others"] (sp_rows_product T.C_RestField T.C_FractionField) := by
  refine T.F_rows_product.ok sc_rows_product (fun vs H Q E h => ?_) (fun cdv A outer s H vs Q E hr h => ?_)
  · obtain ⟨f, p, n, x, y, dx, dy, A, B, c, c2, rfl, _⟩ := h
    rfl
  · obtain ⟨f, p, n, x, y, dx, dy, A', B, c, c2, rfl, hf, hc, hc2, kx, ex, ky, ey, a9, b1, b6, n9, hA, hB, q⟩ := h
    refine ⟨_, (pss_cons (ps_set (i := 3) sc_rows_product.nd rfl (.inr rfl) (pe_call (ok_columns_as_rows T) (hr.mono (by decide)) (by rfl) T.g_columns_as_rows T.F_columns_as_rows.kp T.b_columns_as_rows .nil pass0 (pa_cons (pv 2) pa_nil)))
      (pss_one (ps_ret (pe_call (ok_as_tuples T) (hr.mono (by decide)) (by rfl) T.g_as_tuples T.F_as_tuples.kp T.b_as_tuples .nil pass0 (pa_cons (pe_lc rfl sc_rows_product.nd (pi_seq (pv 1)) (blkOk_by (own := [("row", 4)]) (N := ["field", "rows", "others", "columns", "row", "column"]) (sc := defScope s_rows_product) (by decide +kernel)) (fun _ _ _ _ _ => (pg_name (i := 4) sc_rows_product.nd rfl (.inr rfl))) (fun _ _ _ _ _ => pts_nil) (fun _ _ _ _ _ => (show PE _ _ (tLc (iSeq K (tVar 3)) (gName 5) tYes (tCall (sp_product_sum T.C_RestField T.C_FractionField) [] E0 (tCons (tVar 0) (tCons (tVar 4) (tCons (tVar 5) tNil)))) [5]) from pe_lc (own := [("column", 5)]) rfl sc_rows_product.nd (pi_seq (pv 3)) (by show BlkOk ["field", "rows", "others", "columns", "row", "column"] { kind := .function, names := [(".0", .local), ("row", .cell), ("columns", .cell), ("field", .cell)], isGenerator := false, isCoroutine := false } _ _; exact blkOk_by (by decide +kernel)) (fun _ _ _ _ _ => (pg_name (i := 5) sc_rows_product.nd rfl (.inl rfl))) (fun _ _ _ _ _ => pts_nil) (fun _ _ _ _ _ => (pe_call (ok_product_sum T) (hr.mono (by decide)) (by rfl) T.g_product_sum T.F_product_sum.kp T.b_product_sum .nil pass0 (pa_cons (pv 0) (pa_cons (pv 4) (pa_cons (pv 5) pa_nil)))))))) pa_nil))))), ?_⟩
    have nlB : ∀ e ∈ B.map c2, ∃ r, itemsD e = some r ∧ r.length = n ∧ noLists r = true := fun e m => by
      obtain ⟨r, mr, rfl⟩ := List.mem_map.mp m
      exact ⟨r, hc2 r, (hB r mr).1, noLs_all fun d md => nb_noL ((hB r mr).2 d md)⟩
    refine ⟨_, rfl, n, y, dy, B.map c2, rfl, n9, ky, ey, by rw [List.length_map]; exact b1, by rw [List.length_map]; omega, nlB, fun Dc H1 s1 nDc kc => ?_⟩
    dsimp only
    have fp := hf.fp
    have ec : ∀ j, colD (B.map c2) j = B.map fun b => b.getD j .none := fun j => by
      unfold colD
      rw [List.map_map]
      refine List.map_congr_left fun b _ => ?_
      show ((itemsD (c2 b)).getD []).getD j .none = _
      rw [hc2 b]
      rfl
    obtain ⟨ax, xs, rfl, hxs, hsx⟩ := sq_of (K := K) (kx.same s1) ex
    obtain ⟨_, cs, z, hcs, hsc⟩ := sq_of (K := K) kc rfl
    cases z
    have nbc : ∀ j, j < n → ∀ d ∈ (B.map fun b => b.getD j .none), Nb p 150 d := fun j hj d m => by
      obtain ⟨b, mb, rfl⟩ := List.mem_map.mp m
      obtain ⟨l, nb⟩ := hB b mb
      rw [List.getD_eq_getElem?_getD, List.getElem?_eq_getElem (show j < b.length by omega)]
      exact nb _ (List.getElem_mem _)
    have nbd : ∀ r ∈ A', ∀ j, j < n → Nb p 1807 (dotD p r (B.map fun b => b.getD j .none) (zeroD p)) := fun r mr j hj => (dot_nb (hA r mr).2 (nbc j hj) (nb_zero fp (Nat.le_refl 1))).up (by have := (hA r mr).1; omega)
    refine ret_callE ?_
    refine lc_seqD (f := fun _ => true) (e := fun d => .list ((List.range n).map fun j => dotD p (rowOf d) (B.map fun b => b.getD j .none) (zeroD p))) (fun Q h => ⟨_, rfl, h⟩) hsx hxs (by rw [List.length_map]; omega) (fun x => rfl) (fun i x d H' Q _ _ _ h => h _ fun _ _ z => z) (fun D i x d H2 Q2 nD hd0 _ s2 k2 acc q2 => ?_) (fun D H2 nD s2 kd => ?_)
    · obtain ⟨ac, hac⟩ := acc
      rw [List.getElem?_map] at hd0
      obtain ⟨r, hr', rfl⟩ := Option.map_eq_some_iff.mp hd0
      have mr := List.mem_of_getElem? hr'
      have er : rowOf (c r) = r := by
        unfold rowOf
        rw [hc r]
        rfl
      rw [er] at q2
      refine lc_seqD (f := fun _ => true) (e := fun d => dotD p r (rowOf d) (zeroD p)) (fun Q h => ⟨_, rfl, h⟩) (hsc.same s2) (DqAll.same s2 _ hcs) (by rw [List.length_map, List.length_range]; omega) (fun x => rfl) (fun i x d H' Q _ _ _ h => h _ fun _ _ z => z) (fun D2 j y e H3 Q3 nD2 he _ s3 k3 acc2 q3 => ?_) (fun D2 H3 nD2 s3 kd => ?_)
      · obtain ⟨ac2, hac2⟩ := acc2
        rw [List.getElem?_map] at he
        obtain ⟨j', hj', rfl⟩ := Option.map_eq_some_iff.mp he
        have hjn : j' < n := List.mem_range.mp (List.mem_of_getElem? hj')
        have ej : rowOf (PyData.list (colD (B.map c2) j')) = B.map fun b => b.getD j' .none := by
          show colD (B.map c2) j' = _
          exact ec j'
        rw [ej] at q3
        exact ⟨_, rfl, _, rfl, _, rfl, f, p, x, y, c r, _, r, _, rfl, (hf.same s1).same (s2.trans s3), k2.same s3, hc r, k3, congrArg some (ec j'), by rw [(hA r mr).1, List.length_map], by rw [(hA r mr).1]; exact b6, (hA r mr).2, nbc j' hjn, fun v H4 s4 kv => q3 v H4 s4 (dq_noL (s4 _ _ hac2) _ (nb_noL (nbd r mr j' hjn)) kv)⟩
      · rw [List.filter_eq_self.mpr fun _ _ => rfl, List.map_map] at kd
        have hac3 := s3 _ _ hac
        have e2 : (List.range n).map ((fun d => dotD p r (rowOf d) (zeroD p)) ∘ fun j => PyData.list (colD (B.map c2) j)) = (List.range n).map fun j => dotD p r (B.map fun b => b.getD j .none) (zeroD p) := List.map_congr_left fun j _ => by
          show dotD p r (colD (B.map c2) j) (zeroD p) = _
          rw [ec j]
        rw [e2] at kd
        refine q2 _ H3 s3 ?_
        cases kd with
        | lst e u =>
          refine .lst (off_at (fun z => by rw [z, hac] at nD2; cases nD2) e) (dqs_noL hac3 _ (noLs_all fun d md => ?_) u)
          obtain ⟨j, mj, rfl⟩ := List.mem_map.mp md
          exact nb_noL (nbd r mr j (List.mem_range.mp mj))
    · rw [List.filter_eq_self.mpr fun _ _ => rfl, List.map_map] at kd
      refine ⟨.ref D, _, _, rfl, kd, rfl, by rw [List.length_map]; omega, fun e m => ?_, fun l H3 s3 k3 => q l H3 ((s1.trans s2).trans s3) ?_⟩
      · obtain ⟨r, mr, rfl⟩ := List.mem_map.mp m
        refine ⟨_, rfl, noLs_all fun d md => ?_⟩
        obtain ⟨j, mj, rfl⟩ := List.mem_map.mp md
        have er : rowOf (c r) = r := by
          unfold rowOf
          rw [hc r]
          rfl
        rw [er]
        exact nb_noL (nbd r mr j (List.mem_range.mp mj))
      · have e3 : tupsD (.list (A'.map ((fun d => PyData.list ((List.range n).map fun j => dotD p (rowOf d) (B.map fun b => b.getD j .none) (zeroD p))) ∘ c))) = rowsD (A'.map fun r => (List.range n).map fun j => dotD p r (B.map fun b => b.getD j .none) (zeroD p)) := by
          show PyData.tuple ((A'.map _).map _) = PyData.tuple ((A'.map _).map _)
          rw [List.map_map, List.map_map]
          refine congrArg PyData.tuple (List.map_congr_left fun r _ => ?_)
          show PyData.tuple ((List.range n).map fun j => dotD p (rowOf (c r)) _ _) = _
          have er : rowOf (c r) = r := by
            unfold rowOf
            rw [hc r]
            rfl
          rw [er]
          rfl
        rw [e3] at k3
        exact k3
end
end K25
set_option Elab.async false
set_option linter.all false
set_option maxRecDepth 100000
set_option maxHeartbeats 4000000
set_option exponentiation.threshold 5000
set_option pp.maxSteps 900
namespace TkS
open PySem PySem.Spec PyProof.Rows L2
def tOr (t1 t2 : TE) : TE := fun σ H Q => t1 σ H Q ∨ t2 σ H Q
theorem pe_orT {X : Cx} {e : Expr} {t1 t2 : TE} (a : PE X e t1) (b : PE X e t2) : PE X e (tOr t1 t2) := pe_or2 a b
end TkS
namespace K25
open PySem PySem.Spec PyProof.Rows L2 TkS LamX NdefX
theorem nb_rs {p k : Nat} {d : PyData} (h : Nb p k d) (n : p ≠ 0) : ∃ x : Nat, d = .int (x : Int) ∧ x < p := by
  cases h with
  | fr _ _ _ => exact absurd rfl n
  | @rs p k x _ l => exact ⟨x, rfl, l⟩
theorem nb_fr0 {k : Nat} {d : PyData} (h : Nb 0 k d) : ∃ q, d = frD q ∧ Lowest q ∧ Fin k q.1 ∧ Fin k q.2 := by
  generalize e0 : 0 = p0 at h
  cases h with
  | @fr k q a b c => exact ⟨q, rfl, a, b, c⟩
  | rs n _ => exact absurd e0.symm n
/-- either field's times -/
theorem two_times {CR CF : Addr} {H : Hp} {f : Addr} {p k : Nat} {x y : V} {a b : PyData} {Q : VK} {E : XK} (hf : Fld CR CF H f p) (kx : Dq H x a) (ky : Dq H y b) (na : Nb p k a) (nb : Nb p k b) (hk : k ≤ 900) (q : ∀ v H', Same H H' → Dq H' v (timesD p a b) → Q v H') :
    (∃ dx fs, H f = some (.ins CR dx fs) ∧ fs.lookup ("times" : Str) = none ∧ sp_rest CR (· * ·) [.ref f, x, y] H Q E) ∨ (∃ dx fs, H f = some (.ins CF dx fs) ∧ fs.lookup ("times" : Str) = none ∧ sp_fr2 CF timesF [.ref f, x, y] H Q E) := by
  by_cases p0 : p = 0
  · subst p0
    obtain ⟨q1, rfl, l1, f1, g1⟩ := nb_fr0 na
    obtain ⟨q2, rfl, l2, f2, g2⟩ := nb_fr0 nb
    obtain ⟨dx, z, o, n, ea, _⟩ := (hf.fr rfl).at_
    refine .inr ⟨dx, _, ea, rfl, f, x, y, q1, q2, rfl, hf.fr rfl, kx, ky, ⟨l1, fin_up f1 (by omega), fin_up g1 (by omega)⟩, ⟨l2, fin_up f2 (by omega), fin_up g2 (by omega)⟩, fun l H' s k3 => q _ H' s ?_⟩
    unfold timesD
    rw [if_pos rfl]
    exact k3
  · obtain ⟨x1, rfl, l1⟩ := nb_rs na p0
    obtain ⟨x2, rfl, l2⟩ := nb_rs nb p0
    obtain ⟨⟨dx, ha⟩, pr, le⟩ := id (hf.rs p0)
    cases kx
    cases ky
    refine .inl ⟨dx, _, ha, rfl, f, p, (x1 : Int), (x2 : Int), rfl, hf.rs p0, med_nat l1 le, med_nat l2 le, q _ H (fun _ _ z => z) ?_⟩
    unfold timesD
    rw [if_neg p0]
    exact .int _
theorem nbs_lay {p k : Nat} : ∀ {l : List PyData}, (∀ d ∈ l, Nb p k d) → PyData.canLayAll0 l = true ∧ PyData.depthAll l ≤ 1
  | [], _ => ⟨rfl, by simp [PyData.depthAll]⟩
  | d :: ds, h => by
    obtain ⟨a, b⟩ := nbs_lay (l := ds) fun e m => h e (List.mem_cons_of_mem _ m)
    have x : PyData.canLay0 d = true ∧ PyData.depth d ≤ 1 := by
      have n := h d List.mem_cons_self
      cases n with
      | fr _ _ _ => exact ⟨by simp [frD, PyData.canLay0, PyData.canLayAll0], by simp [frD, PyData.depth, PyData.depthAll]⟩
      | rs _ _ => exact ⟨by simp [PyData.canLay0], by simp [PyData.depth]⟩
    refine ⟨by simp [PyData.canLayAll0, a, x.1], ?_⟩
    simp only [PyData.depthAll]
    omega
theorem nbs_shp {p k : Nat} {l : List PyData} (h : ∀ d ∈ l, Nb p k d) : SeqAt.shaped (.tuple l) = true ∧ SeqAt.shaped (.list l) = true := by
  obtain ⟨a, b⟩ := nbs_lay h
  unfold SeqAt.shaped
  rw [Bool.and_eq_true, decide_eq_true_eq, Bool.and_eq_true, decide_eq_true_eq]
  refine ⟨⟨by simp only [PyData.canLay0, a], ?_⟩, ⟨by simp only [PyData.canLay0, a], ?_⟩⟩ <;> simp only [PyData.depth] <;> omega
theorem nbs_all {p k m : Nat} : ∀ {l n : List PyData}, (∀ d ∈ l, Nb p k d) → (∀ d ∈ n, Nb p m d) → (PyData.eqvAll l n = true ↔ l = n)
  | [], [], _, _ => by simp [PyData.eqvAll]
  | [], _ :: _, _, _ => by simp [PyData.eqvAll]
  | _ :: _, [], _, _ => by simp [PyData.eqvAll]
  | d :: ds, e :: es, h, g => by
    have ih := nbs_all (l := ds) (n := es) (fun e m => h e (List.mem_cons_of_mem _ m)) fun e m => g e (List.mem_cons_of_mem _ m)
    have nd := h d List.mem_cons_self
    have ne := g e List.mem_cons_self
    rw [PyData.eqvAll, Bool.and_eq_true, ih]
    by_cases c : d = e
    · rw [c, nb_self ne]
      simp
    · rw [nb_ne nd ne c]
      simp [c]
theorem nbs_tup {p k m : Nat} {l n : List PyData} (h : ∀ d ∈ l, Nb p k d) (g : ∀ d ∈ n, Nb p m d) : PyData.eqv (.tuple l) (.tuple n) = true ↔ l = n := by
  rw [PyData.eqv]
  exact nbs_all h g
theorem go_times {CR CF : Addr} {E : XK} {i : Nat} {t : TA} {σ : L2.St} {H : Hp} {f : Addr} {p k : Nat} {x y : V} {a b : PyData} {Q : VK} (h0 : σ[i]? = some (some (.ref f))) (ht : ∀ R : List V → Hp → Prop, R [x, y] H → t σ H R) (hf : Fld CR CF H f p) (kx : Dq H x a) (ky : Dq H y b) (na : Nb p k a) (nb : Nb p k b) (hk : k ≤ 900)
    (q : ∀ v H', Same H H' → Dq H' v (timesD p a b) → Q v H') : tOr (tMeth CR "times" (sp_rest CR (· * ·)) [] E (tVar i) t) (tMeth CF "times" (sp_fr2 CF timesF) [] E (tVar i) t) σ H Q := by
  rcases two_times (E := E) hf kx ky na nb hk q with ⟨dx, fs, hc, nf, sp⟩ | ⟨dx, fs, hc, nf, sp⟩
  · exact .inl ⟨_, h0, f, dx, fs, rfl, hc, nf, ht _ sp⟩
  · exact .inr ⟨_, h0, f, dx, fs, rfl, hc, nf, ht _ sp⟩
/-- two numbers that decide where a line meets two walls -/
def decD (p : Nat) (a b c d : PyData) : PyData × PyData := if PyData.eqv (.tuple [a, b]) (.tuple [zeroD p, zeroD p]) = true then (c, d) else (a, b)
def fairB (p : Nat) (a b c d : PyData) : Bool := PyData.eqv (timesD p a d) (timesD p b c)
def rowD (p n : Nat) (x y : PyData) (r1 r2 : List PyData) : List PyData := (List.range n).map fun j => dotD p [x, y] [r1.getD j .none, r2.getD j .none] (zeroD p)
def meetX (p : Nat) (a b c d : PyData) : PyData := w1D p (decD p a b c d).2
def meetY (p : Nat) (a b c d : PyData) : PyData := w2D p (decD p a b c d).1 (decD p a b c d).2
theorem two_shp {p k m : Nat} {x y : PyData} (nx : Nb p k x) (ny : Nb p m y) : SeqAt.shaped (.tuple [x, y]) = true := (nbs_shp (p := p) (k := k + m) (l := [x, y]) fun d md => by
  rcases List.mem_cons.mp md with rfl | md
  · exact nx.up (by omega)
  · rw [List.mem_singleton.mp md]
    exact ny.up (by omega)).1
def sp_line_meets (CR CF C CM : Addr) : Sp := fun vs H Q _ => ∃ (a f : Addr) (p n : Nat) (R S : List (List PyData)) (m : Int) (i1 i2 j1 j2 : Nat) (r1 r2 s t : List PyData), vs = [.ref a, .int (i1 : Int), .int (i2 : Int), .int (j1 : Int), .int (j2 : Int)] ∧ SpO C H a f (rowsD R) (rowsD S) m ∧ Fld CR CF H f p ∧ Gd p n R ∧ Gd p n S ∧
  R[i1]? = some r1 ∧ R[i2]? = some r2 ∧ S[j1]? = some s ∧ S[j2]? = some t ∧
  Nb p 150 (dotD p r1 s (zeroD p)) ∧ Nb p 150 (dotD p r2 s (zeroD p)) ∧ Nb p 150 (dotD p r1 t (zeroD p)) ∧ Nb p 150 (dotD p r2 t (zeroD p)) ∧
  ∀ x y, x = meetX p (dotD p r1 s (zeroD p)) (dotD p r2 s (zeroD p)) (dotD p r1 t (zeroD p)) (dotD p r2 t (zeroD p)) → y = meetY p (dotD p r1 s (zeroD p)) (dotD p r2 s (zeroD p)) (dotD p r1 t (zeroD p)) (dotD p r2 t (zeroD p)) →
  Nb p 150 x ∧ Nb p 150 y ∧
  (fairB p (dotD p r1 s (zeroD p)) (dotD p r2 s (zeroD p)) (dotD p r1 t (zeroD p)) (dotD p r2 t (zeroD p)) = false → ∀ H', Same H H' → Q .non H') ∧
  (fairB p (dotD p r1 s (zeroD p)) (dotD p r2 s (zeroD p)) (dotD p r1 t (zeroD p)) (dotD p r2 t (zeroD p)) = true → ∀ l H', Same H H' → MtO CM H' l x y (.tuple (rowD p n x y r1 r2)) → Q (.ref l) H')
section
variable {P : Program} {w : World} {K : PySem.W.Frag} {mg : Str → Option Value} {base : Heap} {cw Pw : Addr × Addr}
theorem ok_line_meets (T : Txt K mg) : FnOk P w K mg base CX0 10 T.f_line_meets T.d_line_meets ["space", "p", "q", "u", "v"] (sp_line_meets T.C_RestField T.C_FractionField T.C_Space T.C_Meet) := by
  refine T.F_line_meets.ok sc_line_meets (fun vs H Q E h => ?_) (fun cdv A outer s H vs Q E hr h => ?_)
  · obtain ⟨a, f, p, n, R, S, m, i1, i2, j1, j2, r1, r2, s, t, rfl, _⟩ := h
    rfl
  · obtain ⟨a, f, p, n, R, S, m, i1, i2, j1, j2, r1, r2, s, t, rfl, so, hf, gR, gS, hr1, hr2, hs, ht, na, nb, nc, nd, q⟩ := h
    refine ⟨_, (pss_cons (ps_set (i := 5) sc_line_meets.nd rfl (.inl rfl) (pe_fld (pv 0) rfl))
      (pss_cons (ps_set (i := 6) sc_line_meets.nd rfl (.inl rfl) (pe_tup (pa_cons (pe_call (ok_number_at T) (hr.mono (by decide)) (by rfl) T.g_number_at T.F_number_at.kp T.b_number_at .nil pass0 (pa_cons (pv 0) (pa_cons (pv 1) (pa_cons (pv 3) pa_nil)))) (pa_cons (pe_call (ok_number_at T) (hr.mono (by decide)) (by rfl) T.g_number_at T.F_number_at.kp T.b_number_at .nil pass0 (pa_cons (pv 0) (pa_cons (pv 2) (pa_cons (pv 3) pa_nil)))) pa_nil))))
      (Evl.pss_cut (ps_set (i := 7) sc_line_meets.nd rfl (.inl rfl) (pe_tup (pa_cons (pe_call (ok_number_at T) (hr.mono (by decide)) (by rfl) T.g_number_at T.F_number_at.kp T.b_number_at .nil pass0 (pa_cons (pv 0) (pa_cons (pv 1) (pa_cons (pv 4) pa_nil)))) (pa_cons (pe_call (ok_number_at T) (hr.mono (by decide)) (by rfl) T.g_number_at T.F_number_at.kp T.b_number_at .nil pass0 (pa_cons (pv 0) (pa_cons (pv 2) (pa_cons (pv 4) pa_nil)))) pa_nil))))
      (pss_cons (ps_if (pt_cmpR (op_neD hr.units) (pe_orT (pe_meth (pv 5) T.cl_RestField T.M_RestField_times (ok_RestField_times T) (hr.mono (by decide)) T.b_RestField_times .nil pass0 (pa_cons (pe_ix ix_tup (pv 6) pe_int (fun _ _ => rfl)) (pa_cons (pe_ix ix_tup (pv 7) pe_int (fun _ _ => rfl)) pa_nil))) (pe_meth (pv 5) T.cl_FractionField T.M_FractionField_times (ok_FractionField_times T) (hr.mono (by decide)) T.b_FractionField_times .nil pass0 (pa_cons (pe_ix ix_tup (pv 6) pe_int (fun _ _ => rfl)) (pa_cons (pe_ix ix_tup (pv 7) pe_int (fun _ _ => rfl)) pa_nil))))
          (pe_orT (pe_meth (pv 5) T.cl_RestField T.M_RestField_times (ok_RestField_times T) (hr.mono (by decide)) T.b_RestField_times .nil pass0 (pa_cons (pe_ix ix_tup (pv 6) pe_int (fun _ _ => rfl)) (pa_cons (pe_ix ix_tup (pv 7) pe_int (fun _ _ => rfl)) pa_nil))) (pe_meth (pv 5) T.cl_FractionField T.M_FractionField_times (ok_FractionField_times T) (hr.mono (by decide)) T.b_FractionField_times .nil pass0 (pa_cons (pe_ix ix_tup (pv 6) pe_int (fun _ _ => rfl)) (pa_cons (pe_ix ix_tup (pv 7) pe_int (fun _ _ => rfl)) pa_nil)))) (nomark _))
        (pss_one (ps_ret pe_non))
        pss_nil)
      (Evl.pss_cut (ps_set (i := 8) sc_line_meets.nd rfl (.inl rfl) (pe_ifExp (pt_cmpR (op_eqD hr.units) (pv 6) (pe_tup (pa_cons (pe_fld (pv 5) rfl) (pa_cons (pe_fld (pv 5) rfl) pa_nil))) (nomark _)) (pv 7) (pv 6)))
      (pss_cons (ps_set (i := 9) sc_line_meets.nd rfl (.inl rfl) (pe_call (ok_weights_on T) (hr.mono (by decide)) (by rfl) T.g_weights_on T.F_weights_on.kp T.b_weights_on .nil pass0 (pa_cons (pv 5) (pa_cons (pv 8) pa_nil))))
      (Evl.pss_cut (ps_set (i := 10) sc_line_meets.nd rfl (.inl rfl) (pe_ix ix_tup (pe_call (ok_rows_product T) (hr.mono (by decide)) (by rfl) T.g_rows_product T.F_rows_product.kp T.b_rows_product .nil pass0 (pa_cons (pv 5) (pa_cons (pe_lst (pa_cons (pv 9) pa_nil)) (pa_cons (pe_lst (pa_cons (pe_ix ix_tup (pe_fld (pv 0) rfl) (pv 1) (fun _ _ => rfl)) (pa_cons (pe_ix ix_tup (pe_fld (pv 0) rfl) (pv 2) (fun _ _ => rfl)) pa_nil))) pa_nil)))) pe_int (fun _ _ => rfl)))
      (pss_one (ps_ret (pe_make T.M_Meet (ok_Meet_init T) (hr.mono (by decide)) (by rfl) T.g_Meet T.b_Meet_init .nil pass0 (pa_cons (pe_ix ix_tup (pv 9) pe_int (fun _ _ => rfl)) (pa_cons (pe_ix ix_tup (pv 9) pe_int (fun _ _ => rfl)) (pa_cons (pv 10) pa_nil))))))))))))), ?_⟩
    have fp := hf.fp
    obtain ⟨dx, vp, vw, ha, kp, kw⟩ := id so.at_
    cases kp with
    | @tup bp xs _ ep up =>
    obtain ⟨v1, hv1, kv1⟩ := dqs_at up (i := i1) (by rw [List.getElem?_map, hr1]; rfl)
    obtain ⟨v2, hv2, kv2⟩ := dqs_at up (i := i2) (by rw [List.getElem?_map, hr2]; rfl)
    refine ⟨_, rfl, a, T.C_Space, dx, _, _, rfl, ha, T.cl_Space, T.na_Space_field, rfl, ?_⟩
    refine ⟨_, rfl, _, rfl, _, rfl, a, f, p, n, R, S, m, i1, j1, r1, s, rfl, so, hf, gR, gS, hr1, hs, fun va H1 s1 ka => ?_⟩
    refine ⟨_, rfl, _, rfl, _, rfl, a, f, p, n, R, S, m, i2, j1, r2, s, rfl, so.same s1, hf.same s1, gR, gS, hr2, hs, fun vb H2 s2 kb => ⟨(by show 2 ≤ sizeLine; decide), fun l1 nl1 => ?_⟩⟩
    have s12 := (s1.trans s2).trans (same_new (o := .tup [va, vb]) nl1)
    have e0 : (upd H2 l1 (.tup [va, vb])) l1 = some (.tup [va, vb]) := upd_same
    have ka2 := (ka.same s2).same (same_new (o := .tup [va, vb]) nl1)
    have kb2 := kb.same (same_new (o := .tup [va, vb]) nl1)
    generalize upd H2 l1 (.tup [va, vb]) = H3 at s12 e0 ka2 kb2
    have s3' := s12
    have so3 := so.same s12
    have hf3 := hf.same s12
    refine ⟨fun σ H' => ∃ l1 l2 va vb vc vd, σ = [some (.ref a), some (.int (i1 : Int)), some (.int (i2 : Int)), some (.int (j1 : Int)), some (.int (j2 : Int)), some (.ref f), some (.ref l1), some (.ref l2), none, none, none] ∧ Same H H' ∧ H' l1 = some (.tup [va, vb]) ∧ H' l2 = some (.tup [vc, vd]) ∧ Dq H' va (dotD p r1 s (zeroD p)) ∧ Dq H' vb (dotD p r2 s (zeroD p)) ∧ Dq H' vc (dotD p r1 t (zeroD p)) ∧ Dq H' vd (dotD p r2 t (zeroD p)), ?_, fun σ H' hM => ?_⟩
    · refine ⟨_, rfl, _, rfl, _, rfl, a, f, p, n, R, S, m, i1, j2, r1, t, rfl, so3, hf3, gR, gS, hr1, ht, fun vc H4 s4 kc => ?_⟩
      refine ⟨_, rfl, _, rfl, _, rfl, a, f, p, n, R, S, m, i2, j2, r2, t, rfl, so3.same s4, hf3.same s4, gR, gS, hr2, ht, fun vd H5 s5 kd => ⟨(by show 2 ≤ sizeLine; decide), fun l2 nl2 => ?_⟩⟩
      have s6 := same_new (o := .tup [vc, vd]) nl2
      have s46 := (s4.trans s5).trans s6
      exact ⟨l1, l2, va, vb, vc, vd, rfl, s12.trans s46, s46 _ _ e0, upd_same, ka2.same s46, kb2.same s46, (kc.same s5).same s6, kd.same s6⟩
    obtain ⟨l1, l2, va, vb, vc, vd, rfl, s7, e1, e2, ka, kb, kc, kd⟩ := hM
    clear e0 ka2 kb2 so3 hf3 s3' s12
    generalize dotD p r1 s (zeroD p) = xa at *
    generalize dotD p r2 s (zeroD p) = xb at *
    generalize dotD p r1 t (zeroD p) = xc at *
    generalize dotD p r2 t (zeroD p) = xd at *
    obtain ⟨qx, qy, qN, qM⟩ := q _ _ rfl rfl
    have hf7 := hf.same s7
    refine go_times (f := f) rfl (fun R h => ⟨_, rfl, l1, _, 0, _, rfl, rfl, SqT.of e1, at_of (j := 0) rfl rfl, _, rfl, l2, _, 1, _, rfl, rfl, SqT.of e2, at_of (j := 1) rfl rfl, h⟩) hf7 ka kd na nd (by decide) fun v8 H8 s8 k8 => ?_
    refine go_times (f := f) rfl (fun R h => ⟨_, rfl, l1, _, 1, _, rfl, rfl, SqT.of (s8 _ _ e1), at_of (j := 1) rfl rfl, _, rfl, l2, _, 0, _, rfl, rfl, SqT.of (s8 _ _ e2), at_of (j := 0) rfl rfl, h⟩) (hf7.same s8) (kb.same s8) (kc.same s8) nb nc (by decide) fun v9 H9 s9 k9 => ?_
    have s89 := s8.trans s9
    have t1 := timesD_nb na nd
    have t2 := timesD_nb nb nc
    refine ⟨timesD p xa xd, timesD p xb xc, (k8.same s9).dp, k9.dp, nb_shp t1, nb_shp t2, _, rfl, ite2 (fun c => ?_) (fun c => ?_)⟩
    · exact (qN (by unfold fairB; cases z : PyData.eqv (timesD p xa xd) (timesD p xb xc) with | true => rw [z] at c; cases c | false => rfl) _ (s7.trans s89))
    have fair : fairB p xa xb xc xd = true := by
      unfold fairB
      cases z : PyData.eqv (timesD p xa xd) (timesD p xb xc) with
      | true => rfl
      | false => rw [z] at c; exact absurd rfl c
    have QM := qM fair
    clear qN qM c k8 k9 t1 t2
    have s9' := s7.trans s89
    have hf9 := hf7.same s89
    refine ⟨fun σ H' => ∃ l8, σ = [some (.ref a), some (.int (i1 : Int)), some (.int (i2 : Int)), some (.int (j1 : Int)), some (.int (j2 : Int)), some (.ref f), some (.ref l1), some (.ref l2), some (.ref l8), none, none] ∧ Same H9 H' ∧ Dq H' (.ref l8) (.tuple [(decD p xa xb xc xd).1, (decD p xa xb xc xd).2]), ?_, fun σ H' hM => ?_⟩
    · obtain ⟨C0, d0, fs0, v0, a1, a2, a3, a4, a5⟩ := fld_zero T hf9
      refine ⟨_, rfl, _, rfl, f, C0, d0, fs0, v0, rfl, a1, a2, a3, a4, _, rfl, f, C0, d0, fs0, v0, rfl, a1, a2, a3, a4, (by show 2 ≤ sizeLine; decide), fun l3 nl3 => ?_⟩
      have s10 := same_new (o := .tup [v0, v0]) nl3
      have k6 : Dq (upd H9 l3 (.tup [v0, v0])) (.ref l1) (.tuple [xa, xb]) := .tup (s10 _ _ (s89 _ _ e1)) (.cons ((ka.same s89).same s10) (.cons ((kb.same s89).same s10) .nil))
      have k7 : Dq (upd H9 l3 (.tup [v0, v0])) (.ref l2) (.tuple [xc, xd]) := .tup (s10 _ _ (s89 _ _ e2)) (.cons ((kc.same s89).same s10) (.cons ((kd.same s89).same s10) .nil))
      have k3 : Dq (upd H9 l3 (.tup [v0, v0])) (.ref l3) (.tuple [zeroD p, zeroD p]) := .tup upd_same (.cons (a5.same s10) (.cons (a5.same s10) .nil))
      refine ⟨.tuple [xa, xb], .tuple [zeroD p, zeroD p], k6.dp, k3.dp, two_shp na nb, two_shp (nb_zero (k := 1) fp (Nat.le_refl 1)) (nb_zero (k := 1) fp (Nat.le_refl 1)), _, rfl, ite2 (fun c => ?_) (fun c => ?_)⟩
      · refine ⟨_, rfl, l2, rfl, s10, ?_⟩
        rw [show decD p xa xb xc xd = (xc, xd) from if_pos c]
        exact k7
      · refine ⟨_, rfl, l1, rfl, s10, ?_⟩
        rw [show decD p xa xb xc xd = (xa, xb) from if_neg c]
        exact k6
    obtain ⟨l8, rfl, s11, k8⟩ := hM
    have nde : Nb p 150 (decD p xa xb xc xd).1 ∧ Nb p 150 (decD p xa xb xc xd).2 := by
      unfold decD
      split
      · exact ⟨nc, nd⟩
      · exact ⟨na, nb⟩
    refine ⟨_, rfl, _, rfl, f, p, .ref l8, (decD p xa xb xc xd).1, (decD p xa xb xc xd).2, rfl, hf9.same s11, k8, nde.1, nde.2, fun l9 H12 s12 k9 => ?_⟩
    change Dq H12 (.ref l9) (.tuple [meetX p xa xb xc xd, meetY p xa xb xc xd]) at k9
    generalize meetX p xa xb xc xd = wx at *
    generalize meetY p xa xb xc xd = wy at *
    have s9_12 := s11.trans s12
    have sA := s9'.trans s9_12
    refine ⟨fun σ H' => ∃ v10, σ = [some (.ref a), some (.int (i1 : Int)), some (.int (i2 : Int)), some (.int (j1 : Int)), some (.int (j2 : Int)), some (.ref f), some (.ref l1), some (.ref l2), some (.ref l8), some (.ref l9), some v10] ∧ Same H12 H' ∧ Dq H' v10 (.tuple (rowD p n wx wy r1 r2)), ?_, fun σ H' hM => ?_⟩
    · refine ⟨_, rfl, _, rfl, (by show 1 ≤ sizeLine; decide), fun l13 n13 => ?_⟩
      have s13 := same_new (o := .lst [.ref l9]) n13
      have sB := sA.trans s13
      have haB := sB _ _ ha
      have epB := sB _ _ ep
      refine ⟨_, rfl, a, T.C_Space, dx, _, _, rfl, haB, T.cl_Space, T.na_Space_points, rfl, _, rfl, bp, xs, (i1 : Int), v1, rfl, rfl, SqT.of epB, at_of (j := i1) rfl hv1, ?_⟩
      refine ⟨_, rfl, a, T.C_Space, dx, _, _, rfl, haB, T.cl_Space, T.na_Space_points, rfl, _, rfl, bp, xs, (i2 : Int), v2, rfl, rfl, SqT.of epB, at_of (j := i2) rfl hv2, (by show 2 ≤ sizeLine; decide), fun l14 n14 => ?_⟩
      have s14 := same_new (o := .lst [v1, v2]) n14
      have sC := sB.trans s14
      have kL : Dq (upd (upd H12 l13 (.lst [.ref l9])) l14 (.lst [v1, v2])) (.ref l13) (.list [.tuple [wx, wy]]) := .lst (s14 _ _ upd_same) (.cons ((k9.same s13).same s14) .nil)
      have kR : Dq (upd (upd H12 l13 (.lst [.ref l9])) l14 (.lst [v1, v2])) (.ref l14) (.list [.tuple r1, .tuple r2]) := .lst upd_same (.cons (kv1.same sC) (.cons (kv2.same sC) .nil))
      have m1 := List.mem_of_getElem? hr1
      have m2 := List.mem_of_getElem? hr2
      refine ⟨f, p, n, _, _, _, _, [[wx, wy]], [r1, r2], .tuple, .tuple, rfl, hf.same sC, fun _ => rfl, fun _ => rfl, kL, rfl, kR, rfl, (by show 1 ≤ 900; decide), (by show 1 ≤ 2; decide), (by show 2 ≤ 6; decide), (by have := gR.n6; omega), fun r mr => ?_, fun r mr => ?_, fun l15 H15 s15 k15 => ?_⟩
      · rw [List.mem_singleton.mp mr]
        refine ⟨rfl, fun d md => ?_⟩
        rcases List.mem_cons.mp md with rfl | md
        · exact qx
        · rw [List.mem_singleton.mp md]
          exact qy
      · rcases List.mem_cons.mp mr with rfl | mr
        · exact ⟨gR.ln _ m1, gR.nb _ m1⟩
        · rw [List.mem_singleton.mp mr]
          exact ⟨gR.ln _ m2, gR.nb _ m2⟩
      · cases k15 with
        | @tup _ ys _ e15 u15 =>
        cases u15 with
        | @cons y0 _ ys0 _ h0 t0 =>
        exact ⟨l15, _, 0, y0, rfl, rfl, SqT.of e15, at_of (j := 0) rfl rfl, y0, rfl, (s13.trans s14).trans s15, h0⟩
    obtain ⟨v10, rfl, s16, k10⟩ := hM
    have k9' := k9.same s16
    cases k9' with
    | @tup _ ys _ e9 u9 =>
    obtain ⟨wv1, wv2, rfl, kw1, kw2⟩ := two_dqN u9
    refine ⟨_, rfl, l9, _, 0, wv1, rfl, rfl, SqT.of e9, at_of (j := 0) rfl rfl, _, rfl, l9, _, 1, wv2, rfl, rfl, SqT.of e9, at_of (j := 1) rfl rfl, _, rfl, ?_⟩
    exact mk_meet kw1 kw2 k10 fun H17 b s17 nb mt => QM b H17 (sA.trans (s16.trans s17)) mt
end
end K25
set_option Elab.async false
set_option linter.all false
set_option maxRecDepth 100000
set_option maxHeartbeats 4000000
set_option exponentiation.threshold 5000
set_option pp.maxSteps 900
namespace K25
open PySem PySem.Spec PyProof.Rows L2 TkS LamX NdefX
/-! the bounds of what is met -/
def T9 : Int := 6 * (Tk 4 * Tk 4)
theorem fb_over {p : Nat} {D T : Int} {u v : PyData} (hu : Fb p D T u) (hv : Fb p D T v) (nz : v ≠ zeroD p) (T1 : 1 ≤ T) : ∃ M, 0 < M ∧ M ≤ T ∧ Fb p M T (overD p u v) := by
  cases hu with
  | @fr D T t a1 a2 a3 =>
    cases hv with
    | @fr D T t' b1 b2 b3 =>
      have t0 : t' ≠ 0 := fun z => nz (by rw [z, low_zero a1]; rfl)
      obtain ⟨l1, e1⟩ := low_ok (t := t) (pos_ne a1)
      obtain ⟨l2, e2⟩ := low_ok (t := t') (pos_ne a1)
      have r1 : (low t' D).1 ≠ 0 := fun z => by
        rw [z, Int.zero_mul] at e2
        rcases Int.mul_eq_zero.mp e2 with h | h
        · exact t0 h
        · exact pos_ne l2.1 h
      have e : quotF (low t D) (low t' D) = low t t' := by
        refine low_eq (fun z => (Int.mul_eq_zero.mp z).elim (fun h => pos_ne l1.1 h) r1) t0 ?_
        refine Int.eq_of_mul_eq_mul_right (pos_ne a1) ?_
        grind
      have ov : overD 0 (frD (low t D)) (frD (low t' D)) = frD (low t t') := by
        show frD (quotF (low t D) (low t' D)) = _
        rw [e]
      rw [ov]
      rcases Int.lt_or_gt_of_ne t0 with h | h
      · rw [low_eq (t := t) (b := t') (t' := -t) (b' := -t') t0 (by omega) (by grind)]
        exact ⟨-t', by omega, by omega, .fr (by omega) (by omega) (by omega)⟩
      · exact ⟨t', h, by omega, .fr h a2 a3⟩
    | rs n _ => exact absurd rfl n
  | @rs p D T x n lx =>
    cases hv with
    | fr _ _ _ => exact absurd rfl n
    | @rs _ _ _ y _ ly =>
      rw [over_nat n]
      exact ⟨1, by decide, T1, .rs n (Nat.mod_lt _ (by omega))⟩
theorem fb_weights {p : Nat} {D T : Int} {u v : PyData} (fp : Fp p) (hu : Fb p D T u) (hv : Fb p D T v) (T1 : 1 ≤ T) : ∃ M, 0 < M ∧ M ≤ T ∧ Fb p M T (w1D p v) ∧ Fb p M T (w2D p u v) := by
  unfold w1D w2D
  by_cases c : nzB p v = true
  · rw [if_pos c, if_pos c]
    have nz : v ≠ zeroD p := fun z => by
      rw [z] at c
      unfold nzB at c
      rw [nb_self (nb_zero fp (Nat.le_refl 1))] at c
      cases c
    obtain ⟨M, m0, m1, fo⟩ := fb_over hu hv nz T1
    refine ⟨M, m0, m1, (fb_one fp m0).up m1, ?_⟩
    have := (fb_minus fp (show (0 : Int) < 1 by decide)).times fo
    rw [Int.one_mul, Int.one_mul] at this
    exact this
  · rw [if_neg c, if_neg c]
    exact ⟨1, by decide, T1, fb_zero fp (by decide) (by omega), (fb_one fp (by decide)).up T1⟩
def Fb4 (p : Nat) (d : PyData) : Prop := Fb p (Dk 4) (Tk 4) d
theorem dot4 {p n : Nat} {r s : List PyData} (fp : Fp p) (n6 : n ≤ 6) (lr : r.length = n) (ls : s.length = n) (fr : ∀ d ∈ r, Fb4 p d) (fs : ∀ d ∈ s, Fb4 p d) : Fb p (Dk 4 * Dk 4) T9 (dotD p r s (zeroD p)) := by
  have := Fb.dot fr fs (by omega) (fb_zero fp (show 0 < Dk 4 * Dk 4 by decide) (Int.le_refl 0))
  refine this.up ?_
  rw [lr, Int.zero_add]
  exact Int.mul_le_mul_of_nonneg_right (show (n : Int) ≤ 6 by omega) (by decide)
theorem n9_nb {p : Nat} {d : PyData} (h : Fb p (Dk 4 * Dk 4) T9 d) : Nb p 150 d := h.nb (by decide) (by decide)
theorem fb4_nb' {p : Nat} {d : PyData} (h : Fb4 p d) : Nb p 150 d := (fb4_nb h).up (by decide)
theorem dec_fb {p : Nat} {D T : Int} {a b c d : PyData} (ha : Fb p D T a) (hb : Fb p D T b) (hc : Fb p D T c) (hd : Fb p D T d) : Fb p D T (decD p a b c d).1 ∧ Fb p D T (decD p a b c d).2 := by
  unfold decD
  split
  · exact ⟨hc, hd⟩
  · exact ⟨ha, hb⟩
theorem meet_fb {p : Nat} {a b c d : PyData} (fp : Fp p) (ha : Fb p (Dk 4 * Dk 4) T9 a) (hb : Fb p (Dk 4 * Dk 4) T9 b) (hc : Fb p (Dk 4 * Dk 4) T9 c) (hd : Fb p (Dk 4 * Dk 4) T9 d) : ∃ M, 0 < M ∧ M ≤ T9 ∧ Fb p M T9 (meetX p a b c d) ∧ Fb p M T9 (meetY p a b c d) := by
  obtain ⟨h1, h2⟩ := dec_fb ha hb hc hd
  exact fb_weights fp h1 h2 (by decide)
theorem m9_nb {p : Nat} {M : Int} {x : PyData} (m : M ≤ T9) (h : Fb p M T9 x) : Nb p 150 x := h.nb (Int.lt_of_le_of_lt m (by decide)) (by decide)
theorem row_len {p n : Nat} {x y : PyData} {r1 r2 : List PyData} : (rowD p n x y r1 r2).length = n := by
  unfold rowD
  rw [List.length_map, List.length_range]
theorem getD_mem {r : List PyData} {j : Nat} (h : j < r.length) : r.getD j .none ∈ r := by
  rw [List.getD_eq_getElem?_getD, List.getElem?_eq_getElem h]
  exact List.getElem_mem h
theorem row_fb {p n : Nat} {M : Int} {x y : PyData} {r1 r2 : List PyData} (fp : Fp p) (m0 : 0 < M) (hx : Fb p M T9 x) (hy : Fb p M T9 y) (l1 : r1.length = n) (l2 : r2.length = n) (f1 : ∀ d ∈ r1, Fb4 p d) (f2 : ∀ d ∈ r2, Fb4 p d) : ∀ d ∈ rowD p n x y r1 r2, Fb p (M * Dk 4) (2 * (T9 * Tk 4)) d := fun d md => by
  unfold rowD at md
  obtain ⟨j, mj, rfl⟩ := List.mem_map.mp md
  have hj := List.mem_range.mp mj
  have := Fb.dot (p := p) (D := M) (D' := Dk 4) (T := T9) (T' := Tk 4) (xs := [x, y]) (ys := [r1.getD j .none, r2.getD j .none]) (a := zeroD p) (A := 0) (fun d m => by
    rcases List.mem_cons.mp m with rfl | m
    · exact hx
    · rw [List.mem_singleton.mp m]
      exact hy) (fun d m => by
    rcases List.mem_cons.mp m with rfl | m
    · exact f1 _ (getD_mem (by omega))
    · rw [List.mem_singleton.mp m]
      exact f2 _ (getD_mem (by omega))) rfl (fb_zero fp (Int.mul_pos m0 (Dk.pos 4)) (Int.le_refl 0))
  exact this.up (by rw [Int.zero_add]; exact Int.le_refl _)
theorem mul_lt {M c X : Int} (m : M ≤ T9) (c0 : 0 ≤ c) (h : T9 * c < X) : M * c < X := Int.lt_of_le_of_lt (Int.mul_le_mul_of_nonneg_right m c0) h
theorem row_nb {p : Nat} {M : Int} {d : PyData} (m : M ≤ T9) (h : Fb p (M * Dk 4) (2 * (T9 * Tk 4)) d) : Nb p 300 d := h.nb (mul_lt m (by decide) (by decide)) (by decide)
theorem last_nb {p n i : Nat} {M : Int} {q s : List PyData} (fp : Fp p) (m0 : 0 < M) (m : M ≤ T9) (n6 : n ≤ 6) (lq : q.length = n) (ls : s.length = n) (fq : ∀ d ∈ q, Fb p (M * Dk 4) (2 * (T9 * Tk 4)) d) (fs : ∀ d ∈ s, Fb4 p d) : Nb p 400 (dotD p (q.take i) (s.take i) (zeroD p)) := by
  have := Fb.dot (fun d m => fq d (List.mem_of_mem_take m)) (fun d m => fs d (List.mem_of_mem_take m)) (xs := q.take i) (ys := s.take i) (by rw [List.length_take, List.length_take, lq, ls]) (fb_zero fp (Int.mul_pos (Int.mul_pos m0 (Dk.pos 4)) (Dk.pos 4)) (Int.le_refl 0))
  have h2 := this.up (T' := 6 * ((2 * (T9 * Tk 4)) * Tk 4)) (by
    rw [Int.zero_add]
    exact Int.mul_le_mul_of_nonneg_right (show (((q.take i).length : Nat) : Int) ≤ 6 by rw [List.length_take]; omega) (by decide))
  refine h2.nb ?_ (by decide)
  rw [Int.mul_assoc]
  exact mul_lt m (by decide) (by decide)
/-! what is met lies on both walls -/
def sumR {R : Type} [Lean.Grind.CommRing R] : List R → List R → R
  | x :: xs, y :: ys => x * y + sumR xs ys
  | _, _ => 0
theorem phi_dot {p k m : Nat} {R : Type} [Lean.Grind.CommRing R] {φ : PyData → R} (F : Phi p R φ) : ∀ {j : Nat} {xs ys : List PyData} {a : PyData}, (∀ d ∈ xs, Nb p k d) → (∀ d ∈ ys, Nb p m d) → Nb p j a → φ (dotD p xs ys a) = φ a + sumR (xs.map φ) (ys.map φ)
  | _, [], _, a, _, _, _ => by
    show φ a = φ a + 0
    grind
  | _, _ :: _, [], a, _, _, _ => by
    show φ a = φ a + 0
    grind
  | j, x :: xs, y :: ys, a, hx, hy, ha => by
    have nx := hx x List.mem_cons_self
    have ny := hy y List.mem_cons_self
    have := phi_dot F (xs := xs) (ys := ys) (fun d md => hx d (List.mem_cons_of_mem _ md)) (fun d md => hy d (List.mem_cons_of_mem _ md)) (plusD_nb ha (timesD_nb nx ny))
    show φ (dotD p xs ys (plusD p a (timesD p x y))) = φ a + (φ x * φ y + sumR (xs.map φ) (ys.map φ))
    rw [this, F.plus ha (timesD_nb nx ny), F.times nx ny]
    grind
theorem sum_lin {R : Type} [Lean.Grind.CommRing R] (u v : R) (f1 f2 : Nat → R) : ∀ (js : List Nat) (ws : List R), sumR (js.map fun j => u * f1 j + v * f2 j) ws = u * sumR (js.map f1) ws + v * sumR (js.map f2) ws
  | [], ws => by
    show (0 : R) = u * 0 + v * 0
    grind
  | j :: js, [] => by
    show (0 : R) = u * 0 + v * 0
    grind
  | j :: js, w :: ws => by
    have := sum_lin u v f1 f2 js ws
    show (u * f1 j + v * f2 j) * w + sumR (js.map fun j => u * f1 j + v * f2 j) ws = u * (f1 j * w + sumR (js.map f1) ws) + v * (f2 j * w + sumR (js.map f2) ws)
    rw [this]
    grind
theorem map_getD {R : Type} (φ : PyData → R) {n : Nat} {r : List PyData} (l : r.length = n) : (List.range n).map (fun j => φ (r.getD j .none)) = r.map φ := by
  subst l
  refine List.ext_getElem (by simp) fun i h1 h2 => ?_
  simp at h1
  simp [List.getD_eq_getElem?_getD, h1]
theorem phi_row {p k : Nat} {n : Nat} {R : Type} [Lean.Grind.CommRing R] {φ : PyData → R} (F : Phi p R φ) (fp : Fp p) {x y : PyData} {r1 r2 s : List PyData} (nx : Nb p k x) (ny : Nb p k y) (l1 : r1.length = n) (l2 : r2.length = n) (n1 : ∀ d ∈ r1, Nb p k d) (n2 : ∀ d ∈ r2, Nb p k d) (ns : ∀ d ∈ s, Nb p k d) {m : Nat} (nr : ∀ d ∈ rowD p n x y r1 r2, Nb p m d) :
    φ (dotD p (rowD p n x y r1 r2) s (zeroD p)) = φ x * φ (dotD p r1 s (zeroD p)) + φ y * φ (dotD p r2 s (zeroD p)) := by
  have nz := nb_zero (p := p) (k := 1) fp (Nat.le_refl 1)
  rw [phi_dot F nr ns nz, phi_dot F n1 ns nz, phi_dot F n2 ns nz, F.zero]
  have e : (rowD p n x y r1 r2).map φ = (List.range n).map fun j => φ x * φ (r1.getD j .none) + φ y * φ (r2.getD j .none) := by
    unfold rowD
    rw [List.map_map]
    refine List.map_congr_left fun j mj => ?_
    have hj := List.mem_range.mp mj
    show φ (dotD p [x, y] [r1.getD j .none, r2.getD j .none] (zeroD p)) = _
    rw [phi_dot (k := k) (m := k) F (fun d m => by
      rcases List.mem_cons.mp m with rfl | m
      · exact nx
      · rw [List.mem_singleton.mp m]
        exact ny) (fun d m => by
      rcases List.mem_cons.mp m with rfl | m
      · exact n1 _ (getD_mem (by omega))
      · rw [List.mem_singleton.mp m]
        exact n2 _ (getD_mem (by omega))) nz, F.zero]
    show (0 : R) + (φ x * φ (r1.getD j .none) + (φ y * φ (r2.getD j .none) + 0)) = _
    grind
  rw [e, sum_lin, map_getD φ l1, map_getD φ l2]
  grind
theorem meets {p k : Nat} {R : Type} [Lean.Grind.CommRing R] {φ : PyData → R} (F : Phi p R φ) (fp : Fp p) {a b c d : PyData} (na : Nb p k a) (nb : Nb p k b) (nc : Nb p k c) (nd : Nb p k d) (fair : fairB p a b c d = true) :
    φ (meetX p a b c d) * φ a + φ (meetY p a b c d) * φ b = 0 ∧ φ (meetX p a b c d) * φ c + φ (meetY p a b c d) * φ d = 0 := by
  have nz1 := nb_zero (p := p) (k := 1) fp (Nat.le_refl 1)
  have no1 := nb_one (p := p) (k := 1) fp (Nat.le_refl 1)
  have ed : φ a * φ d = φ b * φ c := by
    rw [← F.times na nd, ← F.times nb nc]
    have h : timesD p a d = timesD p b c := Classical.byContradiction fun z => by
      unfold fairB at fair
      rw [nb_ne (timesD_nb na nd) (timesD_nb nb nc) z] at fair
      cases fair
    rw [h]
  have inv : ∀ {v : PyData}, Nb p k v → v ≠ zeroD p → ∃ u : R, u * φ v = 1 := fun nv z => ⟨_, (F.over no1 nv z).trans F.one⟩
  have wz : ∀ {u v : PyData}, Nb p k u → Nb p k v → φ (w1D p v) * φ u + φ (w2D p u v) * φ v = 0 := fun {u v} nu nv => by
    unfold w1D w2D
    by_cases z : nzB p v = true
    · rw [if_pos z, if_pos z, F.one]
      have := sec_phi F fp nu nv ((nz_iff fp nv).mp z)
      grind
    · rw [if_neg z, if_neg z, F.one, F.zero]
      have : v = zeroD p := Classical.byContradiction fun y => z ((nz_iff fp nv).mpr y)
      rw [this, F.zero]
      grind
  unfold meetX meetY decD
  by_cases c0 : PyData.eqv (.tuple [a, b]) (.tuple [zeroD p, zeroD p]) = true
  · rw [if_pos c0]
    have ab := (nbs_tup (p := p) (k := k) (m := 1) (l := [a, b]) (n := [zeroD p, zeroD p]) (fun d m => by
      rcases List.mem_cons.mp m with rfl | m
      · exact na
      · rw [List.mem_singleton.mp m]
        exact nb) (fun d m => by
      rcases List.mem_cons.mp m with rfl | m
      · exact nz1
      · rw [List.mem_singleton.mp m]
        exact nz1)).mp c0
    injection ab with ea eb
    injection eb with eb _
    refine ⟨?_, wz nc nd⟩
    rw [ea, eb, F.zero]
    grind
  · rw [if_neg c0]
    refine ⟨wz na nb, ?_⟩
    have w := wz na nb
    dsimp only at w ⊢
    by_cases z : nzB p b = true
    · obtain ⟨u, hu⟩ := inv nb ((nz_iff fp nb).mp z)
      have e1 : φ (w1D p b) = 1 := by
        unfold w1D
        rw [if_pos z, F.one]
      rw [e1] at w ⊢
      generalize φ (w2D p a b) = y at *
      generalize φ a = fa at *
      generalize φ b = fb at *
      generalize φ c = fc at *
      generalize φ d = fd at *
      have h3 : (1 * fc + y * fd) * fb = 0 := by grind
      have h4 : (1 * fc + y * fd) = u * ((1 * fc + y * fd) * fb) := by grind
      rw [h4, h3]
      grind
    · have bz : b = zeroD p := Classical.byContradiction fun y => z ((nz_iff fp nb).mpr y)
      have az : a ≠ zeroD p := fun y => c0 (by
        rw [y, bz]
        exact (nbs_tup (p := p) (k := 1) (m := 1) (fun d m => by
          rcases List.mem_cons.mp m with rfl | m
          · exact nz1
          · rw [List.mem_singleton.mp m]
            exact nz1) (fun d m => by
          rcases List.mem_cons.mp m with rfl | m
          · exact nz1
          · rw [List.mem_singleton.mp m]
            exact nz1)).mpr rfl)
      obtain ⟨u, hu⟩ := inv na az
      unfold w1D w2D
      rw [if_neg z, if_neg z, F.one, F.zero]
      rw [bz, F.zero] at ed
      have : φ d = u * (φ a * φ d) := by grind
      rw [this, ed]
      grind
theorem met_zero {p n : Nat} {r1 r2 s t : List PyData} (fp : Fp p) (n6 : n ≤ 6) (l1 : r1.length = n) (l2 : r2.length = n) (l3 : s.length = n) (l4 : t.length = n) (f1 : ∀ d ∈ r1, Fb4 p d) (f2 : ∀ d ∈ r2, Fb4 p d) (f3 : ∀ d ∈ s, Fb4 p d) (f4 : ∀ d ∈ t, Fb4 p d)
    (fair : fairB p (dotD p r1 s (zeroD p)) (dotD p r2 s (zeroD p)) (dotD p r1 t (zeroD p)) (dotD p r2 t (zeroD p)) = true) :
    dotD p (rowD p n (meetX p (dotD p r1 s (zeroD p)) (dotD p r2 s (zeroD p)) (dotD p r1 t (zeroD p)) (dotD p r2 t (zeroD p))) (meetY p (dotD p r1 s (zeroD p)) (dotD p r2 s (zeroD p)) (dotD p r1 t (zeroD p)) (dotD p r2 t (zeroD p))) r1 r2) s (zeroD p) = zeroD p ∧
    dotD p (rowD p n (meetX p (dotD p r1 s (zeroD p)) (dotD p r2 s (zeroD p)) (dotD p r1 t (zeroD p)) (dotD p r2 t (zeroD p))) (meetY p (dotD p r1 s (zeroD p)) (dotD p r2 s (zeroD p)) (dotD p r1 t (zeroD p)) (dotD p r2 t (zeroD p))) r1 r2) t (zeroD p) = zeroD p := by
  obtain ⟨R, i, φ, F⟩ := phi_has fp
  have ha := dot4 fp n6 l1 l3 f1 f3
  have hb := dot4 fp n6 l2 l3 f2 f3
  have hc := dot4 fp n6 l1 l4 f1 f4
  have hd := dot4 fp n6 l2 l4 f2 f4
  obtain ⟨M, m0, m1, fx, fy⟩ := meet_fb fp ha hb hc hd
  obtain ⟨z1, z2⟩ := meets F fp (n9_nb ha) (n9_nb hb) (n9_nb hc) (n9_nb hd) fair
  have nx := m9_nb m1 fx
  have ny := m9_nb m1 fy
  have fr := row_fb fp m0 fx fy l1 l2 f1 f2
  have n1 : ∀ d ∈ r1, Nb p 150 d := fun d m => fb4_nb' (f1 d m)
  have n2 : ∀ d ∈ r2, Nb p 150 d := fun d m => fb4_nb' (f2 d m)
  have nz := nb_zero (p := p) (k := 1) fp (Nat.le_refl 1)
  have nr := fun d m => row_nb m1 (fr d m)
  have q1 := phi_row F fp nx ny l1 l2 n1 n2 (s := s) (fun d m => fb4_nb' (f3 d m)) nr
  have q2 := phi_row F fp nx ny l1 l2 n1 n2 (s := t) (fun d m => fb4_nb' (f4 d m)) nr
  have b1 := last_nb (i := n) fp m0 m1 n6 row_len l3 fr f3
  have b2 := last_nb (i := n) fp m0 m1 n6 row_len l4 fr f4
  rw [List.take_of_length_le (by rw [row_len]; omega), List.take_of_length_le (by omega)] at b1 b2
  refine ⟨F.inj b1 nz ?_, F.inj b2 nz ?_⟩
  · rw [q1, F.zero]
    exact z1
  · rw [q2, F.zero]
    exact z2
end K25
set_option Elab.async false
set_option linter.all false
set_option maxRecDepth 100000
set_option maxHeartbeats 4000000
set_option exponentiation.threshold 5000
set_option pp.maxSteps 900
namespace K25
open PySem PySem.Spec PyProof.Rows L2 TkS LamX NdefX
/-- the four numbers at the corners of a tile, in the law's full table -/
structure Cn (H : Hp) (df : Addr) (i1 i2 j1 j2 : Nat) (a b c d : PyData) : Prop where
  at_ : ∃ xs a1 ys1 a2 ys2 va vb vc vd, H df = some (.lst xs) ∧ xs[i1]? = some (.ref a1) ∧ xs[i2]? = some (.ref a2) ∧ H a1 = some (.lst ys1) ∧ H a2 = some (.lst ys2) ∧ ys1[j1]? = some va ∧ ys2[j1]? = some vb ∧ ys1[j2]? = some vc ∧ ys2[j2]? = some vd ∧ Dq H va a ∧ Dq H vb b ∧ Dq H vc c ∧ Dq H vd d
theorem Cn.same {H H' : Hp} {df : Addr} {i1 i2 j1 j2 : Nat} {a b c d : PyData} (x : Cn H df i1 i2 j1 j2 a b c d) (s : Same H H') : Cn H' df i1 i2 j1 j2 a b c d := by
  obtain ⟨xs, a1, ys1, a2, ys2, va, vb, vc, vd, h1, h2, h3, h4, h5, h6, h7, h8, h9, k1, k2, k3, k4⟩ := x.at_
  exact ⟨xs, a1, ys1, a2, ys2, va, vb, vc, vd, s _ _ h1, h2, h3, s _ _ h4, s _ _ h5, h6, h7, h8, h9, k1.same s, k2.same s, k3.same s, k4.same s⟩
theorem cn_of {H : Hp} {df : Addr} {TB : List (List PyData)} {i1 i2 j1 j2 : Nat} {t1 t2 : List PyData} {a b c d : PyData} (k : Dq H (.ref df) (lrowsD TB)) (h1 : TB[i1]? = some t1) (h2 : TB[i2]? = some t2) (ha : t1[j1]? = some a) (hb : t2[j1]? = some b) (hc : t1[j2]? = some c) (hd : t2[j2]? = some d) : Cn H df i1 i2 j1 j2 a b c d := by
  cases k with
  | @lst _ xs _ e u =>
  obtain ⟨v1, hv1, k1⟩ := dqs_at u (i := i1) (d := .list t1) (by rw [List.getElem?_map, h1]; rfl)
  obtain ⟨v2, hv2, k2⟩ := dqs_at u (i := i2) (d := .list t2) (by rw [List.getElem?_map, h2]; rfl)
  cases k1 with
  | @lst a1 ys1 _ e1 u1 =>
  cases k2 with
  | @lst a2 ys2 _ e2 u2 =>
  obtain ⟨va, hva, ka⟩ := dqs_at u1 ha
  obtain ⟨vb, hvb, kb⟩ := dqs_at u2 hb
  obtain ⟨vc, hvc, kc⟩ := dqs_at u1 hc
  obtain ⟨vd, hvd, kd⟩ := dqs_at u2 hd
  exact ⟨xs, a1, ys1, a2, ys2, va, vb, vc, vd, e, hv1, hv2, e1, e2, hva, hvb, hvc, hvd, ka, kb, kc, kd⟩
def crn (i1 j1 i2 j2 : Nat) : List V := [.int (i1 : Int), .int (j1 : Int), .int (i2 : Int), .int (j2 : Int)]
def sl_fair : Sp := fun vs H Q _ => ∃ (p i1 i2 j1 j2 : Nat) (df cf : Addr) (a b c d : PyData), vs = [.int (p : Int), .ref df, .ref cf] ∧ Fp p ∧ H cf = some (.tup (crn i1 j1 i2 j2)) ∧ Cn H df i1 i2 j1 j2 a b c d ∧ Nb p 150 a ∧ Nb p 150 b ∧ Nb p 150 c ∧ Nb p 150 d ∧ ∀ H', Same H H' → Q (.bl (fairB p a b c d)) H'
def sl_meet : Sp := fun vs H Q _ => ∃ (p n i1 i2 j1 j2 : Nat) (df dp cf : Addr) (a b c d : PyData) (R : List (List PyData)) (r1 r2 : List PyData), vs = [.int (p : Int), .ref df, .ref dp, .ref cf] ∧ Fp p ∧ H cf = some (.tup (crn i1 j1 i2 j2)) ∧ Cn H df i1 i2 j1 j2 a b c d ∧ Nb p 150 a ∧ Nb p 150 b ∧ Nb p 150 c ∧ Nb p 150 d ∧
  Dq H (.ref dp) (lrowsD R) ∧ R[i1]? = some r1 ∧ R[i2]? = some r2 ∧ r1.length = n ∧ r2.length = n ∧ n ≤ 6 ∧ (∀ d ∈ r1, Nb p 150 d) ∧ (∀ d ∈ r2, Nb p 150 d) ∧
  ∀ x y, x = meetX p a b c d → y = meetY p a b c d → Nb p 150 x ∧ Nb p 150 y ∧ (fairB p a b c d = false → ∀ H', Same H H' → Q .non H') ∧ (fairB p a b c d = true → ∀ l H', Same H H' → Dq H' (.ref l) (.tuple [x, y, .tuple (rowD p n x y r1 r2)]) → Q (.ref l) H')
section
variable {P : Program} {w : World} {K : PySem.W.Frag} {mg : Str → Option Value} {base : Heap}
theorem ok_law_pair_of_lots (T : Txt K mg) : FnOk P w K mg base CX0 7 T.f_law_pair_of_lots T.d_law_pair_of_lots ["_law_state", "_law_p", "_law_many_points", "_law_many_shuts"] sl_lots := by
  refine T.F_law_pair_of_lots.ok sc_law_pair_of_lots (fun vs H Q E h => ?_) (fun cdv A outer s H vs Q E hr h => ?_)
  · obtain ⟨h, g, p, m1, m2, rfl, _⟩ := h
    rfl
  · obtain ⟨h, g, p, m1, m2, rfl, hd, fp, a1, a4, b1, b4, q⟩ := h
    refine ⟨_, (pss_cons (ps_if (pt_cmpR op_eq (pe_call (ok_law_draw T) (hr.mono (by decide)) (by rfl) T.g_law_draw T.F_law_draw.kp T.b_law_draw .nil pass0 (pa_cons (pv 0) (pa_cons pe_int pa_nil))) pe_int (nomark _))
        (pss_one (ps_ret (pe_call (ok_law_narrow T) (hr.mono (by decide)) (by rfl) T.g_law_narrow T.F_law_narrow.kp T.b_law_narrow .nil pass0 (pa_cons (pv 0) (pa_cons (pv 1) (pa_cons (pv 2) (pa_cons (pv 3) pa_nil)))))))
        pss_nil)
      (pss_one (ps_ret (pe_call (ok_law_wide T) (hr.mono (by decide)) (by rfl) T.g_law_wide T.F_law_wide.kp T.b_law_wide .nil pass0 (pa_cons (pv 0) (pa_cons (pv 1) (pa_cons (pe_call (ok_law_grid T) (hr.mono (by decide)) (by rfl) T.g_law_grid T.F_law_grid.kp T.b_law_grid .nil pass0 (pa_cons (pv 0) (pa_cons (pv 1) (pa_cons (pv 2) (pa_cons (pv 3) pa_nil))))) pa_nil))))))), ?_⟩
    refine ⟨_, rfl, h, g, 3, rfl, hd, by decide, by decide, fun H1 r k1 h1 r0 r1 => ⟨rfl, _, rfl, ite2 (fun c => ?_) (fun c => ?_)⟩⟩
    · exact ⟨_, rfl, _, rfl, _, rfl, _, rfl, h, g, p, m1, m2, rfl, h1, fp, a1, a4, b1, b4, fun l H' D1 D2 n R S k => q l H' D1 D2 n R S (k1.trans k)⟩
    · refine ⟨_, rfl, _, rfl, _, rfl, _, rfl, _, rfl, _, rfl, h, g, p, m1, m2, rfl, h1, fp, a1, a4, b1, b4, fun a H2 F k2 h2 kF lF gF => ?_⟩
      exact ⟨h, g, a, p, m1, m2, F, rfl, h2, fp, a1, a4, b1, b4, kF, lF, gF, fun l H' D1 D2 n R S k => q l H' D1 D2 n R S ((k1.trans k2).trans k)⟩
theorem ok_law_tile_fair (T : Txt K mg) : FnOk P w K mg base CX0 4 T.f_law_tile_fair T.d_law_tile_fair ["_law_p", "_law_full_here", "_law_corners"] sl_fair := by
  refine T.F_law_tile_fair.ok sc_law_tile_fair (fun vs H Q E h => ?_) (fun cdv A outer s H vs Q E hr h => ?_)
  · obtain ⟨p, i1, i2, j1, j2, df, cf, a, b, c, d, rfl, _⟩ := h
    rfl
  · obtain ⟨p, i1, i2, j1, j2, df, cf, a, b, c, d, rfl, fp, ec, cn, na, nb, nc, nd, q⟩ := h
    refine ⟨_, (pss_cons (ps_asg (pv 2) (pg_tup rfl (pgs_cons (pg_name (i := 3) sc_law_tile_fair.nd rfl (.inl rfl)) (pgs_cons (pg_name (i := 4) sc_law_tile_fair.nd rfl (.inl rfl)) (pgs_cons (pg_name (i := 5) sc_law_tile_fair.nd rfl (.inl rfl)) (pgs_cons (pg_name (i := 6) sc_law_tile_fair.nd rfl (.inl rfl)) pgs_nil))))))
      (pss_one (ps_ret (pe_cmpR (op_eqD hr.units) (pe_call (ok_law_times T) (hr.mono (by decide)) (by rfl) T.g_law_times T.F_law_times.kp T.b_law_times .nil pass0 (pa_cons (pv 0) (pa_cons (pe_ix ix_list (pe_ix ix_list (pv 1) (pv 3) (fun _ _ => rfl)) (pv 4) (fun _ _ => rfl)) (pa_cons (pe_ix ix_list (pe_ix ix_list (pv 1) (pv 5) (fun _ _ => rfl)) (pv 6) (fun _ _ => rfl)) pa_nil)))) (pe_call (ok_law_times T) (hr.mono (by decide)) (by rfl) T.g_law_times T.F_law_times.kp T.b_law_times .nil pass0 (pa_cons (pv 0) (pa_cons (pe_ix ix_list (pe_ix ix_list (pv 1) (pv 5) (fun _ _ => rfl)) (pv 4) (fun _ _ => rfl)) (pa_cons (pe_ix ix_list (pe_ix ix_list (pv 1) (pv 3) (fun _ _ => rfl)) (pv 6) (fun _ _ => rfl)) pa_nil)))) (nomark _))))), ?_⟩
    obtain ⟨xs, a1, ys1, a2, ys2, va, vb, vc, vd, h1, h2, h3, h4, h5, h6, h7, h8, h9, k1, k2, k3, k4⟩ := cn.at_
    refine ⟨_, rfl, cf, _, rfl, SqT.of ec, rfl, _, _, rfl, _, _, rfl, _, _, rfl, _, _, rfl, rfl, ?_⟩
    refine ⟨_, rfl, _, rfl, _, rfl, df, xs, (i1 : Int), .ref a1, rfl, rfl, SqL.of h1, at_of (j := i1) rfl h2, _, rfl, a1, ys1, (j1 : Int), va, rfl, rfl, SqL.of h4, at_of (j := j1) rfl h6, ?_⟩
    refine ⟨_, rfl, _, rfl, df, xs, (i2 : Int), .ref a2, rfl, rfl, SqL.of h1, at_of (j := i2) rfl h3, _, rfl, a2, ys2, (j2 : Int), vd, rfl, rfl, SqL.of h5, at_of (j := j2) rfl h9, ?_⟩
    refine ⟨p, va, vd, a, d, rfl, k1, k4, na.up (by decide), nd.up (by decide), fp.le, fun v1 H1 s1 kv1 => ?_⟩
    refine ⟨_, rfl, _, rfl, _, rfl, df, xs, (i2 : Int), .ref a2, rfl, rfl, SqL.of (s1 _ _ h1), at_of (j := i2) rfl h3, _, rfl, a2, ys2, (j1 : Int), vb, rfl, rfl, SqL.of (s1 _ _ h5), at_of (j := j1) rfl h7, ?_⟩
    refine ⟨_, rfl, _, rfl, df, xs, (i1 : Int), .ref a1, rfl, rfl, SqL.of (s1 _ _ h1), at_of (j := i1) rfl h2, _, rfl, a1, ys1, (j2 : Int), vc, rfl, rfl, SqL.of (s1 _ _ h4), at_of (j := j2) rfl h8, ?_⟩
    refine ⟨p, vb, vc, b, c, rfl, k2.same s1, k3.same s1, nb.up (by decide), nc.up (by decide), fp.le, fun v2 H2 s2 kv2 => ?_⟩
    exact ⟨timesD p a d, timesD p b c, (kv1.same s2).dp, kv2.dp, nb_shp (timesD_nb na nd), nb_shp (timesD_nb nb nc), q H2 (s1.trans s2)⟩
end
end K25
set_option Elab.async false
set_option linter.all false
set_option maxRecDepth 100000
set_option maxHeartbeats 4000000
set_option exponentiation.threshold 5000
set_option pp.maxSteps 900
namespace K25
open PySem PySem.Spec PyProof.Rows L2 TkS LamX NdefX
def sl_same (CM : Addr) : Sp := fun vs H Q _ => ∃ (p : Nat) (v u : V), vs = [.int (p : Int), v, u] ∧ ((v = .non ∧ u = .non ∧ Q (.bl true) H) ∨ ∃ (b l : Addr) (x y : PyData) (rw' : List PyData), v = .ref b ∧ u = .ref l ∧ MtO CM H b x y (.tuple rw') ∧ Dq H (.ref l) (.tuple [x, y, .tuple rw']) ∧ Nb p 3000 x ∧ Nb p 3000 y ∧ (∀ d ∈ rw', Nb p 3000 d) ∧ ∀ H', Same H H' → Q (.bl true) H')
theorem three_dq {H : Hp} {xs : List V} {x y z : PyData} (u : DqAll H xs [x, y, z]) : ∃ a b c, xs = [a, b, c] ∧ Dq H a x ∧ Dq H b y ∧ Dq H c z := by
  cases u with
  | cons h t => cases t with
    | cons h2 t2 => cases t2 with
      | cons h3 t3 => cases t3; exact ⟨_, _, _, rfl, h, h2, h3⟩
/-- what is found by going through all couples -/
def Hit (p A B C D f s : Nat) : Prop := 0 < f + s ∧ (f * A + s * B) % p = 0 ∧ (f * C + s * D) % p = 0
def sl_found : Sp := fun vs H Q _ => ∃ (p i1 i2 j1 j2 : Nat) (df cf : Addr) (A B C D : Nat), vs = [.int (p : Int), .ref df, .ref cf] ∧ 2 ≤ p ∧ p ≤ 5 ∧ H cf = some (.tup (crn i1 j1 i2 j2)) ∧ Cn H df i1 i2 j1 j2 (.int (A : Int)) (.int (B : Int)) (.int (C : Int)) (.int (D : Int)) ∧ A < p ∧ B < p ∧ C < p ∧ D < p ∧
  ((∃ f s, f < p ∧ s < p ∧ Hit p A B C D f s) → Q (.bl true) H) ∧ ((∀ f s, f < p → s < p → ¬ Hit p A B C D f s) → Q (.bl false) H)
section
variable {P : Program} {w : World} {K : PySem.W.Frag} {mg : Str → Option Value} {base : Heap}
theorem ok_law_same_meet (T : Txt K mg) : FnOk P w K mg base CX0 4 T.f_law_same_meet T.d_law_same_meet ["_law_p", "_law_told", "_law_due"] (sl_same T.C_Meet) := by
  refine T.F_law_same_meet.ok sc_law_same_meet (fun vs H Q E h => ?_) (fun cdv A outer s H vs Q E hr h => ?_)
  · obtain ⟨p, v, u, rfl, _⟩ := h
    rfl
  · obtain ⟨p, v, u, rfl, hq⟩ := h
    refine ⟨_, (pss_cons (ps_if (pt_cmpR op_isN (pv 2) pe_non (nomark _))
        (pss_one (ps_ret (pe_cmpR op_isN (pv 1) pe_non (nomark _))))
        pss_nil)
      (pss_cons (ps_if (PW.pt (pw_or (pt_not (pt_val (pe_callB call_isi (by rfl) T.m_isinstance (by decide +kernel) (pa_cons (pv 1) (pa_cons (pe_glob (v := .ref T.C_Meet) rfl T.g_Meet rfl) pa_nil))))) (pw_or (pt_not (pt_val (pe_call (ok_law_good T) (hr.mono (by decide)) (by rfl) T.g_law_good T.F_law_good.kp T.b_law_good .nil pass0 (pa_cons (pv 0) (pa_cons (pe_fld (pv 1) rfl) pa_nil))))) (pw_or1 (pt_not (pt_val (pe_call (ok_law_good T) (hr.mono (by decide)) (by rfl) T.g_law_good T.F_law_good.kp T.b_law_good .nil pass0 (pa_cons (pv 0) (pa_cons (pe_fld (pv 1) rfl) pa_nil)))))))))
        (pss_one (ps_ret pe_bl))
        pss_nil)
      (pss_cons (ps_if (pt_not (pt_val (pe_call (ok_law_good_row T) (hr.mono (by decide)) (by rfl) T.g_law_good_row T.F_law_good_row.kp T.b_law_good_row .nil pass0 (pa_cons (pv 0) (pa_cons (pe_fld (pv 1) rfl) (pa_cons (pe_callB call_len_seq (by rfl) T.m_len (by decide +kernel) (pa_cons (pe_ix ix_tup (pv 2) pe_int (fun _ _ => rfl)) pa_nil)) pa_nil))))))
        (pss_one (ps_ret pe_bl))
        pss_nil)
      (pss_one (ps_ret (pe_and (pe_cmpR (op_eqD hr.units) (pe_fld (pv 1) rfl) (pe_ix ix_tup (pv 2) pe_int (fun _ _ => rfl)) (nomark _)) (pe_and (pe_cmpR (op_eqD hr.units) (pe_fld (pv 1) rfl) (pe_ix ix_tup (pv 2) pe_int (fun _ _ => rfl)) (nomark _)) (pe_one (pe_cmpR (op_eqD hr.units) (pe_fld (pv 1) rfl) (pe_ix ix_tup (pv 2) pe_int (fun _ _ => rfl)) (nomark _)))))))))), ?_⟩
    rcases hq with ⟨rfl, rfl, q⟩ | ⟨b, l, x, y, rw', rfl, rfl, mt, kl, nx, ny, nr, q⟩
    · exact ⟨_, rfl, rfl, _, rfl, iteT ⟨_, rfl, rfl, q⟩⟩
    · refine ⟨_, rfl, rfl, _, rfl, iteF ?_⟩
      obtain ⟨dx, vx, vy, vr, hb, kx, ky, kr⟩ := mt.at_
      cases kl with
      | @tup _ us _ el ul =>
      obtain ⟨ux, uy, ur, rfl, k1, k2, k3⟩ := three_dq ul
      cases kr with
      | @tup ar rs _ er ur' =>
      cases k3 with
      | @tup br ss _ es us' =>
      have lr := ur'.len
      have ls := us'.len
      refine ⟨_, rfl, .ref b, .ref T.C_Meet, .ref T.C_Meet, .ref T.C_Meet, true, rfl, .own _, .base (.ins hb T.cl_Meet T.Meet_k_class T.Meet_k_get T.Meet_k_takes T.Meet_k_mro), T.Meet_k_isp, true, rfl, iteF ?_⟩
      refine ⟨_, rfl, _, rfl, b, T.C_Meet, dx, _, _, rfl, hb, T.cl_Meet, T.na_Meet_first, rfl, p, vx, x, rfl, kx, nx, true, rfl, iteF ?_⟩
      refine ⟨_, rfl, _, rfl, b, T.C_Meet, dx, _, _, rfl, hb, T.cl_Meet, T.na_Meet_second, rfl, p, vy, y, rfl, ky, ny, true, rfl, iteF ?_⟩
      refine ⟨_, rfl, _, rfl, b, T.C_Meet, dx, _, _, rfl, hb, T.cl_Meet, T.na_Meet_row, rfl, _, rfl, l, _, 2, .ref br, rfl, rfl, SqT.of el, at_of (j := 2) rfl rfl, br, ss, rfl, .inr (SqT.of es), p, .ref ar, rw', ?_, .tup er ur', nr, true, rfl, iteF ?_⟩
      · rw [ls]
        rfl
      refine ⟨_, rfl, b, T.C_Meet, dx, _, _, rfl, hb, T.cl_Meet, T.na_Meet_first, rfl, _, rfl, l, _, 0, ux, rfl, rfl, SqT.of el, at_of (j := 0) rfl rfl, x, x, kx.dp, k1.dp, nb_shp nx, nb_shp nx, ?_⟩
      rw [nb_self nx]
      refine ⟨_, rfl, iteT ?_⟩
      refine ⟨_, rfl, b, T.C_Meet, dx, _, _, rfl, hb, T.cl_Meet, T.na_Meet_second, rfl, _, rfl, l, _, 1, uy, rfl, rfl, SqT.of el, at_of (j := 1) rfl rfl, y, y, ky.dp, k2.dp, nb_shp ny, nb_shp ny, ?_⟩
      rw [nb_self ny]
      refine ⟨_, rfl, iteT ?_⟩
      have kra : Dq H (.ref ar) (.tuple rw') := .tup er ur'
      have krb : Dq H (.ref br) (.tuple rw') := .tup es us'
      refine ⟨_, rfl, b, T.C_Meet, dx, _, _, rfl, hb, T.cl_Meet, T.na_Meet_row, rfl, _, rfl, l, _, 2, .ref br, rfl, rfl, SqT.of el, at_of (j := 2) rfl rfl, .tuple rw', .tuple rw', kra.dp, krb.dp, (nbs_shp nr).1, (nbs_shp nr).1, ?_⟩
      rw [(nbs_tup nr nr).mpr rfl]
      exact q H (fun _ _ z => z)
theorem ok_law_found (T : Txt K mg) : FnOk P w K mg base CX0 1 T.f_law_found T.d_law_found ["_law_p", "_law_full_here", "_law_corners"] sl_found := by
  refine T.F_law_found.ok sc_law_found (fun vs H Q E h => ?_) (fun cdv A outer s H vs Q E hr h => ?_)
  · obtain ⟨p, i1, i2, j1, j2, df, cf, A, B, C, D, rfl, _⟩ := h
    rfl
  · obtain ⟨p, i1, i2, j1, j2, df, cf, A, B, C, D, rfl, p2, p5, ec, cn, lA, lB, lC, lD, qT, qF⟩ := h
    refine ⟨_, (pss_cons (ps_asg (pv 2) (pg_tup rfl (pgs_cons (pg_name (i := 3) sc_law_found.nd rfl (.inl rfl)) (pgs_cons (pg_name (i := 4) sc_law_found.nd rfl (.inl rfl)) (pgs_cons (pg_name (i := 5) sc_law_found.nd rfl (.inl rfl)) (pgs_cons (pg_name (i := 6) sc_law_found.nd rfl (.inl rfl)) pgs_nil))))))
      (pss_cons (ps_for PassesOwn.never rfl (pi_range1 (by rfl) T.m_range (pa_cons (pv 0) pa_nil)) (pg_name (i := 7) sc_law_found.nd rfl (.inl rfl))
        (pss_one (ps_for PassesOwn.never rfl (pi_range1 (by rfl) T.m_range (pa_cons (pv 0) pa_nil)) (pg_name (i := 8) sc_law_found.nd rfl (.inl rfl))
          (pss_one (ps_if (pt_cmpR op_gt (pe_op op_add (pv 7) (pv 8)) pe_int (nomark _))
            (pss_cons (ps_set (i := 9) sc_law_found.nd rfl (.inl rfl) (pe_op op_mod (pe_callTy call_int1 (by rfl) T.m_int (by decide +kernel) (pa_cons (pe_op op_add (pe_op op_mul (pv 7) (pe_ix ix_list (pe_ix ix_list (pv 1) (pv 3) (fun _ _ => rfl)) (pv 4) (fun _ _ => rfl))) (pe_op op_mul (pv 8) (pe_ix ix_list (pe_ix ix_list (pv 1) (pv 5) (fun _ _ => rfl)) (pv 4) (fun _ _ => rfl)))) pa_nil)) (pv 0)))
            (pss_cons (ps_set (i := 10) sc_law_found.nd rfl (.inl rfl) (pe_op op_mod (pe_callTy call_int1 (by rfl) T.m_int (by decide +kernel) (pa_cons (pe_op op_add (pe_op op_mul (pv 7) (pe_ix ix_list (pe_ix ix_list (pv 1) (pv 3) (fun _ _ => rfl)) (pv 6) (fun _ _ => rfl))) (pe_op op_mul (pv 8) (pe_ix ix_list (pe_ix ix_list (pv 1) (pv 5) (fun _ _ => rfl)) (pv 6) (fun _ _ => rfl)))) pa_nil)) (pv 0)))
            (pss_one (ps_if (PW.pt (pw_and (pt_cmpR op_eq (pv 9) pe_int (nomark _)) (pw_and1 (pt_cmpR op_eq (pv 10) pe_int (nomark _)))))
              (pss_one (ps_ret pe_bl))
              pss_nil))))
            pss_nil)))))
      (pss_one (ps_ret pe_bl)))), ?_⟩
    obtain ⟨xs, a1, ys1, a2, ys2, va, vb, vc, vd, h1, h2, h3, h4, h5, h6, h7, h8, h9, k1, k2, k3, k4⟩ := cn.at_
    cases k1
    cases k2
    cases k3
    cases k4
    refine ⟨_, rfl, cf, _, rfl, SqT.of ec, rfl, _, _, rfl, _, _, rfl, _, _, rfl, _, _, rfl, rfl, ?_⟩
    refine ⟨_, rfl, (p : Int), rfl, by omega, by omega, ?_⟩
    rw [show ((p : Nat) : Int).toNat = p by omega]
    refine for_range (lo := 0) (n := p) (fun f σ H' => ∃ (y7 y8 y9 y10 : Option V), σ = [some (.int (p : Int)), some (.ref df), some (.ref cf), some (.int (i1 : Int)), some (.int (j1 : Int)), some (.int (i2 : Int)), some (.int (j2 : Int)), y7, y8, y9, y10] ∧ H = H' ∧ ∀ f' s', f' < f → s' < p → ¬ Hit p A B C D f' s') ⟨none, none, none, none, rfl, rfl, fun f' s' z => absurd z (by omega)⟩ (fun f σ H' hf hP => ?_) (fun σ H' hP => ?_)
    · obtain ⟨y7, y8, y9, y10, rfl, rfl, no⟩ := hP
      refine ⟨_, rfl, (p : Int), rfl, by omega, by omega, ?_⟩
      rw [show ((p : Nat) : Int).toNat = p by omega]
      refine for_range (lo := 0) (n := p) (fun s' σ H' => ∃ (y8 y9 y10 : Option V), σ = [some (.int (p : Int)), some (.ref df), some (.ref cf), some (.int (i1 : Int)), some (.int (j1 : Int)), some (.int (i2 : Int)), some (.int (j2 : Int)), some (.int (0 + (f : Int))), y8, y9, y10] ∧ H = H' ∧ ∀ s2, s2 < s' → ¬ Hit p A B C D f s2) ⟨y8, y9, y10, rfl, rfl, fun s2 z => absurd z (by omega)⟩ (fun s' σ H' hs hP => ?_) (fun σ H' hP => ?_)
      · obtain ⟨y8, y9, y10, rfl, rfl, no2⟩ := hP
        have p0 : (0 : Int) < (p : Int) := by omega
        rw [Int.zero_add, Int.zero_add]
        refine ⟨_, rfl, _, rfl, (f : Int), (s' : Int), rfl, rfl, _, _, rfl, rfl, _, rfl, ite2 (fun c => ?_) (fun c => ?_)⟩
        · have c' : (0 : Int) < (f : Int) + (s' : Int) := of_decide_eq_true c
          refine ⟨_, rfl, _, rfl, _, rfl, df, xs, (i1 : Int), .ref a1, rfl, rfl, SqL.of h1, at_of (j := i1) rfl h2, _, rfl, a1, ys1, (j1 : Int), _, rfl, rfl, SqL.of h4, at_of (j := j1) rfl h6, (f : Int), (A : Int), rfl, rfl, .inl ⟨by omega, by omega⟩, ?_⟩
          refine ⟨_, rfl, _, rfl, _, rfl, df, xs, (i2 : Int), .ref a2, rfl, rfl, SqL.of h1, at_of (j := i2) rfl h3, _, rfl, a2, ys2, (j1 : Int), _, rfl, rfl, SqL.of h5, at_of (j := j1) rfl h7, (s' : Int), (B : Int), rfl, rfl, .inl ⟨by omega, by omega⟩, _, _, rfl, rfl, .inl ⟨_, rfl, _, rfl, _, (p : Int), rfl, rfl, p0, ?_⟩⟩
          refine ⟨_, rfl, _, rfl, _, rfl, df, xs, (i1 : Int), .ref a1, rfl, rfl, SqL.of h1, at_of (j := i1) rfl h2, _, rfl, a1, ys1, (j2 : Int), _, rfl, rfl, SqL.of h4, at_of (j := j2) rfl h8, (f : Int), (C : Int), rfl, rfl, .inl ⟨by omega, by omega⟩, ?_⟩
          refine ⟨_, rfl, _, rfl, _, rfl, df, xs, (i2 : Int), .ref a2, rfl, rfl, SqL.of h1, at_of (j := i2) rfl h3, _, rfl, a2, ys2, (j2 : Int), _, rfl, rfl, SqL.of h5, at_of (j := j2) rfl h9, (s' : Int), (D : Int), rfl, rfl, .inl ⟨by omega, by omega⟩, _, _, rfl, rfl, .inl ⟨_, rfl, _, rfl, _, (p : Int), rfl, rfl, p0, ?_⟩⟩
          have e1 : ((f : Int) * (A : Int) + (s' : Int) * (B : Int)) % (p : Int) = (((f * A + s' * B) % p : Nat) : Int) := rfl
          have e2 : ((f : Int) * (C : Int) + (s' : Int) * (D : Int)) % (p : Int) = (((f * C + s' * D) % p : Nat) : Int) := rfl
          dsimp only
          rw [e1, e2]
          have next : ¬ ((f * A + s' * B) % p = 0 ∧ (f * C + s' * D) % p = 0) → ∀ s2, s2 < s' + 1 → ¬ Hit p A B C D f s2 := fun nh s2 z hit => by
            by_cases e : s2 = s'
            · subst e
              exact nh hit.2
            · exact no2 s2 (by omega) hit
          refine ⟨_, rfl, rfl, _, rfl, ite2 (fun c1 => ?_) (fun c1 => ?_)⟩
          · have z1 : (f * A + s' * B) % p = 0 := by
              rw [int_dec] at c1
              exact Int.natCast_eq_zero.mp (of_decide_eq_true c1)
            refine ⟨_, rfl, rfl, _, rfl, ite2 (fun c2 => ?_) (fun c2 => ?_)⟩
            · have z2 : (f * C + s' * D) % p = 0 := by
                rw [int_dec] at c2
                exact Int.natCast_eq_zero.mp (of_decide_eq_true c2)
              exact qT ⟨f, s', hf, hs, by omega, z1, z2⟩
            · exact ⟨_, _, _, rfl, rfl, next fun z => c2 (by rw [int_dec, z.2]; rfl)⟩
          · exact ⟨_, _, _, rfl, rfl, next fun z => c1 (by rw [int_dec, z.1]; rfl)⟩
        · have c' : ¬ (0 : Int) < (f : Int) + (s' : Int) := fun z => c (decide_eq_true z)
          refine ⟨_, _, _, rfl, rfl, fun s2 z hit => ?_⟩
          by_cases e : s2 = s'
          · subst e
            have := hit.1
            omega
          · exact no2 s2 (by omega) hit
      · obtain ⟨y8, y9, y10, rfl, rfl, no2⟩ := hP
        refine ⟨_, _, _, _, rfl, rfl, fun f' s2 z z2 => ?_⟩
        by_cases e : f' = f
        · subst e
          exact no2 s2 z2
        · exact no f' s2 (by omega) z2
    · obtain ⟨y7, y8, y9, y10, rfl, rfl, no⟩ := hP
      exact qF no
end
end K25
set_option Elab.async false
set_option linter.all false
set_option maxRecDepth 100000
set_option maxHeartbeats 4000000
set_option exponentiation.threshold 5000
set_option pp.maxSteps 900
namespace K25
open PySem PySem.Spec PyProof.Rows L2 TkS LamX NdefX
section
variable {P : Program} {w : World} {K : PySem.W.Frag} {mg : Str → Option Value} {base : Heap}
theorem ok_law_meet (T : Txt K mg) : FnOk P w K mg base CX0 5 T.f_law_meet T.d_law_meet ["_law_p", "_law_full_here", "_law_points", "_law_corners"] sl_meet := by
  refine T.F_law_meet.ok sc_law_meet (fun vs H Q E h => ?_) (fun cdv A outer s H vs Q E hr h => ?_)
  · obtain ⟨p, n, i1, i2, j1, j2, df, dp, cf, a, b, c, d, R, r1, r2, rfl, _⟩ := h
    rfl
  · obtain ⟨p, n, i1, i2, j1, j2, df, dp, cf, a, b, c, d, R, r1, r2, rfl, fp, ec, cn, na, nb, nc, nd, kR, hr1, hr2, l1, l2, n6, n1, n2, q⟩ := h
    refine ⟨_, (pss_cons (ps_asg (pv 3) (pg_tup rfl (pgs_cons (pg_name (i := 4) sc_law_meet.nd rfl (.inl rfl)) (pgs_cons (pg_name (i := 5) sc_law_meet.nd rfl (.inl rfl)) (pgs_cons (pg_name (i := 6) sc_law_meet.nd rfl (.inl rfl)) (pgs_cons (pg_name (i := 7) sc_law_meet.nd rfl (.inl rfl)) pgs_nil))))))
      (pss_cons (ps_set (i := 8) sc_law_meet.nd rfl (.inl rfl) (pe_call (ok_law_some T) (hr.mono (by decide)) (by rfl) T.g_law_some T.F_law_some.kp T.b_law_some .nil pass0 (pa_cons (pv 0) (pa_cons pe_int pa_nil))))
      (pss_cons (ps_set (i := 9) sc_law_meet.nd rfl (.inl rfl) (pe_tup (pa_cons (pe_ix ix_list (pe_ix ix_list (pv 1) (pv 4) (fun _ _ => rfl)) (pv 5) (fun _ _ => rfl)) (pa_cons (pe_ix ix_list (pe_ix ix_list (pv 1) (pv 6) (fun _ _ => rfl)) (pv 5) (fun _ _ => rfl)) pa_nil))))
      (Evl.pss_cut (ps_set (i := 10) sc_law_meet.nd rfl (.inl rfl) (pe_tup (pa_cons (pe_ix ix_list (pe_ix ix_list (pv 1) (pv 4) (fun _ _ => rfl)) (pv 7) (fun _ _ => rfl)) (pa_cons (pe_ix ix_list (pe_ix ix_list (pv 1) (pv 6) (fun _ _ => rfl)) (pv 7) (fun _ _ => rfl)) pa_nil))))
      (pss_cons (ps_if (pt_not (pt_val (pe_call (ok_law_tile_fair T) (hr.mono (by decide)) (by rfl) T.g_law_tile_fair T.F_law_tile_fair.kp T.b_law_tile_fair .nil pass0 (pa_cons (pv 0) (pa_cons (pv 1) (pa_cons (pv 3) pa_nil))))))
        (pss_one (ps_ret pe_non))
        pss_nil)
      (pss_cons (ps_set (i := 11) sc_law_meet.nd rfl (.inl rfl) (pv 9))
      (Evl.pss_cut (ps_if (pt_cmpR (op_eqD hr.units) (pv 9) (pe_tup (pa_cons (pv 8) (pa_cons (pv 8) pa_nil))) (nomark _))
        (pss_one (ps_set (i := 11) sc_law_meet.nd rfl (.inl rfl) (pv 10)))
        pss_nil)
      (pss_cons (ps_set (i := 12) sc_law_meet.nd rfl (.inl rfl) (pe_call (ok_law_some T) (hr.mono (by decide)) (by rfl) T.g_law_some T.F_law_some.kp T.b_law_some .nil pass0 (pa_cons (pv 0) (pa_cons pe_int pa_nil))))
      (pss_cons (ps_set (i := 13) sc_law_meet.nd rfl (.inl rfl) (pv 8))
      (Evl.pss_cut (ps_if (pt_cmpR (op_neD hr.units) (pe_ix ix_tup (pv 11) pe_int (fun _ _ => rfl)) (pv 8) (nomark _))
        (pss_one (ps_set (i := 13) sc_law_meet.nd rfl (.inl rfl) (pe_call (ok_law_minus T) (hr.mono (by decide)) (by rfl) T.g_law_minus T.F_law_minus.kp T.b_law_minus .nil pass0 (pa_cons (pv 0) (pa_cons (pe_call (ok_law_over T) (hr.mono (by decide)) (by rfl) T.g_law_over T.F_law_over.kp T.b_law_over .nil pass0 (pa_cons (pv 0) (pa_cons (pe_ix ix_tup (pv 11) pe_int (fun _ _ => rfl)) (pa_cons (pe_ix ix_tup (pv 11) pe_int (fun _ _ => rfl)) pa_nil)))) pa_nil)))))
        (pss_cons (ps_set (i := 12) sc_law_meet.nd rfl (.inl rfl) (pv 8))
        (pss_one (ps_set (i := 13) sc_law_meet.nd rfl (.inl rfl) (pe_call (ok_law_some T) (hr.mono (by decide)) (by rfl) T.g_law_some T.F_law_some.kp T.b_law_some .nil pass0 (pa_cons (pv 0) (pa_cons pe_int pa_nil)))))))
      (pss_cons (ps_set (i := 14) sc_law_meet.nd rfl (.inl rfl) (pe_call (ok_law_sum T) (hr.mono (by decide)) (by rfl) T.g_law_sum T.F_law_sum.kp T.b_law_sum .nil pass0 (pa_cons (pv 0) (pa_cons (pe_lst (pa_cons (pv 12) (pa_cons (pv 13) pa_nil))) (pa_cons (pe_lst (pa_cons (pe_ix ix_list (pv 2) (pv 4) (fun _ _ => rfl)) (pa_cons (pe_ix ix_list (pv 2) (pv 6) (fun _ _ => rfl)) pa_nil))) (pa_cons (pe_callB call_len_seq (by rfl) T.m_len (by decide +kernel) (pa_cons (pe_ix ix_list (pv 2) (pv 4) (fun _ _ => rfl)) pa_nil)) pa_nil))))))
      (pss_one (ps_ret (pe_tup (pa_cons (pv 12) (pa_cons (pv 13) (pa_cons (pv 14) pa_nil))))))))))))))))), ?_⟩
    obtain ⟨qx, qy, qN, qM⟩ := q _ _ rfl rfl
    obtain ⟨xs, a1, ys1, a2, ys2, va, vb, vc, vd, h1, h2, h3, h4, h5, h6, h7, h8, h9, k1, k2, k3, k4⟩ := cn.at_
    refine ⟨_, rfl, cf, _, rfl, SqT.of ec, rfl, _, _, rfl, _, _, rfl, _, _, rfl, _, _, rfl, rfl, ?_⟩
    refine ⟨_, rfl, p, 0, rfl, fun vz H1 s1 kz => ?_⟩
    rw [some_zero] at kz
    refine ⟨_, rfl, _, rfl, df, xs, (i1 : Int), .ref a1, rfl, rfl, SqL.of (s1 _ _ h1), at_of (j := i1) rfl h2, _, rfl, a1, ys1, (j1 : Int), va, rfl, rfl, SqL.of (s1 _ _ h4), at_of (j := j1) rfl h6, ?_⟩
    refine ⟨_, rfl, _, rfl, df, xs, (i2 : Int), .ref a2, rfl, rfl, SqL.of (s1 _ _ h1), at_of (j := i2) rfl h3, _, rfl, a2, ys2, (j1 : Int), vb, rfl, rfl, SqL.of (s1 _ _ h5), at_of (j := j1) rfl h7, (by show 2 ≤ sizeLine; decide), fun l9 n9 => ?_⟩
    have s2 := s1.trans (same_new (o := .tup [va, vb]) n9)
    have e9 : (upd H1 l9 (.tup [va, vb])) l9 = some (.tup [va, vb]) := upd_same
    have kz2 := kz.same (same_new (o := .tup [va, vb]) n9)
    generalize upd H1 l9 (.tup [va, vb]) = H2 at s2 e9 kz2
    refine ⟨fun σ H' => ∃ l10, σ = [some (.int (p : Int)), some (.ref df), some (.ref dp), some (.ref cf), some (.int (i1 : Int)), some (.int (j1 : Int)), some (.int (i2 : Int)), some (.int (j2 : Int)), some vz, some (.ref l9), some (.ref l10), none, none, none, none] ∧ Same H H' ∧ Dq H' vz (zeroD p) ∧ Dq H' (.ref l9) (.tuple [a, b]) ∧ Dq H' (.ref l10) (.tuple [c, d]), ?_, fun σ H' hM => ?_⟩
    · refine ⟨_, rfl, _, rfl, df, xs, (i1 : Int), .ref a1, rfl, rfl, SqL.of (s2 _ _ h1), at_of (j := i1) rfl h2, _, rfl, a1, ys1, (j2 : Int), vc, rfl, rfl, SqL.of (s2 _ _ h4), at_of (j := j2) rfl h8, ?_⟩
      refine ⟨_, rfl, _, rfl, df, xs, (i2 : Int), .ref a2, rfl, rfl, SqL.of (s2 _ _ h1), at_of (j := i2) rfl h3, _, rfl, a2, ys2, (j2 : Int), vd, rfl, rfl, SqL.of (s2 _ _ h5), at_of (j := j2) rfl h9, (by show 2 ≤ sizeLine; decide), fun l10 n10 => ?_⟩
      have sn := same_new (o := .tup [vc, vd]) n10
      have s3 := s2.trans sn
      exact ⟨l10, rfl, s3, kz2.same sn, .tup (sn _ _ e9) (.cons (k1.same s3) (.cons (k2.same s3) .nil)), .tup upd_same (.cons (k3.same s3) (.cons (k4.same s3) .nil))⟩
    clear e9 kz2 s2 kz
    obtain ⟨l10, rfl, s3, kz, k9, k10⟩ := hM
    refine ⟨_, rfl, _, rfl, _, rfl, p, i1, i2, j1, j2, df, cf, a, b, c, d, rfl, fp, s3 _ _ ec, cn.same s3, na, nb, nc, nd, fun H4 s4 => ?_⟩
    have s34 := s3.trans s4
    refine ⟨_, rfl, ite2 (fun c0 => ?_) (fun c0 => ?_)⟩
    · exact qN (by cases z : fairB p a b c d with | true => rw [z] at c0; cases c0 | false => rfl) H4 s34
    have fair : fairB p a b c d = true := by
      cases z : fairB p a b c d with
      | true => rfl
      | false => rw [z] at c0; exact absurd rfl c0
    have QM := qM fair
    clear qN qM c0
    have kz4 := kz.same s4
    have k94 := k9.same s4
    have k104 := k10.same s4
    refine ⟨_, rfl, ?_⟩
    refine ⟨fun σ H' => ∃ l11, σ = [some (.int (p : Int)), some (.ref df), some (.ref dp), some (.ref cf), some (.int (i1 : Int)), some (.int (j1 : Int)), some (.int (i2 : Int)), some (.int (j2 : Int)), some vz, some (.ref l9), some (.ref l10), some (.ref l11), none, none, none] ∧ Same H4 H' ∧ Dq H' (.ref l11) (.tuple [(decD p a b c d).1, (decD p a b c d).2]), ?_, fun σ H' hM => ?_⟩
    · refine ⟨_, rfl, _, rfl, _, rfl, (by show 2 ≤ sizeLine; decide), fun l3 nl3 => ?_⟩
      have s5 := same_new (o := .tup [vz, vz]) nl3
      have k95 := k94.same s5
      have kz5 : Dq (upd H4 l3 (.tup [vz, vz])) (.ref l3) (.tuple [zeroD p, zeroD p]) := .tup upd_same (.cons (kz4.same s5) (.cons (kz4.same s5) .nil))
      refine ⟨.tuple [a, b], .tuple [zeroD p, zeroD p], k95.dp, kz5.dp, two_shp na nb, two_shp (nb_zero (k := 1) fp (Nat.le_refl 1)) (nb_zero (k := 1) fp (Nat.le_refl 1)), _, rfl, ite2 (fun c1 => ?_) (fun c1 => ?_)⟩
      · refine ⟨_, rfl, l10, rfl, s5, ?_⟩
        rw [show decD p a b c d = (c, d) from if_pos c1]
        exact k104.same s5
      · refine ⟨l9, rfl, s5, ?_⟩
        rw [show decD p a b c d = (a, b) from if_neg c1]
        exact k95
    obtain ⟨l11, rfl, s5, k11⟩ := hM
    have s45 := s34.trans s5
    have kz5 := kz4.same s5
    have nde : Nb p 150 (decD p a b c d).1 ∧ Nb p 150 (decD p a b c d).2 := by
      unfold decD
      split
      · exact ⟨nc, nd⟩
      · exact ⟨na, nb⟩
    change Nb p 150 (w1D p (decD p a b c d).2) at qx
    change Nb p 150 (w2D p (decD p a b c d).1 (decD p a b c d).2) at qy
    change ∀ l H', Same H H' → Dq H' (.ref l) (.tuple [w1D p (decD p a b c d).2, w2D p (decD p a b c d).1 (decD p a b c d).2, .tuple (rowD p n (w1D p (decD p a b c d).2) (w2D p (decD p a b c d).1 (decD p a b c d).2) r1 r2)]) → Q (.ref l) H' at QM
    generalize (decD p a b c d).1 = u at *
    generalize (decD p a b c d).2 = v at *
    refine ⟨_, rfl, p, 1, rfl, fun v1 H6 s6 kv1 => ?_⟩
    rw [some_one fp] at kv1
    refine ⟨_, rfl, ?_⟩
    cases k11 with
    | @tup _ us _ e11 u11 =>
    obtain ⟨wu, wv, rfl, ku, kv⟩ := two_dqN u11
    have e11' := s6 _ _ e11
    have ku6 := ku.same s6
    have kv6 := kv.same s6
    have kz6 := kz5.same s6
    refine ⟨fun σ H' => ∃ x y, σ = [some (.int (p : Int)), some (.ref df), some (.ref dp), some (.ref cf), some (.int (i1 : Int)), some (.int (j1 : Int)), some (.int (i2 : Int)), some (.int (j2 : Int)), some vz, some (.ref l9), some (.ref l10), some (.ref l11), some x, some y, none] ∧ Same H6 H' ∧ Dq H' x (w1D p v) ∧ Dq H' y (w2D p u v), ?_, fun σ H' hM => ?_⟩
    · refine ⟨_, rfl, l11, _, 1, wv, rfl, rfl, SqT.of e11', at_of (j := 1) rfl rfl, _, rfl, v, zeroD p, kv6.dp, kz6.dp, nb_shp nde.2, zero_shp p, _, rfl, ite2 (fun c1 => ?_) (fun c1 => ?_)⟩
      · have nz : nzB p v = true := c1
        have vnz := (nz_iff fp nde.2).mp nz
        refine ⟨_, rfl, _, rfl, _, rfl, l11, _, 0, wu, rfl, rfl, SqT.of e11', at_of (j := 0) rfl rfl, _, rfl, l11, _, 1, wv, rfl, rfl, SqT.of e11', at_of (j := 1) rfl rfl, ?_⟩
        refine ⟨p, wu, wv, u, v, rfl, fp, ku6, kv6, nde.1.up (by decide), nde.2.up (by decide), vnz, fun v7 H7 s7 k7 => ?_⟩
        refine ⟨p, v7, _, rfl, fp, k7, (over_nb nde.1 nde.2 vnz).up (by decide), fun v8 H8 s8 k8 => ?_⟩
        refine ⟨v1, v8, rfl, s7.trans s8, ?_, ?_⟩
        · rw [show w1D p v = oneD p from if_pos nz]
          exact kv1.same (s7.trans s8)
        · rw [show w2D p u v = secD p u v from if_pos nz]
          exact k8
      · have nz : ¬ nzB p v = true := c1
        refine ⟨_, rfl, ?_⟩
        refine ⟨_, rfl, p, 1, rfl, fun v7 H7 s7 k7 => ?_⟩
        rw [some_one fp] at k7
        refine ⟨vz, v7, rfl, s7, ?_, ?_⟩
        · rw [show w1D p v = zeroD p from if_neg nz]
          exact kz6.same s7
        · rw [show w2D p u v = oneD p from if_neg nz]
          exact k7
    obtain ⟨x, y, rfl, s7, kx, ky⟩ := hM
    generalize w1D p v = wx at *
    generalize w2D p u v = wy at *
    have sA := (s45.trans s6).trans s7
    have kR7 := kR.same sA
    cases kR7 with
    | @lst _ ps _ eR uR =>
    obtain ⟨p1, hp1, kp1⟩ := dqs_at uR (i := i1) (d := .list r1) (by rw [List.getElem?_map, hr1]; rfl)
    obtain ⟨p2, hp2, kp2⟩ := dqs_at uR (i := i2) (d := .list r2) (by rw [List.getElem?_map, hr2]; rfl)
    cases kp1 with
    | @lst b1 q1s _ eb1 ub1 =>
    have lq1 := ub1.len
    refine ⟨_, rfl, _, rfl, _, rfl, (by show 2 ≤ sizeLine; decide), fun l12 n12 => ?_⟩
    have s8 := same_new (o := .lst [x, y]) n12
    refine ⟨_, rfl, _, rfl, dp, ps, (i1 : Int), .ref b1, rfl, rfl, SqL.of (s8 _ _ eR), at_of (j := i1) rfl hp1, _, rfl, _, rfl, dp, ps, (i2 : Int), p2, rfl, rfl, SqL.of (s8 _ _ eR), at_of (j := i2) rfl hp2, (by show 2 ≤ sizeLine; decide), fun l13 n13 => ?_⟩
    have s9 := same_new (o := .lst [.ref b1, p2]) n13
    have s89 := s8.trans s9
    refine ⟨_, rfl, _, rfl, dp, ps, (i1 : Int), .ref b1, rfl, rfl, SqL.of (s89 _ _ eR), at_of (j := i1) rfl hp1, b1, q1s, rfl, .inl (SqL.of (s89 _ _ eb1)), ?_⟩
    refine ⟨p, n, .ref l12, .ref l13, [wx, wy], [r1, r2], ?_, fp, .lst (s9 _ _ upd_same) (.cons (kx.same s89) (.cons (ky.same s89) .nil)), .lst upd_same (.cons (.lst (s89 _ _ eb1) (DqAll.same s89 _ ub1)) (.cons (kp2.same s89) .nil)), rfl, (by show 2 ≤ 2; decide), n6, fun d md => ?_, fun r mr => ?_, fun v14 H14 s14 k14 => ?_⟩
    · rw [show q1s.length = n by omega]
      rfl
    · rcases List.mem_cons.mp md with rfl | md
      · exact qx
      · rw [List.mem_singleton.mp md]
        exact qy
    · rcases List.mem_cons.mp mr with rfl | mr
      · exact ⟨l1, n1⟩
      · rw [List.mem_singleton.mp mr]
        exact ⟨l2, n2⟩
    have sB := s89.trans s14
    refine ⟨_, rfl, _, rfl, _, rfl, (by show 3 ≤ sizeLine; decide), fun l15 n15 => ?_⟩
    have s15 := same_new (o := .tup [x, y, v14]) n15
    exact QM l15 _ ((sA.trans sB).trans s15) (.tup upd_same (.cons ((kx.same sB).same s15) (.cons ((ky.same sB).same s15) (.cons (k14.same s15) .nil))))
end
end K25
set_option Elab.async false
set_option linter.all false
set_option maxRecDepth 100000
set_option maxHeartbeats 4000000
set_option exponentiation.threshold 5000
set_option pp.maxSteps 900
namespace K25
open PySem PySem.Spec PyProof.Rows L2 TkS LamX NdefX
theorem row_true {p : Nat} {n : Int} {d : PyData} {r : List PyData} {k : Nat} (e : itemsD d = some r) (l : (r.length : Int) = n) (nb : ∀ x ∈ r, Nb p k x) (nz : r.any (nzB p) = true) : isRow p n d = true := by
  have h1 : numRow p d n = true := by
    unfold numRow wrongI seqIs
    rw [e]
    dsimp only
    rw [if_pos (decide_eq_true l), bad_all r 0 (List.all_eq_true.mpr fun x m => numOk_nb (nb x m))]
    rfl
  unfold isRow anyNzD
  rw [h1, e]
  exact nz
/-- rows as a space takes them -/
structure Gz (p n : Nat) (R : List (List PyData)) : Prop where
  g : Gd p n R
  nz : ∀ r ∈ R, r.any (nzB p) = true
section
variable {c c2 : List PyData → PyData} {p n : Nat} {R S : List (List PyData)}
theorem has_list {L : List PyData} {lo hi : Int} (h1 : lo ≤ (L.length : Int)) (h2 : (L.length : Int) ≤ hi) : hasB (.list L) lo hi = true := by
  show (decide _ && decide _) = true
  rw [decide_eq_true h1, decide_eq_true h2]
  rfl
theorem space_in {dp dw : PyData} (h1 : hasB dp 1 5 = true) (h2 : hasB dw 1 5 = true) : spaceW p dp dw = if hasB (headD dp) 1 6 = false then some (("point" : Str), (0 : Int)) else
    match wrongN (isRow p (lenD (headD dp))) dp with
    | some i => some (("point" : Str), i)
    | none => match wrongN (isRow p (lenD (headD dp))) dw with
      | some i => some (("wall" : Str), i)
      | none => none := by
  unfold spaceW
  rw [if_neg (by rw [h1]; exact Bool.noConfusion), if_neg (by rw [h2]; exact Bool.noConfusion)]
  all_goals (cases wrongN (isRow p (lenD (headD dp))) dp <;> first | rfl | (cases wrongN (isRow p (lenD (headD dp))) dw <;> rfl))
theorem Gz.head (hc : ∀ r, itemsD (c r) = some r) (g : Gz p n R) {L : List PyData} (hL : L[0]? = (R.map c)[0]?) : hasB (headD (.list L)) 1 6 = true ∧ lenD (headD (.list L)) = n := by
  obtain ⟨r, rs, rfl⟩ : ∃ r rs, R = r :: rs := by
    cases R with
    | nil => have := g.g.m1; simp at this
    | cons a b => exact ⟨a, b, rfl⟩
  have e : headD (.list L) = c r := by
    cases L with
    | nil => simp at hL
    | cons a b =>
      simp at hL
      subst hL
      rfl
  have lr := g.g.ln r List.mem_cons_self
  have n1 := g.g.n1
  have n6 := g.g.n6
  rw [e]
  constructor
  · unfold hasB
    rw [hc r]
    show (decide ((1 : Int) ≤ (r.length : Int)) && decide ((r.length : Int) ≤ 6)) = true
    rw [decide_eq_true (by omega), decide_eq_true (by omega)]
    rfl
  · unfold lenD rowOf
    rw [hc r]
    show ((r.length : Nat) : Int) = n
    rw [lr]
theorem Gz.row (hc : ∀ r, itemsD (c r) = some r) (g : Gz p n R) {j : Nat} {x : PyData} (h : (R.map c)[j]? = some x) : isRow p n x = true := by
  rw [List.getElem?_map] at h
  obtain ⟨r, e1, rfl⟩ := Option.map_eq_some_iff.mp h
  have m := List.mem_of_getElem? e1
  exact row_true (hc r) (by rw [g.g.ln r m]) (g.g.nb r m) (g.nz r m)
theorem Gz.all (hc : ∀ r, itemsD (c r) = some r) (g : Gz p n R) : wrongN (isRow p n) (.list (R.map c)) = none := by
  show firstBad _ _ 0 = none
  refine bad_all _ 0 (List.all_eq_true.mpr fun x m => ?_)
  obtain ⟨j, hj⟩ := List.getElem?_of_mem m
  exact g.row hc hj
theorem Gz.has (g : Gz p n R) {L : List PyData} (l : L.length = R.length) : hasB (.list L) 1 5 = true := by
  have := g.g.m1
  have := g.g.m5
  exact has_list (by omega) (by omega)
theorem space_ok (hc : ∀ r, itemsD (c r) = some r) (hc2 : ∀ r, itemsD (c2 r) = some r) (g : Gz p n R) (gS : Gz p n S) : spaceW p (.list (R.map c)) (.list (S.map c2)) = none := by
  rw [space_in (g.has (List.length_map _)) (gS.has (List.length_map _))]
  obtain ⟨h1, h2⟩ := g.head hc (L := R.map c) rfl
  rw [if_neg (by rw [h1]; exact Bool.noConfusion), h2, g.all hc]
  dsimp only
  rw [gS.all hc2]
end
theorem tups_t (R : List (List PyData)) : tupsD (.list (R.map .tuple)) = rowsD R := by
  show PyData.tuple ((R.map PyData.tuple).map fun r => .tuple (rowOf r)) = _
  rw [List.map_map]
  rfl
theorem tabs_new {H : Hp} {Pw : Addr × Addr} (h1 : H Pw.1 = some (.tbl #[])) (h2 : H Pw.2 = some (.tbl #[])) : Tabs (lamT Pw) H := fun p m => by
  rcases List.mem_cons.mp m with rfl | m
  · exact TabS.nil h1
  · rw [List.mem_singleton.mp m]
    exact TabS.nil h2
theorem lc_copyT {K : PySem.W.Frag} {a : Addr} {xs : List V} {R : List (List PyData)} {c : List PyData → PyData} (hc : ∀ r, itemsD (c r) = some r) {tl : TE} {te : TE} {vs : List Nat} {σ : L2.St} {H : Hp} {Q : VK} {j : Nat} (m5 : R.length ≤ 900) (nbk : ∀ r ∈ R, ∀ d ∈ r, noList d = true) (ht0 : ∀ Q : VK, Q (.ref a) H → tl σ H Q) (hq : Sq K H a xs) (hx : DqAll H xs (R.map c)) (hw : ∀ x : V, wipe ((wipe σ vs).set j (some x)) vs = wipe σ vs)
    (he : ∀ (x : V) (H' : Hp) (Q' : VK), rTupD [x] H' Q' → te ((wipe σ vs).set j (some x)) H' Q') (hd : ∀ D H', H D = none → Same H H' → Dq H' (.ref D) (.list (R.map .tuple)) → Q (.ref D) H') : tLc (iSeq K tl) (gName j) tYes te vs σ H Q := by
  refine lc_seqD (f := fun _ => true) (e := fun d => .tuple (rowOf d)) ht0 hq hx (by rw [List.length_map]; omega) hw (fun i x d H' Q _ _ _ h => h _ fun _ _ z => z) (fun D i x d H1 Q1 nD hd0 _ s1 k1 acc q1 => ?_) (fun D H1 nD s1 kd => ?_)
  · obtain ⟨ac, hac⟩ := acc
    rw [List.getElem?_map] at hd0
    obtain ⟨r, hr', rfl⟩ := Option.map_eq_some_iff.mp hd0
    refine he x H1 Q1 ⟨x, c r, r, rfl, k1, hc r, fun l H2 s2 kl => q1 _ _ s2 ?_⟩
    have e : rowOf (c r) = r := by
      unfold rowOf
      rw [hc r]
      rfl
    rw [e]
    exact dq_noL (s2 _ _ hac) _ (noLs_all fun d m => nbk r (List.mem_of_getElem? hr') d m) kl
  · rw [List.filter_eq_self.mpr fun _ _ => rfl, List.map_map] at kd
    refine hd D H1 nD s1 ?_
    have e : (fun d => PyData.tuple (rowOf d)) ∘ c = PyData.tuple := by
      funext r
      show PyData.tuple ((itemsD (c r)).getD []) = _
      rw [hc r]
      rfl
    rw [e] at kd
    exact kd
/-! two, three, five: gone through -/
def hitB (p A B C D : Nat) : Bool := (List.range p).any fun f => (List.range p).any fun s => Nat.blt 0 (f + s) && (Nat.beq ((f * A + s * B) % p) 0 && Nat.beq ((f * C + s * D) % p) 0)
def chkP (p : Nat) : Bool := (List.range p).all fun A => (List.range p).all fun B => (List.range p).all fun C => (List.range p).all fun D => hitB p A B C D == Nat.beq (A * D % p) (B * C % p)
theorem chk2 : chkP 2 = true := by decide +kernel
theorem chk3 : chkP 3 = true := by decide +kernel
theorem chk5 : chkP 5 = true := by decide +kernel
theorem hit_iff {p A B C D : Nat} : hitB p A B C D = true ↔ ∃ f s, f < p ∧ s < p ∧ Hit p A B C D f s := by
  unfold hitB Hit
  constructor
  · intro h
    obtain ⟨f, mf, h⟩ := List.any_eq_true.mp h
    obtain ⟨s, ms, h⟩ := List.any_eq_true.mp h
    obtain ⟨h1, h⟩ := Bool.and_eq_true_iff.mp h
    obtain ⟨h2, h3⟩ := Bool.and_eq_true_iff.mp h
    exact ⟨f, s, List.mem_range.mp mf, List.mem_range.mp ms, Nat.blt_eq.mp h1, Nat.eq_of_beq_eq_true h2, Nat.eq_of_beq_eq_true h3⟩
  · rintro ⟨f, s, lf, ls, h1, h2, h3⟩
    refine List.any_eq_true.mpr ⟨f, List.mem_range.mpr lf, List.any_eq_true.mpr ⟨s, List.mem_range.mpr ls, ?_⟩⟩
    rw [Nat.blt_eq.mpr h1, h2, h3]
    rfl
theorem chk_at {p A B C D : Nat} (h : chkP p = true) (a : A < p) (b : B < p) (c : C < p) (d : D < p) : hitB p A B C D = Nat.beq (A * D % p) (B * C % p) := by
  have h1 := List.all_eq_true.mp h A (List.mem_range.mpr a)
  have h2 := List.all_eq_true.mp h1 B (List.mem_range.mpr b)
  have h3 := List.all_eq_true.mp h2 C (List.mem_range.mpr c)
  have h4 := List.all_eq_true.mp h3 D (List.mem_range.mpr d)
  exact eq_of_beq h4
theorem small_p {p : Nat} (fp : Fp p) (h0 : p ≠ 0) (h5 : p ≤ 5) : chkP p = true := by
  have pr := (fp.resolve_left h0).1
  have p2 := pr.1
  have : p = 2 ∨ p = 3 ∨ p = 4 ∨ p = 5 := by omega
  rcases this with rfl | rfl | rfl | rfl
  · exact chk2
  · exact chk3
  · exact absurd (show 2 ∣ 4 from ⟨2, rfl⟩) (pr.2 2 (by decide) (by decide))
  · exact chk5
theorem fair_nat {p A B C D : Nat} (n : p ≠ 0) : fairB p (.int (A : Int)) (.int (B : Int)) (.int (C : Int)) (.int (D : Int)) = Nat.beq (A * D % p) (B * C % p) := by
  unfold fairB
  rw [times_nat n, times_nat n, eqv_int]
  cases h : Nat.beq (A * D % p) (B * C % p) with
  | true => exact decide_eq_true (by rw [Nat.eq_of_beq_eq_true h])
  | false => exact decide_eq_false fun z => Nat.ne_of_beq_eq_false h (Int.ofNat.inj z)
theorem found_due {p A B C D : Nat} (fp : Fp p) (h0 : p ≠ 0) (h5 : p ≤ 5) (a : A < p) (b : B < p) (c : C < p) (d : D < p) : fairB p (.int (A : Int)) (.int (B : Int)) (.int (C : Int)) (.int (D : Int)) = true ↔ ∃ f s, f < p ∧ s < p ∧ Hit p A B C D f s := by
  rw [fair_nat h0, ← chk_at (small_p fp h0 h5) a b c d]
  exact hit_iff
theorem gr_gz {p n : Nat} {R : List (List PyData)} (n1 : 1 ≤ n) (n6 : n ≤ 6) (m1 : 1 ≤ R.length) (m4 : R.length ≤ 4) (g : ∀ r ∈ R, Gr p n 4 r) : Gz p n R := ⟨⟨m1, by omega, n1, n6, fun r m => (g r m).ln, fun r m d md => fb4_nb' ((g r m).fb d md)⟩, fun r m => (g r m).nz⟩
theorem nz_zero {p : Nat} (fp : Fp p) : nzB p (zeroD p) = false := by
  unfold nzB
  rw [nb_self (nb_zero (k := 1) fp (Nat.le_refl 1))]
  rfl
def sp_law (K : PySem.W.Frag) (Pw : Addr × Addr) : Sp := fun vs H Q _ => ∃ (a : Addr) (ns : List Int), vs = [.ref a] ∧ SqL K H a (ns.map V.int) ∧ ns.length ≤ 63 ∧ H Pw.1 = some (.tbl #[]) ∧ H Pw.2 = some (.tbl #[]) ∧ ∀ H', Q (.bl true) H'
section
variable {P : Program} {w : World} {K : PySem.W.Frag} {mg : Str → Option Value} {base : Heap} {cw Pw : Addr × Addr}
theorem ok_law (T : Txt K mg) (L : Lm T base cw Pw) : FnOk P w K mg base CX0 40 T.f_law T.d_law ["_law_script"] (sp_law K Pw) := by
  refine T.F_law.ok sc_law (fun vs H Q E h => ?_) (fun cdv A outer s H vs Q E hr h => ?_)
  · obtain ⟨a, ns, rfl, _⟩ := h
    rfl
  · obtain ⟨a, ns, rfl, hS, hlen, hP1, hP2, q⟩ := h
    refine ⟨_, (pss_cons (ps_set (i := 1) sc_law.nd rfl (.inl rfl) (pe_call (ok_law_start T) (hr.mono (by decide)) (by rfl) T.g_law_start T.F_law_start.kp T.b_law_start .nil pass0 (pa_cons (pv 0) pa_nil)))
      (pss_cons (ps_set (i := 2) sc_law.nd rfl (.inl rfl) (pe_call (ok_law_prime T) (hr.mono (by decide)) (by rfl) T.g_law_prime T.F_law_prime.kp T.b_law_prime .nil pass0 (pa_cons (pv 1) pa_nil)))
      (pss_cons (ps_set (i := 3) sc_law.nd rfl (.inl rfl) (pe_op op_add pe_int (pe_callTy call_int1 (by rfl) T.m_int (by decide +kernel) (pa_cons (pe_cmpR op_gt (pv 2) pe_int (nomark _)) pa_nil))))
      (Evl.pss_cut (ps_asg (pe_call (ok_law_pair_of_lots T) (hr.mono (by decide)) (by rfl) T.g_law_pair_of_lots T.F_law_pair_of_lots.kp T.b_law_pair_of_lots .nil pass0 (pa_cons (pv 1) (pa_cons (pv 2) (pa_cons (pe_op op_add pe_int (pe_call (ok_law_draw T) (hr.mono (by decide)) (by rfl) T.g_law_draw T.F_law_draw.kp T.b_law_draw .nil pass0 (pa_cons (pv 1) (pa_cons (pv 3) pa_nil)))) (pa_cons (pe_op op_add pe_int (pe_call (ok_law_draw T) (hr.mono (by decide)) (by rfl) T.g_law_draw T.F_law_draw.kp T.b_law_draw .nil pass0 (pa_cons (pv 1) (pa_cons (pv 3) pa_nil)))) pa_nil))))) (pg_tup rfl (pgs_cons (pg_name (i := 4) sc_law.nd rfl (.inl rfl)) (pgs_cons (pg_name (i := 5) sc_law.nd rfl (.inl rfl)) pgs_nil))))
      (pss_cons (ps_set (i := 6) sc_law.nd rfl (.inl rfl) (pe_make T.M_Space (ok_Space_init T L) (hr.mono (by decide)) (by rfl) T.g_Space T.b_Space_init .nil passL (pa_cons (pe_call (ok_law_field T) (hr.mono (by decide)) (by rfl) T.g_law_field T.F_law_field.kp T.b_law_field .nil pass0 (pa_cons (pv 2) pa_nil)) (pa_cons (pe_lc rfl sc_law.nd (pi_seq (pv 4)) (blkOk_by (own := [("_law_row_here", 15)]) (N := ["_law_script", "_law_state", "_law_p", "_law_most", "_law_points", "_law_shuts", "_law_space", "_law_full_here", "_law_one", "_law_other", "_law_low_here", "_law_high", "_law_corners", "_law_due", "_law_at", "_law_row_here"]) (sc := defScope s_law) (by decide +kernel)) (fun _ _ _ _ _ => (pg_name (i := 15) sc_law.nd rfl (.inl rfl))) (fun _ _ _ _ _ => pts_nil) (fun _ _ _ _ _ => (pe_callTy call_tupD (by rfl) T.m_tuple (by decide +kernel) (pa_cons (pv 15) pa_nil)))) (pa_cons (pe_lc rfl sc_law.nd (pi_seq (pv 5)) (blkOk_by (own := [("_law_row_here", 15)]) (N := ["_law_script", "_law_state", "_law_p", "_law_most", "_law_points", "_law_shuts", "_law_space", "_law_full_here", "_law_one", "_law_other", "_law_low_here", "_law_high", "_law_corners", "_law_due", "_law_at", "_law_row_here"]) (sc := defScope s_law) (by decide +kernel)) (fun _ _ _ _ _ => (pg_name (i := 15) sc_law.nd rfl (.inl rfl))) (fun _ _ _ _ _ => pts_nil) (fun _ _ _ _ _ => (pe_callTy call_tupD (by rfl) T.m_tuple (by decide +kernel) (pa_cons (pv 15) pa_nil)))) pa_nil)))))
      (Evl.pss_cut (ps_set (i := 7) sc_law.nd rfl (.inl rfl) (pe_call (ok_law_full T) (hr.mono (by decide)) (by rfl) T.g_law_full T.F_law_full.kp T.b_law_full .nil pass0 (pa_cons (pv 2) (pa_cons (pv 4) (pa_cons (pv 5) pa_nil)))))
      (pss_cons (ps_for PassesOwn.never rfl (pi_range1 (by rfl) T.m_range (pa_cons (pe_callB call_len_seq (by rfl) T.m_len (by decide +kernel) (pa_cons (pv 4) pa_nil)) pa_nil)) (pg_name (i := 8) sc_law.nd rfl (.inl rfl))
        (pss_one (ps_for PassesOwn.never rfl (pi_range1 (by rfl) T.m_range (pa_cons (pe_callB call_len_seq (by rfl) T.m_len (by decide +kernel) (pa_cons (pv 4) pa_nil)) pa_nil)) (pg_name (i := 9) sc_law.nd rfl (.inl rfl))
          (pss_one (ps_for PassesOwn.never rfl (pi_range1 (by rfl) T.m_range (pa_cons (pe_callB call_len_seq (by rfl) T.m_len (by decide +kernel) (pa_cons (pv 5) pa_nil)) pa_nil)) (pg_name (i := 10) sc_law.nd rfl (.inl rfl))
            (pss_one (ps_for PassesOwn.never rfl (pi_range1 (by rfl) T.m_range (pa_cons (pe_callB call_len_seq (by rfl) T.m_len (by decide +kernel) (pa_cons (pv 5) pa_nil)) pa_nil)) (pg_name (i := 11) sc_law.nd rfl (.inl rfl))
              (pss_cons (ps_set (i := 12) sc_law.nd rfl (.inl rfl) (pe_tup (pa_cons (pv 8) (pa_cons (pv 10) (pa_cons (pv 9) (pa_cons (pv 11) pa_nil))))))
              (Evl.pss_cut (ps_set (i := 13) sc_law.nd rfl (.inl rfl) (pe_call (ok_law_meet T) (hr.mono (by decide)) (by rfl) T.g_law_meet T.F_law_meet.kp T.b_law_meet .nil pass0 (pa_cons (pv 2) (pa_cons (pv 7) (pa_cons (pv 4) (pa_cons (pv 12) pa_nil))))))
              (Evl.pss_cut (ps_if (pt_not (pt_val (pe_call (ok_law_same_meet T) (hr.mono (by decide)) (by rfl) T.g_law_same_meet T.F_law_same_meet.kp T.b_law_same_meet .nil pass0 (pa_cons (pv 2) (pa_cons (pe_call (ok_line_meets T) (hr.mono (by decide)) (by rfl) T.g_line_meets T.F_line_meets.kp T.b_line_meets .nil pass0 (pa_cons (pv 6) (pa_cons (pv 8) (pa_cons (pv 9) (pa_cons (pv 10) (pa_cons (pv 11) pa_nil)))))) (pa_cons (pv 13) pa_nil))))))
                (pss_one (ps_ret pe_bl))
                pss_nil)
              (Evl.pss_cut (ps_if (pt_cmpR op_notN (pv 13) pe_non (nomark _))
                (pss_one (ps_for PassesOwn.never rfl (pi_tup (pe_tup (pa_cons (pv 10) (pa_cons (pv 11) pa_nil)))) (pg_name (i := 14) sc_law.nd rfl (.inl rfl))
                  (pss_one (ps_if (pt_not (pt_val (pe_call (ok_law_nought T) (hr.mono (by decide)) (by rfl) T.g_law_nought T.F_law_nought.kp T.b_law_nought .nil pass0 (pa_cons (pv 2) (pa_cons (pe_call (ok_law_dot T) (hr.mono (by decide)) (by rfl) T.g_law_dot T.F_law_dot.kp T.b_law_dot .nil pass0 (pa_cons (pv 2) (pa_cons (pe_ix ix_tup (pv 13) pe_int (fun _ _ => rfl)) (pa_cons (pe_ix ix_list (pv 5) (pv 14) (fun _ _ => rfl)) pa_nil)))) pa_nil)))))
                    (pss_one (ps_ret pe_bl))
                    pss_nil))))
                pss_nil)
              (pss_one (ps_if (PW.pt (pw_and (pt_chain op_lt op_le pe_int (pv 2) pe_int) (pw_and1 (pt_cmpR op_ne (pe_call (ok_law_found T) (hr.mono (by decide)) (by rfl) T.g_law_found T.F_law_found.kp T.b_law_found .nil pass0 (pa_cons (pv 2) (pa_cons (pv 7) (pa_cons (pv 12) pa_nil)))) (pe_cmpR op_notN (pv 13) pe_non (nomark _)) (nomark _)))))
                (pss_one (ps_ret pe_bl))
                pss_nil)))))))))))))
      (pss_one (ps_ret pe_bl))))))))), ?_⟩
    refine ⟨_, rfl, a, ns, rfl, hS, hlen, fun H1 h g s1 nh ng hd1 => ?_⟩
    refine ⟨_, rfl, h, g, rfl, hd1, fun p H2 k2 hd2 fp p99 => ?_⟩
    have nP1 : Pw.1 ≠ h ∧ Pw.1 ≠ g := ⟨ne_of_none hP1 nh, ne_of_none hP1 ng⟩
    have nP2 : Pw.2 ≠ h ∧ Pw.2 ≠ g := ⟨ne_of_none hP2 nh, ne_of_none hP2 ng⟩
    obtain ⟨mo, emo, mo3, mo4⟩ : ∃ mo : Int, (3 : Int) + (if (decide ((0 : Int) < (p : Int))) = true then 1 else 0) = mo ∧ 3 ≤ mo ∧ mo ≤ 4 := by
      by_cases c : (decide ((0 : Int) < (p : Int))) = true
      · exact ⟨4, by rw [if_pos c]; rfl, by decide, by decide⟩
      · exact ⟨3, by rw [if_neg c]; rfl, by decide, by decide⟩
    refine ⟨_, rfl, _, _, rfl, rfl, .inr ⟨_, rfl, 3, _, rfl, rfl, ?_⟩⟩
    dsimp only
    rw [emo]
    refine ⟨fun σ H' => ∃ (D1 D2 : Addr) (n : Nat) (R S : List (List PyData)), σ = [some (.ref a), some (.ref h), some (.int (p : Int)), some (.int mo), some (.ref D1), some (.ref D2), none, none, none, none, none, none, none, none, none, none] ∧ Kp h g H2 H' ∧ Dq H' (.ref D1) (lrowsD R) ∧ Dq H' (.ref D2) (lrowsD S) ∧ 1 ≤ n ∧ n ≤ 6 ∧ 1 ≤ R.length ∧ R.length ≤ 4 ∧ 1 ≤ S.length ∧ S.length ≤ 4 ∧ (∀ r ∈ R, Gr p n 4 r) ∧ (∀ r ∈ S, Gr p n 4 r), ?_, fun σ H5 hM => ?_⟩
    · refine ⟨_, rfl, _, rfl, _, rfl, _, rfl, h, g, mo, rfl, hd2, by omega, by omega, fun H3 r3 k3 hd3 r30 r31 => ⟨1, r3, rfl, rfl, ?_⟩⟩
      refine ⟨_, rfl, _, rfl, h, g, mo, rfl, hd3, by omega, by omega, fun H4 r4 k4 hd4 r40 r41 => ⟨1, r4, rfl, rfl, ?_⟩⟩
      obtain ⟨m1, em1⟩ : ∃ m1 : Nat, 1 + r3 = (m1 : Int) := ⟨(1 + r3).toNat, by omega⟩
      obtain ⟨m2, em2⟩ : ∃ m2 : Nat, 1 + r4 = (m2 : Int) := ⟨(1 + r4).toNat, by omega⟩
      refine ⟨h, g, p, m1, m2, by rw [← em1, ← em2]; rfl, hd4, fp, by omega, by omega, by omega, by omega, fun l H' D1 D2 n R S k' hd' el k1' k2' n1 n6 lR lS gR gS => ?_⟩
      exact ⟨l, _, rfl, SqT.of el, rfl, _, _, rfl, _, _, rfl, rfl, D1, D2, n, R, S, rfl, (k3.trans k4).trans k', k1', k2', n1, n6, by omega, by omega, by omega, by omega, gR, gS⟩
    obtain ⟨D1, D2, n, R, S, rfl, k5, kR, kS, n1, n6, m1, m4, u1, u4, gR, gS⟩ := hM
    have tP1 : H5 Pw.1 = some (.tbl #[]) := k5 _ _ nP1.1 nP1.2 (k2 _ _ nP1.1 nP1.2 (s1 _ _ hP1))
    have tP2 : H5 Pw.2 = some (.tbl #[]) := k5 _ _ nP2.1 nP2.2 (k2 _ _ nP2.1 nP2.2 (s1 _ _ hP2))
    have zR := gr_gz n1 n6 m1 m4 gR
    have zS := gr_gz n1 n6 u1 u4 gS
    have nlR : ∀ r ∈ R, ∀ d ∈ r, noList d = true := fun r m d md => nb_noL (zR.g.nb r m d md)
    have nlS : ∀ r ∈ S, ∀ d ∈ r, noList d = true := fun r m d md => nb_noL (zS.g.nb r m d md)
    refine ⟨_, rfl, p, rfl, fp, fun f H6 s6 nf hf6 => ?_⟩
    obtain ⟨_, xs, z, hxs, hsx⟩ := sq_of (K := K) (kR.same s6) rfl
    cases z
    refine lc_copyT (c := PyData.list) (fun _ => rfl) (by omega) nlR (fun Q h => ⟨_, rfl, h⟩) hsx hxs (fun _ => rfl) (fun x H' Q' h => ⟨_, rfl, h⟩) (fun D7 H7 nD7 s7 k7 => ?_)
    have s67 := s6.trans s7
    obtain ⟨_, ys, z, hys, hsy⟩ := sq_of (K := K) (kS.same s67) rfl
    cases z
    refine lc_copyT (c := PyData.list) (fun _ => rfl) (by omega) nlS (fun Q h => ⟨_, rfl, h⟩) hsy hys (fun _ => rfl) (fun x H' Q' h => ⟨_, rfl, h⟩) (fun D8 H8 nD8 s8 k8 => ?_)
    have s58 := s67.trans s8
    have ok := space_ok (c := PyData.tuple) (c2 := PyData.tuple) (fun _ => rfl) (fun _ => rfl) zR zS
    refine mk_space ((hf6.same s7).same s8) (k7.same s8) k8 ((tabs_new tP1 tP2).ext s58) (fun e i z => by rw [ok] at z; cases z) (fun _ H9 sa e9 t9 nsa so => ?_)
    rw [tups_t, tups_t, (zR.head (c := PyData.tuple) (fun _ => rfl) (L := R.map .tuple) rfl).2] at so
    have e59 : ExtN H5 H9 := (ExtN.of s58).trans e9
    have kR9 := dq_ext e59 _ kR
    have kS9 := dq_ext e59 _ kS
    have hf9 := ((hf6.same s7).same s8).ext e9
    clear k7 k8 hsx hxs hsy hys
    refine ⟨fun σ H' => ∃ df : Addr, σ = [some (.ref a), some (.ref h), some (.int (p : Int)), some (.int mo), some (.ref D1), some (.ref D2), some (.ref sa), some (.ref df), none, none, none, none, none, none, none, none] ∧ Same H9 H' ∧ Dq H' (.ref df) (lrowsD (tableD p R S)), ?_, fun σ H10 hM => ?_⟩
    · refine ⟨_, rfl, _, rfl, _, rfl, p, n, .ref D1, .ref D2, R, S, rfl, fp, kR9, kS9, zR.g, zS.g, fun v H' s' kv => ?_⟩
      cases kv with
      | @lst df ts _ e u => exact ⟨df, rfl, s', .lst e u⟩
    obtain ⟨df, rfl, s10, kT⟩ := hM
    have kR10 := kR9.same s10
    have kS10 := kS9.same s10
    have so10 := so.same s10
    have hf10 := hf9.same s10
    clear kR9 kS9 so hf9
    obtain ⟨xs1, e1, lx1⟩ : ∃ xs, H10 D1 = some (.lst xs) ∧ xs.length = R.length := by
      cases kR10 with
      | lst e u => exact ⟨_, e, by rw [u.len, List.length_map]⟩
    obtain ⟨xs2, e2, lx2, u2⟩ : ∃ xs, H10 D2 = some (.lst xs) ∧ xs.length = S.length ∧ DqAll H10 xs (S.map .list) := by
      cases kS10 with
      | lst e u => exact ⟨_, e, by rw [u.len, List.length_map], u⟩
    refine ⟨_, rfl, D1, xs1, rfl, .inl (SqL.of e1), _, rfl, by omega, by omega, ?_⟩
    rw [show ((xs1.length : Nat) : Int).toNat = R.length by omega]
    refine for_range (lo := 0) (n := R.length) (fun i1 σ H' => ∃ (y8 y9 y10 y11 y12 y13 y14 : Option V), σ = [some (.ref a), some (.ref h), some (.int (p : Int)), some (.int mo), some (.ref D1), some (.ref D2), some (.ref sa), some (.ref df), y8, y9, y10, y11, y12, y13, y14, none] ∧ Same H10 H') ⟨none, none, none, none, none, none, none, rfl, fun _ _ z => z⟩ (fun i1 σ H' hi1 hP => ?_) (fun σ H' hP => ?_)
    · obtain ⟨y8, y9, y10, y11, y12, y13, y14, rfl, sm1⟩ := hP
      refine ⟨_, rfl, D1, xs1, rfl, .inl (SqL.of (sm1 _ _ e1)), _, rfl, by omega, by omega, ?_⟩
      rw [show ((xs1.length : Nat) : Int).toNat = R.length by omega]
      refine for_range (lo := 0) (n := R.length) (fun i2 σ H' => ∃ (y9 y10 y11 y12 y13 y14 : Option V), σ = [some (.ref a), some (.ref h), some (.int (p : Int)), some (.int mo), some (.ref D1), some (.ref D2), some (.ref sa), some (.ref df), some (.int (0 + (i1 : Int))), y9, y10, y11, y12, y13, y14, none] ∧ Same H10 H') ⟨y9, y10, y11, y12, y13, y14, rfl, sm1⟩ (fun i2 σ H' hi2 hP => ?_) (fun σ H' hP => by obtain ⟨y9, y10, y11, y12, y13, y14, rfl, sm⟩ := hP; exact ⟨_, y9, y10, y11, y12, y13, y14, rfl, sm⟩)
      obtain ⟨y9, y10, y11, y12, y13, y14, rfl, sm2⟩ := hP
      refine ⟨_, rfl, D2, xs2, rfl, .inl (SqL.of (sm2 _ _ e2)), _, rfl, by omega, by omega, ?_⟩
      rw [show ((xs2.length : Nat) : Int).toNat = S.length by omega]
      refine for_range (lo := 0) (n := S.length) (fun j1 σ H' => ∃ (y10 y11 y12 y13 y14 : Option V), σ = [some (.ref a), some (.ref h), some (.int (p : Int)), some (.int mo), some (.ref D1), some (.ref D2), some (.ref sa), some (.ref df), some (.int (0 + (i1 : Int))), some (.int (0 + (i2 : Int))), y10, y11, y12, y13, y14, none] ∧ Same H10 H') ⟨y10, y11, y12, y13, y14, rfl, sm2⟩ (fun j1 σ H' hj1 hP => ?_) (fun σ H' hP => by obtain ⟨y10, y11, y12, y13, y14, rfl, sm⟩ := hP; exact ⟨_, y10, y11, y12, y13, y14, rfl, sm⟩)
      obtain ⟨y10, y11, y12, y13, y14, rfl, sm3⟩ := hP
      refine ⟨_, rfl, D2, xs2, rfl, .inl (SqL.of (sm3 _ _ e2)), _, rfl, by omega, by omega, ?_⟩
      rw [show ((xs2.length : Nat) : Int).toNat = S.length by omega]
      refine for_range (lo := 0) (n := S.length) (fun j2 σ H' => ∃ (y11 y12 y13 y14 : Option V), σ = [some (.ref a), some (.ref h), some (.int (p : Int)), some (.int mo), some (.ref D1), some (.ref D2), some (.ref sa), some (.ref df), some (.int (0 + (i1 : Int))), some (.int (0 + (i2 : Int))), some (.int (0 + (j1 : Int))), y11, y12, y13, y14, none] ∧ Same H10 H') ⟨y11, y12, y13, y14, rfl, sm3⟩ (fun j2 σ H' hj2 hP => ?_) (fun σ H' hP => by obtain ⟨y11, y12, y13, y14, rfl, sm⟩ := hP; exact ⟨_, y11, y12, y13, y14, rfl, sm⟩)
      obtain ⟨y11, y12, y13, y14, rfl, sm⟩ := hP
      rw [Int.zero_add, Int.zero_add, Int.zero_add, Int.zero_add]
      obtain ⟨r1, hr1⟩ : ∃ r, R[i1]? = some r := ⟨_, List.getElem?_eq_getElem hi1⟩
      obtain ⟨r2, hr2⟩ : ∃ r, R[i2]? = some r := ⟨_, List.getElem?_eq_getElem hi2⟩
      obtain ⟨w1, hs⟩ : ∃ r, S[j1]? = some r := ⟨_, List.getElem?_eq_getElem hj1⟩
      obtain ⟨w2, ht⟩ : ∃ r, S[j2]? = some r := ⟨_, List.getElem?_eq_getElem hj2⟩
      have g1 := gR r1 (List.mem_of_getElem? hr1)
      have g2 := gR r2 (List.mem_of_getElem? hr2)
      have g3 := gS w1 (List.mem_of_getElem? hs)
      have g4 := gS w2 (List.mem_of_getElem? ht)
      have tr : ∀ {i : Nat} {r : List PyData}, R[i]? = some r → (tableD p R S)[i]? = some (S.map fun t => dotD p r t (zeroD p)) := fun h => by
        unfold tableD
        rw [List.getElem?_map, h]
        rfl
      have tc : ∀ {j : Nat} {r t : List PyData}, S[j]? = some t → (S.map fun t => dotD p r t (zeroD p))[j]? = some (dotD p r t (zeroD p)) := fun h => by
        rw [List.getElem?_map, h]
        rfl
      have cn := cn_of (kT.same sm) (tr hr1) (tr hr2) (tc hs) (tc hs) (tc ht) (tc ht)
      have fa := dot4 fp n6 g1.ln g3.ln g1.fb g3.fb
      have fb := dot4 fp n6 g2.ln g3.ln g2.fb g3.fb
      have fc := dot4 fp n6 g1.ln g4.ln g1.fb g4.fb
      have fd := dot4 fp n6 g2.ln g4.ln g2.fb g4.fb
      obtain ⟨M, m0, m9, fx, fy⟩ := meet_fb fp fa fb fc fd
      have nx := m9_nb m9 fx
      have ny := m9_nb m9 fy
      have frow := row_fb fp m0 fx fy g1.ln g2.ln g1.fb g2.fb
      have met := met_zero fp n6 g1.ln g2.ln g3.ln g4.ln g1.fb g2.fb g3.fb g4.fb
      have na := n9_nb fa
      have nb := n9_nb fb
      have nc := n9_nb fc
      have nd := n9_nb fd
      refine ⟨_, rfl, _, rfl, _, rfl, _, rfl, (by show 4 ≤ sizeLine; decide), fun cf ncf => ?_⟩
      have sc := same_new (o := .tup (crn i1 j1 i2 j2)) ncf
      have ecf : (upd H' cf (.tup (crn i1 j1 i2 j2))) cf = some (.tup (crn i1 j1 i2 j2)) := upd_same
      change Evl.tCut _ _ _ _ (upd H' cf (.tup (crn i1 j1 i2 j2)))
      generalize upd H' cf (.tup (crn i1 j1 i2 j2)) = H11 at sc ecf ⊢
      have n1' : ∀ d ∈ r1, Nb p 150 d := fun d m => fb4_nb' (g1.fb d m)
      have n2' : ∀ d ∈ r2, Nb p 150 d := fun d m => fb4_nb' (g2.fb d m)
      have sb := sm.trans sc
      have kR11 := kR10.same sb
      have cn11 := cn.same sc
      generalize efq : fairB p (dotD p r1 w1 (zeroD p)) (dotD p r2 w1 (zeroD p)) (dotD p r1 w2 (zeroD p)) (dotD p r2 w2 (zeroD p)) = fq at met
      generalize emx : meetX p (dotD p r1 w1 (zeroD p)) (dotD p r2 w1 (zeroD p)) (dotD p r1 w2 (zeroD p)) (dotD p r2 w2 (zeroD p)) = mx at met nx frow fx
      generalize emy : meetY p (dotD p r1 w1 (zeroD p)) (dotD p r2 w1 (zeroD p)) (dotD p r1 w2 (zeroD p)) (dotD p r2 w2 (zeroD p)) = my at met ny frow fy
      have lrow : (rowD p n mx my r1 r2).length = n := row_len
      generalize erow : rowD p n mx my r1 r2 = row at met frow lrow
      refine ⟨fun σ H'' => ∃ u : V, σ = [some (.ref a), some (.ref h), some (.int (p : Int)), some (.int mo), some (.ref D1), some (.ref D2), some (.ref sa), some (.ref df), some (.int (i1 : Int)), some (.int (i2 : Int)), some (.int (j1 : Int)), some (.int (j2 : Int)), some (.ref cf), some u, y14, none] ∧ Same H11 H'' ∧ ((fq = false ∧ u = .non) ∨ (fq = true ∧ ∃ l, u = .ref l ∧ Dq H'' (.ref l) (.tuple [mx, my, .tuple row]))), ?_, fun σ H12 hM => ?_⟩
      · refine ⟨_, rfl, _, rfl, _, rfl, _, rfl, p, n, i1, i2, j1, j2, df, D1, cf, _, _, _, _, R, r1, r2, rfl, fp, ecf, cn11, na, nb, nc, nd, kR11, hr1, hr2, g1.ln, g2.ln, n6, n1', n2', fun x y ex ey => ?_⟩
        rw [emx] at ex
        rw [emy] at ey
        rw [ex, ey, efq, erow]
        exact ⟨nx, ny, fun ff H2 s2 => ⟨.non, rfl, s2, .inl ⟨ff, rfl⟩⟩, fun ft l H2 s2 kl => ⟨.ref l, rfl, s2, .inr ⟨ft, l, rfl, kl⟩⟩⟩
      obtain ⟨u, rfl, s12, hdue⟩ := hM
      have sb12 := sb.trans s12
      refine ⟨fun σ H'' => σ = [some (.ref a), some (.ref h), some (.int (p : Int)), some (.int mo), some (.ref D1), some (.ref D2), some (.ref sa), some (.ref df), some (.int (i1 : Int)), some (.int (i2 : Int)), some (.int (j1 : Int)), some (.int (j2 : Int)), some (.ref cf), some u, y14, none] ∧ Same H12 H'' ∧ ((fq = false ∧ u = .non) ∨ (fq = true ∧ ∃ l, u = .ref l ∧ Dq H'' (.ref l) (.tuple [mx, my, .tuple row]))), ?_, fun σ H13 hM => ?_⟩
      · refine ⟨_, rfl, _, rfl, _, rfl, _, rfl, _, rfl, _, rfl, sa, f, p, n, R, S, (n : Int), i1, i2, j1, j2, r1, r2, w1, w2, rfl, so10.same sb12, hf10.same sb12, zR.g, zS.g, hr1, hr2, hs, ht, na, nb, nc, nd, fun x y ex ey => ?_⟩
        rw [emx] at ex
        rw [emy] at ey
        rw [ex, ey, efq, erow]
        refine ⟨nx, ny, fun ff H2 s2 => ?_, fun ft b H2 s2 mt => ?_⟩
        · rcases hdue with ⟨e, rfl⟩ | ⟨e, _⟩
          · exact ⟨_, rfl, p, .non, .non, rfl, .inl ⟨rfl, rfl, true, rfl, iteF ⟨rfl, s2, .inl ⟨e, rfl⟩⟩⟩⟩
          · rw [ff] at e
            cases e
        · rcases hdue with ⟨e, _⟩ | ⟨e, l, rfl, kl⟩
          · rw [ft] at e
            cases e
          · exact ⟨_, rfl, p, .ref b, .ref l, rfl, .inr ⟨b, l, mx, my, row, rfl, rfl, mt, kl.same s2, nx.up (by decide), ny.up (by decide), fun d md => (row_nb m9 (frow d md)).up (by decide), fun H3 s3 => ⟨true, rfl, iteF ⟨rfl, s2.trans s3, .inr ⟨e, l, rfl, (kl.same s2).same s3⟩⟩⟩⟩⟩
      obtain ⟨rfl, s13, hdue⟩ := hM
      have sb13 := sb12.trans s13
      refine ⟨fun σ H'' => ∃ y14, σ = [some (.ref a), some (.ref h), some (.int (p : Int)), some (.int mo), some (.ref D1), some (.ref D2), some (.ref sa), some (.ref df), some (.int (i1 : Int)), some (.int (i2 : Int)), some (.int (j1 : Int)), some (.int (j2 : Int)), some (.ref cf), some u, y14, none] ∧ Same H13 H'', ?_, fun σ H14 hM => ?_⟩
      · rcases hdue with ⟨e, rfl⟩ | ⟨e, l, rfl, kl⟩
        · exact ⟨_, rfl, rfl, _, rfl, iteF ⟨_, rfl, fun _ _ z => z⟩⟩
        · refine ⟨_, rfl, rfl, _, rfl, iteT ?_⟩
          cases kl with
          | @tup _ us _ el ul =>
          obtain ⟨ux, uy, ur, rfl, _, _, kur⟩ := three_dq ul
          obtain ⟨mz1, mz2⟩ := met e
          refine ⟨_, rfl, _, rfl, (by show 2 ≤ sizeLine; decide), fun tu ntu => ⟨tu, rfl, ⟨_, SqT.of upd_same⟩, for_tup (xs := [.int (j1 : Int), .int (j2 : Int)]) (fun i σ H'' => ∃ y14, σ = [some (.ref a), some (.ref h), some (.int (p : Int)), some (.int mo), some (.ref D1), some (.ref D2), some (.ref sa), some (.ref df), some (.int (i1 : Int)), some (.int (i2 : Int)), some (.int (j1 : Int)), some (.int (j2 : Int)), some (.ref cf), some (.ref l), y14, none] ∧ Same (upd H13 tu (.tup [.int (j1 : Int), .int (j2 : Int)])) H'') ⟨y14, rfl, fun _ _ z => z⟩ (fun i σ H'' _ hP => by obtain ⟨_, _, st⟩ := hP; exact SqT.of (st _ _ upd_same)) (fun i x σ H'' hx hP => ?_) (fun σ H'' hP => ?_)⟩⟩
          · obtain ⟨y14, rfl, st⟩ := hP
            obtain ⟨j, w, rfl, hw, ez, gw⟩ : ∃ (j : Nat) (w : List PyData), x = .int (j : Int) ∧ S[j]? = some w ∧ dotD p row w (zeroD p) = zeroD p ∧ Gr p n 4 w := by
              match i, hx with
              | 0, hx => exact ⟨j1, w1, (Option.some.inj hx).symm, hs, mz1, g3⟩
              | 1, hx => exact ⟨j2, w2, (Option.some.inj hx).symm, ht, mz2, g4⟩
              | k + 2, hx => simp at hx
            have su := (same_new (o := .tup [.int (j1 : Int), .int (j2 : Int)]) ntu).trans st
            have sx := sb13.trans su
            obtain ⟨vw, hvw, kvw⟩ := dqs_at u2 (i := j) (d := .list w) (by rw [List.getElem?_map, hw]; rfl)
            refine ⟨_, rfl, _, rfl, _, rfl, l, _, 2, ur, rfl, rfl, SqT.of (su _ _ el), at_of (j := 2) rfl rfl, _, rfl, _, rfl, D2, xs2, (j : Int), vw, rfl, rfl, SqL.of (sx _ _ e2), at_of (j := j) rfl hvw, ?_⟩
            refine ⟨p, ur, vw, .tuple row, .list w, row, w, rfl, fp, kur.same su, rfl, kvw.same sx, rfl, by rw [lrow, gw.ln], by rw [lrow]; exact n6, fun d md => (row_nb m9 (frow d md)).up (by decide), fun d md => (fb4_nb' (gw.fb d md)).up (by decide), fun k _ => (last_nb fp m0 m9 n6 lrow gw.ln frow gw.fb).up (by decide), fun v H15 s15 kv => ?_⟩
            rw [ez] at kv
            refine ⟨p, 1, v, zeroD p, rfl, fp, kv, nb_zero fp (Nat.le_refl 1), fun H16 s16 => ?_⟩
            rw [nz_zero fp]
            exact ⟨_, rfl, iteF ⟨_, rfl, (st.trans s15).trans s16⟩⟩
          · obtain ⟨y14, rfl, st⟩ := hP
            exact ⟨_, rfl, (same_new (o := .tup [.int (j1 : Int), .int (j2 : Int)]) ntu).trans st⟩
      obtain ⟨y14', rfl, s14⟩ := hM
      have sb14 := sb13.trans s14
      have s11_14 := (s12.trans s13).trans s14
      refine ⟨_, rfl, 0, (p : Int), rfl, rfl, _, rfl, ite2 (fun c => ?_) (fun c => ?_)⟩
      · refine ⟨(p : Int), 5, rfl, rfl, _, rfl, ite2 (fun c2 => ?_) (fun c2 => ?_)⟩
        · have c' : (0 : Int) < (p : Int) := of_decide_eq_true c
          have c2' : (p : Int) ≤ 5 := of_decide_eq_true c2
          have p0 : p ≠ 0 := by omega
          have p2 := fp.cases p0
          obtain ⟨A, eA, lA⟩ := nb_rs na p0
          obtain ⟨B, eB, lB⟩ := nb_rs nb p0
          obtain ⟨C, eC, lC⟩ := nb_rs nc p0
          obtain ⟨D, eD, lD⟩ := nb_rs nd p0
          rw [eA, eB, eC, eD] at efq cn11
          have fd := found_due fp p0 (by omega) lA lB lC lD
          rw [efq] at fd
          refine ⟨_, rfl, _, rfl, _, rfl, p, i1, i2, j1, j2, df, cf, A, B, C, D, rfl, p2, by omega, s11_14 _ _ ecf, cn11.same s11_14, lA, lB, lC, lD, fun hit => ?_, fun no => ?_⟩
          · have e := fd.mpr hit
            rcases hdue with ⟨e', _⟩ | ⟨_, l, rfl, _⟩
            · rw [e] at e'
              cases e'
            · exact ⟨_, rfl, rfl, rfl, _, rfl, iteF ⟨_, _, _, _, rfl, (sb14).trans (fun _ _ z => z)⟩⟩
          · rcases hdue with ⟨_, rfl⟩ | ⟨e', _⟩
            · exact ⟨_, rfl, rfl, rfl, _, rfl, iteF ⟨_, _, _, _, rfl, (sb14).trans (fun _ _ z => z)⟩⟩
            · obtain ⟨f', s', h1, h2, h3⟩ := fd.mp e'
              exact absurd h3 (no f' s' h1 h2)
        · exact ⟨_, _, _, _, rfl, sb14⟩
      · exact ⟨_, rfl, iteF ⟨_, _, _, _, rfl, sb14⟩⟩
    · exact q H'
end
end K25
set_option Elab.async false
set_option linter.all false
set_option maxRecDepth 100000
set_option maxHeartbeats 4000000
/-! the law's end where a def of the program makes a lambda: its table of code objects is known by its name -/
namespace TkS
open PySem PySem.Spec PyProof.Rows L2
/-- the tables of the program's defs are empty when the law begins -/
def TabsOf (q : Program) (K : PySem.W.Frag) (h : Heap) : Prop := ∀ (y : Str) (c P : Addr), ((recsOf q).find? fun r => r.name == y).isSome = true → PySem.W.tabIn K y = some (c, P) →
  PySem.W.CodeHd h c P ∧ h.get? P = some { cls := .none, data := .fields #[] }
theorem walk_tabs {l : PySem.W.OpenLaw} {m j : Nat} {q : Program} {ls : List Str} {X0 : (Str → Option Value) → Heap → Prop} {Y0 : World → Heap → Prop} {r : DefRec} {KF : Params → PySem.W.Frag} {y : Str}
    (e1 : l.most = some m) (e2 : m ≤ sizeLine) (e3 : r.params.defaults = []) (e4 : Room j callerA) (e5 : ∀ (v : World) (g : Heap), Y0 v g → (KF v.params).In g)
    (main : ∀ (v : World) (mg : Str → Option Value) (b : Addr) (g : Heap), (KF v.params).In g → g.Ns mainGlobals mg → mg r.name = some (.ref b) → TabsOf q (KF v.params) g →
      LamX.LawAtS l v (KF v.params) CX0 j m y mg b g) :
    PySem.W.WalkO q ls X0 Y0 l.row.toRowW r [] (fun f vs => PySem.call f vs) := by
  refine Att.attach_callB e1 e3 ?_
  intro v _ g mg mb b _ _ _ _ a us zs Gr y0 _ _ _ at_ ob it le bt ng
  have kin := e5 v _ y0
  have tabs : TabsOf q (KF v.params) g.heap := fun y c P f t => by
    obtain ⟨d, hd⟩ := Option.isSome_iff_exists.mp f
    exact PySem.W.tab_of Gr.T kin hd t
  obtain ⟨fd, ts, sp, p1, p2, p3, p4, p5, p6⟩ := main v mg b _ kin Gr.T.g at_ tabs
  refine LamX.law_callTs (mb := mb) (sp := sp) kin ?_ ?_ ?_ ?_ ng p1 p2 p3 ?_ ob it ?_ e4 p6 p4 (fun H0 t0 s0 => ?_) (fun _ _ _ z => z)
  · exact Gr.T.g
  · exact Gr.T.b
  · exact Gr.T.builtins
  · exact Gr.T.nolimit
  · exact Gr.T.bmain
  · omega
  · exact p5 H0 a zs le bt t0 s0
end TkS
set_option Elab.async false
set_option linter.all false
set_option maxRecDepth 100000
set_option maxHeartbeats 8000000
set_option exponentiation.threshold 5000
namespace K25
open PySem PySem.Spec PyProof.Rows L2 TkS LamX NdefX
theorem own_cls {K : PySem.W.Frag} {t : Value} {C : Addr} {b : Bool} (h2 : PySem.W.isClsIn K C = true) (h3 : PySem.W.typeIn K (.ref C) = some (.type "type")) (h4 : PySem.W.subIn K t (.ref C) = some b) : PySem.W.kitCls K t (.ref C) = some b := by
  have e2 : ((PySem.W.clsIn K C).isSome && PySem.W.typeIn K (.ref C) == some (.type "type")) = true := by
    have h2' : (PySem.W.clsIn K C).isSome = true := h2
    rw [h2', h3] <;> rfl
  show (if ((PySem.W.clsIn K C).isSome && PySem.W.typeIn K (.ref C) == some (.type "type")) = true then PySem.W.subIn K t (.ref C) else none) = some b
  rw [if_pos e2]
  exact h4
theorem own_exm {K : PySem.W.Frag} {t : Value} {C : Addr} {b : Bool} (h1 : PySem.W.subIn K (.ref C) (.type "BaseException") = some true) (h2 : PySem.W.isClsIn K C = true) (h3 : PySem.W.typeIn K (.ref C) = some (.type "type")) (h4 : PySem.W.subIn K t (.ref C) = some b) : PySem.W.exmOne K t (.ref C) = some b := by
  have e1 : (PySem.W.subIn K (.ref C) (.type "BaseException") == some true) = true := by rw [h1] <;> rfl
  show (if (PySem.W.subIn K (.ref C) (.type "BaseException") == some true) = true then PySem.W.kitCls K t (.ref C) else none) = some b
  rw [if_pos e1]
  exact own_cls h2 h3 h4
theorem own_kit {K : PySem.W.Frag} {D C : Addr} {b : Bool} (h2 : PySem.W.isClsIn K C = true) (h3 : PySem.W.typeIn K (.ref C) = some (.type "type")) (h4 : PySem.W.subIn K (.ref D) (.ref C) = some b) (hb : (D == C) = true → b = true) : PySem.W.kitOne K (.ref D) (.ref C) = some b := by
  unfold PySem.W.kitOne
  by_cases z : ((Value.ref D) == (Value.ref C)) = true
  · rw [if_pos z]
    have z2 : (D == C) = true := by
      have := eq_of_beq z
      cases this
      exact beq_self_eq_true _
    rw [hb z2]
  · rw [if_neg z]
    exact own_cls h2 h3 h4
theorem tab_mk {K : PySem.W.Frag} {x : Str} {f c P : Addr} {oc e : Value} {od dd : Option Addr} {fd : FuncData} {vs : Array Value} {sl sl2 : Array (Option Value)} (a : PySem.W.nsIn K mainGlobals x = some (some (.ref f))) (lf : K.lookup f = some ⟨oc, od, .func fd, sl⟩) (cd : fd.code = .ref c) (lc : K.lookup c = some ⟨e, dd, .fields vs, sl2⟩) (h : (vs[11]? : Option Value) = some (.ref P)) : PySem.W.tabIn K x = some (c, P) := by
  unfold PySem.W.tabIn
  rw [a]
  dsimp only
  rw [lf]
  dsimp only
  rw [cd]
  dsimp only
  rw [lc]
  dsimp only
  rw [h]
theorem all_mk {l : PySem.W.OpenLaw} {q : Program} {w : World} {K : PySem.W.Frag} {h : Heap} {mg : Str → Option Value} {fa CE_SheetError CE_BadPrime CE_BadNumber CE_ByZero CE_BadSpace CC_RestField CC_FractionField CC_Space CC_Meet f0 f1 f2 f3 f4 f5 f6 f7 f8 f9 f10 f11 f12 f13 f14 f15 f16 f17 f18 f19 f20 f21 f22 f23 f24 f25 f26 f27 f28 f29 f30 f31 f32 f33 f34 f35 f36 f37 f38 f39 f40 f41 f42 f43 f44 f45 f46 f47 f48 f49 f50 f51 f52 f53 f54 f55 f56 f57 f58 f59 f60 f61 f62 f63 f64 f65 f66 f67 f68 f69 f70 f71 f72 f73 f74 : Addr} {tkc_MOST_PRIME tkc_MOST_CORNERS tkc_MOST_WIDTH : Tok} (X : K.In h) (G : h.Ns mainGlobals mg) (hfa : mg "law" = some (.ref fa))
    {od0 an0 : Option Addr} {sl0 : Array (Option Value)} {oc0 kV0 dc0 pm0 cd0 ct0 : Value}
    {od1 an1 : Option Addr} {sl1 : Array (Option Value)} {oc1 kV1 dc1 pm1 cd1 ct1 : Value}
    {D1 : Addr} {ocD1 : Value} {odD1 : Option Addr} {nD1 : Nat} {slD1 : Array (Option Value)}
    {od2 an2 : Option Addr} {sl2 : Array (Option Value)} {oc2 kV2 dc2 pm2 cd2 ct2 : Value}
    {od3 an3 : Option Addr} {sl3 : Array (Option Value)} {oc3 kV3 dc3 pm3 cd3 ct3 : Value}
    {od4 an4 : Option Addr} {sl4 : Array (Option Value)} {oc4 kV4 dc4 pm4 cd4 ct4 : Value}
    {D4 : Addr} {ocD4 : Value} {odD4 : Option Addr} {nD4 : Nat} {slD4 : Array (Option Value)}
    {od5 an5 : Option Addr} {sl5 : Array (Option Value)} {oc5 kV5 dc5 pm5 cd5 ct5 : Value}
    {od6 an6 : Option Addr} {sl6 : Array (Option Value)} {oc6 kV6 dc6 pm6 cd6 ct6 : Value}
    {od7 an7 : Option Addr} {sl7 : Array (Option Value)} {oc7 kV7 dc7 pm7 cd7 ct7 : Value}
    {od8 an8 : Option Addr} {sl8 : Array (Option Value)} {oc8 kV8 dc8 pm8 cd8 ct8 : Value}
    {od9 an9 : Option Addr} {sl9 : Array (Option Value)} {oc9 kV9 dc9 pm9 cd9 ct9 : Value}
    {od10 an10 : Option Addr} {sl10 : Array (Option Value)} {oc10 kV10 dc10 pm10 cd10 ct10 : Value}
    {od11 an11 : Option Addr} {sl11 : Array (Option Value)} {oc11 kV11 dc11 pm11 cd11 ct11 : Value}
    {od12 an12 : Option Addr} {sl12 : Array (Option Value)} {oc12 kV12 dc12 pm12 cd12 ct12 : Value}
    {od13 an13 : Option Addr} {sl13 : Array (Option Value)} {oc13 kV13 dc13 pm13 cd13 ct13 : Value}
    {od14 an14 : Option Addr} {sl14 : Array (Option Value)} {oc14 kV14 dc14 pm14 cd14 ct14 : Value}
    {od15 an15 : Option Addr} {sl15 : Array (Option Value)} {oc15 kV15 dc15 pm15 ct15 : Value} {cw0 Pw0 : Addr}
    {od16 an16 : Option Addr} {sl16 : Array (Option Value)} {oc16 kV16 dc16 pm16 cd16 ct16 : Value}
    {od17 an17 : Option Addr} {sl17 : Array (Option Value)} {oc17 kV17 dc17 pm17 cd17 ct17 : Value}
    {od18 an18 : Option Addr} {sl18 : Array (Option Value)} {oc18 kV18 dc18 pm18 cd18 ct18 : Value}
    {od19 an19 : Option Addr} {sl19 : Array (Option Value)} {oc19 kV19 dc19 pm19 cd19 ct19 : Value}
    {od20 an20 : Option Addr} {sl20 : Array (Option Value)} {oc20 kV20 dc20 pm20 cd20 ct20 : Value}
    {od21 an21 : Option Addr} {sl21 : Array (Option Value)} {oc21 kV21 dc21 pm21 cd21 ct21 : Value}
    {od22 an22 : Option Addr} {sl22 : Array (Option Value)} {oc22 kV22 dc22 pm22 cd22 ct22 : Value}
    {od23 an23 : Option Addr} {sl23 : Array (Option Value)} {oc23 kV23 dc23 pm23 cd23 ct23 : Value}
    {od24 an24 : Option Addr} {sl24 : Array (Option Value)} {oc24 kV24 dc24 pm24 cd24 ct24 : Value}
    {od25 an25 : Option Addr} {sl25 : Array (Option Value)} {oc25 kV25 dc25 pm25 cd25 ct25 : Value}
    {od26 an26 : Option Addr} {sl26 : Array (Option Value)} {oc26 kV26 dc26 pm26 cd26 ct26 : Value}
    {od27 an27 : Option Addr} {sl27 : Array (Option Value)} {oc27 kV27 dc27 pm27 cd27 ct27 : Value}
    {od28 an28 : Option Addr} {sl28 : Array (Option Value)} {oc28 kV28 dc28 pm28 cd28 ct28 : Value}
    {od29 an29 : Option Addr} {sl29 : Array (Option Value)} {oc29 kV29 dc29 pm29 cd29 ct29 : Value}
    {od30 an30 : Option Addr} {sl30 : Array (Option Value)} {oc30 kV30 dc30 pm30 cd30 ct30 : Value}
    {od31 an31 : Option Addr} {sl31 : Array (Option Value)} {oc31 kV31 dc31 pm31 cd31 ct31 : Value}
    {od32 an32 : Option Addr} {sl32 : Array (Option Value)} {oc32 kV32 dc32 pm32 cd32 ct32 : Value}
    {od33 an33 : Option Addr} {sl33 : Array (Option Value)} {oc33 kV33 dc33 pm33 cd33 ct33 : Value}
    {od34 an34 : Option Addr} {sl34 : Array (Option Value)} {oc34 kV34 dc34 pm34 ct34 : Value} {cw1 Pw1 : Addr}
    {od35 an35 : Option Addr} {sl35 : Array (Option Value)} {oc35 kV35 dc35 pm35 cd35 ct35 : Value}
    {od36 an36 : Option Addr} {sl36 : Array (Option Value)} {oc36 kV36 dc36 pm36 cd36 ct36 : Value}
    {od37 an37 : Option Addr} {sl37 : Array (Option Value)} {oc37 kV37 dc37 pm37 cd37 ct37 : Value}
    {od38 an38 : Option Addr} {sl38 : Array (Option Value)} {oc38 kV38 dc38 pm38 cd38 ct38 : Value}
    {od39 an39 : Option Addr} {sl39 : Array (Option Value)} {oc39 kV39 dc39 pm39 cd39 ct39 : Value}
    {od40 an40 : Option Addr} {sl40 : Array (Option Value)} {oc40 kV40 dc40 pm40 cd40 ct40 : Value}
    {od41 an41 : Option Addr} {sl41 : Array (Option Value)} {oc41 kV41 dc41 pm41 cd41 ct41 : Value}
    {od42 an42 : Option Addr} {sl42 : Array (Option Value)} {oc42 kV42 dc42 pm42 cd42 ct42 : Value}
    {od43 an43 : Option Addr} {sl43 : Array (Option Value)} {oc43 kV43 dc43 pm43 cd43 ct43 : Value}
    {od44 an44 : Option Addr} {sl44 : Array (Option Value)} {oc44 kV44 dc44 pm44 cd44 ct44 : Value}
    {od45 an45 : Option Addr} {sl45 : Array (Option Value)} {oc45 kV45 dc45 pm45 cd45 ct45 : Value}
    {od46 an46 : Option Addr} {sl46 : Array (Option Value)} {oc46 kV46 dc46 pm46 cd46 ct46 : Value}
    {od47 an47 : Option Addr} {sl47 : Array (Option Value)} {oc47 kV47 dc47 pm47 cd47 ct47 : Value}
    {od48 an48 : Option Addr} {sl48 : Array (Option Value)} {oc48 kV48 dc48 pm48 cd48 ct48 : Value}
    {od49 an49 : Option Addr} {sl49 : Array (Option Value)} {oc49 kV49 dc49 pm49 cd49 ct49 : Value}
    {od50 an50 : Option Addr} {sl50 : Array (Option Value)} {oc50 kV50 dc50 pm50 cd50 ct50 : Value}
    {od51 an51 : Option Addr} {sl51 : Array (Option Value)} {oc51 kV51 dc51 pm51 cd51 ct51 : Value}
    {od52 an52 : Option Addr} {sl52 : Array (Option Value)} {oc52 kV52 dc52 pm52 cd52 ct52 : Value}
    {od53 an53 : Option Addr} {sl53 : Array (Option Value)} {oc53 kV53 dc53 pm53 cd53 ct53 : Value}
    {od54 an54 : Option Addr} {sl54 : Array (Option Value)} {oc54 kV54 dc54 pm54 cd54 ct54 : Value}
    {od55 an55 : Option Addr} {sl55 : Array (Option Value)} {oc55 kV55 dc55 pm55 cd55 ct55 : Value}
    {od56 an56 : Option Addr} {sl56 : Array (Option Value)} {oc56 kV56 dc56 pm56 cd56 ct56 : Value}
    {od57 an57 : Option Addr} {sl57 : Array (Option Value)} {oc57 kV57 dc57 pm57 cd57 ct57 : Value}
    {od58 an58 : Option Addr} {sl58 : Array (Option Value)} {oc58 kV58 dc58 pm58 cd58 ct58 : Value}
    {od59 an59 : Option Addr} {sl59 : Array (Option Value)} {oc59 kV59 dc59 pm59 cd59 ct59 : Value}
    {od60 an60 : Option Addr} {sl60 : Array (Option Value)} {oc60 kV60 dc60 pm60 cd60 ct60 : Value}
    {od61 an61 : Option Addr} {sl61 : Array (Option Value)} {oc61 kV61 dc61 pm61 cd61 ct61 : Value}
    {od62 an62 : Option Addr} {sl62 : Array (Option Value)} {oc62 kV62 dc62 pm62 cd62 ct62 : Value}
    {od63 an63 : Option Addr} {sl63 : Array (Option Value)} {oc63 kV63 dc63 pm63 cd63 ct63 : Value}
    {od64 an64 : Option Addr} {sl64 : Array (Option Value)} {oc64 kV64 dc64 pm64 cd64 ct64 : Value}
    {od65 an65 : Option Addr} {sl65 : Array (Option Value)} {oc65 kV65 dc65 pm65 cd65 ct65 : Value}
    {od66 an66 : Option Addr} {sl66 : Array (Option Value)} {oc66 kV66 dc66 pm66 cd66 ct66 : Value}
    {od67 an67 : Option Addr} {sl67 : Array (Option Value)} {oc67 kV67 dc67 pm67 cd67 ct67 : Value}
    {od68 an68 : Option Addr} {sl68 : Array (Option Value)} {oc68 kV68 dc68 pm68 cd68 ct68 : Value}
    {od69 an69 : Option Addr} {sl69 : Array (Option Value)} {oc69 kV69 dc69 pm69 cd69 ct69 : Value}
    {od70 an70 : Option Addr} {sl70 : Array (Option Value)} {oc70 kV70 dc70 pm70 cd70 ct70 : Value}
    {od71 an71 : Option Addr} {sl71 : Array (Option Value)} {oc71 kV71 dc71 pm71 cd71 ct71 : Value}
    {od72 an72 : Option Addr} {sl72 : Array (Option Value)} {oc72 kV72 dc72 pm72 cd72 ct72 : Value}
    {od73 an73 : Option Addr} {sl73 : Array (Option Value)} {oc73 kV73 dc73 pm73 cd73 ct73 : Value}
    {od74 an74 : Option Addr} {sl74 : Array (Option Value)} {oc74 kV74 dc74 pm74 cd74 ct74 : Value}
    {nm_BadSpace qn_BadSpace : Str} {NB_BadSpace : Addr} {bs_BadSpace bm_BadSpace sub_BadSpace : List Value} {sn_BadSpace : List Str} {ab_BadSpace : Bool} {col_BadSpace : Option Bool} {dd_BadSpace : Option Addr} {m0_BadSpace m1_BadSpace m2_BadSpace m3_BadSpace m5_BadSpace : Option Value}
    (h_SheetError : PySem.W.nsIn K mainGlobals "SheetError" = some (some (.ref CE_SheetError)))
    (h_BadPrime : PySem.W.nsIn K mainGlobals "BadPrime" = some (some (.ref CE_BadPrime)))
    (h_BadNumber : PySem.W.nsIn K mainGlobals "BadNumber" = some (some (.ref CE_BadNumber)))
    (h_ByZero : PySem.W.nsIn K mainGlobals "ByZero" = some (some (.ref CE_ByZero)))
    (h_BadSpace : PySem.W.nsIn K mainGlobals "BadSpace" = some (some (.ref CE_BadSpace)))
    (h_RestField : PySem.W.nsIn K mainGlobals "RestField" = some (some (.ref CC_RestField)))
    (h_FractionField : PySem.W.nsIn K mainGlobals "FractionField" = some (some (.ref CC_FractionField)))
    (h_Space : PySem.W.nsIn K mainGlobals "Space" = some (some (.ref CC_Space)))
    (h_Meet : PySem.W.nsIn K mainGlobals "Meet" = some (some (.ref CC_Meet)))
    (a0 : PySem.W.findIn K (.ref CE_BadSpace) "__init__" = some (some (.ref f0)))
    (i0 : PySem.W.isFn K (.ref f0) = true)
    (l0 : K.lookup f0 = some ⟨oc0, od0, .func (PySem.W.fnOf "__init__" "BadSpace.__init__" (defArgs s_BadSpace_init) (defBody s_BadSpace_init) (defScope s_BadSpace_init) .none kV0 dc0 pm0 an0 cd0 ct0), sl0⟩)
    (c0 : PySem.W.codeIn K cd0 "BadSpace.__init__" = true)
    (k0 : PySem.W.keepIn K (.ref f0) = true)
    (a1 : PySem.W.nsIn K mainGlobals "is_whole" = some (some (.ref f1)))
    (l1 : K.lookup f1 = some ⟨oc1, od1, .func (PySem.W.fnOf "is_whole" "is_whole" (defArgs s_is_whole) (defBody s_is_whole) (defScope s_is_whole) (.ref D1) kV1 dc1 pm1 an1 cd1 ct1), sl1⟩)
    (c1 : PySem.W.codeIn K cd1 "is_whole" = true)
    (k1 : PySem.W.keepIn K (.ref f1) = true)
    (e1 : K.lookup D1 = some ⟨ocD1, odD1, .seq #[.none, .none] nD1, slD1⟩)
    (a2 : PySem.W.nsIn K mainGlobals "common_divisor" = some (some (.ref f2)))
    (l2 : K.lookup f2 = some ⟨oc2, od2, .func (PySem.W.fnOf "common_divisor" "common_divisor" (defArgs s_common_divisor) (defBody s_common_divisor) (defScope s_common_divisor) .none kV2 dc2 pm2 an2 cd2 ct2), sl2⟩)
    (c2 : PySem.W.codeIn K cd2 "common_divisor" = true)
    (k2 : PySem.W.keepIn K (.ref f2) = true)
    (a3 : PySem.W.nsIn K mainGlobals "power_of" = some (some (.ref f3)))
    (l3 : K.lookup f3 = some ⟨oc3, od3, .func (PySem.W.fnOf "power_of" "power_of" (defArgs s_power_of) (defBody s_power_of) (defScope s_power_of) .none kV3 dc3 pm3 an3 cd3 ct3), sl3⟩)
    (c3 : PySem.W.codeIn K cd3 "power_of" = true)
    (k3 : PySem.W.keepIn K (.ref f3) = true)
    (a4 : PySem.W.nsIn K mainGlobals "is_sequence" = some (some (.ref f4)))
    (l4 : K.lookup f4 = some ⟨oc4, od4, .func (PySem.W.fnOf "is_sequence" "is_sequence" (defArgs s_is_sequence) (defBody s_is_sequence) (defScope s_is_sequence) (.ref D4) kV4 dc4 pm4 an4 cd4 ct4), sl4⟩)
    (c4 : PySem.W.codeIn K cd4 "is_sequence" = true)
    (k4 : PySem.W.keepIn K (.ref f4) = true)
    (e4 : K.lookup D4 = some ⟨ocD4, odD4, .seq #[.none] nD4, slD4⟩)
    (a5 : PySem.W.nsIn K mainGlobals "has_between" = some (some (.ref f5)))
    (l5 : K.lookup f5 = some ⟨oc5, od5, .func (PySem.W.fnOf "has_between" "has_between" (defArgs s_has_between) (defBody s_has_between) (defScope s_has_between) .none kV5 dc5 pm5 an5 cd5 ct5), sl5⟩)
    (c5 : PySem.W.codeIn K cd5 "has_between" = true)
    (k5 : PySem.W.keepIn K (.ref f5) = true)
    (a6 : PySem.W.nsIn K mainGlobals "wrong_index" = some (some (.ref f6)))
    (l6 : K.lookup f6 = some ⟨oc6, od6, .func (PySem.W.fnOf "wrong_index" "wrong_index" (defArgs s_wrong_index) (defBody s_wrong_index) (defScope s_wrong_index) .none kV6 dc6 pm6 an6 cd6 ct6), sl6⟩)
    (c6 : PySem.W.codeIn K cd6 "wrong_index" = true)
    (k6 : PySem.W.keepIn K (.ref f6) = true)
    (a7 : PySem.W.nsIn K mainGlobals "columns_of" = some (some (.ref f7)))
    (l7 : K.lookup f7 = some ⟨oc7, od7, .func (PySem.W.fnOf "columns_of" "columns_of" (defArgs s_columns_of) (defBody s_columns_of) (defScope s_columns_of) .none kV7 dc7 pm7 an7 cd7 ct7), sl7⟩)
    (c7 : PySem.W.codeIn K cd7 "columns_of" = true)
    (k7 : PySem.W.keepIn K (.ref f7) = true)
    (a8 : PySem.W.nsIn K mainGlobals "as_tuples" = some (some (.ref f8)))
    (l8 : K.lookup f8 = some ⟨oc8, od8, .func (PySem.W.fnOf "as_tuples" "as_tuples" (defArgs s_as_tuples) (defBody s_as_tuples) (defScope s_as_tuples) .none kV8 dc8 pm8 an8 cd8 ct8), sl8⟩)
    (c8 : PySem.W.codeIn K cd8 "as_tuples" = true)
    (k8 : PySem.W.keepIn K (.ref f8) = true)
    (a9 : PySem.W.nsIn K mainGlobals "product_sum" = some (some (.ref f9)))
    (l9 : K.lookup f9 = some ⟨oc9, od9, .func (PySem.W.fnOf "product_sum" "product_sum" (defArgs s_product_sum) (defBody s_product_sum) (defScope s_product_sum) .none kV9 dc9 pm9 an9 cd9 ct9), sl9⟩)
    (c9 : PySem.W.codeIn K cd9 "product_sum" = true)
    (k9 : PySem.W.keepIn K (.ref f9) = true)
    (a10 : PySem.W.nsIn K mainGlobals "columns_as_rows" = some (some (.ref f10)))
    (l10 : K.lookup f10 = some ⟨oc10, od10, .func (PySem.W.fnOf "columns_as_rows" "columns_as_rows" (defArgs s_columns_as_rows) (defBody s_columns_as_rows) (defScope s_columns_as_rows) .none kV10 dc10 pm10 an10 cd10 ct10), sl10⟩)
    (c10 : PySem.W.codeIn K cd10 "columns_as_rows" = true)
    (k10 : PySem.W.keepIn K (.ref f10) = true)
    (a11 : PySem.W.nsIn K mainGlobals "rows_product" = some (some (.ref f11)))
    (l11 : K.lookup f11 = some ⟨oc11, od11, .func (PySem.W.fnOf "rows_product" "rows_product" (defArgs s_rows_product) (defBody s_rows_product) (defScope s_rows_product) .none kV11 dc11 pm11 an11 cd11 ct11), sl11⟩)
    (c11 : PySem.W.codeIn K cd11 "rows_product" = true)
    (k11 : PySem.W.keepIn K (.ref f11) = true)
    (a12 : PySem.W.nsIn K mainGlobals "least_factor" = some (some (.ref f12)))
    (l12 : K.lookup f12 = some ⟨oc12, od12, .func (PySem.W.fnOf "least_factor" "least_factor" (defArgs s_least_factor) (defBody s_least_factor) (defScope s_least_factor) .none kV12 dc12 pm12 an12 cd12 ct12), sl12⟩)
    (c12 : PySem.W.codeIn K cd12 "least_factor" = true)
    (k12 : PySem.W.keepIn K (.ref f12) = true)
    (a13 : PySem.W.nsIn K mainGlobals "is_prime" = some (some (.ref f13)))
    (l13 : K.lookup f13 = some ⟨oc13, od13, .func (PySem.W.fnOf "is_prime" "is_prime" (defArgs s_is_prime) (defBody s_is_prime) (defScope s_is_prime) .none kV13 dc13 pm13 an13 cd13 ct13), sl13⟩)
    (c13 : PySem.W.codeIn K cd13 "is_prime" = true)
    (k13 : PySem.W.keepIn K (.ref f13) = true)
    (a14 : PySem.W.nsIn K mainGlobals "is_number" = some (some (.ref f14)))
    (l14 : K.lookup f14 = some ⟨oc14, od14, .func (PySem.W.fnOf "is_number" "is_number" (defArgs s_is_number) (defBody s_is_number) (defScope s_is_number) .none kV14 dc14 pm14 an14 cd14 ct14), sl14⟩)
    (c14 : PySem.W.codeIn K cd14 "is_number" = true)
    (k14 : PySem.W.keepIn K (.ref f14) = true)
    (a15 : PySem.W.nsIn K mainGlobals "is_number_row" = some (some (.ref f15)))
    (l15 : K.lookup f15 = some ⟨oc15, od15, .func (PySem.W.fnOf "is_number_row" "is_number_row" (defArgs s_is_number_row) (defBody s_is_number_row) (defScope s_is_number_row) .none kV15 dc15 pm15 an15 (.ref cw0) ct15), sl15⟩)
    (c15 : PySem.W.codeIn K (.ref cw0) "is_number_row" = true)
    (k15 : PySem.W.keepIn K (.ref f15) = true)
    (a16 : PySem.W.findIn K (.ref CC_RestField) "__init__" = some (some (.ref f16)))
    (i16 : PySem.W.isFn K (.ref f16) = true)
    (l16 : K.lookup f16 = some ⟨oc16, od16, .func (PySem.W.fnOf "__init__" "RestField.__init__" (defArgs s_RestField_init) (defBody s_RestField_init) (defScope s_RestField_init) .none kV16 dc16 pm16 an16 cd16 ct16), sl16⟩)
    (c16 : PySem.W.codeIn K cd16 "RestField.__init__" = true)
    (k16 : PySem.W.keepIn K (.ref f16) = true)
    (a17 : PySem.W.findIn K (.ref CC_RestField) "__eq__" = some (some (.ref f17)))
    (i17 : PySem.W.isFn K (.ref f17) = true)
    (l17 : K.lookup f17 = some ⟨oc17, od17, .func (PySem.W.fnOf "__eq__" "RestField.__eq__" (defArgs s_RestField_eq) (defBody s_RestField_eq) (defScope s_RestField_eq) .none kV17 dc17 pm17 an17 cd17 ct17), sl17⟩)
    (c17 : PySem.W.codeIn K cd17 "RestField.__eq__" = true)
    (k17 : PySem.W.keepIn K (.ref f17) = true)
    (a18 : PySem.W.findIn K (.ref CC_RestField) "check_number" = some (some (.ref f18)))
    (i18 : PySem.W.isFn K (.ref f18) = true)
    (l18 : K.lookup f18 = some ⟨oc18, od18, .func (PySem.W.fnOf "check_number" "RestField.check_number" (defArgs s_RestField_check_number) (defBody s_RestField_check_number) (defScope s_RestField_check_number) .none kV18 dc18 pm18 an18 cd18 ct18), sl18⟩)
    (c18 : PySem.W.codeIn K cd18 "RestField.check_number" = true)
    (k18 : PySem.W.keepIn K (.ref f18) = true)
    (a19 : PySem.W.findIn K (.ref CC_RestField) "plus" = some (some (.ref f19)))
    (i19 : PySem.W.isFn K (.ref f19) = true)
    (l19 : K.lookup f19 = some ⟨oc19, od19, .func (PySem.W.fnOf "plus" "RestField.plus" (defArgs s_RestField_plus) (defBody s_RestField_plus) (defScope s_RestField_plus) .none kV19 dc19 pm19 an19 cd19 ct19), sl19⟩)
    (c19 : PySem.W.codeIn K cd19 "RestField.plus" = true)
    (k19 : PySem.W.keepIn K (.ref f19) = true)
    (a20 : PySem.W.findIn K (.ref CC_RestField) "less" = some (some (.ref f20)))
    (i20 : PySem.W.isFn K (.ref f20) = true)
    (l20 : K.lookup f20 = some ⟨oc20, od20, .func (PySem.W.fnOf "less" "RestField.less" (defArgs s_RestField_less) (defBody s_RestField_less) (defScope s_RestField_less) .none kV20 dc20 pm20 an20 cd20 ct20), sl20⟩)
    (c20 : PySem.W.codeIn K cd20 "RestField.less" = true)
    (k20 : PySem.W.keepIn K (.ref f20) = true)
    (a21 : PySem.W.findIn K (.ref CC_RestField) "times" = some (some (.ref f21)))
    (i21 : PySem.W.isFn K (.ref f21) = true)
    (l21 : K.lookup f21 = some ⟨oc21, od21, .func (PySem.W.fnOf "times" "RestField.times" (defArgs s_RestField_times) (defBody s_RestField_times) (defScope s_RestField_times) .none kV21 dc21 pm21 an21 cd21 ct21), sl21⟩)
    (c21 : PySem.W.codeIn K cd21 "RestField.times" = true)
    (k21 : PySem.W.keepIn K (.ref f21) = true)
    (a22 : PySem.W.findIn K (.ref CC_RestField) "quotient" = some (some (.ref f22)))
    (i22 : PySem.W.isFn K (.ref f22) = true)
    (l22 : K.lookup f22 = some ⟨oc22, od22, .func (PySem.W.fnOf "quotient" "RestField.quotient" (defArgs s_RestField_quotient) (defBody s_RestField_quotient) (defScope s_RestField_quotient) .none kV22 dc22 pm22 an22 cd22 ct22), sl22⟩)
    (c22 : PySem.W.codeIn K cd22 "RestField.quotient" = true)
    (k22 : PySem.W.keepIn K (.ref f22) = true)
    (a23 : PySem.W.findIn K (.ref CC_RestField) "power" = some (some (.ref f23)))
    (i23 : PySem.W.isFn K (.ref f23) = true)
    (l23 : K.lookup f23 = some ⟨oc23, od23, .func (PySem.W.fnOf "power" "RestField.power" (defArgs s_RestField_power) (defBody s_RestField_power) (defScope s_RestField_power) .none kV23 dc23 pm23 an23 cd23 ct23), sl23⟩)
    (c23 : PySem.W.codeIn K cd23 "RestField.power" = true)
    (k23 : PySem.W.keepIn K (.ref f23) = true)
    (a24 : PySem.W.nsIn K mainGlobals "_fraction" = some (some (.ref f24)))
    (l24 : K.lookup f24 = some ⟨oc24, od24, .func (PySem.W.fnOf "_fraction" "_fraction" (defArgs s_fraction) (defBody s_fraction) (defScope s_fraction) .none kV24 dc24 pm24 an24 cd24 ct24), sl24⟩)
    (c24 : PySem.W.codeIn K cd24 "_fraction" = true)
    (k24 : PySem.W.keepIn K (.ref f24) = true)
    (a25 : PySem.W.findIn K (.ref CC_FractionField) "__init__" = some (some (.ref f25)))
    (i25 : PySem.W.isFn K (.ref f25) = true)
    (l25 : K.lookup f25 = some ⟨oc25, od25, .func (PySem.W.fnOf "__init__" "FractionField.__init__" (defArgs s_FractionField_init) (defBody s_FractionField_init) (defScope s_FractionField_init) .none kV25 dc25 pm25 an25 cd25 ct25), sl25⟩)
    (c25 : PySem.W.codeIn K cd25 "FractionField.__init__" = true)
    (k25 : PySem.W.keepIn K (.ref f25) = true)
    (a26 : PySem.W.findIn K (.ref CC_FractionField) "__eq__" = some (some (.ref f26)))
    (i26 : PySem.W.isFn K (.ref f26) = true)
    (l26 : K.lookup f26 = some ⟨oc26, od26, .func (PySem.W.fnOf "__eq__" "FractionField.__eq__" (defArgs s_FractionField_eq) (defBody s_FractionField_eq) (defScope s_FractionField_eq) .none kV26 dc26 pm26 an26 cd26 ct26), sl26⟩)
    (c26 : PySem.W.codeIn K cd26 "FractionField.__eq__" = true)
    (k26 : PySem.W.keepIn K (.ref f26) = true)
    (a27 : PySem.W.findIn K (.ref CC_FractionField) "check_number" = some (some (.ref f27)))
    (i27 : PySem.W.isFn K (.ref f27) = true)
    (l27 : K.lookup f27 = some ⟨oc27, od27, .func (PySem.W.fnOf "check_number" "FractionField.check_number" (defArgs s_FractionField_check_number) (defBody s_FractionField_check_number) (defScope s_FractionField_check_number) .none kV27 dc27 pm27 an27 cd27 ct27), sl27⟩)
    (c27 : PySem.W.codeIn K cd27 "FractionField.check_number" = true)
    (k27 : PySem.W.keepIn K (.ref f27) = true)
    (a28 : PySem.W.findIn K (.ref CC_FractionField) "plus" = some (some (.ref f28)))
    (i28 : PySem.W.isFn K (.ref f28) = true)
    (l28 : K.lookup f28 = some ⟨oc28, od28, .func (PySem.W.fnOf "plus" "FractionField.plus" (defArgs s_FractionField_plus) (defBody s_FractionField_plus) (defScope s_FractionField_plus) .none kV28 dc28 pm28 an28 cd28 ct28), sl28⟩)
    (c28 : PySem.W.codeIn K cd28 "FractionField.plus" = true)
    (k28 : PySem.W.keepIn K (.ref f28) = true)
    (a29 : PySem.W.findIn K (.ref CC_FractionField) "less" = some (some (.ref f29)))
    (i29 : PySem.W.isFn K (.ref f29) = true)
    (l29 : K.lookup f29 = some ⟨oc29, od29, .func (PySem.W.fnOf "less" "FractionField.less" (defArgs s_FractionField_less) (defBody s_FractionField_less) (defScope s_FractionField_less) .none kV29 dc29 pm29 an29 cd29 ct29), sl29⟩)
    (c29 : PySem.W.codeIn K cd29 "FractionField.less" = true)
    (k29 : PySem.W.keepIn K (.ref f29) = true)
    (a30 : PySem.W.findIn K (.ref CC_FractionField) "times" = some (some (.ref f30)))
    (i30 : PySem.W.isFn K (.ref f30) = true)
    (l30 : K.lookup f30 = some ⟨oc30, od30, .func (PySem.W.fnOf "times" "FractionField.times" (defArgs s_FractionField_times) (defBody s_FractionField_times) (defScope s_FractionField_times) .none kV30 dc30 pm30 an30 cd30 ct30), sl30⟩)
    (c30 : PySem.W.codeIn K cd30 "FractionField.times" = true)
    (k30 : PySem.W.keepIn K (.ref f30) = true)
    (a31 : PySem.W.findIn K (.ref CC_FractionField) "quotient" = some (some (.ref f31)))
    (i31 : PySem.W.isFn K (.ref f31) = true)
    (l31 : K.lookup f31 = some ⟨oc31, od31, .func (PySem.W.fnOf "quotient" "FractionField.quotient" (defArgs s_FractionField_quotient) (defBody s_FractionField_quotient) (defScope s_FractionField_quotient) .none kV31 dc31 pm31 an31 cd31 ct31), sl31⟩)
    (c31 : PySem.W.codeIn K cd31 "FractionField.quotient" = true)
    (k31 : PySem.W.keepIn K (.ref f31) = true)
    (a32 : PySem.W.findIn K (.ref CC_FractionField) "power" = some (some (.ref f32)))
    (i32 : PySem.W.isFn K (.ref f32) = true)
    (l32 : K.lookup f32 = some ⟨oc32, od32, .func (PySem.W.fnOf "power" "FractionField.power" (defArgs s_FractionField_power) (defBody s_FractionField_power) (defScope s_FractionField_power) .none kV32 dc32 pm32 an32 cd32 ct32), sl32⟩)
    (c32 : PySem.W.codeIn K cd32 "FractionField.power" = true)
    (k32 : PySem.W.keepIn K (.ref f32) = true)
    (a33 : PySem.W.nsIn K mainGlobals "_is_row" = some (some (.ref f33)))
    (l33 : K.lookup f33 = some ⟨oc33, od33, .func (PySem.W.fnOf "_is_row" "_is_row" (defArgs s_is_row) (defBody s_is_row) (defScope s_is_row) .none kV33 dc33 pm33 an33 cd33 ct33), sl33⟩)
    (c33 : PySem.W.codeIn K cd33 "_is_row" = true)
    (k33 : PySem.W.keepIn K (.ref f33) = true)
    (a34 : PySem.W.nsIn K mainGlobals "_check_rows" = some (some (.ref f34)))
    (l34 : K.lookup f34 = some ⟨oc34, od34, .func (PySem.W.fnOf "_check_rows" "_check_rows" (defArgs s_check_rows) (defBody s_check_rows) (defScope s_check_rows) .none kV34 dc34 pm34 an34 (.ref cw1) ct34), sl34⟩)
    (c34 : PySem.W.codeIn K (.ref cw1) "_check_rows" = true)
    (k34 : PySem.W.keepIn K (.ref f34) = true)
    (a35 : PySem.W.nsIn K mainGlobals "_width_of" = some (some (.ref f35)))
    (l35 : K.lookup f35 = some ⟨oc35, od35, .func (PySem.W.fnOf "_width_of" "_width_of" (defArgs s_width_of) (defBody s_width_of) (defScope s_width_of) .none kV35 dc35 pm35 an35 cd35 ct35), sl35⟩)
    (c35 : PySem.W.codeIn K cd35 "_width_of" = true)
    (k35 : PySem.W.keepIn K (.ref f35) = true)
    (a36 : PySem.W.findIn K (.ref CC_Space) "__init__" = some (some (.ref f36)))
    (i36 : PySem.W.isFn K (.ref f36) = true)
    (l36 : K.lookup f36 = some ⟨oc36, od36, .func (PySem.W.fnOf "__init__" "Space.__init__" (defArgs s_Space_init) (defBody s_Space_init) (defScope s_Space_init) .none kV36 dc36 pm36 an36 cd36 ct36), sl36⟩)
    (c36 : PySem.W.codeIn K cd36 "Space.__init__" = true)
    (k36 : PySem.W.keepIn K (.ref f36) = true)
    (a37 : PySem.W.findIn K (.ref CC_Space) "__eq__" = some (some (.ref f37)))
    (i37 : PySem.W.isFn K (.ref f37) = true)
    (l37 : K.lookup f37 = some ⟨oc37, od37, .func (PySem.W.fnOf "__eq__" "Space.__eq__" (defArgs s_Space_eq) (defBody s_Space_eq) (defScope s_Space_eq) .none kV37 dc37 pm37 an37 cd37 ct37), sl37⟩)
    (c37 : PySem.W.codeIn K cd37 "Space.__eq__" = true)
    (k37 : PySem.W.keepIn K (.ref f37) = true)
    (a38 : PySem.W.nsIn K mainGlobals "number_at" = some (some (.ref f38)))
    (l38 : K.lookup f38 = some ⟨oc38, od38, .func (PySem.W.fnOf "number_at" "number_at" (defArgs s_number_at) (defBody s_number_at) (defScope s_number_at) .none kV38 dc38 pm38 an38 cd38 ct38), sl38⟩)
    (c38 : PySem.W.codeIn K cd38 "number_at" = true)
    (k38 : PySem.W.keepIn K (.ref f38) = true)
    (a39 : PySem.W.findIn K (.ref CC_Meet) "__init__" = some (some (.ref f39)))
    (i39 : PySem.W.isFn K (.ref f39) = true)
    (l39 : K.lookup f39 = some ⟨oc39, od39, .func (PySem.W.fnOf "__init__" "Meet.__init__" (defArgs s_Meet_init) (defBody s_Meet_init) (defScope s_Meet_init) .none kV39 dc39 pm39 an39 cd39 ct39), sl39⟩)
    (c39 : PySem.W.codeIn K cd39 "Meet.__init__" = true)
    (k39 : PySem.W.keepIn K (.ref f39) = true)
    (a40 : PySem.W.findIn K (.ref CC_Meet) "__eq__" = some (some (.ref f40)))
    (i40 : PySem.W.isFn K (.ref f40) = true)
    (l40 : K.lookup f40 = some ⟨oc40, od40, .func (PySem.W.fnOf "__eq__" "Meet.__eq__" (defArgs s_Meet_eq) (defBody s_Meet_eq) (defScope s_Meet_eq) .none kV40 dc40 pm40 an40 cd40 ct40), sl40⟩)
    (c40 : PySem.W.codeIn K cd40 "Meet.__eq__" = true)
    (k40 : PySem.W.keepIn K (.ref f40) = true)
    (a41 : PySem.W.nsIn K mainGlobals "_weights_on" = some (some (.ref f41)))
    (l41 : K.lookup f41 = some ⟨oc41, od41, .func (PySem.W.fnOf "_weights_on" "_weights_on" (defArgs s_weights_on) (defBody s_weights_on) (defScope s_weights_on) .none kV41 dc41 pm41 an41 cd41 ct41), sl41⟩)
    (c41 : PySem.W.codeIn K cd41 "_weights_on" = true)
    (k41 : PySem.W.keepIn K (.ref f41) = true)
    (a42 : PySem.W.nsIn K mainGlobals "line_meets" = some (some (.ref f42)))
    (l42 : K.lookup f42 = some ⟨oc42, od42, .func (PySem.W.fnOf "line_meets" "line_meets" (defArgs s_line_meets) (defBody s_line_meets) (defScope s_line_meets) .none kV42 dc42 pm42 an42 cd42 ct42), sl42⟩)
    (c42 : PySem.W.codeIn K cd42 "line_meets" = true)
    (k42 : PySem.W.keepIn K (.ref f42) = true)
    (a43 : PySem.W.nsIn K mainGlobals "_law_start" = some (some (.ref f43)))
    (l43 : K.lookup f43 = some ⟨oc43, od43, .func (PySem.W.fnOf "_law_start" "_law_start" (defArgs s_law_start) (defBody s_law_start) (defScope s_law_start) .none kV43 dc43 pm43 an43 cd43 ct43), sl43⟩)
    (c43 : PySem.W.codeIn K cd43 "_law_start" = true)
    (k43 : PySem.W.keepIn K (.ref f43) = true)
    (a44 : PySem.W.nsIn K mainGlobals "_law_draw" = some (some (.ref f44)))
    (l44 : K.lookup f44 = some ⟨oc44, od44, .func (PySem.W.fnOf "_law_draw" "_law_draw" (defArgs s_law_draw) (defBody s_law_draw) (defScope s_law_draw) .none kV44 dc44 pm44 an44 cd44 ct44), sl44⟩)
    (c44 : PySem.W.codeIn K cd44 "_law_draw" = true)
    (k44 : PySem.W.keepIn K (.ref f44) = true)
    (a45 : PySem.W.nsIn K mainGlobals "_law_whole" = some (some (.ref f45)))
    (l45 : K.lookup f45 = some ⟨oc45, od45, .func (PySem.W.fnOf "_law_whole" "_law_whole" (defArgs s_law_whole) (defBody s_law_whole) (defScope s_law_whole) .none kV45 dc45 pm45 an45 cd45 ct45), sl45⟩)
    (c45 : PySem.W.codeIn K cd45 "_law_whole" = true)
    (k45 : PySem.W.keepIn K (.ref f45) = true)
    (a46 : PySem.W.nsIn K mainGlobals "_law_gcd" = some (some (.ref f46)))
    (l46 : K.lookup f46 = some ⟨oc46, od46, .func (PySem.W.fnOf "_law_gcd" "_law_gcd" (defArgs s_law_gcd) (defBody s_law_gcd) (defScope s_law_gcd) .none kV46 dc46 pm46 an46 cd46 ct46), sl46⟩)
    (c46 : PySem.W.codeIn K cd46 "_law_gcd" = true)
    (k46 : PySem.W.keepIn K (.ref f46) = true)
    (a47 : PySem.W.nsIn K mainGlobals "_law_low" = some (some (.ref f47)))
    (l47 : K.lookup f47 = some ⟨oc47, od47, .func (PySem.W.fnOf "_law_low" "_law_low" (defArgs s_law_low) (defBody s_law_low) (defScope s_law_low) .none kV47 dc47 pm47 an47 cd47 ct47), sl47⟩)
    (c47 : PySem.W.codeIn K cd47 "_law_low" = true)
    (k47 : PySem.W.keepIn K (.ref f47) = true)
    (a48 : PySem.W.nsIn K mainGlobals "_law_some" = some (some (.ref f48)))
    (l48 : K.lookup f48 = some ⟨oc48, od48, .func (PySem.W.fnOf "_law_some" "_law_some" (defArgs s_law_some) (defBody s_law_some) (defScope s_law_some) .none kV48 dc48 pm48 an48 cd48 ct48), sl48⟩)
    (c48 : PySem.W.codeIn K cd48 "_law_some" = true)
    (k48 : PySem.W.keepIn K (.ref f48) = true)
    (a49 : PySem.W.nsIn K mainGlobals "_law_plus" = some (some (.ref f49)))
    (l49 : K.lookup f49 = some ⟨oc49, od49, .func (PySem.W.fnOf "_law_plus" "_law_plus" (defArgs s_law_plus) (defBody s_law_plus) (defScope s_law_plus) .none kV49 dc49 pm49 an49 cd49 ct49), sl49⟩)
    (c49 : PySem.W.codeIn K cd49 "_law_plus" = true)
    (k49 : PySem.W.keepIn K (.ref f49) = true)
    (a50 : PySem.W.nsIn K mainGlobals "_law_times" = some (some (.ref f50)))
    (l50 : K.lookup f50 = some ⟨oc50, od50, .func (PySem.W.fnOf "_law_times" "_law_times" (defArgs s_law_times) (defBody s_law_times) (defScope s_law_times) .none kV50 dc50 pm50 an50 cd50 ct50), sl50⟩)
    (c50 : PySem.W.codeIn K cd50 "_law_times" = true)
    (k50 : PySem.W.keepIn K (.ref f50) = true)
    (a51 : PySem.W.nsIn K mainGlobals "_law_minus" = some (some (.ref f51)))
    (l51 : K.lookup f51 = some ⟨oc51, od51, .func (PySem.W.fnOf "_law_minus" "_law_minus" (defArgs s_law_minus) (defBody s_law_minus) (defScope s_law_minus) .none kV51 dc51 pm51 an51 cd51 ct51), sl51⟩)
    (c51 : PySem.W.codeIn K cd51 "_law_minus" = true)
    (k51 : PySem.W.keepIn K (.ref f51) = true)
    (a52 : PySem.W.nsIn K mainGlobals "_law_over" = some (some (.ref f52)))
    (l52 : K.lookup f52 = some ⟨oc52, od52, .func (PySem.W.fnOf "_law_over" "_law_over" (defArgs s_law_over) (defBody s_law_over) (defScope s_law_over) .none kV52 dc52 pm52 an52 cd52 ct52), sl52⟩)
    (c52 : PySem.W.codeIn K cd52 "_law_over" = true)
    (k52 : PySem.W.keepIn K (.ref f52) = true)
    (a53 : PySem.W.nsIn K mainGlobals "_law_nought" = some (some (.ref f53)))
    (l53 : K.lookup f53 = some ⟨oc53, od53, .func (PySem.W.fnOf "_law_nought" "_law_nought" (defArgs s_law_nought) (defBody s_law_nought) (defScope s_law_nought) .none kV53 dc53 pm53 an53 cd53 ct53), sl53⟩)
    (c53 : PySem.W.codeIn K cd53 "_law_nought" = true)
    (k53 : PySem.W.keepIn K (.ref f53) = true)
    (a54 : PySem.W.nsIn K mainGlobals "_law_good" = some (some (.ref f54)))
    (l54 : K.lookup f54 = some ⟨oc54, od54, .func (PySem.W.fnOf "_law_good" "_law_good" (defArgs s_law_good) (defBody s_law_good) (defScope s_law_good) .none kV54 dc54 pm54 an54 cd54 ct54), sl54⟩)
    (c54 : PySem.W.codeIn K cd54 "_law_good" = true)
    (k54 : PySem.W.keepIn K (.ref f54) = true)
    (a55 : PySem.W.nsIn K mainGlobals "_law_good_row" = some (some (.ref f55)))
    (l55 : K.lookup f55 = some ⟨oc55, od55, .func (PySem.W.fnOf "_law_good_row" "_law_good_row" (defArgs s_law_good_row) (defBody s_law_good_row) (defScope s_law_good_row) .none kV55 dc55 pm55 an55 cd55 ct55), sl55⟩)
    (c55 : PySem.W.codeIn K cd55 "_law_good_row" = true)
    (k55 : PySem.W.keepIn K (.ref f55) = true)
    (a56 : PySem.W.nsIn K mainGlobals "_law_dot" = some (some (.ref f56)))
    (l56 : K.lookup f56 = some ⟨oc56, od56, .func (PySem.W.fnOf "_law_dot" "_law_dot" (defArgs s_law_dot) (defBody s_law_dot) (defScope s_law_dot) .none kV56 dc56 pm56 an56 cd56 ct56), sl56⟩)
    (c56 : PySem.W.codeIn K cd56 "_law_dot" = true)
    (k56 : PySem.W.keepIn K (.ref f56) = true)
    (a57 : PySem.W.nsIn K mainGlobals "_law_sum" = some (some (.ref f57)))
    (l57 : K.lookup f57 = some ⟨oc57, od57, .func (PySem.W.fnOf "_law_sum" "_law_sum" (defArgs s_law_sum) (defBody s_law_sum) (defScope s_law_sum) .none kV57 dc57 pm57 an57 cd57 ct57), sl57⟩)
    (c57 : PySem.W.codeIn K cd57 "_law_sum" = true)
    (k57 : PySem.W.keepIn K (.ref f57) = true)
    (a58 : PySem.W.nsIn K mainGlobals "_law_prime" = some (some (.ref f58)))
    (l58 : K.lookup f58 = some ⟨oc58, od58, .func (PySem.W.fnOf "_law_prime" "_law_prime" (defArgs s_law_prime) (defBody s_law_prime) (defScope s_law_prime) .none kV58 dc58 pm58 an58 cd58 ct58), sl58⟩)
    (c58 : PySem.W.codeIn K cd58 "_law_prime" = true)
    (k58 : PySem.W.keepIn K (.ref f58) = true)
    (a59 : PySem.W.nsIn K mainGlobals "_law_field" = some (some (.ref f59)))
    (l59 : K.lookup f59 = some ⟨oc59, od59, .func (PySem.W.fnOf "_law_field" "_law_field" (defArgs s_law_field) (defBody s_law_field) (defScope s_law_field) .none kV59 dc59 pm59 an59 cd59 ct59), sl59⟩)
    (c59 : PySem.W.codeIn K cd59 "_law_field" = true)
    (k59 : PySem.W.keepIn K (.ref f59) = true)
    (a60 : PySem.W.nsIn K mainGlobals "_law_tiny" = some (some (.ref f60)))
    (l60 : K.lookup f60 = some ⟨oc60, od60, .func (PySem.W.fnOf "_law_tiny" "_law_tiny" (defArgs s_law_tiny) (defBody s_law_tiny) (defScope s_law_tiny) .none kV60 dc60 pm60 an60 cd60 ct60), sl60⟩)
    (c60 : PySem.W.codeIn K cd60 "_law_tiny" = true)
    (k60 : PySem.W.keepIn K (.ref f60) = true)
    (a61 : PySem.W.nsIn K mainGlobals "_law_number" = some (some (.ref f61)))
    (l61 : K.lookup f61 = some ⟨oc61, od61, .func (PySem.W.fnOf "_law_number" "_law_number" (defArgs s_law_number) (defBody s_law_number) (defScope s_law_number) .none kV61 dc61 pm61 an61 cd61 ct61), sl61⟩)
    (c61 : PySem.W.codeIn K cd61 "_law_number" = true)
    (k61 : PySem.W.keepIn K (.ref f61) = true)
    (a62 : PySem.W.nsIn K mainGlobals "_law_filled" = some (some (.ref f62)))
    (l62 : K.lookup f62 = some ⟨oc62, od62, .func (PySem.W.fnOf "_law_filled" "_law_filled" (defArgs s_law_filled) (defBody s_law_filled) (defScope s_law_filled) .none kV62 dc62 pm62 an62 cd62 ct62), sl62⟩)
    (c62 : PySem.W.codeIn K cd62 "_law_filled" = true)
    (k62 : PySem.W.keepIn K (.ref f62) = true)
    (a63 : PySem.W.nsIn K mainGlobals "_law_row" = some (some (.ref f63)))
    (l63 : K.lookup f63 = some ⟨oc63, od63, .func (PySem.W.fnOf "_law_row" "_law_row" (defArgs s_law_row) (defBody s_law_row) (defScope s_law_row) .none kV63 dc63 pm63 an63 cd63 ct63), sl63⟩)
    (c63 : PySem.W.codeIn K cd63 "_law_row" = true)
    (k63 : PySem.W.keepIn K (.ref f63) = true)
    (a64 : PySem.W.nsIn K mainGlobals "_law_shear" = some (some (.ref f64)))
    (l64 : K.lookup f64 = some ⟨oc64, od64, .func (PySem.W.fnOf "_law_shear" "_law_shear" (defArgs s_law_shear) (defBody s_law_shear) (defScope s_law_shear) .none kV64 dc64 pm64 an64 cd64 ct64), sl64⟩)
    (c64 : PySem.W.codeIn K cd64 "_law_shear" = true)
    (k64 : PySem.W.keepIn K (.ref f64) = true)
    (a65 : PySem.W.nsIn K mainGlobals "_law_wide" = some (some (.ref f65)))
    (l65 : K.lookup f65 = some ⟨oc65, od65, .func (PySem.W.fnOf "_law_wide" "_law_wide" (defArgs s_law_wide) (defBody s_law_wide) (defScope s_law_wide) .none kV65 dc65 pm65 an65 cd65 ct65), sl65⟩)
    (c65 : PySem.W.codeIn K cd65 "_law_wide" = true)
    (k65 : PySem.W.keepIn K (.ref f65) = true)
    (a66 : PySem.W.nsIn K mainGlobals "_law_narrow" = some (some (.ref f66)))
    (l66 : K.lookup f66 = some ⟨oc66, od66, .func (PySem.W.fnOf "_law_narrow" "_law_narrow" (defArgs s_law_narrow) (defBody s_law_narrow) (defScope s_law_narrow) .none kV66 dc66 pm66 an66 cd66 ct66), sl66⟩)
    (c66 : PySem.W.codeIn K cd66 "_law_narrow" = true)
    (k66 : PySem.W.keepIn K (.ref f66) = true)
    (a67 : PySem.W.nsIn K mainGlobals "_law_full" = some (some (.ref f67)))
    (l67 : K.lookup f67 = some ⟨oc67, od67, .func (PySem.W.fnOf "_law_full" "_law_full" (defArgs s_law_full) (defBody s_law_full) (defScope s_law_full) .none kV67 dc67 pm67 an67 cd67 ct67), sl67⟩)
    (c67 : PySem.W.codeIn K cd67 "_law_full" = true)
    (k67 : PySem.W.keepIn K (.ref f67) = true)
    (a68 : PySem.W.nsIn K mainGlobals "_law_grid" = some (some (.ref f68)))
    (l68 : K.lookup f68 = some ⟨oc68, od68, .func (PySem.W.fnOf "_law_grid" "_law_grid" (defArgs s_law_grid) (defBody s_law_grid) (defScope s_law_grid) .none kV68 dc68 pm68 an68 cd68 ct68), sl68⟩)
    (c68 : PySem.W.codeIn K cd68 "_law_grid" = true)
    (k68 : PySem.W.keepIn K (.ref f68) = true)
    (a69 : PySem.W.nsIn K mainGlobals "_law_pair_of_lots" = some (some (.ref f69)))
    (l69 : K.lookup f69 = some ⟨oc69, od69, .func (PySem.W.fnOf "_law_pair_of_lots" "_law_pair_of_lots" (defArgs s_law_pair_of_lots) (defBody s_law_pair_of_lots) (defScope s_law_pair_of_lots) .none kV69 dc69 pm69 an69 cd69 ct69), sl69⟩)
    (c69 : PySem.W.codeIn K cd69 "_law_pair_of_lots" = true)
    (k69 : PySem.W.keepIn K (.ref f69) = true)
    (a70 : PySem.W.nsIn K mainGlobals "_law_tile_fair" = some (some (.ref f70)))
    (l70 : K.lookup f70 = some ⟨oc70, od70, .func (PySem.W.fnOf "_law_tile_fair" "_law_tile_fair" (defArgs s_law_tile_fair) (defBody s_law_tile_fair) (defScope s_law_tile_fair) .none kV70 dc70 pm70 an70 cd70 ct70), sl70⟩)
    (c70 : PySem.W.codeIn K cd70 "_law_tile_fair" = true)
    (k70 : PySem.W.keepIn K (.ref f70) = true)
    (a71 : PySem.W.nsIn K mainGlobals "_law_meet" = some (some (.ref f71)))
    (l71 : K.lookup f71 = some ⟨oc71, od71, .func (PySem.W.fnOf "_law_meet" "_law_meet" (defArgs s_law_meet) (defBody s_law_meet) (defScope s_law_meet) .none kV71 dc71 pm71 an71 cd71 ct71), sl71⟩)
    (c71 : PySem.W.codeIn K cd71 "_law_meet" = true)
    (k71 : PySem.W.keepIn K (.ref f71) = true)
    (a72 : PySem.W.nsIn K mainGlobals "_law_same_meet" = some (some (.ref f72)))
    (l72 : K.lookup f72 = some ⟨oc72, od72, .func (PySem.W.fnOf "_law_same_meet" "_law_same_meet" (defArgs s_law_same_meet) (defBody s_law_same_meet) (defScope s_law_same_meet) .none kV72 dc72 pm72 an72 cd72 ct72), sl72⟩)
    (c72 : PySem.W.codeIn K cd72 "_law_same_meet" = true)
    (k72 : PySem.W.keepIn K (.ref f72) = true)
    (a73 : PySem.W.nsIn K mainGlobals "_law_found" = some (some (.ref f73)))
    (l73 : K.lookup f73 = some ⟨oc73, od73, .func (PySem.W.fnOf "_law_found" "_law_found" (defArgs s_law_found) (defBody s_law_found) (defScope s_law_found) .none kV73 dc73 pm73 an73 cd73 ct73), sl73⟩)
    (c73 : PySem.W.codeIn K cd73 "_law_found" = true)
    (k73 : PySem.W.keepIn K (.ref f73) = true)
    (a74 : PySem.W.nsIn K mainGlobals "law" = some (some (.ref f74)))
    (l74 : K.lookup f74 = some ⟨oc74, od74, .func (PySem.W.fnOf "law" "law" (defArgs s_law) (defBody s_law) (defScope s_law) .none kV74 dc74 pm74 an74 cd74 ct74), sl74⟩)
    (c74 : PySem.W.codeIn K cd74 "law" = true)
    (k74 : PySem.W.keepIn K (.ref f74) = true)
    (z_abs : PySem.W.nsIn K mainGlobals "abs" = some none)
    (z_all : PySem.W.nsIn K mainGlobals "all" = some none)
    (z_any : PySem.W.nsIn K mainGlobals "any" = some none)
    (z_bool : PySem.W.nsIn K mainGlobals "bool" = some none)
    (z_enumerate : PySem.W.nsIn K mainGlobals "enumerate" = some none)
    (z_int : PySem.W.nsIn K mainGlobals "int" = some none)
    (z_isinstance : PySem.W.nsIn K mainGlobals "isinstance" = some none)
    (z_len : PySem.W.nsIn K mainGlobals "len" = some none)
    (z_list : PySem.W.nsIn K mainGlobals "list" = some none)
    (z_range : PySem.W.nsIn K mainGlobals "range" = some none)
    (z_tuple : PySem.W.nsIn K mainGlobals "tuple" = some none)
    (z_zip : PySem.W.nsIn K mainGlobals "zip" = some none)
    (zo_gcd : PySem.W.nsIn K mainGlobals "gcd" = some (some (.builtin "math.gcd")))
    (zc_MOST_PRIME : PySem.W.nsIn K mainGlobals "MOST_PRIME" = some (some (.int 20000 tkc_MOST_PRIME)))
    (zc_MOST_CORNERS : PySem.W.nsIn K mainGlobals "MOST_CORNERS" = some (some (.int 5 tkc_MOST_CORNERS)))
    (zc_MOST_WIDTH : PySem.W.nsIn K mainGlobals "MOST_WIDTH" = some (some (.int 6 tkc_MOST_WIDTH)))
    (w1 : PySem.W.specialIn K (.builtin "object.__class__") "__get__" = some (some (.builtin "getset_descriptor.__get__")))
    (w2 : PySem.W.takesIn K (.builtin "object.__class__") = some true)
    (xt_SheetError : PySem.W.typeIn K (.ref CE_SheetError) = some (.type "type"))
    (xi_SheetError : PySem.W.isClsIn K CE_SheetError = true)
    (xt_BadPrime : PySem.W.typeIn K (.ref CE_BadPrime) = some (.type "type"))
    (xi_BadPrime : PySem.W.isClsIn K CE_BadPrime = true)
    (xb_BadPrime : PySem.W.subIn K (.ref CE_BadPrime) (.type "BaseException") = some true)
    (xk_BadPrime : PySem.W.keepIn K (.ref CE_BadPrime) = true)
    (x1_BadPrime : PySem.W.findIn K (.ref CE_BadPrime) "__getattribute__" = some (some (.builtin "BaseException.__getattribute__")))
    (x2_BadPrime : PySem.W.findIn K (.ref CE_BadPrime) "__getattr__" = some none)
    (x3_BadPrime : PySem.W.hasDictIn K CE_BadPrime = true)
    (x4_BadPrime : PySem.W.findIn K (.ref CE_BadPrime) "__class__" = some (some (.builtin "object.__class__")))
    (x5_BadPrime : PySem.W.mroIn K CE_BadPrime (.type "object") = some true)
    (xq_BadPrime : PySem.W.excIn K CE_BadPrime [Value.type "ValueError", Value.type "Exception", Value.type "BaseException", Value.type "object"] "ValueError.__new__" = true)
    (xt_BadNumber : PySem.W.typeIn K (.ref CE_BadNumber) = some (.type "type"))
    (xi_BadNumber : PySem.W.isClsIn K CE_BadNumber = true)
    (xb_BadNumber : PySem.W.subIn K (.ref CE_BadNumber) (.type "BaseException") = some true)
    (xk_BadNumber : PySem.W.keepIn K (.ref CE_BadNumber) = true)
    (x1_BadNumber : PySem.W.findIn K (.ref CE_BadNumber) "__getattribute__" = some (some (.builtin "BaseException.__getattribute__")))
    (x2_BadNumber : PySem.W.findIn K (.ref CE_BadNumber) "__getattr__" = some none)
    (x3_BadNumber : PySem.W.hasDictIn K CE_BadNumber = true)
    (x4_BadNumber : PySem.W.findIn K (.ref CE_BadNumber) "__class__" = some (some (.builtin "object.__class__")))
    (x5_BadNumber : PySem.W.mroIn K CE_BadNumber (.type "object") = some true)
    (xq_BadNumber : PySem.W.excIn K CE_BadNumber [Value.type "ValueError", Value.type "Exception", Value.type "BaseException", Value.type "object"] "ValueError.__new__" = true)
    (xt_ByZero : PySem.W.typeIn K (.ref CE_ByZero) = some (.type "type"))
    (xi_ByZero : PySem.W.isClsIn K CE_ByZero = true)
    (xb_ByZero : PySem.W.subIn K (.ref CE_ByZero) (.type "BaseException") = some true)
    (xk_ByZero : PySem.W.keepIn K (.ref CE_ByZero) = true)
    (x1_ByZero : PySem.W.findIn K (.ref CE_ByZero) "__getattribute__" = some (some (.builtin "BaseException.__getattribute__")))
    (x2_ByZero : PySem.W.findIn K (.ref CE_ByZero) "__getattr__" = some none)
    (x3_ByZero : PySem.W.hasDictIn K CE_ByZero = true)
    (x4_ByZero : PySem.W.findIn K (.ref CE_ByZero) "__class__" = some (some (.builtin "object.__class__")))
    (x5_ByZero : PySem.W.mroIn K CE_ByZero (.type "object") = some true)
    (xq_ByZero : PySem.W.excIn K CE_ByZero [Value.type "ValueError", Value.type "Exception", Value.type "BaseException", Value.type "object"] "ValueError.__new__" = true)
    (xt_BadSpace : PySem.W.typeIn K (.ref CE_BadSpace) = some (.type "type"))
    (xi_BadSpace : PySem.W.isClsIn K CE_BadSpace = true)
    (xb_BadSpace : PySem.W.subIn K (.ref CE_BadSpace) (.type "BaseException") = some true)
    (xk_BadSpace : PySem.W.keepIn K (.ref CE_BadSpace) = true)
    (x1_BadSpace : PySem.W.findIn K (.ref CE_BadSpace) "__getattribute__" = some (some (.builtin "BaseException.__getattribute__")))
    (x2_BadSpace : PySem.W.findIn K (.ref CE_BadSpace) "__getattr__" = some none)
    (x3_BadSpace : PySem.W.hasDictIn K CE_BadSpace = true)
    (x4_BadSpace : PySem.W.findIn K (.ref CE_BadSpace) "__class__" = some (some (.builtin "object.__class__")))
    (x5_BadSpace : PySem.W.mroIn K CE_BadSpace (.type "object") = some true)
    (xl_BadSpace : K.lookup CE_BadSpace = some (excClassObj nm_BadSpace qn_BadSpace CE_BadSpace NB_BadSpace bs_BadSpace bm_BadSpace true sn_BadSpace sub_BadSpace ab_BadSpace col_BadSpace dd_BadSpace m0_BadSpace m1_BadSpace m2_BadSpace m3_BadSpace m5_BadSpace "ValueError.__new__"))
    (xr_BadSpace : PySem.HandSPX.refsVE bm_BadSpace = true)
    (xs_BadSpace : PySem.W.findIn K (.ref CE_BadSpace) "__setattr__" = some (some (.builtin "object.__setattr__")))
    (xf_BadSpace : PySem.W.typeIn K (.ref f0) = some (.type "function"))
    (xn0_BadSpace : PySem.W.findIn K (.ref CE_BadSpace) "what" = some none)
    (xn1_BadSpace : PySem.W.findIn K (.ref CE_BadSpace) "index" = some none)
    (s_BadPrime_BadNumber : PySem.W.subIn K (.ref CE_BadPrime) (.ref CE_BadNumber) = some false)
    (s_BadNumber_BadNumber : PySem.W.subIn K (.ref CE_BadNumber) (.ref CE_BadNumber) = some true)
    (s_ByZero_BadNumber : PySem.W.subIn K (.ref CE_ByZero) (.ref CE_BadNumber) = some false)
    (s_BadSpace_BadNumber : PySem.W.subIn K (.ref CE_BadSpace) (.ref CE_BadNumber) = some false)
    (p1_RestField : PySem.W.plainGet K CC_RestField Str.empty = true)
    (p2_RestField : PySem.W.hasDictIn K CC_RestField = true)
    (p3_RestField : PySem.W.plainOver K CC_RestField = true)
    (p4_RestField : PySem.W.findIn K (.ref CC_RestField) "__setattr__" = some (some (.builtin "object.__setattr__")))
    (p5_RestField : PySem.W.makesIn K CC_RestField = true)
    (p6_RestField : PySem.W.keepIn K (.ref CC_RestField) = true)
    (na_RestField_prime : PySem.W.findIn K (.ref CC_RestField) "prime" = some none)
    (na_RestField_zero : PySem.W.findIn K (.ref CC_RestField) "zero" = some none)
    (na_RestField_one : PySem.W.findIn K (.ref CC_RestField) "one" = some none)
    (na_RestField_minus_one : PySem.W.findIn K (.ref CC_RestField) "minus_one" = some none)
    (p7_RestField : PySem.W.findIn K (.ref CC_RestField) "__class__" = some (some (.builtin "object.__class__")))
    (p8_RestField : PySem.W.mroIn K CC_RestField (.type "object") = some true)
    (p9_RestField : PySem.W.subIn K (.ref CC_RestField) (.ref CC_RestField) = some true)
    (pi_RestField : PySem.W.isClsIn K CC_RestField = true)
    (pt_RestField : PySem.W.typeIn K (.ref CC_RestField) = some (.type "type"))
    (p1_FractionField : PySem.W.plainGet K CC_FractionField Str.empty = true)
    (p2_FractionField : PySem.W.hasDictIn K CC_FractionField = true)
    (p3_FractionField : PySem.W.plainOver K CC_FractionField = true)
    (p4_FractionField : PySem.W.findIn K (.ref CC_FractionField) "__setattr__" = some (some (.builtin "object.__setattr__")))
    (p5_FractionField : PySem.W.makesIn K CC_FractionField = true)
    (p6_FractionField : PySem.W.keepIn K (.ref CC_FractionField) = true)
    (na_FractionField_zero : PySem.W.findIn K (.ref CC_FractionField) "zero" = some none)
    (na_FractionField_one : PySem.W.findIn K (.ref CC_FractionField) "one" = some none)
    (na_FractionField_minus_one : PySem.W.findIn K (.ref CC_FractionField) "minus_one" = some none)
    (p7_FractionField : PySem.W.findIn K (.ref CC_FractionField) "__class__" = some (some (.builtin "object.__class__")))
    (p8_FractionField : PySem.W.mroIn K CC_FractionField (.type "object") = some true)
    (p9_FractionField : PySem.W.subIn K (.ref CC_FractionField) (.ref CC_FractionField) = some true)
    (pi_FractionField : PySem.W.isClsIn K CC_FractionField = true)
    (pt_FractionField : PySem.W.typeIn K (.ref CC_FractionField) = some (.type "type"))
    (p1_Space : PySem.W.plainGet K CC_Space Str.empty = true)
    (p2_Space : PySem.W.hasDictIn K CC_Space = true)
    (p3_Space : PySem.W.plainOver K CC_Space = true)
    (p4_Space : PySem.W.findIn K (.ref CC_Space) "__setattr__" = some (some (.builtin "object.__setattr__")))
    (p5_Space : PySem.W.makesIn K CC_Space = true)
    (p6_Space : PySem.W.keepIn K (.ref CC_Space) = true)
    (na_Space_field : PySem.W.findIn K (.ref CC_Space) "field" = some none)
    (na_Space_points : PySem.W.findIn K (.ref CC_Space) "points" = some none)
    (na_Space_walls : PySem.W.findIn K (.ref CC_Space) "walls" = some none)
    (na_Space_width : PySem.W.findIn K (.ref CC_Space) "width" = some none)
    (p7_Space : PySem.W.findIn K (.ref CC_Space) "__class__" = some (some (.builtin "object.__class__")))
    (p8_Space : PySem.W.mroIn K CC_Space (.type "object") = some true)
    (p9_Space : PySem.W.subIn K (.ref CC_Space) (.ref CC_Space) = some true)
    (pi_Space : PySem.W.isClsIn K CC_Space = true)
    (pt_Space : PySem.W.typeIn K (.ref CC_Space) = some (.type "type"))
    (p1_Meet : PySem.W.plainGet K CC_Meet Str.empty = true)
    (p2_Meet : PySem.W.hasDictIn K CC_Meet = true)
    (p3_Meet : PySem.W.plainOver K CC_Meet = true)
    (p4_Meet : PySem.W.findIn K (.ref CC_Meet) "__setattr__" = some (some (.builtin "object.__setattr__")))
    (p5_Meet : PySem.W.makesIn K CC_Meet = true)
    (p6_Meet : PySem.W.keepIn K (.ref CC_Meet) = true)
    (na_Meet_first : PySem.W.findIn K (.ref CC_Meet) "first" = some none)
    (na_Meet_second : PySem.W.findIn K (.ref CC_Meet) "second" = some none)
    (na_Meet_row : PySem.W.findIn K (.ref CC_Meet) "row" = some none)
    (p7_Meet : PySem.W.findIn K (.ref CC_Meet) "__class__" = some (some (.builtin "object.__class__")))
    (p8_Meet : PySem.W.mroIn K CC_Meet (.type "object") = some true)
    (p9_Meet : PySem.W.subIn K (.ref CC_Meet) (.ref CC_Meet) = some true)
    (pi_Meet : PySem.W.isClsIn K CC_Meet = true)
    (pt_Meet : PySem.W.typeIn K (.ref CC_Meet) = some (.type "type"))
    (so_RestField_FractionField : PySem.W.subIn K (.ref CC_RestField) (.ref CC_FractionField) = some false)
    (no_RestField_FractionField : (CC_RestField == CC_FractionField) = false)
    (so_RestField_Space : PySem.W.subIn K (.ref CC_RestField) (.ref CC_Space) = some false)
    (no_RestField_Space : (CC_RestField == CC_Space) = false)
    (so_RestField_Meet : PySem.W.subIn K (.ref CC_RestField) (.ref CC_Meet) = some false)
    (no_RestField_Meet : (CC_RestField == CC_Meet) = false)
    (so_FractionField_RestField : PySem.W.subIn K (.ref CC_FractionField) (.ref CC_RestField) = some false)
    (no_FractionField_RestField : (CC_FractionField == CC_RestField) = false)
    (so_FractionField_Space : PySem.W.subIn K (.ref CC_FractionField) (.ref CC_Space) = some false)
    (no_FractionField_Space : (CC_FractionField == CC_Space) = false)
    (so_FractionField_Meet : PySem.W.subIn K (.ref CC_FractionField) (.ref CC_Meet) = some false)
    (no_FractionField_Meet : (CC_FractionField == CC_Meet) = false)
    (so_Space_RestField : PySem.W.subIn K (.ref CC_Space) (.ref CC_RestField) = some false)
    (no_Space_RestField : (CC_Space == CC_RestField) = false)
    (so_Space_FractionField : PySem.W.subIn K (.ref CC_Space) (.ref CC_FractionField) = some false)
    (no_Space_FractionField : (CC_Space == CC_FractionField) = false)
    (so_Space_Meet : PySem.W.subIn K (.ref CC_Space) (.ref CC_Meet) = some false)
    (no_Space_Meet : (CC_Space == CC_Meet) = false)
    (so_Meet_RestField : PySem.W.subIn K (.ref CC_Meet) (.ref CC_RestField) = some false)
    (no_Meet_RestField : (CC_Meet == CC_RestField) = false)
    (so_Meet_FractionField : PySem.W.subIn K (.ref CC_Meet) (.ref CC_FractionField) = some false)
    (no_Meet_FractionField : (CC_Meet == CC_FractionField) = false)
    (so_Meet_Space : PySem.W.subIn K (.ref CC_Meet) (.ref CC_Space) = some false)
    (no_Meet_Space : (CC_Meet == CC_Space) = false)
    {e15 : Value} {dd15 : Option Addr} {vs15 : Array Value} {sm15 : Array (Option Value)} (lc15 : K.lookup cw0 = some ⟨e15, dd15, .fields vs15, sm15⟩) (h15 : (vs15[11]? : Option Value) = some (.ref Pw0)) (nP15 : K.lookup Pw0 = none) (rc15 : ((recsOf q).find? fun r => r.name == ("is_number_row" : Str)).isSome = true)
    {e34 : Value} {dd34 : Option Addr} {vs34 : Array Value} {sm34 : Array (Option Value)} (lc34 : K.lookup cw1 = some ⟨e34, dd34, .fields vs34, sm34⟩) (h34 : (vs34[11]? : Option Value) = some (.ref Pw1)) (nP34 : K.lookup Pw1 = none) (rc34 : ((recsOf q).find? fun r => r.name == ("_check_rows" : Str)).isSome = true)
    (neP : Pw0 ≠ Pw1) (TT : TabsOf q K h) :
    LawAtS l w K CX0 40 63 "_law_script" mg fa h := by
  have e := hfa.symm.trans (PySem.W.mg_of X G a74)
  cases e
  have F0 := fun_mk (st := s_BadSpace_init) l0 c0 k0
  have b0 := F0.binds (ps := ["self", "what", "index"]) fun _ _ _ _ _ _ us hl => match us, hl with | [_, _, _], _ => rfl
  have F1 : FunD K "is_whole" "is_whole" (defArgs s_is_whole) (defBody s_is_whole) (defScope s_is_whole) [.non, .non] [] f1 (PySem.W.fnOf "is_whole" "is_whole" (defArgs s_is_whole) (defBody s_is_whole) (defScope s_is_whole) (.ref D1) kV1 dc1 pm1 an1 cd1 ct1) := 
    ⟨⟨oc1, od1, .ref D1, kV1, dc1, pm1, an1, cd1, ct1, sl1, rfl, l1, c1, .inr ⟨by simp, D1, _, [.none, .none], _, rfl, e1, rfl, .cons rfl (.cons rfl .nil)⟩, .inl rfl⟩, k1⟩
  have bq1_2 : Binds K (PySem.W.fnOf "is_whole" "is_whole" (defArgs s_is_whole) (defBody s_is_whole) (defScope s_is_whole) (.ref D1) kV1 dc1 pm1 an1 cd1 ct1) ["thing", "low", "high"] [.none, .none] := fun s us X hl => by
    have hl : us.length = 1 := by
      rw [List.length_append] at hl
      exact Nat.add_right_cancel (m := 2) hl
    match us, hl with
    | [u0], _ => exact BindsTo.of_looks fun M => looks_items (its := #[.none, .none]) X e1 rfl (.of_pure rfl)
  have bq1_1 : Binds K (PySem.W.fnOf "is_whole" "is_whole" (defArgs s_is_whole) (defBody s_is_whole) (defScope s_is_whole) (.ref D1) kV1 dc1 pm1 an1 cd1 ct1) ["thing", "low", "high"] [.none] := fun s us X hl => by
    have hl : us.length = 2 := by
      rw [List.length_append] at hl
      exact Nat.add_right_cancel (m := 1) hl
    match us, hl with
    | [u0, u1], _ => exact BindsTo.of_looks fun M => looks_items (its := #[.none, .none]) X e1 rfl (.of_pure rfl)
  have bq1_0 : Binds K (PySem.W.fnOf "is_whole" "is_whole" (defArgs s_is_whole) (defBody s_is_whole) (defScope s_is_whole) (.ref D1) kV1 dc1 pm1 an1 cd1 ct1) ["thing", "low", "high"] [] := fun s us X hl => by
    match us, hl with
    | [u0, u1, u2], _ => exact BindsTo.of_looks fun M => looks_items (its := #[.none, .none]) X e1 rfl (.of_pure rfl)
  have F2 := fun_mk (st := s_common_divisor) l2 c2 k2
  have b2 := F2.binds (ps := ["one", "other"]) fun _ _ _ _ _ _ us hl => match us, hl with | [_, _], _ => rfl
  have F3 := fun_mk (st := s_power_of) l3 c3 k3
  have b3 := F3.binds (ps := ["base", "exponent"]) fun _ _ _ _ _ _ us hl => match us, hl with | [_, _], _ => rfl
  have F4 : FunD K "is_sequence" "is_sequence" (defArgs s_is_sequence) (defBody s_is_sequence) (defScope s_is_sequence) [.non] [] f4 (PySem.W.fnOf "is_sequence" "is_sequence" (defArgs s_is_sequence) (defBody s_is_sequence) (defScope s_is_sequence) (.ref D4) kV4 dc4 pm4 an4 cd4 ct4) := 
    ⟨⟨oc4, od4, .ref D4, kV4, dc4, pm4, an4, cd4, ct4, sl4, rfl, l4, c4, .inr ⟨by simp, D4, _, [.none], _, rfl, e4, rfl, .cons rfl .nil⟩, .inl rfl⟩, k4⟩
  have bq4_1 : Binds K (PySem.W.fnOf "is_sequence" "is_sequence" (defArgs s_is_sequence) (defBody s_is_sequence) (defScope s_is_sequence) (.ref D4) kV4 dc4 pm4 an4 cd4 ct4) ["thing", "length"] [.none] := fun s us X hl => by
    have hl : us.length = 1 := by
      rw [List.length_append] at hl
      exact Nat.add_right_cancel (m := 1) hl
    match us, hl with
    | [u0], _ => exact BindsTo.of_looks fun M => looks_items (its := #[.none]) X e4 rfl (.of_pure rfl)
  have bq4_0 : Binds K (PySem.W.fnOf "is_sequence" "is_sequence" (defArgs s_is_sequence) (defBody s_is_sequence) (defScope s_is_sequence) (.ref D4) kV4 dc4 pm4 an4 cd4 ct4) ["thing", "length"] [] := fun s us X hl => by
    match us, hl with
    | [u0, u1], _ => exact BindsTo.of_looks fun M => looks_items (its := #[.none]) X e4 rfl (.of_pure rfl)
  have F5 := fun_mk (st := s_has_between) l5 c5 k5
  have b5 := F5.binds (ps := ["thing", "low", "high"]) fun _ _ _ _ _ _ us hl => match us, hl with | [_, _, _], _ => rfl
  have F6 := fun_mk (st := s_wrong_index) l6 c6 k6
  have b6 := F6.binds (ps := ["thing", "length", "is_good"]) fun _ _ _ _ _ _ us hl => match us, hl with | [_, _, _], _ => rfl
  have F7 := fun_mk (st := s_columns_of) l7 c7 k7
  have b7 := F7.binds (ps := ["width", "rows"]) fun _ _ _ _ _ _ us hl => match us, hl with | [_, _], _ => rfl
  have F8 := fun_mk (st := s_as_tuples) l8 c8 k8
  have b8 := F8.binds (ps := ["rows"]) fun _ _ _ _ _ _ us hl => match us, hl with | [_], _ => rfl
  have F9 := fun_mk (st := s_product_sum) l9 c9 k9
  have b9 := F9.binds (ps := ["field", "one", "other"]) fun _ _ _ _ _ _ us hl => match us, hl with | [_, _, _], _ => rfl
  have F10 := fun_mk (st := s_columns_as_rows) l10 c10 k10
  have b10 := F10.binds (ps := ["rows"]) fun _ _ _ _ _ _ us hl => match us, hl with | [_], _ => rfl
  have F11 := fun_mk (st := s_rows_product) l11 c11 k11
  have b11 := F11.binds (ps := ["field", "rows", "others"]) fun _ _ _ _ _ _ us hl => match us, hl with | [_, _, _], _ => rfl
  have F12 := fun_mk (st := s_least_factor) l12 c12 k12
  have b12 := F12.binds (ps := ["number"]) fun _ _ _ _ _ _ us hl => match us, hl with | [_], _ => rfl
  have F13 := fun_mk (st := s_is_prime) l13 c13 k13
  have b13 := F13.binds (ps := ["number"]) fun _ _ _ _ _ _ us hl => match us, hl with | [_], _ => rfl
  have F14 := fun_mk (st := s_is_number) l14 c14 k14
  have b14 := F14.binds (ps := ["field", "thing"]) fun _ _ _ _ _ _ us hl => match us, hl with | [_, _], _ => rfl
  have F15 := fun_mk (st := s_is_number_row) l15 c15 k15
  have b15 := F15.binds (ps := ["field", "thing", "length"]) fun _ _ _ _ _ _ us hl => match us, hl with | [_, _, _], _ => rfl
  have F16 := fun_mk (st := s_RestField_init) l16 c16 k16
  have b16 := F16.binds (ps := ["self", "prime"]) fun _ _ _ _ _ _ us hl => match us, hl with | [_, _], _ => rfl
  have F17 := fun_mk (st := s_RestField_eq) l17 c17 k17
  have b17 := F17.binds (ps := ["self", "other"]) fun _ _ _ _ _ _ us hl => match us, hl with | [_, _], _ => rfl
  have F18 := fun_mk (st := s_RestField_check_number) l18 c18 k18
  have b18 := F18.binds (ps := ["self", "number"]) fun _ _ _ _ _ _ us hl => match us, hl with | [_, _], _ => rfl
  have F19 := fun_mk (st := s_RestField_plus) l19 c19 k19
  have b19 := F19.binds (ps := ["self", "one", "other"]) fun _ _ _ _ _ _ us hl => match us, hl with | [_, _, _], _ => rfl
  have F20 := fun_mk (st := s_RestField_less) l20 c20 k20
  have b20 := F20.binds (ps := ["self", "one", "other"]) fun _ _ _ _ _ _ us hl => match us, hl with | [_, _, _], _ => rfl
  have F21 := fun_mk (st := s_RestField_times) l21 c21 k21
  have b21 := F21.binds (ps := ["self", "one", "other"]) fun _ _ _ _ _ _ us hl => match us, hl with | [_, _, _], _ => rfl
  have F22 := fun_mk (st := s_RestField_quotient) l22 c22 k22
  have b22 := F22.binds (ps := ["self", "one", "other"]) fun _ _ _ _ _ _ us hl => match us, hl with | [_, _, _], _ => rfl
  have F23 := fun_mk (st := s_RestField_power) l23 c23 k23
  have b23 := F23.binds (ps := ["self", "number", "exponent"]) fun _ _ _ _ _ _ us hl => match us, hl with | [_, _, _], _ => rfl
  have F24 := fun_mk (st := s_fraction) l24 c24 k24
  have b24 := F24.binds (ps := ["top", "bottom"]) fun _ _ _ _ _ _ us hl => match us, hl with | [_, _], _ => rfl
  have F25 := fun_mk (st := s_FractionField_init) l25 c25 k25
  have b25 := F25.binds (ps := ["self"]) fun _ _ _ _ _ _ us hl => match us, hl with | [_], _ => rfl
  have F26 := fun_mk (st := s_FractionField_eq) l26 c26 k26
  have b26 := F26.binds (ps := ["self", "other"]) fun _ _ _ _ _ _ us hl => match us, hl with | [_, _], _ => rfl
  have F27 := fun_mk (st := s_FractionField_check_number) l27 c27 k27
  have b27 := F27.binds (ps := ["self", "number"]) fun _ _ _ _ _ _ us hl => match us, hl with | [_, _], _ => rfl
  have F28 := fun_mk (st := s_FractionField_plus) l28 c28 k28
  have b28 := F28.binds (ps := ["self", "one", "other"]) fun _ _ _ _ _ _ us hl => match us, hl with | [_, _, _], _ => rfl
  have F29 := fun_mk (st := s_FractionField_less) l29 c29 k29
  have b29 := F29.binds (ps := ["self", "one", "other"]) fun _ _ _ _ _ _ us hl => match us, hl with | [_, _, _], _ => rfl
  have F30 := fun_mk (st := s_FractionField_times) l30 c30 k30
  have b30 := F30.binds (ps := ["self", "one", "other"]) fun _ _ _ _ _ _ us hl => match us, hl with | [_, _, _], _ => rfl
  have F31 := fun_mk (st := s_FractionField_quotient) l31 c31 k31
  have b31 := F31.binds (ps := ["self", "one", "other"]) fun _ _ _ _ _ _ us hl => match us, hl with | [_, _, _], _ => rfl
  have F32 := fun_mk (st := s_FractionField_power) l32 c32 k32
  have b32 := F32.binds (ps := ["self", "number", "exponent"]) fun _ _ _ _ _ _ us hl => match us, hl with | [_, _, _], _ => rfl
  have F33 := fun_mk (st := s_is_row) l33 c33 k33
  have b33 := F33.binds (ps := ["field", "thing", "width"]) fun _ _ _ _ _ _ us hl => match us, hl with | [_, _, _], _ => rfl
  have F34 := fun_mk (st := s_check_rows) l34 c34 k34
  have b34 := F34.binds (ps := ["field", "what", "rows", "width"]) fun _ _ _ _ _ _ us hl => match us, hl with | [_, _, _, _], _ => rfl
  have F35 := fun_mk (st := s_width_of) l35 c35 k35
  have b35 := F35.binds (ps := ["row"]) fun _ _ _ _ _ _ us hl => match us, hl with | [_], _ => rfl
  have F36 := fun_mk (st := s_Space_init) l36 c36 k36
  have b36 := F36.binds (ps := ["self", "field", "points", "walls"]) fun _ _ _ _ _ _ us hl => match us, hl with | [_, _, _, _], _ => rfl
  have F37 := fun_mk (st := s_Space_eq) l37 c37 k37
  have b37 := F37.binds (ps := ["self", "other"]) fun _ _ _ _ _ _ us hl => match us, hl with | [_, _], _ => rfl
  have F38 := fun_mk (st := s_number_at) l38 c38 k38
  have b38 := F38.binds (ps := ["space", "point", "wall"]) fun _ _ _ _ _ _ us hl => match us, hl with | [_, _, _], _ => rfl
  have F39 := fun_mk (st := s_Meet_init) l39 c39 k39
  have b39 := F39.binds (ps := ["self", "first", "second", "row"]) fun _ _ _ _ _ _ us hl => match us, hl with | [_, _, _, _], _ => rfl
  have F40 := fun_mk (st := s_Meet_eq) l40 c40 k40
  have b40 := F40.binds (ps := ["self", "other"]) fun _ _ _ _ _ _ us hl => match us, hl with | [_, _], _ => rfl
  have F41 := fun_mk (st := s_weights_on) l41 c41 k41
  have b41 := F41.binds (ps := ["field", "numbers"]) fun _ _ _ _ _ _ us hl => match us, hl with | [_, _], _ => rfl
  have F42 := fun_mk (st := s_line_meets) l42 c42 k42
  have b42 := F42.binds (ps := ["space", "p", "q", "u", "v"]) fun _ _ _ _ _ _ us hl => match us, hl with | [_, _, _, _, _], _ => rfl
  have F43 := fun_mk (st := s_law_start) l43 c43 k43
  have b43 := F43.binds (ps := ["_law_script"]) fun _ _ _ _ _ _ us hl => match us, hl with | [_], _ => rfl
  have F44 := fun_mk (st := s_law_draw) l44 c44 k44
  have b44 := F44.binds (ps := ["_law_state", "_law_many"]) fun _ _ _ _ _ _ us hl => match us, hl with | [_, _], _ => rfl
  have F45 := fun_mk (st := s_law_whole) l45 c45 k45
  have b45 := F45.binds (ps := ["_law_thing"]) fun _ _ _ _ _ _ us hl => match us, hl with | [_], _ => rfl
  have F46 := fun_mk (st := s_law_gcd) l46 c46 k46
  have b46 := F46.binds (ps := ["_law_one", "_law_other"]) fun _ _ _ _ _ _ us hl => match us, hl with | [_, _], _ => rfl
  have F47 := fun_mk (st := s_law_low) l47 c47 k47
  have b47 := F47.binds (ps := ["_law_top", "_law_bottom"]) fun _ _ _ _ _ _ us hl => match us, hl with | [_, _], _ => rfl
  have F48 := fun_mk (st := s_law_some) l48 c48 k48
  have b48 := F48.binds (ps := ["_law_p", "_law_number_here"]) fun _ _ _ _ _ _ us hl => match us, hl with | [_, _], _ => rfl
  have F49 := fun_mk (st := s_law_plus) l49 c49 k49
  have b49 := F49.binds (ps := ["_law_p", "_law_one", "_law_other"]) fun _ _ _ _ _ _ us hl => match us, hl with | [_, _, _], _ => rfl
  have F50 := fun_mk (st := s_law_times) l50 c50 k50
  have b50 := F50.binds (ps := ["_law_p", "_law_one", "_law_other"]) fun _ _ _ _ _ _ us hl => match us, hl with | [_, _, _], _ => rfl
  have F51 := fun_mk (st := s_law_minus) l51 c51 k51
  have b51 := F51.binds (ps := ["_law_p", "_law_one"]) fun _ _ _ _ _ _ us hl => match us, hl with | [_, _], _ => rfl
  have F52 := fun_mk (st := s_law_over) l52 c52 k52
  have b52 := F52.binds (ps := ["_law_p", "_law_one", "_law_other"]) fun _ _ _ _ _ _ us hl => match us, hl with | [_, _, _], _ => rfl
  have F53 := fun_mk (st := s_law_nought) l53 c53 k53
  have b53 := F53.binds (ps := ["_law_p", "_law_thing"]) fun _ _ _ _ _ _ us hl => match us, hl with | [_, _], _ => rfl
  have F54 := fun_mk (st := s_law_good) l54 c54 k54
  have b54 := F54.binds (ps := ["_law_p", "_law_thing"]) fun _ _ _ _ _ _ us hl => match us, hl with | [_, _], _ => rfl
  have F55 := fun_mk (st := s_law_good_row) l55 c55 k55
  have b55 := F55.binds (ps := ["_law_p", "_law_row_here", "_law_width"]) fun _ _ _ _ _ _ us hl => match us, hl with | [_, _, _], _ => rfl
  have F56 := fun_mk (st := s_law_dot) l56 c56 k56
  have b56 := F56.binds (ps := ["_law_p", "_law_row_here", "_law_shut"]) fun _ _ _ _ _ _ us hl => match us, hl with | [_, _, _], _ => rfl
  have F57 := fun_mk (st := s_law_sum) l57 c57 k57
  have b57 := F57.binds (ps := ["_law_p", "_law_weights", "_law_rows", "_law_width"]) fun _ _ _ _ _ _ us hl => match us, hl with | [_, _, _, _], _ => rfl
  have F58 := fun_mk (st := s_law_prime) l58 c58 k58
  have b58 := F58.binds (ps := ["_law_state"]) fun _ _ _ _ _ _ us hl => match us, hl with | [_], _ => rfl
  have F59 := fun_mk (st := s_law_field) l59 c59 k59
  have b59 := F59.binds (ps := ["_law_p"]) fun _ _ _ _ _ _ us hl => match us, hl with | [_], _ => rfl
  have F60 := fun_mk (st := s_law_tiny) l60 c60 k60
  have b60 := F60.binds (ps := ["_law_state", "_law_p"]) fun _ _ _ _ _ _ us hl => match us, hl with | [_, _], _ => rfl
  have F61 := fun_mk (st := s_law_number) l61 c61 k61
  have b61 := F61.binds (ps := ["_law_state", "_law_p"]) fun _ _ _ _ _ _ us hl => match us, hl with | [_, _], _ => rfl
  have F62 := fun_mk (st := s_law_filled) l62 c62 k62
  have b62 := F62.binds (ps := ["_law_state", "_law_p"]) fun _ _ _ _ _ _ us hl => match us, hl with | [_, _], _ => rfl
  have F63 := fun_mk (st := s_law_row) l63 c63 k63
  have b63 := F63.binds (ps := ["_law_state", "_law_p", "_law_width"]) fun _ _ _ _ _ _ us hl => match us, hl with | [_, _, _], _ => rfl
  have F64 := fun_mk (st := s_law_shear) l64 c64 k64
  have b64 := F64.binds (ps := ["_law_state", "_law_p", "_law_points", "_law_shuts"]) fun _ _ _ _ _ _ us hl => match us, hl with | [_, _, _, _], _ => rfl
  have F65 := fun_mk (st := s_law_wide) l65 c65 k65
  have b65 := F65.binds (ps := ["_law_state", "_law_p", "_law_full_here"]) fun _ _ _ _ _ _ us hl => match us, hl with | [_, _, _], _ => rfl
  have F66 := fun_mk (st := s_law_narrow) l66 c66 k66
  have b66 := F66.binds (ps := ["_law_state", "_law_p", "_law_many_points", "_law_many_shuts"]) fun _ _ _ _ _ _ us hl => match us, hl with | [_, _, _, _], _ => rfl
  have F67 := fun_mk (st := s_law_full) l67 c67 k67
  have b67 := F67.binds (ps := ["_law_p", "_law_points", "_law_shuts"]) fun _ _ _ _ _ _ us hl => match us, hl with | [_, _, _], _ => rfl
  have F68 := fun_mk (st := s_law_grid) l68 c68 k68
  have b68 := F68.binds (ps := ["_law_state", "_law_p", "_law_many_points", "_law_many_shuts"]) fun _ _ _ _ _ _ us hl => match us, hl with | [_, _, _, _], _ => rfl
  have F69 := fun_mk (st := s_law_pair_of_lots) l69 c69 k69
  have b69 := F69.binds (ps := ["_law_state", "_law_p", "_law_many_points", "_law_many_shuts"]) fun _ _ _ _ _ _ us hl => match us, hl with | [_, _, _, _], _ => rfl
  have F70 := fun_mk (st := s_law_tile_fair) l70 c70 k70
  have b70 := F70.binds (ps := ["_law_p", "_law_full_here", "_law_corners"]) fun _ _ _ _ _ _ us hl => match us, hl with | [_, _, _], _ => rfl
  have F71 := fun_mk (st := s_law_meet) l71 c71 k71
  have b71 := F71.binds (ps := ["_law_p", "_law_full_here", "_law_points", "_law_corners"]) fun _ _ _ _ _ _ us hl => match us, hl with | [_, _, _, _], _ => rfl
  have F72 := fun_mk (st := s_law_same_meet) l72 c72 k72
  have b72 := F72.binds (ps := ["_law_p", "_law_told", "_law_due"]) fun _ _ _ _ _ _ us hl => match us, hl with | [_, _, _], _ => rfl
  have F73 := fun_mk (st := s_law_found) l73 c73 k73
  have b73 := F73.binds (ps := ["_law_p", "_law_full_here", "_law_corners"]) fun _ _ _ _ _ _ us hl => match us, hl with | [_, _, _], _ => rfl
  have F74 := fun_mk (st := s_law) l74 c74 k74
  let T : Txt K mg := { f_BadSpace_init := f0, d_BadSpace_init := _, F_BadSpace_init := F0, b_BadSpace_init := b0, f_is_whole := f1, d_is_whole := _, F_is_whole := F1, b2_is_whole := bq1_2, b1_is_whole := bq1_1, b_is_whole := bq1_0, g_is_whole := PySem.W.mg_of X G a1, f_common_divisor := f2, d_common_divisor := _, F_common_divisor := F2, b_common_divisor := b2, g_common_divisor := PySem.W.mg_of X G a2, f_power_of := f3, d_power_of := _, F_power_of := F3, b_power_of := b3, g_power_of := PySem.W.mg_of X G a3, f_is_sequence := f4, d_is_sequence := _, F_is_sequence := F4, b1_is_sequence := bq4_1, b_is_sequence := bq4_0, g_is_sequence := PySem.W.mg_of X G a4, f_has_between := f5, d_has_between := _, F_has_between := F5, b_has_between := b5, g_has_between := PySem.W.mg_of X G a5, f_wrong_index := f6, d_wrong_index := _, F_wrong_index := F6, b_wrong_index := b6, g_wrong_index := PySem.W.mg_of X G a6, f_columns_of := f7, d_columns_of := _, F_columns_of := F7, b_columns_of := b7, g_columns_of := PySem.W.mg_of X G a7, f_as_tuples := f8, d_as_tuples := _, F_as_tuples := F8, b_as_tuples := b8, g_as_tuples := PySem.W.mg_of X G a8, f_product_sum := f9, d_product_sum := _, F_product_sum := F9, b_product_sum := b9, g_product_sum := PySem.W.mg_of X G a9, f_columns_as_rows := f10, d_columns_as_rows := _, F_columns_as_rows := F10, b_columns_as_rows := b10, g_columns_as_rows := PySem.W.mg_of X G a10, f_rows_product := f11, d_rows_product := _, F_rows_product := F11, b_rows_product := b11, g_rows_product := PySem.W.mg_of X G a11, f_least_factor := f12, d_least_factor := _, F_least_factor := F12, b_least_factor := b12, g_least_factor := PySem.W.mg_of X G a12, f_is_prime := f13, d_is_prime := _, F_is_prime := F13, b_is_prime := b13, g_is_prime := PySem.W.mg_of X G a13, f_is_number := f14, d_is_number := _, F_is_number := F14, b_is_number := b14, g_is_number := PySem.W.mg_of X G a14, f_is_number_row := f15, d_is_number_row := _, F_is_number_row := F15, b_is_number_row := b15, g_is_number_row := PySem.W.mg_of X G a15, f_RestField_init := f16, d_RestField_init := _, F_RestField_init := F16, b_RestField_init := b16, f_RestField_eq := f17, d_RestField_eq := _, F_RestField_eq := F17, b_RestField_eq := b17, f_RestField_check_number := f18, d_RestField_check_number := _, F_RestField_check_number := F18, b_RestField_check_number := b18, f_RestField_plus := f19, d_RestField_plus := _, F_RestField_plus := F19, b_RestField_plus := b19, f_RestField_less := f20, d_RestField_less := _, F_RestField_less := F20, b_RestField_less := b20, f_RestField_times := f21, d_RestField_times := _, F_RestField_times := F21, b_RestField_times := b21, f_RestField_quotient := f22, d_RestField_quotient := _, F_RestField_quotient := F22, b_RestField_quotient := b22, f_RestField_power := f23, d_RestField_power := _, F_RestField_power := F23, b_RestField_power := b23, f_fraction := f24, d_fraction := _, F_fraction := F24, b_fraction := b24, g_fraction := PySem.W.mg_of X G a24, f_FractionField_init := f25, d_FractionField_init := _, F_FractionField_init := F25, b_FractionField_init := b25, f_FractionField_eq := f26, d_FractionField_eq := _, F_FractionField_eq := F26, b_FractionField_eq := b26, f_FractionField_check_number := f27, d_FractionField_check_number := _, F_FractionField_check_number := F27, b_FractionField_check_number := b27, f_FractionField_plus := f28, d_FractionField_plus := _, F_FractionField_plus := F28, b_FractionField_plus := b28, f_FractionField_less := f29, d_FractionField_less := _, F_FractionField_less := F29, b_FractionField_less := b29, f_FractionField_times := f30, d_FractionField_times := _, F_FractionField_times := F30, b_FractionField_times := b30, f_FractionField_quotient := f31, d_FractionField_quotient := _, F_FractionField_quotient := F31, b_FractionField_quotient := b31, f_FractionField_power := f32, d_FractionField_power := _, F_FractionField_power := F32, b_FractionField_power := b32, f_is_row := f33, d_is_row := _, F_is_row := F33, b_is_row := b33, g_is_row := PySem.W.mg_of X G a33, f_check_rows := f34, d_check_rows := _, F_check_rows := F34, b_check_rows := b34, g_check_rows := PySem.W.mg_of X G a34, f_width_of := f35, d_width_of := _, F_width_of := F35, b_width_of := b35, g_width_of := PySem.W.mg_of X G a35, f_Space_init := f36, d_Space_init := _, F_Space_init := F36, b_Space_init := b36, f_Space_eq := f37, d_Space_eq := _, F_Space_eq := F37, b_Space_eq := b37, f_number_at := f38, d_number_at := _, F_number_at := F38, b_number_at := b38, g_number_at := PySem.W.mg_of X G a38, f_Meet_init := f39, d_Meet_init := _, F_Meet_init := F39, b_Meet_init := b39, f_Meet_eq := f40, d_Meet_eq := _, F_Meet_eq := F40, b_Meet_eq := b40, f_weights_on := f41, d_weights_on := _, F_weights_on := F41, b_weights_on := b41, g_weights_on := PySem.W.mg_of X G a41, f_line_meets := f42, d_line_meets := _, F_line_meets := F42, b_line_meets := b42, g_line_meets := PySem.W.mg_of X G a42, f_law_start := f43, d_law_start := _, F_law_start := F43, b_law_start := b43, g_law_start := PySem.W.mg_of X G a43, f_law_draw := f44, d_law_draw := _, F_law_draw := F44, b_law_draw := b44, g_law_draw := PySem.W.mg_of X G a44, f_law_whole := f45, d_law_whole := _, F_law_whole := F45, b_law_whole := b45, g_law_whole := PySem.W.mg_of X G a45, f_law_gcd := f46, d_law_gcd := _, F_law_gcd := F46, b_law_gcd := b46, g_law_gcd := PySem.W.mg_of X G a46, f_law_low := f47, d_law_low := _, F_law_low := F47, b_law_low := b47, g_law_low := PySem.W.mg_of X G a47, f_law_some := f48, d_law_some := _, F_law_some := F48, b_law_some := b48, g_law_some := PySem.W.mg_of X G a48, f_law_plus := f49, d_law_plus := _, F_law_plus := F49, b_law_plus := b49, g_law_plus := PySem.W.mg_of X G a49, f_law_times := f50, d_law_times := _, F_law_times := F50, b_law_times := b50, g_law_times := PySem.W.mg_of X G a50, f_law_minus := f51, d_law_minus := _, F_law_minus := F51, b_law_minus := b51, g_law_minus := PySem.W.mg_of X G a51, f_law_over := f52, d_law_over := _, F_law_over := F52, b_law_over := b52, g_law_over := PySem.W.mg_of X G a52, f_law_nought := f53, d_law_nought := _, F_law_nought := F53, b_law_nought := b53, g_law_nought := PySem.W.mg_of X G a53, f_law_good := f54, d_law_good := _, F_law_good := F54, b_law_good := b54, g_law_good := PySem.W.mg_of X G a54, f_law_good_row := f55, d_law_good_row := _, F_law_good_row := F55, b_law_good_row := b55, g_law_good_row := PySem.W.mg_of X G a55, f_law_dot := f56, d_law_dot := _, F_law_dot := F56, b_law_dot := b56, g_law_dot := PySem.W.mg_of X G a56, f_law_sum := f57, d_law_sum := _, F_law_sum := F57, b_law_sum := b57, g_law_sum := PySem.W.mg_of X G a57, f_law_prime := f58, d_law_prime := _, F_law_prime := F58, b_law_prime := b58, g_law_prime := PySem.W.mg_of X G a58, f_law_field := f59, d_law_field := _, F_law_field := F59, b_law_field := b59, g_law_field := PySem.W.mg_of X G a59, f_law_tiny := f60, d_law_tiny := _, F_law_tiny := F60, b_law_tiny := b60, g_law_tiny := PySem.W.mg_of X G a60, f_law_number := f61, d_law_number := _, F_law_number := F61, b_law_number := b61, g_law_number := PySem.W.mg_of X G a61, f_law_filled := f62, d_law_filled := _, F_law_filled := F62, b_law_filled := b62, g_law_filled := PySem.W.mg_of X G a62, f_law_row := f63, d_law_row := _, F_law_row := F63, b_law_row := b63, g_law_row := PySem.W.mg_of X G a63, f_law_shear := f64, d_law_shear := _, F_law_shear := F64, b_law_shear := b64, g_law_shear := PySem.W.mg_of X G a64, f_law_wide := f65, d_law_wide := _, F_law_wide := F65, b_law_wide := b65, g_law_wide := PySem.W.mg_of X G a65, f_law_narrow := f66, d_law_narrow := _, F_law_narrow := F66, b_law_narrow := b66, g_law_narrow := PySem.W.mg_of X G a66, f_law_full := f67, d_law_full := _, F_law_full := F67, b_law_full := b67, g_law_full := PySem.W.mg_of X G a67, f_law_grid := f68, d_law_grid := _, F_law_grid := F68, b_law_grid := b68, g_law_grid := PySem.W.mg_of X G a68, f_law_pair_of_lots := f69, d_law_pair_of_lots := _, F_law_pair_of_lots := F69, b_law_pair_of_lots := b69, g_law_pair_of_lots := PySem.W.mg_of X G a69, f_law_tile_fair := f70, d_law_tile_fair := _, F_law_tile_fair := F70, b_law_tile_fair := b70, g_law_tile_fair := PySem.W.mg_of X G a70, f_law_meet := f71, d_law_meet := _, F_law_meet := F71, b_law_meet := b71, g_law_meet := PySem.W.mg_of X G a71, f_law_same_meet := f72, d_law_same_meet := _, F_law_same_meet := F72, b_law_same_meet := b72, g_law_same_meet := PySem.W.mg_of X G a72, f_law_found := f73, d_law_found := _, F_law_found := F73, b_law_found := b73, g_law_found := PySem.W.mg_of X G a73, f_law := fa, d_law := _, F_law := F74, m_abs := PySem.W.mg_none_of X G z_abs, m_all := PySem.W.mg_none_of X G z_all, m_any := PySem.W.mg_none_of X G z_any, m_bool := PySem.W.mg_none_of X G z_bool, m_enumerate := PySem.W.mg_none_of X G z_enumerate, m_int := PySem.W.mg_none_of X G z_int, m_isinstance := PySem.W.mg_none_of X G z_isinstance, m_len := PySem.W.mg_none_of X G z_len, m_list := PySem.W.mg_none_of X G z_list, m_range := PySem.W.mg_none_of X G z_range, m_tuple := PySem.W.mg_none_of X G z_tuple, m_zip := PySem.W.mg_none_of X G z_zip, x_gcd := PySem.W.mg_of X G zo_gcd, tk_MOST_PRIME := tkc_MOST_PRIME, c_MOST_PRIME := PySem.W.mg_of X G zc_MOST_PRIME, tk_MOST_CORNERS := tkc_MOST_CORNERS, c_MOST_CORNERS := PySem.W.mg_of X G zc_MOST_CORNERS, tk_MOST_WIDTH := tkc_MOST_WIDTH, c_MOST_WIDTH := PySem.W.mg_of X G zc_MOST_WIDTH, C_SheetError := CE_SheetError, g_SheetError := PySem.W.mg_of X G h_SheetError, C_BadPrime := CE_BadPrime, g_BadPrime := PySem.W.mg_of X G h_BadPrime, x_BadPrime := ⟨x1_BadPrime, x2_BadPrime, xb_BadPrime, x3_BadPrime⟩, e_BadPrime := ⟨x1_BadPrime, x2_BadPrime, xb_BadPrime, x3_BadPrime, x4_BadPrime, w1, w2, x5_BadPrime⟩, q_BadPrime := xq_BadPrime, k_BadPrime := xk_BadPrime, b_BadPrime := xb_BadPrime, ty_BadPrime := xt_BadPrime, C_BadNumber := CE_BadNumber, g_BadNumber := PySem.W.mg_of X G h_BadNumber, x_BadNumber := ⟨x1_BadNumber, x2_BadNumber, xb_BadNumber, x3_BadNumber⟩, e_BadNumber := ⟨x1_BadNumber, x2_BadNumber, xb_BadNumber, x3_BadNumber, x4_BadNumber, w1, w2, x5_BadNumber⟩, q_BadNumber := xq_BadNumber, k_BadNumber := xk_BadNumber, b_BadNumber := xb_BadNumber, ty_BadNumber := xt_BadNumber, C_ByZero := CE_ByZero, g_ByZero := PySem.W.mg_of X G h_ByZero, x_ByZero := ⟨x1_ByZero, x2_ByZero, xb_ByZero, x3_ByZero⟩, e_ByZero := ⟨x1_ByZero, x2_ByZero, xb_ByZero, x3_ByZero, x4_ByZero, w1, w2, x5_ByZero⟩, q_ByZero := xq_ByZero, k_ByZero := xk_ByZero, b_ByZero := xb_ByZero, ty_ByZero := xt_ByZero, C_BadSpace := CE_BadSpace, g_BadSpace := PySem.W.mg_of X G h_BadSpace, x_BadSpace := ⟨x1_BadSpace, x2_BadSpace, xb_BadSpace, x3_BadSpace⟩, e_BadSpace := ⟨x1_BadSpace, x2_BadSpace, xb_BadSpace, x3_BadSpace, x4_BadSpace, w1, w2, x5_BadSpace⟩, o_BadSpace := ⟨⟨_, _, _, _, _, _, _, _, _, _, _, _, _, _, _, xl_BadSpace, xr_BadSpace⟩, xs_BadSpace, xb_BadSpace, xt_BadSpace, xk_BadSpace⟩, i_BadSpace := a0, t_BadSpace := xf_BadSpace, n_BadSpace := xn0_BadSpace, n1_BadSpace := xn1_BadSpace, mm_BadPrime_BadNumber := own_exm xb_BadNumber xi_BadNumber xt_BadNumber s_BadPrime_BadNumber, mm_BadNumber_BadNumber := own_exm xb_BadNumber xi_BadNumber xt_BadNumber s_BadNumber_BadNumber, mm_ByZero_BadNumber := own_exm xb_BadNumber xi_BadNumber xt_BadNumber s_ByZero_BadNumber, mm_BadSpace_BadNumber := own_exm xb_BadNumber xi_BadNumber xt_BadNumber s_BadSpace_BadNumber, C_RestField := CC_RestField, g_RestField := PySem.W.mg_of X G h_RestField, cl_RestField := ⟨p1_RestField, p2_RestField, p3_RestField, p4_RestField⟩, M_RestField := ⟨p5_RestField, a16, i16, p6_RestField⟩, na_RestField_prime := na_RestField_prime, na_RestField_zero := na_RestField_zero, na_RestField_one := na_RestField_one, na_RestField_minus_one := na_RestField_minus_one, RestField_eq_at := a17, RestField_eq_fn := i17, M_RestField_check_number := ⟨a18, i18, k18⟩, M_RestField_plus := ⟨a19, i19, k19⟩, M_RestField_less := ⟨a20, i20, k20⟩, M_RestField_times := ⟨a21, i21, k21⟩, M_RestField_quotient := ⟨a22, i22, k22⟩, M_RestField_power := ⟨a23, i23, k23⟩, RestField_k_class := p7_RestField, RestField_k_get := w1, RestField_k_takes := w2, RestField_k_mro := p8_RestField, RestField_k_isp := own_kit pi_RestField pt_RestField p9_RestField (fun _ => rfl), C_FractionField := CC_FractionField, g_FractionField := PySem.W.mg_of X G h_FractionField, cl_FractionField := ⟨p1_FractionField, p2_FractionField, p3_FractionField, p4_FractionField⟩, M_FractionField := ⟨p5_FractionField, a25, i25, p6_FractionField⟩, na_FractionField_zero := na_FractionField_zero, na_FractionField_one := na_FractionField_one, na_FractionField_minus_one := na_FractionField_minus_one, FractionField_eq_at := a26, FractionField_eq_fn := i26, M_FractionField_check_number := ⟨a27, i27, k27⟩, M_FractionField_plus := ⟨a28, i28, k28⟩, M_FractionField_less := ⟨a29, i29, k29⟩, M_FractionField_times := ⟨a30, i30, k30⟩, M_FractionField_quotient := ⟨a31, i31, k31⟩, M_FractionField_power := ⟨a32, i32, k32⟩, FractionField_k_class := p7_FractionField, FractionField_k_get := w1, FractionField_k_takes := w2, FractionField_k_mro := p8_FractionField, FractionField_k_isp := own_kit pi_FractionField pt_FractionField p9_FractionField (fun _ => rfl), C_Space := CC_Space, g_Space := PySem.W.mg_of X G h_Space, cl_Space := ⟨p1_Space, p2_Space, p3_Space, p4_Space⟩, M_Space := ⟨p5_Space, a36, i36, p6_Space⟩, na_Space_field := na_Space_field, na_Space_points := na_Space_points, na_Space_walls := na_Space_walls, na_Space_width := na_Space_width, Space_eq_at := a37, Space_eq_fn := i37, Space_k_class := p7_Space, Space_k_get := w1, Space_k_takes := w2, Space_k_mro := p8_Space, Space_k_isp := own_kit pi_Space pt_Space p9_Space (fun _ => rfl), C_Meet := CC_Meet, g_Meet := PySem.W.mg_of X G h_Meet, cl_Meet := ⟨p1_Meet, p2_Meet, p3_Meet, p4_Meet⟩, M_Meet := ⟨p5_Meet, a39, i39, p6_Meet⟩, na_Meet_first := na_Meet_first, na_Meet_second := na_Meet_second, na_Meet_row := na_Meet_row, Meet_eq_at := a40, Meet_eq_fn := i40, Meet_k_class := p7_Meet, Meet_k_get := w1, Meet_k_takes := w2, Meet_k_mro := p8_Meet, Meet_k_isp := own_kit pi_Meet pt_Meet p9_Meet (fun _ => rfl), kit_RestField_FractionField := own_kit pi_FractionField pt_FractionField so_RestField_FractionField (fun z => by rw [no_RestField_FractionField] at z; cases z), kit_RestField_Space := own_kit pi_Space pt_Space so_RestField_Space (fun z => by rw [no_RestField_Space] at z; cases z), kit_RestField_Meet := own_kit pi_Meet pt_Meet so_RestField_Meet (fun z => by rw [no_RestField_Meet] at z; cases z), kit_FractionField_RestField := own_kit pi_RestField pt_RestField so_FractionField_RestField (fun z => by rw [no_FractionField_RestField] at z; cases z), kit_FractionField_Space := own_kit pi_Space pt_Space so_FractionField_Space (fun z => by rw [no_FractionField_Space] at z; cases z), kit_FractionField_Meet := own_kit pi_Meet pt_Meet so_FractionField_Meet (fun z => by rw [no_FractionField_Meet] at z; cases z), kit_Space_RestField := own_kit pi_RestField pt_RestField so_Space_RestField (fun z => by rw [no_Space_RestField] at z; cases z), kit_Space_FractionField := own_kit pi_FractionField pt_FractionField so_Space_FractionField (fun z => by rw [no_Space_FractionField] at z; cases z), kit_Space_Meet := own_kit pi_Meet pt_Meet so_Space_Meet (fun z => by rw [no_Space_Meet] at z; cases z), kit_Meet_RestField := own_kit pi_RestField pt_RestField so_Meet_RestField (fun z => by rw [no_Meet_RestField] at z; cases z), kit_Meet_FractionField := own_kit pi_FractionField pt_FractionField so_Meet_FractionField (fun z => by rw [no_Meet_FractionField] at z; cases z), kit_Meet_Space := own_kit pi_Space pt_Space so_Meet_Space (fun z => by rw [no_Meet_Space] at z; cases z) }
  obtain ⟨cH0, hP0⟩ := TT ("is_number_row" : Str) cw0 Pw0 rc15 (tab_mk a15 l15 rfl lc15 h15)
  obtain ⟨cH1, hP1⟩ := TT ("_check_rows" : Str) cw1 Pw1 rc34 (tab_mk a34 l34 rfl lc34 h34)
  have m0 : (cw0, Pw0) ∈ [(cw0, Pw0), (cw1, Pw1)] := .head _
  have m1 : (cw1, Pw1) ∈ [(cw0, Pw0), (cw1, Pw1)] := .tail _ (.head _)
  have two : ∀ r ∈ [(cw0, Pw0), (cw1, Pw1)], r = (cw0, Pw0) ∨ r = (cw1, Pw1) := fun r m => (List.mem_cons.mp m).elim .inl fun m => .inr (List.mem_singleton.mp m)
  refine ⟨T.d_law, [(cw0, Pw0), (cw1, Pw1)], sp_law K (Pw0, Pw1), fun r m => ?_, fun r m => ?_, fun r m => ?_, fun s v => .of_eq rfl, fun H a ns le _ ht hs => ?_, fun base _ _ tb => ?_⟩
  · rcases two r m with e | e
    · rw [e]
      exact hP0
    · rw [e]
      exact hP1
  · rcases two r m with e | e
    · rw [e]
      exact nP15
    · rw [e]
      exact nP34
  · rcases two r m with e | e
    · rw [e]
      exact cH0
    · rw [e]
      exact cH1
  · exact ⟨a, ns, rfl, hs, le, ht (cw0, Pw0) m0, ht (cw1, Pw1) m1, fun _ => rfl⟩
  · have L : Lm T base (cw0, cw1) (Pw0, Pw1) := ⟨⟨_, _, _, _, _, _, _, _, rfl, l15, c15⟩, ⟨_, _, _, _, _, _, _, _, rfl, l34, c34⟩, tb (cw0, Pw0) m0, tb (cw1, Pw1) m1, neP⟩
    exact ok_law T L
end K25
set_option Elab.async false
set_option linter.all false
set_option maxRecDepth 100000
set_option maxHeartbeats 8000000
set_option exponentiation.threshold 5000
open PySem PySem.W PySem.Calls PyProof.Rows
set_option maxHeartbeats 0 in
theorem PySem.Challenge.cw_sheetproofs_k25_whole_lines_meet_walls_e_holds : PySem.Challenge.rw_sheetproofs_k25_whole_lines_meet_walls_e.Holds := by
  w_on; o_law
  refine HandSHeadRun.head_imp (r := K25.topR) (q := K25.topV) (H := kHook K25.hd0.heap_1 K25.topA K25.topE) (ob := fun s => List.map (HandSHeadRun.getT s) K25.topA) (M := 12000) (loose := K25.topN) (d := HandSHeadRun.topDef K25.topR.prog 76) (kwd := []) (fun s => List.map_congr_left fun x _ => HandSHeadRun.getT_eq s x)
      K25.run (by kernel_rfl) (by kernel_rfl) (by kernel_rfl) (by rfl) (by first | assumption | decide +kernel) (by decide +kernel) ⟨rfl, rfl, rfl, rfl, rfl, by decide +kernel⟩ ?hw ?hc
  (case hw => w_witness2)
  k_fill
  refine TkS.walk_tabs (l := PySem.Challenge.rw_sheetproofs_k25_whole_lines_meet_walls_e) (m := 63) (j := 40) (y := "_law_script") rfl (by decide) rfl ⟨rfl, by decide, by decide⟩ (fun w h Y => PySem.W.kIn_of Y) ?F
  case F =>
    intro w mg fa h KX G hmg TT
    refine' K25.all_mk KX G hmg ?h_SheetError ?h_BadPrime ?h_BadNumber ?h_ByZero ?h_BadSpace ?h_RestField ?h_FractionField ?h_Space ?h_Meet ?a0 ?i0 ?l0 ?c0 ?k0 ?a1 ?l1 ?c1 ?k1 ?e1 ?a2 ?l2 ?c2 ?k2 ?a3 ?l3 ?c3 ?k3 ?a4 ?l4 ?c4 ?k4 ?e4 ?a5 ?l5 ?c5 ?k5 ?a6 ?l6 ?c6 ?k6 ?a7 ?l7 ?c7 ?k7 ?a8 ?l8 ?c8 ?k8 ?a9 ?l9 ?c9 ?k9 ?a10 ?l10 ?c10 ?k10 ?a11 ?l11 ?c11 ?k11 ?a12 ?l12 ?c12 ?k12 ?a13 ?l13 ?c13 ?k13 ?a14 ?l14 ?c14 ?k14 ?a15 ?l15 ?c15 ?k15 ?a16 ?i16 ?l16 ?c16 ?k16 ?a17 ?i17 ?l17 ?c17 ?k17 ?a18 ?i18 ?l18 ?c18 ?k18 ?a19 ?i19 ?l19 ?c19 ?k19 ?a20 ?i20 ?l20 ?c20 ?k20 ?a21 ?i21 ?l21 ?c21 ?k21 ?a22 ?i22 ?l22 ?c22 ?k22 ?a23 ?i23 ?l23 ?c23 ?k23 ?a24 ?l24 ?c24 ?k24 ?a25 ?i25 ?l25 ?c25 ?k25 ?a26 ?i26 ?l26 ?c26 ?k26 ?a27 ?i27 ?l27 ?c27 ?k27 ?a28 ?i28 ?l28 ?c28 ?k28 ?a29 ?i29 ?l29 ?c29 ?k29 ?a30 ?i30 ?l30 ?c30 ?k30 ?a31 ?i31 ?l31 ?c31 ?k31 ?a32 ?i32 ?l32 ?c32 ?k32 ?a33 ?l33 ?c33 ?k33 ?a34 ?l34 ?c34 ?k34 ?a35 ?l35 ?c35 ?k35 ?a36 ?i36 ?l36 ?c36 ?k36 ?a37 ?i37 ?l37 ?c37 ?k37 ?a38 ?l38 ?c38 ?k38 ?a39 ?i39 ?l39 ?c39 ?k39 ?a40 ?i40 ?l40 ?c40 ?k40 ?a41 ?l41 ?c41 ?k41 ?a42 ?l42 ?c42 ?k42 ?a43 ?l43 ?c43 ?k43 ?a44 ?l44 ?c44 ?k44 ?a45 ?l45 ?c45 ?k45 ?a46 ?l46 ?c46 ?k46 ?a47 ?l47 ?c47 ?k47 ?a48 ?l48 ?c48 ?k48 ?a49 ?l49 ?c49 ?k49 ?a50 ?l50 ?c50 ?k50 ?a51 ?l51 ?c51 ?k51 ?a52 ?l52 ?c52 ?k52 ?a53 ?l53 ?c53 ?k53 ?a54 ?l54 ?c54 ?k54 ?a55 ?l55 ?c55 ?k55 ?a56 ?l56 ?c56 ?k56 ?a57 ?l57 ?c57 ?k57 ?a58 ?l58 ?c58 ?k58 ?a59 ?l59 ?c59 ?k59 ?a60 ?l60 ?c60 ?k60 ?a61 ?l61 ?c61 ?k61 ?a62 ?l62 ?c62 ?k62 ?a63 ?l63 ?c63 ?k63 ?a64 ?l64 ?c64 ?k64 ?a65 ?l65 ?c65 ?k65 ?a66 ?l66 ?c66 ?k66 ?a67 ?l67 ?c67 ?k67 ?a68 ?l68 ?c68 ?k68 ?a69 ?l69 ?c69 ?k69 ?a70 ?l70 ?c70 ?k70 ?a71 ?l71 ?c71 ?k71 ?a72 ?l72 ?c72 ?k72 ?a73 ?l73 ?c73 ?k73 ?a74 ?l74 ?c74 ?k74 ?z_abs ?z_all ?z_any ?z_bool ?z_enumerate ?z_int ?z_isinstance ?z_len ?z_list ?z_range ?z_tuple ?z_zip ?zo_gcd ?zc_MOST_PRIME ?zc_MOST_CORNERS ?zc_MOST_WIDTH ?w1 ?w2 ?xt_SheetError ?xi_SheetError ?xt_BadPrime ?xi_BadPrime ?xb_BadPrime ?xk_BadPrime ?x1_BadPrime ?x2_BadPrime ?x3_BadPrime ?x4_BadPrime ?x5_BadPrime ?xq_BadPrime ?xt_BadNumber ?xi_BadNumber ?xb_BadNumber ?xk_BadNumber ?x1_BadNumber ?x2_BadNumber ?x3_BadNumber ?x4_BadNumber ?x5_BadNumber ?xq_BadNumber ?xt_ByZero ?xi_ByZero ?xb_ByZero ?xk_ByZero ?x1_ByZero ?x2_ByZero ?x3_ByZero ?x4_ByZero ?x5_ByZero ?xq_ByZero ?xt_BadSpace ?xi_BadSpace ?xb_BadSpace ?xk_BadSpace ?x1_BadSpace ?x2_BadSpace ?x3_BadSpace ?x4_BadSpace ?x5_BadSpace ?xl_BadSpace ?xr_BadSpace ?xs_BadSpace ?xf_BadSpace ?xn0_BadSpace ?xn1_BadSpace ?s_BadPrime_BadNumber ?s_BadNumber_BadNumber ?s_ByZero_BadNumber ?s_BadSpace_BadNumber ?p1_RestField ?p2_RestField ?p3_RestField ?p4_RestField ?p5_RestField ?p6_RestField ?na_RestField_prime ?na_RestField_zero ?na_RestField_one ?na_RestField_minus_one ?p7_RestField ?p8_RestField ?p9_RestField ?pi_RestField ?pt_RestField ?p1_FractionField ?p2_FractionField ?p3_FractionField ?p4_FractionField ?p5_FractionField ?p6_FractionField ?na_FractionField_zero ?na_FractionField_one ?na_FractionField_minus_one ?p7_FractionField ?p8_FractionField ?p9_FractionField ?pi_FractionField ?pt_FractionField ?p1_Space ?p2_Space ?p3_Space ?p4_Space ?p5_Space ?p6_Space ?na_Space_field ?na_Space_points ?na_Space_walls ?na_Space_width ?p7_Space ?p8_Space ?p9_Space ?pi_Space ?pt_Space ?p1_Meet ?p2_Meet ?p3_Meet ?p4_Meet ?p5_Meet ?p6_Meet ?na_Meet_first ?na_Meet_second ?na_Meet_row ?p7_Meet ?p8_Meet ?p9_Meet ?pi_Meet ?pt_Meet ?so_RestField_FractionField ?no_RestField_FractionField ?so_RestField_Space ?no_RestField_Space ?so_RestField_Meet ?no_RestField_Meet ?so_FractionField_RestField ?no_FractionField_RestField ?so_FractionField_Space ?no_FractionField_Space ?so_FractionField_Meet ?no_FractionField_Meet ?so_Space_RestField ?no_Space_RestField ?so_Space_FractionField ?no_Space_FractionField ?so_Space_Meet ?no_Space_Meet ?so_Meet_RestField ?no_Meet_RestField ?so_Meet_FractionField ?no_Meet_FractionField ?so_Meet_Space ?no_Meet_Space ?lc15 ?h15 ?nP15 ?rc15 ?lc34 ?h34 ?nP34 ?rc34 ?neP TT
    (case h_SheetError => k_is); (case h_BadPrime => k_is); (case h_BadNumber => k_is); (case h_ByZero => k_is); (case h_BadSpace => k_is); (case h_RestField => k_is); (case h_FractionField => k_is); (case h_Space => k_is); (case h_Meet => k_is); (case a0 => k_is); (case i0 => k_is); (case l0 => k_is); (case c0 => k_is); (case k0 => k_is); (case a1 => k_is); (case l1 => k_is); (case c1 => k_is); (case k1 => k_is); (case e1 => k_is); (case a2 => k_is); (case l2 => k_is); (case c2 => k_is); (case k2 => k_is); (case a3 => k_is); (case l3 => k_is); (case c3 => k_is); (case k3 => k_is); (case a4 => k_is); (case l4 => k_is); (case c4 => k_is); (case k4 => k_is); (case e4 => k_is); (case a5 => k_is); (case l5 => k_is); (case c5 => k_is); (case k5 => k_is); (case a6 => k_is); (case l6 => k_is); (case c6 => k_is); (case k6 => k_is); (case a7 => k_is); (case l7 => k_is); (case c7 => k_is); (case k7 => k_is); (case a8 => k_is); (case l8 => k_is); (case c8 => k_is); (case k8 => k_is); (case a9 => k_is); (case l9 => k_is); (case c9 => k_is); (case k9 => k_is); (case a10 => k_is); (case l10 => k_is); (case c10 => k_is); (case k10 => k_is); (case a11 => k_is); (case l11 => k_is); (case c11 => k_is); (case k11 => k_is); (case a12 => k_is); (case l12 => k_is); (case c12 => k_is); (case k12 => k_is); (case a13 => k_is); (case l13 => k_is); (case c13 => k_is); (case k13 => k_is); (case a14 => k_is); (case l14 => k_is); (case c14 => k_is); (case k14 => k_is); (case a15 => k_is); (case l15 => k_is); (case c15 => k_is); (case k15 => k_is); (case a16 => k_is); (case i16 => k_is); (case l16 => k_is); (case c16 => k_is); (case k16 => k_is); (case a17 => k_is); (case i17 => k_is); (case l17 => k_is); (case c17 => k_is); (case k17 => k_is); (case a18 => k_is); (case i18 => k_is); (case l18 => k_is); (case c18 => k_is); (case k18 => k_is); (case a19 => k_is); (case i19 => k_is); (case l19 => k_is); (case c19 => k_is); (case k19 => k_is); (case a20 => k_is); (case i20 => k_is); (case l20 => k_is); (case c20 => k_is); (case k20 => k_is); (case a21 => k_is); (case i21 => k_is); (case l21 => k_is); (case c21 => k_is); (case k21 => k_is); (case a22 => k_is); (case i22 => k_is); (case l22 => k_is); (case c22 => k_is); (case k22 => k_is); (case a23 => k_is); (case i23 => k_is); (case l23 => k_is); (case c23 => k_is); (case k23 => k_is); (case a24 => k_is); (case l24 => k_is); (case c24 => k_is); (case k24 => k_is); (case a25 => k_is); (case i25 => k_is); (case l25 => k_is); (case c25 => k_is); (case k25 => k_is); (case a26 => k_is); (case i26 => k_is); (case l26 => k_is); (case c26 => k_is); (case k26 => k_is); (case a27 => k_is); (case i27 => k_is); (case l27 => k_is); (case c27 => k_is); (case k27 => k_is); (case a28 => k_is); (case i28 => k_is); (case l28 => k_is); (case c28 => k_is); (case k28 => k_is); (case a29 => k_is); (case i29 => k_is); (case l29 => k_is); (case c29 => k_is); (case k29 => k_is); (case a30 => k_is); (case i30 => k_is); (case l30 => k_is); (case c30 => k_is); (case k30 => k_is); (case a31 => k_is); (case i31 => k_is); (case l31 => k_is); (case c31 => k_is); (case k31 => k_is); (case a32 => k_is); (case i32 => k_is); (case l32 => k_is); (case c32 => k_is); (case k32 => k_is); (case a33 => k_is); (case l33 => k_is); (case c33 => k_is); (case k33 => k_is); (case a34 => k_is); (case l34 => k_is); (case c34 => k_is); (case k34 => k_is); (case a35 => k_is); (case l35 => k_is); (case c35 => k_is); (case k35 => k_is); (case a36 => k_is); (case i36 => k_is); (case l36 => k_is); (case c36 => k_is); (case k36 => k_is); (case a37 => k_is); (case i37 => k_is); (case l37 => k_is); (case c37 => k_is); (case k37 => k_is); (case a38 => k_is); (case l38 => k_is); (case c38 => k_is); (case k38 => k_is); (case a39 => k_is); (case i39 => k_is); (case l39 => k_is); (case c39 => k_is); (case k39 => k_is); (case a40 => k_is); (case i40 => k_is); (case l40 => k_is); (case c40 => k_is); (case k40 => k_is); (case a41 => k_is); (case l41 => k_is); (case c41 => k_is); (case k41 => k_is); (case a42 => k_is); (case l42 => k_is); (case c42 => k_is); (case k42 => k_is); (case a43 => k_is); (case l43 => k_is); (case c43 => k_is); (case k43 => k_is); (case a44 => k_is); (case l44 => k_is); (case c44 => k_is); (case k44 => k_is); (case a45 => k_is); (case l45 => k_is); (case c45 => k_is); (case k45 => k_is); (case a46 => k_is); (case l46 => k_is); (case c46 => k_is); (case k46 => k_is); (case a47 => k_is); (case l47 => k_is); (case c47 => k_is); (case k47 => k_is); (case a48 => k_is); (case l48 => k_is); (case c48 => k_is); (case k48 => k_is); (case a49 => k_is); (case l49 => k_is); (case c49 => k_is); (case k49 => k_is); (case a50 => k_is); (case l50 => k_is); (case c50 => k_is); (case k50 => k_is); (case a51 => k_is); (case l51 => k_is); (case c51 => k_is); (case k51 => k_is); (case a52 => k_is); (case l52 => k_is); (case c52 => k_is); (case k52 => k_is); (case a53 => k_is); (case l53 => k_is); (case c53 => k_is); (case k53 => k_is); (case a54 => k_is); (case l54 => k_is); (case c54 => k_is); (case k54 => k_is); (case a55 => k_is); (case l55 => k_is); (case c55 => k_is); (case k55 => k_is); (case a56 => k_is); (case l56 => k_is); (case c56 => k_is); (case k56 => k_is); (case a57 => k_is); (case l57 => k_is); (case c57 => k_is); (case k57 => k_is); (case a58 => k_is); (case l58 => k_is); (case c58 => k_is); (case k58 => k_is); (case a59 => k_is); (case l59 => k_is); (case c59 => k_is); (case k59 => k_is); (case a60 => k_is); (case l60 => k_is); (case c60 => k_is); (case k60 => k_is); (case a61 => k_is); (case l61 => k_is); (case c61 => k_is); (case k61 => k_is); (case a62 => k_is); (case l62 => k_is); (case c62 => k_is); (case k62 => k_is); (case a63 => k_is); (case l63 => k_is); (case c63 => k_is); (case k63 => k_is); (case a64 => k_is); (case l64 => k_is); (case c64 => k_is); (case k64 => k_is); (case a65 => k_is); (case l65 => k_is); (case c65 => k_is); (case k65 => k_is); (case a66 => k_is); (case l66 => k_is); (case c66 => k_is); (case k66 => k_is); (case a67 => k_is); (case l67 => k_is); (case c67 => k_is); (case k67 => k_is); (case a68 => k_is); (case l68 => k_is); (case c68 => k_is); (case k68 => k_is); (case a69 => k_is); (case l69 => k_is); (case c69 => k_is); (case k69 => k_is); (case a70 => k_is); (case l70 => k_is); (case c70 => k_is); (case k70 => k_is); (case a71 => k_is); (case l71 => k_is); (case c71 => k_is); (case k71 => k_is); (case a72 => k_is); (case l72 => k_is); (case c72 => k_is); (case k72 => k_is); (case a73 => k_is); (case l73 => k_is); (case c73 => k_is); (case k73 => k_is); (case a74 => k_is); (case l74 => k_is); (case c74 => k_is); (case k74 => k_is); (case z_abs => k_is); (case z_all => k_is); (case z_any => k_is); (case z_bool => k_is); (case z_enumerate => k_is); (case z_int => k_is); (case z_isinstance => k_is); (case z_len => k_is); (case z_list => k_is); (case z_range => k_is); (case z_tuple => k_is); (case z_zip => k_is); (case zo_gcd => k_is); (case zc_MOST_PRIME => k_is); (case zc_MOST_CORNERS => k_is); (case zc_MOST_WIDTH => k_is); (case w1 => k_is); (case w2 => k_is); (case xt_SheetError => k_is); (case xi_SheetError => k_is); (case xt_BadPrime => k_is); (case xi_BadPrime => k_is); (case xb_BadPrime => k_is); (case xk_BadPrime => k_is); (case x1_BadPrime => k_is); (case x2_BadPrime => k_is); (case x3_BadPrime => k_is); (case x4_BadPrime => k_is); (case x5_BadPrime => k_is); (case xq_BadPrime => k_exc); (case xt_BadNumber => k_is); (case xi_BadNumber => k_is); (case xb_BadNumber => k_is); (case xk_BadNumber => k_is); (case x1_BadNumber => k_is); (case x2_BadNumber => k_is); (case x3_BadNumber => k_is); (case x4_BadNumber => k_is); (case x5_BadNumber => k_is); (case xq_BadNumber => k_exc); (case xt_ByZero => k_is); (case xi_ByZero => k_is); (case xb_ByZero => k_is); (case xk_ByZero => k_is); (case x1_ByZero => k_is); (case x2_ByZero => k_is); (case x3_ByZero => k_is); (case x4_ByZero => k_is); (case x5_ByZero => k_is); (case xq_ByZero => k_exc); (case xt_BadSpace => k_is); (case xi_BadSpace => k_is); (case xb_BadSpace => k_is); (case xk_BadSpace => k_is); (case x1_BadSpace => k_is); (case x2_BadSpace => k_is); (case x3_BadSpace => k_is); (case x4_BadSpace => k_is); (case x5_BadSpace => k_is); (case xl_BadSpace => k_is); (case xr_BadSpace => decide +kernel); (case xs_BadSpace => k_is); (case xf_BadSpace => k_is); (case xn0_BadSpace => k_is); (case xn1_BadSpace => k_is); (case s_BadPrime_BadNumber => k_is); (case s_BadNumber_BadNumber => first | rfl | k_is); (case s_ByZero_BadNumber => k_is); (case s_BadSpace_BadNumber => k_is); (case p1_RestField => k_is); (case p2_RestField => k_is); (case p3_RestField => k_is); (case p4_RestField => k_is); (case p5_RestField => k_is); (case p6_RestField => k_is); (case na_RestField_prime => k_is); (case na_RestField_zero => k_is); (case na_RestField_one => k_is); (case na_RestField_minus_one => k_is); (case p7_RestField => k_is); (case p8_RestField => k_is); (case p9_RestField => first | rfl | k_is); (case pi_RestField => k_is); (case pt_RestField => k_is); (case p1_FractionField => k_is); (case p2_FractionField => k_is); (case p3_FractionField => k_is); (case p4_FractionField => k_is); (case p5_FractionField => k_is); (case p6_FractionField => k_is); (case na_FractionField_zero => k_is); (case na_FractionField_one => k_is); (case na_FractionField_minus_one => k_is); (case p7_FractionField => k_is); (case p8_FractionField => k_is); (case p9_FractionField => first | rfl | k_is); (case pi_FractionField => k_is); (case pt_FractionField => k_is); (case p1_Space => k_is); (case p2_Space => k_is); (case p3_Space => k_is); (case p4_Space => k_is); (case p5_Space => k_is); (case p6_Space => k_is); (case na_Space_field => k_is); (case na_Space_points => k_is); (case na_Space_walls => k_is); (case na_Space_width => k_is); (case p7_Space => k_is); (case p8_Space => k_is); (case p9_Space => first | rfl | k_is); (case pi_Space => k_is); (case pt_Space => k_is); (case p1_Meet => k_is); (case p2_Meet => k_is); (case p3_Meet => k_is); (case p4_Meet => k_is); (case p5_Meet => k_is); (case p6_Meet => k_is); (case na_Meet_first => k_is); (case na_Meet_second => k_is); (case na_Meet_row => k_is); (case p7_Meet => k_is); (case p8_Meet => k_is); (case p9_Meet => first | rfl | k_is); (case pi_Meet => k_is); (case pt_Meet => k_is); (case so_RestField_FractionField => k_is); (case no_RestField_FractionField => decide); (case so_RestField_Space => k_is); (case no_RestField_Space => decide); (case so_RestField_Meet => k_is); (case no_RestField_Meet => decide); (case so_FractionField_RestField => k_is); (case no_FractionField_RestField => decide); (case so_FractionField_Space => k_is); (case no_FractionField_Space => decide); (case so_FractionField_Meet => k_is); (case no_FractionField_Meet => decide); (case so_Space_RestField => k_is); (case no_Space_RestField => decide); (case so_Space_FractionField => k_is); (case no_Space_FractionField => decide); (case so_Space_Meet => k_is); (case no_Space_Meet => decide); (case so_Meet_RestField => k_is); (case no_Meet_RestField => decide); (case so_Meet_FractionField => k_is); (case no_Meet_FractionField => decide); (case so_Meet_Space => k_is); (case no_Meet_Space => decide); (case lc15 => k_is); (case h15 => first | rfl | decide | kernel_rfl | k_is); (case nP15 => first | k_is | kernel_rfl | decide | rfl); (case rc15 => decide +kernel); (case lc34 => k_is); (case h34 => first | rfl | decide | kernel_rfl | k_is); (case nP34 => first | k_is | kernel_rfl | decide | rfl); (case rc34 => decide +kernel); (case neP => first | decide | (intro z; cases z))

import PyProof.Rows.All
import Wide.All
import OpenK.AllK
import Wide.FinOn
import HandS.ForMost
import HandS.Strs
import HandS.SetFor
import HandS.ExcInit
import HandS.ClsMeth
import HandS.FStr
import HandS.CallSlots
import HandS.ExcField
import HandS.TupAny
import HandS.CallLocal
import HandS.More
import HandS.NoneIn
import HandS.Flow
import KE.KDictZip
import HandS.Wide
import HandS.Evl
import HandS.IsInst
import HandS.WordsExc
import HandS.TryOnly
import HandS.ForExc
import HandS.Head0
import HandS.Head1
import HandS.Head2
import HandS.HeadHook1
import HandS.HeadHook2
import HandS.HeadHook3
import HandS.HeadEnd
import PySem.Challenge.RW_kindweft_k10_kinds_read_off
section
set_option Elab.async false
set_option linter.all false
set_option maxRecDepth 100000
set_option maxHeartbeats 4000000
/-! Sets of ints: walks in any order, &, -, ==. -/
namespace KW
open PySem PySem.Spec PyProof.Rows L2
section
variable {P : Program} {w : World} {A : Around} {E : Value → Shared → Prop} {s : Shared} {a : Addr} {o : Obj} {es : Array (Int × Value)} {ep : Nat} {t : SetTable}

theorem walk_at {Q : Array (Int × Value) → Shared → Prop} (ho : s.heap.get? a = some o) (hd : o.data = .set es ep t) (hf : t.fits es.size = true)
    (hl : w.params.followText "set-order" = true ∨ t.led = true) (hQ : ∀ (es' : Array (Int × Value)) d, es'.toList.Perm es.toList → Q es' { s with drawn := d }) :
    wpAny (model P w) A (setWalk a) Q E s := by
  unfold setWalk
  refine wpAny_bind (wpAny_setState_of ho hd hf ?_)
  dsimp only
  refine wpAny_bind (wpAny_byText ?_)
  cases hb : w.params.followText "set-order" with
  | true =>
    refine wp_if_pos rfl ?_
    exact wpAny_bind (wpAny_askSetting (wpAny_pure (hQ _ s.drawn (pick_perm _ _))))
  | false =>
    have hled : t.led = true := hl.resolve_left (by rw [hb]; exact Bool.false_ne_true)
    refine wp_if_neg Bool.false_ne_true ?_
    try refine wpAny_bind (wpAny_pure ?_)
    cases hdr : (!t.plain && decide (es.size > 1)) with
    | true =>
      refine wp_if_pos (by show (!t.plain && decide (es.size > 1)) = true; exact hdr) ?_
      refine wpAny_bind (drawOrder_at _ _ _ _ (by rw [Array.length_toList]; exact Nat.le_refl _) fun ys d hp => wpAny_pure (hQ _ d ?_))
      simpa using hp
    | false =>
      refine wp_if_neg (by show ¬ ((!t.plain && decide (es.size > 1)) = true); rw [hdr]; exact Bool.false_ne_true) ?_
      try refine wpAny_bind (wpAny_pure ?_)
      refine wpAny_bind (wpAny_of_eq (a := ()) ?_ ?_)
      · show (if (!t.led && decide (es.size > 1)) = true then unsupported "set:maker-not-led" else pure ()) = pure ()
        rw [hled] <;> rfl
      · exact wpAny_pure (hQ es s.drawn (List.Perm.refl _))

theorem quiet_at {Q : Bool → Shared → Prop} (sets : List Addr) (h : ∀ a ∈ sets, ∃ S n, SetR w s.heap a S n) (hQ : Q true s) :
    wpAny (model P w) A (setsQuiet sets) Q E s := by
  unfold setsQuiet
  refine wpAny_bind (wpAny_forIn_list _ (fun rest b s' => b.1 = none ∧ s' = s ∧ ∀ a ∈ rest, a ∈ sets) _ ?_ ?_ _ _ ⟨rfl, rfl, fun _ h => h⟩)
  · rintro x rest b s' ⟨hb, rfl, hm⟩
    obtain ⟨S, n, o, es, ep, t, ho, hx, hd, g, nd, hmm, hbb, hf, hn, _⟩ := h x (hm x List.mem_cons_self)
    refine wpAny_bind (wpAny_setEntries_of ho hd hf ?_)
    refine wpAny_bind (MeetsSeq2.wpAny_forIn_array _ (fun rest b s2 => b.1 = none ∧ s2 = s' ∧ ∀ e ∈ rest, e ∈ es.toList) _ ?_ ?_ _ _ ⟨rfl, rfl, fun _ h => h⟩)
    · rintro ⟨hh, v⟩ rest2 b2 s2 ⟨hb2, rfl, hm2⟩
      obtain ⟨k, tk, e1, _⟩ := g (hh, v) (hm2 _ List.mem_cons_self)
      dsimp only at e1
      subst e1
      dsimp only
      wp_walk
      exact ⟨rfl, rfl, fun e he => hm2 e (List.mem_cons_of_mem _ he)⟩
    · rintro ⟨b2, u2⟩ s2 ⟨hb2, rfl, _⟩
      dsimp only at hb2
      subst hb2
      exact wpAny_pure ⟨rfl, rfl, fun e he => hm e (List.mem_cons_of_mem _ he)⟩
  · rintro ⟨b, u⟩ s' ⟨hb, rfl, _⟩
    dsimp only at hb
    subst hb
    exact wpAny_pure hQ

/-- the table's marks changed, the members as they were -/
theorem SetR.marks {h : Heap} {r : Addr} {S : Int → Bool} {n : Nat} {o : Obj} {es : Array (Int × Value)} {ep : Nat} {t t' : SetTable} (R : SetR w h r S n) (ho : h.get? r = some o) (hd : o.data = .set es ep t)
    (hp : t'.place = t.place) (hm : t'.mask = t.mask) (hdm : t'.dummies = t.dummies) (hl : t.led = true → t'.led = true) :
    SetR w (h.update r (Obj.putSet es t')) r S n := by
  obtain ⟨o2, es2, ep2, t2, ho2, hx, hd2, g, nd, hmm, hbb, hf, hn, hr, hl2⟩ := R
  rw [ho] at ho2
  cases ho2
  rw [hd] at hd2
  cases hd2
  refine ⟨_, es, ep + 1, t', store_at ho hd, hx, rfl, g, nd, hmm, hbb, ?_, hn, by rw [hp]; exact hr, hl2.imp id hl⟩
  have q : t'.fits es.size = t.fits es.size := by
    unfold SetTable.fits SetTable.fill
    rw [hp, hm, hdm]
  rw [q]
  exact hf

/-- the walk of a set that nobody sees, to fill the set r with -/
theorem unseen_at {r : Addr} {S Sr : Int → Bool} {n nr : Nat} {others : List Addr} {Q : Array (Int × Value) → Shared → Prop} (ho : s.heap.get? a = some o) (hd : o.data = .set es ep t)
    (R : SetR w s.heap a S n) (Rr : SetR w s.heap r Sr nr) (ne : r ≠ a) (hs : ∀ b ∈ others, ∃ S n, SetR w s.heap b S n)
    (hQ : ∀ (es' : Array (Int × Value)) d h', es'.toList.Perm es.toList → Heap.SameBut r s.heap h' → SetR w h' r Sr nr → Q es' { s with heap := h', drawn := d }) :
    wpAny (model P w) A (setWalkUnseen a others (some r)) Q E s := by
  have R0 := R
  obtain ⟨o2, es2, ep2, t2, ho2, hx, hd2, g, nd, hmm, hbb, hf, hn, hr, hl2⟩ := R
  rw [ho] at ho2
  cases ho2
  rw [hd] at hd2
  cases hd2
  have hQ0 : ∀ (es' : Array (Int × Value)) d, es'.toList.Perm es.toList → Q es' { s with drawn := d } := fun es' d p => hQ es' d s.heap p (Heap.SameBut.refl r s.heap) Rr
  unfold setWalkUnseen
  refine wpAny_bind (wpAny_setState_of ho hd hf ?_)
  dsimp only
  refine wpAny_bind (wpAny_byText ?_)
  by_cases hc : (w.params.followText "set-order" || t.led && t.plain || decide (es.size ≤ 1)) = true
  · refine wp_if_pos hc ?_
    exact walk_at ho hd hf hl2 hQ0
  · refine wp_if_neg hc ?_
    try refine wpAny_bind (wpAny_pure ?_)
    refine wpAny_bind (quiet_at _ (fun b hb => ?_) ?_)
    · rcases List.mem_cons.mp hb with e | e
      · rw [e]
        exact ⟨S, n, R0⟩
      · exact hs b e
    · refine wp_if_neg (by decide) ?_
      try refine wpAny_bind (wpAny_pure ?_)
      refine wpAny_bind (wpAny_rule ?_)
      have Rr0 := Rr
      obtain ⟨o3, es3, ep3, t3, ho3, hx3, hd3, g3, nd3, hmm3, hbb3, hf3, hn3, hr3, hl3⟩ := Rr
      try dsimp only
      refine wpAny_bind (wpAny_setState_of ho3 hd3 hf3 ?_)
      try dsimp only
      have hled : t.led = true := by
        rcases hl2 with z | z
        · rw [z] at hc
          exact absurd rfl hc
        · exact z
      split
      · refine wpAny_bind (wpAny_storeSet_of ho3 hd3 ?_ (fits_of_scanBound hbb3))
        refine wpAny_pure (hQ es s.drawn _ (List.Perm.refl _) (Heap.SameBut.update _ r _) ?_)
        exact SetR.marks Rr0 ho3 hd3 rfl rfl rfl (fun z => by rw [z, hled] <;> rfl)
      · try refine wpAny_bind (wpAny_pure ?_)
        exact wpAny_pure (hQ0 es s.drawn (List.Perm.refl _))

theorem perm_nodup {l l' : List Int} (h1 : l.Nodup) (h2 : l'.Nodup) (h : ∀ k, k ∈ l ↔ k ∈ l') : l.length = l'.length :=
  Nat.le_antisymm (List.Nodup.length_le_of_subset h1 fun k hk => (h k).1 hk) (List.Nodup.length_le_of_subset h2 fun k hk => (h k).2 hk)
theorem SetR.count {h : Heap} {S : Int → Bool} {n : Nat} (R : SetR w h a S n) {l : List Int} (nd : l.Nodup) (hm : ∀ k, S k = true ↔ k ∈ l) : n = l.length := by
  obtain ⟨o2, es2, ep2, t2, ho2, hx, hd2, g, nd2, hmm, hbb, hf, hn, hr, hl2⟩ := R
  have q := perm_nodup nd2 nd (fun k => (hmm k).symm.trans (hm k))
  rw [List.length_map, Array.length_toList] at q
  omega

theorem SetR.ty {h : Heap} {S : Int → Bool} {n : Nat} {s : Shared} (R : SetR w s.heap a S n) : s.TypeIs (.ref a) "set" := by
  obtain ⟨o2, es2, ep2, t2, ho2, hx, hd2, _⟩ := R
  exact ⟨o2, ho2, hx.1⟩

theorem anySet_at {S : Int → Bool} {n : Nat} {Q : Bool → Shared → Prop} (R : SetR w s.heap a S n) (hQ : Q true s) : wpAny (model P w) A (Builtin.Frozenset.isAnySet (.ref a)) Q E s := by
  unfold Builtin.Frozenset.isAnySet
  have hT : s.TypeIs (.ref a) "set" := SetR.ty (h := s.heap) R
  unfold orM
  refine wpAny_bind (wpAny_isInstance hT sub_set_self ?_)
  exact wpAny_pure hQ
theorem base_at {S : Int → Bool} {n : Nat} {Q : Value → Shared → Prop} (R : SetR w s.heap a S n) (hQ : Q (.type "set") s) : wpAny (model P w) A (Builtin.Frozenset.baseOf a) Q E s := by
  unfold Builtin.Frozenset.baseOf
  have hT : s.TypeIs (.ref a) "set" := SetR.ty (h := s.heap) R
  refine wpAny_bind (wpAny_isInstance hT sub_set_self ?_)
  exact wpAny_pure hQ
theorem size_at {S : Int → Bool} {n : Nat} {Q : Nat → Shared → Prop} (R : SetR w s.heap a S n) (hQ : Q n s) : wpAny (model P w) A (Builtin.Frozenset.sizeOf a) Q E s := by
  obtain ⟨o2, es2, ep2, t2, ho2, hx, hd2, g, nd2, hmm, hbb, hf, hn, hr, hl2⟩ := R
  subst hn
  unfold Builtin.Frozenset.sizeOf
  exact wpAny_bind (wpAny_setEntries_of ho2 hd2 hf (wpAny_pure hQ))
theorem newSet_at {Q : Value → Shared → Prop} (hQ : SetR w (s.heap.push { cls := .type "set", dict := none, data := .set #[] 0 (.fresh 0 0 (!w.params.followText "set-order")) }) s.heap.objs.size (fun _ => false) 0 →
      Q (.ref s.heap.objs.size) { s with heap := s.heap.push { cls := .type "set", dict := none, data := .set #[] 0 (.fresh 0 0 (!w.params.followText "set-order")) } }) :
    wpAny (model P w) A (newSet (.type "set")) Q E s := by
  unfold newSet setsByText
  refine wpAny_bind (wpAny_bind (wpAny_askSetting (wpAny_pure ?_)))
  dsimp only
  simp only [newObj]
  exact wpAny_bind (wpAny_alloc (wpAny_pure (hQ (setR_fresh w))))

theorem epoch_at {Q : Nat → Shared → Prop} (ho : s.heap.get? a = some o) (hd : o.data = .set es ep t) (hf : t.fits es.size = true) (h : Q ep s) : wpAny (model P w) A (setEpoch a) Q E s := wpAny_setEpoch_of ho hd hf h
theorem unchanged_at {id : String} {Q : Unit → Shared → Prop} (ho : s.heap.get? a = some o) (hd : o.data = .set es ep t) (hf : t.fits es.size = true) (h : Q () s) :
    wpAny (model P w) A (Builtin.Frozenset.unchanged id a ep) Q E s := by
  unfold Builtin.Frozenset.unchanged
  refine wpAny_bind (wpAny_setEpoch_of ho hd hf ?_)
  refine wp_if_neg (by simp) ?_
  exact wpAny_pure h

/-- what is kept while r is filled -/
def Only1 (r : Addr) (s s' : Shared) : Prop := ∃ h' d tk, s' = { s with heap := h', drawn := d, toks := tk } ∧ Heap.SameBut r s.heap h'

/-- the members of one set, in any order, that are (or are not) in another, laid into r -/
theorem pick_loop {id : String} {x y r : Addr} {Sx Sy : Int → Bool} {nx ny : Nat} {ox : Obj} {esx : Array (Int × Value)} {epx : Nat} {tx : SetTable} {keep : Bool → Bool}
    (hox : s.heap.get? x = some ox) (hdx : ox.data = .set esx epx tx) (Rx : SetR w s.heap x Sx nx) (Ry : SetR w s.heap y Sy ny) (nrx : r ≠ x) (nry : r ≠ y) (hb : nx + 1 < scanBound)
    {f : Int × Value → Unit → Sem (ForInStep Unit)}
    (hfE : ∀ (s : Shared) (k : Int) (tk : Tok) (Q : ForInStep Unit → Shared → Prop) (Sr : Int → Bool) (c : Nat), s.heap.get? x = some ox → SetR w s.heap y Sy ny → SetR w s.heap r Sr c → c + 1 < scanBound →
      (∀ s' c', Only1 r s s' → SetR w s'.heap r (fun j => Sr j || (decide (j = k) && keep (Sy k))) c' → c' ≤ c + 1 → Q (.yield ()) s') → wpAny (model P w) A (f (hashInt k, .int k tk) ()) Q E s)
    (es' : Array (Int × Value)) (pm : es'.toList.Perm esx.toList) (R0 : SetR w s.heap r (fun _ => false) 0) {Q : Unit → Shared → Prop}
    (hQ : ∀ s' c, Only1 r s s' → SetR w s'.heap r (fun k => Sx k && keep (Sy k)) c → Q () s') :
    wpAny (model P w) A (forIn es' () f) Q E s := by
  obtain ⟨o2, es2, ep2, t2, ho2, hx, hd2, g, nd2, hmm, hbb, hf, hn, hr, hl2⟩ := Rx
  rw [hox] at ho2
  cases ho2
  rw [hdx] at hd2
  cases hd2
  have gg : ∀ e ∈ es'.toList, GoodE e := fun e he => g e (pm.mem_iff.mp he)
  have hln : es'.toList.length = nx := by rw [pm.length_eq, Array.length_toList, hn]
  refine MeetsSeq2.wpAny_forIn_array _ (fun rest b s' => ∃ (done : List (Int × Value)) (c : Nat), es'.toList = done ++ rest ∧ Only1 r s s' ∧ c ≤ done.length ∧ SetR w s'.heap r (fun k => decide (k ∈ done.map keyOf) && keep (Sy k)) c) _ ?_ ?_ es' () ⟨[], 0, rfl, ⟨s.heap, s.drawn, s.toks, rfl, Heap.SameBut.refl r s.heap⟩, Nat.le_refl _, ?_⟩
  · rintro e rest b s' ⟨done, c, he, ⟨h', d, tk, rfl, sb⟩, hc, Rr⟩
    obtain ⟨k, tk2, e2, e1⟩ := gg e (by rw [he]; simp)
    obtain ⟨e1', e2'⟩ := e
    dsimp only at e1 e2
    subst e1
    subst e2
    have hlen : done.length + (rest.length + 1) = nx := by
      have := congrArg List.length he
      rw [List.length_append, List.length_cons, hln] at this
      omega
    refine hfE _ k tk2 _ _ c ((sb.2 x nrx.symm).trans hox) (Ry.at fun o q => (sb.2 y nry.symm).trans q) Rr (by omega) fun s'' c' h2 R2 hc' => ?_
    obtain ⟨h2', d2, tk3, rfl, sb2⟩ := h2
    refine ⟨done ++ [(hashInt k, .int k tk2)], c', by rw [he, List.append_assoc]; rfl, ⟨h2', d2, tk3, rfl, sb.trans sb2⟩, by rw [List.length_append]; show c' ≤ done.length + 1; omega, R2.congr fun j => ?_⟩
    rw [List.map_append]
    show (decide (j ∈ done.map keyOf ++ [k]) && keep (Sy j)) = ((decide (j ∈ done.map keyOf) && keep (Sy j)) || (decide (j = k) && keep (Sy k)))
    by_cases hj : j = k
    · subst hj
      simp
    · have e1 : decide (j ∈ done.map keyOf ++ [k]) = decide (j ∈ done.map keyOf) := decide_eq_decide.mpr (by simp [hj])
      rw [e1, decide_eq_false hj]
      simp
  · rintro ⟨⟩ s' ⟨done, c, he, hO, hc, Rr⟩
    rw [List.append_nil] at he
    refine hQ s' c hO (Rr.congr fun k => ?_)
    have q : decide (k ∈ done.map keyOf) = Sx k := by
      rw [← he]
      have hk := hmm k
      have hp : k ∈ es'.toList.map keyOf ↔ k ∈ esx.toList.map keyOf := (pm.map keyOf).mem_iff
      cases hS : Sx k with
      | true => exact decide_eq_true (hp.2 (hk.1 hS))
      | false =>
        refine decide_eq_false (fun z => ?_)
        rw [hk.2 (hp.1 z)] at hS
        cases hS
    rw [q]
  · exact R0.congr (fun k => by simp)

theorem turn_at {id : String} {x y r : Addr} {Sy Sr : Int → Bool} {ny c : Nat} {ox : Obj} {esx : Array (Int × Value)} {epx : Nat} {tx : SetTable} {keep : Bool → Bool} {k : Int} {tk : Tok} {Q : ForInStep Unit → Shared → Prop}
    {g : Option Nat → Bool} (hg : ∀ r : Option Nat, g r = keep r.isSome)
    (hox : s.heap.get? x = some ox) (hdx : ox.data = .set esx epx tx) (hfx : tx.fits esx.size = true) (nrx : r ≠ x) (Ry : SetR w s.heap y Sy ny) (Rr : SetR w s.heap r Sr c) (hc : c + 1 < scanBound)
    (hQ : ∀ s' c', Only1 r s s' → SetR w s'.heap r (fun j => Sr j || (decide (j = k) && keep (Sy k))) c' → c' ≤ c + 1 → Q (.yield ()) s') :
    wpAny (model P w) A (do
      holding [Value.int k tk] (do
        let there ← setFind y (.int k tk) (hashInt k)
        if g there = true then do let _ ← setAddHashed r (.int k tk) (hashInt k); pure PUnit.unit
        else pure PUnit.unit)
      Builtin.Frozenset.unchanged id x epx
      pure (ForInStep.yield ())) Q E s := by
  have hfin : ∀ (s' : Shared) (c' : Nat), Only1 r s s' → SetR w s'.heap r (fun j => Sr j || (decide (j = k) && keep (Sy k))) c' → c' ≤ c + 1 →
      wpAny (model P w) A (do Builtin.Frozenset.unchanged id x epx; pure (ForInStep.yield ())) Q E s' := fun s' c' hO R' hc' => by
    have hO2 := hO
    obtain ⟨h', d, tk', rfl, sb⟩ := hO2
    exact wpAny_bind (unchanged_at ((sb.2 x nrx.symm).trans hox) hdx hfx (wpAny_pure (hQ _ c' hO R' hc')))
  refine wpAny_bind (wpAny_holding ?_)
  have hS : s.heap.SetOf (intKind P w) y Sy ny := Ry.setOf
  refine wpAny_bind (wpAny_setFind_of (knd := intKind P w) (k := k) (intKind_is P w k tk) rfl hS fun r' hr' => ?_)
  cases hb : g r' with
  | true =>
    refine wp_if_pos rfl ?_
    have hk : keep (Sy k) = true := by
      rw [← hr', ← hg]
      exact hb
    refine wpAny_bind (setR_add_hashed Rr hc fun h' sb R' => wpAny_pure ?_)
    refine hfin _ _ ⟨h', s.drawn, s.toks, rfl, sb⟩ (R'.congr fun j => ?_) (by split <;> omega)
    rw [hk, Bool.and_true]
  | false =>
    refine wp_if_neg Bool.false_ne_true ?_
    have hk : keep (Sy k) = false := by
      rw [← hr', ← hg]
      exact hb
    refine wpAny_pure (hfin s c ⟨s.heap, s.drawn, s.toks, rfl, Heap.SameBut.refl r s.heap⟩ (Rr.congr fun j => ?_) (Nat.le_succ _))
    rw [hk, Bool.and_false, Bool.or_false]

/-- a new set behind what was -/
def NewAt (s : Shared) (r : Addr) (s' : Shared) : Prop := ∃ h' d tk, s' = { s with heap := h', drawn := d, toks := tk } ∧ s.heap.objs.size ≤ r ∧ ∀ b u, s.heap.get? b = some u → h'.get? b = some u

theorem inter_at {id : String} {b : Addr} {Sa Sb : Int → Bool} {na nb : Nat} {Q : Value → Shared → Prop} (Ra : SetR w s.heap a Sa na) (Rb : SetR w s.heap b Sb nb) (ne : a ≠ b) (ha : na + 1 < scanBound) (hb : nb + 1 < scanBound)
    (hQ : ∀ s' r c, NewAt s r s' → SetR w s'.heap r (fun k => Sa k && Sb k) c → Q (.ref r) s') :
    wpAny (model P w) A (Builtin.Frozenset.intersection id a (.ref b)) Q E s := by
  unfold Builtin.Frozenset.intersection
  refine wp_if_neg (by
    show ¬ ((Value.ref b == Value.ref a) = true)
    intro z
    have := beq_iff_eq.mp z
    injection this with q
    exact ne q.symm) ?_
  try refine wpAny_bind (wpAny_pure ?_)
  refine wpAny_bind (base_at Ra ?_)
  refine wpAny_bind (newSet_at fun R0 => ?_)
  have kp : ∀ c u, s.heap.get? c = some u → (s.heap.push { cls := .type "set", dict := none, data := .set #[] 0 (.fresh 0 0 (!w.params.followText "set-order")) }).get? c = some u := fun c u e => Heap.get?_push_of_some _ e
  have Ra1 := Ra.at fun o e => kp _ o e
  have Rb1 := Rb.at fun o e => kp _ o e
  have nra : s.heap.objs.size ≠ a := Nat.ne_of_gt Ra.lt
  have nrb : s.heap.objs.size ≠ b := Nat.ne_of_gt Rb.lt
  generalize hr : s.heap.objs.size = r at *
  generalize hhp : (s.heap.push { cls := .type "set", dict := none, data := .set #[] 0 (.fresh 0 0 (!w.params.followText "set-order")) }) = hp at *
  have hend : ∀ (s' : Shared) (c : Nat), Only1 r { s with heap := hp } s' → SetR w s'.heap r (fun k => Sa k && Sb k) c → Q (.ref r) s' := fun s' c hO R' => by
    obtain ⟨h', d, tk, rfl, sb⟩ := hO
    refine hQ _ r c ⟨h', d, tk, rfl, Nat.le_of_eq hr, fun c u e => ?_⟩ R'
    exact (sb.2 c (by rw [← hr]; exact Nat.ne_of_lt (Heap.lt_size e))).trans (kp c u e)
  unfold Builtin.Frozenset.addrOf
  dsimp only
  refine wpAny_bind (wpAny_pure ?_)
  refine wpAny_bind (wpAny_holding ?_)
  refine wpAny_bind (anySet_at Rb1 ?_)
  refine wp_if_pos rfl ?_
  refine wpAny_bind (wpAny_pure ?_)
  refine wpAny_bind (size_at Rb1 ?_)
  refine wpAny_bind (size_at Ra1 ?_)
  have common : ∀ (x y : Addr) (Sx Sy : Int → Bool) (nx ny : Nat), SetR w hp x Sx nx → SetR w hp y Sy ny → r ≠ x → r ≠ y → nx + 1 < scanBound → (∀ k, (Sx k && Sy k) = (Sa k && Sb k)) →
      wpAny (model P w) A (do
        let was ← setEpoch x
        let l ← setWalkUnseen x [y, r] (some r)
        forIn l PUnit.unit fun z __s => do
          holding [z.snd] (do
              let there ← setFind y z.snd z.fst
              if there.isSome = true then do
                  let _ ← setAddHashed r z.snd z.fst
                  pure ()
                else pure ())
          Builtin.Frozenset.unchanged id x was
          pure (ForInStep.yield PUnit.unit)
        pure ()) (fun _ s' => Q (.ref r) s') E { s with heap := hp } := fun x y Sx Sy nx ny Rx Ry nrx nry hnx hS => by
    have Rw := Rx
    obtain ⟨ox, esx, epx, tx, hox, hx, hdx, g, nd2, hmm, hbb, hf, hn, hrr, hl2⟩ := Rx
    refine wpAny_bind (wpAny_setEpoch_of hox hdx hf ?_)
    refine wpAny_bind (unseen_at hox hdx Rw R0 nrx (fun c hc => ?_) fun es' d h' pm sb Rr => ?_)
    · rcases List.mem_cons.mp hc with e | e
      · rw [e]
        exact ⟨_, _, Ry⟩
      · rw [List.mem_singleton.mp e]
        exact ⟨_, _, R0⟩
    · refine wpAny_bind (pick_loop (P := P) (id := id) (keep := fun b => b) (x := x) (y := y) (r := r) ((sb.2 x nrx.symm).trans hox) hdx (Rw.at fun o q => (sb.2 x nrx.symm).trans q) (Ry.at fun o q => (sb.2 y nry.symm).trans q) nrx nry hnx ?_ es' pm Rr ?_)
      · intro s1 k tk Q1 Sr c h1 Ry1 Rr1 hc1 hQ1
        exact turn_at (g := fun o => o.isSome) (keep := fun b => b) (fun _ => rfl) h1 hdx hf nrx Ry1 Rr1 hc1 hQ1
      · intro s2 c hO R2
        obtain ⟨h2, d2, tk2, rfl, sb2⟩ := hO
        exact wpAny_pure (hend _ c ⟨h2, d2, tk2, rfl, sb.trans sb2⟩ (R2.congr fun k => (hS k).symm))
  by_cases hlt : nb > na
  · rw [if_pos hlt]
    exact wpAny_mono (common a b Sa Sb na nb Ra1 Rb1 nra nrb ha fun _ => rfl) (fun _ s' q => wpAny_pure q) fun _ _ q => q
  · rw [if_neg hlt]
    exact wpAny_mono (common b a Sb Sa nb na Rb1 Ra1 nrb nra hb fun k => Bool.and_comm _ _) (fun _ s' q => wpAny_pure q) fun _ _ q => q

theorem diff_at {id : String} {b : Addr} {Sa Sb : Int → Bool} {na nb : Nat} {Q : Value → Shared → Prop} (Ra : SetR w s.heap a Sa na) (Rb : SetR w s.heap b Sb nb) (ha : na + 1 < scanBound) (hab : na / 4 ≤ nb)
    (hQ : ∀ s' r c, NewAt s r s' → SetR w s'.heap r (fun k => Sa k && !Sb k) c → Q (.ref r) s') :
    wpAny (model P w) A (Builtin.Frozenset.difference id a (.ref b)) Q E s := by
  unfold Builtin.Frozenset.difference
  refine wpAny_bind (anySet_at Rb ?_)
  refine wp_if_neg (by decide) ?_
  try refine wpAny_bind (wpAny_pure ?_)
  unfold Builtin.Frozenset.addrOf
  dsimp only
  refine wp_if_neg (by simp) ?_
  refine wp_if_pos rfl ?_
  refine wpAny_bind (size_at Rb ?_)
  refine wpAny_bind (size_at Ra ?_)
  refine wp_if_neg (Nat.not_lt.mpr hab) ?_
  try refine wpAny_bind (wpAny_pure ?_)
  refine wpAny_bind (base_at Ra ?_)
  refine wpAny_bind (newSet_at fun R0 => ?_)
  have kp : ∀ c u, s.heap.get? c = some u → (s.heap.push { cls := .type "set", dict := none, data := .set #[] 0 (.fresh 0 0 (!w.params.followText "set-order")) }).get? c = some u := fun c u e => Heap.get?_push_of_some _ e
  have Ra1 := Ra.at fun o e => kp _ o e
  have Rb1 := Rb.at fun o e => kp _ o e
  have nra : s.heap.objs.size ≠ a := Nat.ne_of_gt Ra.lt
  have nrb : s.heap.objs.size ≠ b := Nat.ne_of_gt Rb.lt
  generalize hr : s.heap.objs.size = r at *
  generalize hhp : (s.heap.push { cls := .type "set", dict := none, data := .set #[] 0 (.fresh 0 0 (!w.params.followText "set-order")) }) = hp at *
  have hend : ∀ (s' : Shared) (c : Nat), Only1 r { s with heap := hp } s' → SetR w s'.heap r (fun k => Sa k && !Sb k) c → Q (.ref r) s' := fun s' c hO R' => by
    obtain ⟨h', d, tk, rfl, sb⟩ := hO
    refine hQ _ r c ⟨h', d, tk, rfl, Nat.le_of_eq hr, fun c u e => ?_⟩ R'
    exact (sb.2 c (by rw [← hr]; exact Nat.ne_of_lt (Heap.lt_size e))).trans (kp c u e)
  dsimp only
  refine wpAny_bind (wpAny_pure ?_)
  have Rw := Ra1
  obtain ⟨ox, esx, epx, tx, hox, hx, hdx, g, nd2, hmm, hbb, hf, hn, hrr, hl2⟩ := Ra1
  refine wpAny_bind (wpAny_setEpoch_of hox hdx hf ?_)
  refine wpAny_bind (wpAny_holding ?_)
  simp only [if_true, pure_bind]
  refine wpAny_bind (unseen_at hox hdx Rw R0 nra (fun c hc => ?_) fun es' d h' pm sb Rr => ?_)
  · rcases List.mem_cons.mp hc with e | e
    · rw [e]
      exact ⟨_, _, Rb1⟩
    · rw [List.mem_singleton.mp e]
      exact ⟨_, _, R0⟩
  · refine wpAny_bind (pick_loop (P := P) (id := id) (keep := fun b => !b) (x := a) (y := b) (r := r) ((sb.2 a nra.symm).trans hox) hdx (Rw.at fun o q => (sb.2 a nra.symm).trans q) (Rb1.at fun o q => (sb.2 b nrb.symm).trans q) nra nrb ha ?_ es' pm Rr ?_)
    · intro s1 k tk Q1 Sr c h1 Ry1 Rr1 hc1 hQ1
      exact turn_at (g := fun o => !o.isSome) (keep := fun b => !b) (fun _ => rfl) h1 hdx hf nra Ry1 Rr1 hc1 hQ1
    · intro s2 c hO R2
      obtain ⟨h2, d2, tk2, rfl, sb2⟩ := hO
      refine wpAny_pure ?_
      exact wpAny_pure (hend _ c ⟨h2, d2, tk2, rfl, sb.trans sb2⟩ R2)

theorem entry_set_and : entryFor table "set.__and__" = some Builtin.«frozenset.__and__» :=
  entryFor_alias (id' := "frozenset.__and__") (by kernel_rfl) rfl (by decide +kernel) (by kernel_rfl)
theorem entry_set_sub : entryFor table "set.__sub__" = some Builtin.«frozenset.__sub__» :=
  entryFor_alias (id' := "frozenset.__sub__") (by kernel_rfl) rfl (by decide +kernel) (by kernel_rfl)
theorem entry_set_eq : entryFor table "set.__eq__" = some Builtin.«frozenset.__eq__» :=
  entryFor_alias (id' := "frozenset.__eq__") (by kernel_rfl) rfl (by decide +kernel) (by kernel_rfl)

theorem and_at {b : Addr} {Sa Sb : Int → Bool} {na nb : Nat} {Q : Value → Shared → Prop} (Ra : SetR w s.heap a Sa na) (Rb : SetR w s.heap b Sb nb) (ne : a ≠ b) (ha : na + 1 < scanBound) (hb : nb + 1 < scanBound)
    (hQ : ∀ s' r c, NewAt s r s' → SetR w s'.heap r (fun k => Sa k && Sb k) c → Q (.ref r) s') :
    wpAny (model P w) A (binaryOp .BitAnd (.ref a) (.ref b)) Q E s := by
  have hT : s.TypeIs (.ref a) "set" := SetR.ty (h := s.heap) Ra
  have hT2 : s.TypeIs (.ref b) "set" := SetR.ty (h := s.heap) Rb
  refine wpAny_binaryOp_same hT hT2 F.fills_set_and F.slot_set_and (wpAny_call_entry F.slot_set_and hT entry_set_and ?_ (F.args_set_and_2 _ _))
  unfold Builtin.«frozenset.__and__»
  show wpAny _ _ (do
    let (self, other) ← Builtin.Frozenset.slot1 "__and__" ⟨[.ref a, .ref b], []⟩
    let (l, r) := if false = true then (other, self) else (self, other)
    if !(← Builtin.Frozenset.isAnySet l <&&> Builtin.Frozenset.isAnySet r) then rule s!"frozenset.{"__and__"}.declined"; return ← ret .notImplemented
    ret (← Builtin.Frozenset.intersection s!"frozenset.{"__and__"}" (← Builtin.Frozenset.addrOf l) r)) _ _ _
  refine wpAny_bind (m := Builtin.Frozenset.slot1 "__and__" _) (wpAny_of_eq (a := (Value.ref a, Value.ref b)) (by rfl) ?_)
  dsimp only
  unfold andM
  simp only [Bool.false_eq_true, if_false]
  refine wpAny_bind (wpAny_bind (anySet_at Ra (anySet_at Rb ?_)))
  refine wp_if_neg (by decide) ?_
  unfold Builtin.Frozenset.addrOf
  dsimp only
  refine wpAny_bind (wpAny_pure ?_)
  refine wpAny_bind (inter_at Ra Rb ne ha hb fun s' r c hN R' => ?_)
  exact wpAny_pure ⟨_, rfl, (fun z => by cases z), hQ s' r c hN R'⟩

theorem sub_at {b : Addr} {Sa Sb : Int → Bool} {na nb : Nat} {Q : Value → Shared → Prop} (Ra : SetR w s.heap a Sa na) (Rb : SetR w s.heap b Sb nb) (ha : na + 1 < scanBound) (hab : na / 4 ≤ nb)
    (hQ : ∀ s' r c, NewAt s r s' → SetR w s'.heap r (fun k => Sa k && !Sb k) c → Q (.ref r) s') :
    wpAny (model P w) A (binaryOp .Sub (.ref a) (.ref b)) Q E s := by
  have hT : s.TypeIs (.ref a) "set" := SetR.ty (h := s.heap) Ra
  have hT2 : s.TypeIs (.ref b) "set" := SetR.ty (h := s.heap) Rb
  refine wpAny_binaryOp_same hT hT2 F.fills_set_sub F.slot_set_sub (wpAny_call_entry F.slot_set_sub hT entry_set_sub ?_ (F.args_set_sub_2 _ _))
  unfold Builtin.«frozenset.__sub__»
  show wpAny _ _ (do
    let (self, other) ← Builtin.Frozenset.slot1 "__sub__" ⟨[.ref a, .ref b], []⟩
    let (l, r) := if false = true then (other, self) else (self, other)
    if !(← Builtin.Frozenset.isAnySet l <&&> Builtin.Frozenset.isAnySet r) then rule s!"frozenset.{"__sub__"}.declined"; return ← ret .notImplemented
    ret (← Builtin.Frozenset.difference s!"frozenset.{"__sub__"}" (← Builtin.Frozenset.addrOf l) r)) _ _ _
  refine wpAny_bind (m := Builtin.Frozenset.slot1 "__sub__" _) (wpAny_of_eq (a := (Value.ref a, Value.ref b)) (by rfl) ?_)
  dsimp only
  unfold andM
  simp only [Bool.false_eq_true, if_false]
  refine wpAny_bind (wpAny_bind (anySet_at Ra (anySet_at Rb ?_)))
  refine wp_if_neg (by decide) ?_
  unfold Builtin.Frozenset.addrOf
  dsimp only
  refine wpAny_bind (wpAny_pure ?_)
  refine wpAny_bind (diff_at Ra Rb ha hab fun s' r c hN R' => ?_)
  exact wpAny_pure ⟨_, rfl, (fun z => by cases z), hQ s' r c hN R'⟩

end
end KW
end

section
set_option Elab.async false
set_option linter.all false
set_option maxRecDepth 100000
set_option maxHeartbeats 4000000
namespace KW
open PySem PySem.Spec PyProof.Rows L2
section
variable {P : Program} {w : World} {A : Around} {E : Value → Shared → Prop} {s : Shared} {a : Addr} {o : Obj} {es : Array (Int × Value)} {ep : Nat} {t : SetTable}
theorem subset_at {id : String} {b : Addr} {Sa Sb : Int → Bool} {na nb : Nat} {Q : Bool → Shared → Prop} (Ra : SetR w s.heap a Sa na) (Rb : SetR w s.heap b Sb nb) (hab : na = nb)
    (hQ : ∀ c : Bool, (c = true ↔ ∀ k, Sa k = true → Sb k = true) → Q c s) :
    wpAny (model P w) A (Builtin.Frozenset.subsetOf id a b) Q E s := by
  unfold Builtin.Frozenset.subsetOf
  refine wpAny_bind (size_at Ra ?_)
  refine wpAny_bind (size_at Rb ?_)
  refine wp_if_neg (by omega) ?_
  have Rw := Ra
  have Rw2 := Rb
  obtain ⟨ox, esx, epx, tx, hox, hx, hdx, g, nd2, hmm, hbb, hf, hn, hrr, hl2⟩ := Ra
  obtain ⟨oy, esy, epy, ty, hoy, hy, hdy, gy, ndy, hmy, hby, hfy, hny, hry, hly⟩ := Rb
  refine wpAny_bind (wpAny_setEpoch_of hox hdx hf ?_)
  refine wpAny_bind (m := Builtin.Frozenset.walkUnseen a b) ?_
  unfold Builtin.Frozenset.walkUnseen
  refine wpAny_bind (wpAny_setEntries_of hox hdx hf ?_)
  refine wpAny_bind (wpAny_setEntries_of hoy hdy hfy ?_)
  refine wpAny_bind (wpAny_forIn_list _ (fun rest b s' => b.1 = none ∧ s' = s ∧ ∀ e ∈ rest, GoodE e) _ ?_ ?_ _ _ ⟨rfl, rfl, ?_⟩)
  · rintro ⟨hh, v⟩ rest2 b2 s2 ⟨hb2, rfl, hm2⟩
    obtain ⟨k, tk, e1, _⟩ := hm2 (hh, v) List.mem_cons_self
    dsimp only at e1
    subst e1
    dsimp only
    unfold Builtin.Frozenset.quietEq
    dsimp only
    refine wpAny_bind (wpAny_pure ?_)
    refine wp_if_neg (by decide) ?_
    exact wpAny_pure ⟨rfl, rfl, fun e he => hm2 e (List.mem_cons_of_mem _ he)⟩
  · rintro ⟨b2, u2⟩ s2 ⟨hb2, rfl, _⟩
    dsimp only at hb2
    subst hb2
    refine wpAny_pure ?_
    refine wpAny_bind (wpAny_forIn_list _ (fun rest b s' => b.1 = none ∧ s' = s2 ∧ (∃ done, esx.toList = done ++ rest ∧ ∀ e ∈ done, Sb (keyOf e) = true)) _ ?_ ?_ _ _ ⟨rfl, rfl, [], rfl, fun e he => by cases he⟩)
    · rintro ⟨hh, v⟩ rest2 b2 s3 ⟨hb2, rfl, done, he, hd⟩
      obtain ⟨k, tk, e1, e2⟩ := g (hh, v) (by rw [he]; simp)
      dsimp only at e1 e2
      subst e1
      subst e2
      have hk : k ∈ esx.toList.map keyOf := by
        rw [he, List.map_append]
        exact List.mem_append_right _ (List.mem_cons_self ..)
      have hS : s3.heap.SetOf (intKind P w) b Sb nb := Rw2.setOf
      refine wpAny_bind (wpAny_holding (wpAny_setFind_of (knd := intKind P w) (k := k) (intKind_is P w k tk) rfl hS fun r' hr' => ?_))
      cases hz : Sb k with
      | false =>
        rw [hz] at hr'
        refine wp_if_pos (by cases r' <;> simp_all) ?_
        refine wpAny_pure ?_
        refine wpAny_pure (hQ false ⟨(fun z => by cases z), fun z => ?_⟩)
        rw [z k ((hmm k).2 hk)] at hz
        cases hz
      | true =>
        rw [hz] at hr'
        refine wp_if_neg (by cases r' <;> simp_all) ?_
        refine wpAny_bind (unchanged_at hox hdx hf (wpAny_pure ⟨rfl, rfl, done ++ [(hashInt k, .int k tk)], by rw [he, List.append_assoc]; rfl, fun e h => ?_⟩))
        rcases List.mem_append.mp h with z | z
        · exact hd e z
        · rw [List.mem_singleton.mp z]
          exact hz
    · rintro ⟨b3, u3⟩ s3 ⟨hb3, rfl, done, he, hd⟩
      dsimp only at hb3
      subst hb3
      rw [List.append_nil] at he
      refine wpAny_pure (hQ true ⟨fun _ k hk => ?_, fun _ => rfl⟩)
      obtain ⟨e, he2, hke⟩ := List.mem_map.mp ((hmm k).1 hk)
      rw [← hke]
      exact hd e (by rw [← he]; exact he2)
  · intro e he
    rcases List.mem_append.mp he with z | z
    · exact g e z
    · exact gy e z

theorem sub_set_fz : isSubtype (.type "set") (.type "frozenset") = pure false := by rw [isSubtype_type]; kernel_rfl
theorem SetR.keys {h : Heap} {S : Int → Bool} {n : Nat} (R : SetR w h a S n) : ∃ l : List Int, l.Nodup ∧ l.length = n ∧ ∀ k, S k = true ↔ k ∈ l := by
  obtain ⟨o2, es2, ep2, t2, ho2, hx, hd2, g, nd2, hmm, hbb, hf, hn, hr, hl2⟩ := R
  exact ⟨_, nd2, by rw [List.length_map, Array.length_toList]; exact hn, hmm⟩
theorem whole_of {la lb : List Int} (na : la.Nodup) (nb : lb.Nodup) (hl : la.length = lb.length) (h : ∀ k ∈ la, k ∈ lb) : ∀ k ∈ lb, k ∈ la := fun k hk => by
  by_cases c : k ∈ la
  · exact c
  · have q := List.Nodup.length_le_of_subset (List.nodup_cons.mpr ⟨c, na⟩) (l₂ := lb) (fun j hj => by
      rcases List.mem_cons.mp hj with e | e
      · rw [e]
        exact hk
      · exact h j e)
    rw [List.length_cons] at q
    omega
theorem equal_at {b : Addr} {Sa Sb : Int → Bool} {na nb : Nat} {Q : Value → Shared → Prop} (Ra : SetR w s.heap a Sa na) (Rb : SetR w s.heap b Sb nb) (hu : A.units < cLine)
    (hQ : ∀ c : Bool, (c = true ↔ ∀ k, Sa k = Sb k) → Q (.bool c) s) :
    wpAny (model P w) A (compareOp .Eq (.ref a) (.ref b)) Q E s := by
  have hT : s.TypeIs (.ref a) "set" := SetR.ty (h := s.heap) Ra
  have hT2 : s.TypeIs (.ref b) "set" := SetR.ty (h := s.heap) Rb
  show wpAny _ _ (richCompare .Eq (.ref a) (.ref b)) _ _ _
  refine wpAny_richCompare_same_room hT hT2 F.slot_set_eq (wpAny_call_entry F.slot_set_eq hT entry_set_eq ?_ (F.args_set_eq_2 _ _)) hu
  unfold Builtin.«frozenset.__eq__»
  show wpAny _ _ (Builtin.Frozenset.slot1 "__eq__" ⟨[.ref a, .ref b], []⟩ >>= _) _ _ _
  refine wpAny_bind (m := Builtin.Frozenset.slot1 "__eq__" _) (wpAny_of_eq (a := (Value.ref a, Value.ref b)) (by rfl) ?_)
  dsimp only
  refine wpAny_bind (anySet_at Rb ?_)
  refine wp_if_neg (by decide) ?_
  unfold Builtin.Frozenset.addrOf
  dsimp only
  refine wpAny_bind (wpAny_pure ?_)
  refine wpAny_bind (wpAny_pure ?_)
  refine wpAny_bind (size_at Ra ?_)
  refine wpAny_bind (size_at Rb ?_)
  obtain ⟨la, nda, lla, hma⟩ := SetR.keys Ra
  obtain ⟨lb, ndb, llb, hmb⟩ := SetR.keys Rb
  by_cases hne : na = nb
  · refine wpAny_bind ?_
    refine wp_if_neg (by rw [hne]; simp) ?_
    unfold andM
    refine wpAny_bind (wpAny_bind (wpAny_isInstance hT sub_set_fz (wpAny_pure ?_)))
    refine wp_if_neg (by decide) ?_
    refine subset_at Ra Rb hne fun c hc => wpAny_pure ⟨_, rfl, (fun z => by cases z), hQ c (hc.trans ⟨fun h k => ?_, fun h k hk => by rw [← h k]; exact hk⟩)⟩
    have hl : la.length = lb.length := by omega
    have sub : ∀ k ∈ la, k ∈ lb := fun k hk => (hmb k).1 (h k ((hma k).2 hk))
    cases hz : Sb k with
    | true => exact (hma k).2 (whole_of nda ndb hl sub k ((hmb k).1 hz))
    | false =>
      cases hy : Sa k with
      | true => rw [h k hy] at hz; cases hz
      | false => rfl
  · refine wpAny_bind ?_
    refine wp_if_pos (by simpa using hne) ?_
    refine wpAny_pure (wpAny_pure ⟨_, rfl, (fun z => by cases z), hQ false ⟨(fun z => by cases z), fun h => ?_⟩⟩)
    refine absurd ?_ hne
    rw [← lla, ← llb]
    exact perm_nodup nda ndb fun k => by rw [← hma k, ← hmb k, h k]

/-! ### set(list) -/
abbrev nuS (w : World) : Obj := { cls := .type "set", dict := none, data := .set #[] 0 (.fresh 0 0 (!w.params.followText "set-order")) }
/-- what a loop of set.update leaves at S -/
def LoopGives (P : Program) (w : World) (items : Array Value) (Good : Heap → Addr → Prop) : Prop :=
  ∀ (A1 : Around) (I : Addr) (fp wr : List Addr) (G : Array GenState → Array GenState → Prop) (Sx : Nat → Shared → Prop) (R : Result → Shared → Prop) (S : Addr) (s : Shared),
    WalksS P w A1.in1 I fp wr G items.size (fun i v => items[i]? = some v) Sx → S ∉ fp → Sx 0 s → s.heap.get? S = some (nuS w) →
    (∀ s', Moved (S :: wr) G s s' → Good s'.heap S → R (.ok (.ret .none)) s') → codeAny (model P w) A1 (.builtin "set.update.loop" ⟨[.ref S, .ref I], []⟩) R s

theorem set_of_list {l : Addr} {items : Array Value} {Good : Heap → Addr → Prop} {Q : Value → Shared → Prop} (hh : A.handled = none) (hl : s.heap.IsList l items) (loop : LoopGives P w items Good)
    (h : ∀ (h' : Heap) (tk : Nat), Good h' s.heap.objs.size → (∀ b o, s.heap.get? b = some o → h'.get? b = some o) → Q (.ref s.heap.objs.size) { s with heap := h', toks := tk }) :
    wpAny (model P w) A (call (.type "set") [.ref l]) Q E s := by
  obtain ⟨c0, tl0, hmro⟩ := PySem.F.called_set.mro
  have hmade := PySem.F.called_set.made
  have hsub := PySem.F.called_set.sub
  have g1 := PySem.F.called_set.notType
  have g2 := PySem.F.called_set.canCreate
  have g3 := PySem.F.typeCall_set_1 (.ref l)
  refine wpAny_call (codeAny_of_tree ?_)
  show wpAny _ _ (callAny (.type "set") ⟨[.ref l], []⟩) _ _ s
  refine wpAny_pure ⟨Code.quiet_builtin _ (by decide +kernel), codeAny_builtin PySem.F.entry_type_call ?_⟩
  rw [Around.under_plain (weight_type_call_type "set" [.ref l] []) rfl]
  repeat (any_goals (first | assumption | wp_step))
  refine codeAny_mono (code_set_led1 (.ref l) (E := E) (Q₁ := fun obj z => obj = .ref s.heap.objs.size ∧ z = { s with heap := s.heap.push (nuS w) }) ⟨rfl, rfl⟩) fun r z hr => ?_
  cases r with
  | error e => exact hr
  | ok fl =>
    cases fl with
    | ret obj =>
      obtain ⟨rfl, rfl⟩ := hr
      have hS : (s.heap.push (nuS w)).get? s.heap.objs.size = some (nuS w) := Heap.get?_push_size _ rfl
      have hT : Shared.TypeIs { s with heap := s.heap.push (nuS w) } (.ref s.heap.objs.size) "set" := ⟨_, hS, rfl⟩
      have g4 := PySem.F.called_set.init.lookup
      have g5 := PySem.F.called_set.init.bind (.ref s.heap.objs.size)
      repeat (any_goals (first | assumption | wp_step))
      refine codeAny_mono (codeAny_call_builtin (R := wants (fun r z => r = .none ∧ ∃ h' tk, z = { s with heap := h', toks := tk } ∧ Good h' s.heap.objs.size ∧ (∀ b o, s.heap.get? b = some o → h'.get? b = some o)) E)
        PySem.F.called_set.init.plain PySem.F.entry_set_init (check_set_init_1 hT ?_)) fun r2 z2 hr2 => ?_
      · obtain ⟨ol, hol, hcl, nl, hdl⟩ := hl
        obtain ⟨c1, d1, k1, s1⟩ := ol
        simp only at hcl hdl
        subst hcl
        subst hdl
        have hol2 : (s.heap.push (nuS w)).get? l = some { cls := .type "list", dict := d1, data := .seq items nl, slots := s1 } := Heap.get?_push_of_some _ hol
        have i1 := PySem.F.sub_list_set
        have i2 := PySem.F.sub_list_frozenset
        have i3 : (Value.type "list" == Value.type "dict") = false := by decide
        have hl1 : (s.heap.push (nuS w)).IsList l items := ⟨_, hol2, rfl, nl, rfl⟩
        unfold Builtin.«set.__init__» noKeywords Builtin.Frozenset.updateFrom
        generalize hPI : pyIter = PI
        wp_walk
        subst hPI
        refine wpAny_pyIter_list hl1 (wpAny_bind (wpAny_runValue ?_))
        have lS : l < s.heap.objs.size := Heap.lt_size hol
        have h3 : A.in1.in1.in1.handled = none := by simp [hh]
        have nI : l ≠ (s.heap.push (nuS w)).objs.size := by
          rw [Heap.size_push]
          exact Nat.ne_of_lt (Nat.lt_succ_of_lt lS)
        have nS : s.heap.objs.size ∉ [(s.heap.push (nuS w)).objs.size, l] := by
          rw [Heap.size_push]
          simp only [List.mem_cons, List.not_mem_nil, or_false, not_or]
          exact ⟨Nat.ne_of_lt (Nat.lt_succ_self _), Nat.ne_of_gt lS⟩
        refine loop _ _ _ _ _ _ _ s.heap.objs.size _ ((Walks.list h3 _ l nI items).toS) nS ⟨⟨_, Heap.get?_push_size _ rfl, rfl, rfl⟩, (hl1.push _)⟩ (Heap.get?_push_of_some _ hS) fun s' hm hG => ?_
        obtain ⟨h', g', d', tk', os'⟩ := s'
        have eg : g' = s.gens := hm.gens
        have ed : d' = s.drawn := hm.drawn
        have eo : os' = s.os := hm.os
        subst eg
        subst ed
        subst eo
        refine wpAny_pure (wpAny_pure ⟨rfl, h', tk', rfl, hG, fun b o e => ?_⟩)
        have b0 : b < s.heap.objs.size := Heap.lt_size e
        have b2 : b ≠ (s.heap.push (nuS w)).objs.size := by
          rw [Heap.size_push]
          exact Nat.ne_of_lt (Nat.lt_succ_of_lt b0)
        refine hm.heap b o ?_ (Heap.get?_push_of_some _ (Heap.get?_push_of_some _ e))
        simp only [List.mem_cons, List.not_mem_nil, or_false, not_or]
        exact ⟨Nat.ne_of_lt b0, b2⟩
      · cases r2 with
        | error e => exact hr2
        | ok fl2 =>
          cases fl2 with
          | ret r =>
            obtain ⟨rfl, h', tk, rfl, hG, hk⟩ := hr2
            repeat (any_goals (first | assumption | wp_step))
            exact h _ _ hG hk
          | _ => exact hr2.elim
    | _ => exact hr.elim
end
end KW
end

section
set_option Elab.async false
set_option linter.all false
set_option maxRecDepth 100000
set_option maxHeartbeats 4000000
namespace KW
open PySem PySem.Spec PyProof.Rows L2
section
variable {P : Program} {w : World} {A : Around} {E : Value → Shared → Prop} {s : Shared} {a : Addr}
/-- how many unlike ones -/
def dcount {α : Type} [DecidableEq α] : List α → Nat
  | [] => 0
  | x :: r => (if x ∈ r then 0 else 1) + dcount r
theorem dcount_le {α : Type} [DecidableEq α] : ∀ l : List α, dcount l ≤ l.length
  | [] => Nat.le_refl _
  | x :: r => by
    have := dcount_le r
    show (if x ∈ r then 0 else 1) + dcount r ≤ r.length + 1
    split <;> omega
theorem dcount_nodup {α : Type} [DecidableEq α] : ∀ l : List α, (dcount l = l.length ↔ l.Nodup)
  | [] => ⟨fun _ => List.nodup_nil, fun _ => rfl⟩
  | x :: r => by
    have ih := dcount_nodup r
    have h2 := dcount_le r
    rw [List.nodup_cons]
    show (if x ∈ r then 0 else 1) + dcount r = r.length + 1 ↔ _
    constructor
    · intro h
      split at h
      · omega
      · rename_i hn
        exact ⟨hn, ih.1 (by omega)⟩
    · rintro ⟨hn, nd⟩
      rw [if_neg hn, ih.2 nd]
      omega
/-- behind one more at the end -/
theorem dcount_more {α : Type} [DecidableEq α] (x : α) : ∀ l : List α, dcount (l ++ [x]) = dcount l + (if x ∈ l then 0 else 1)
  | [] => by simp [dcount]
  | y :: r => by
    have ih := dcount_more x r
    show (if y ∈ r ++ [x] then 0 else 1) + dcount (r ++ [x]) = (if y ∈ r then 0 else 1) + dcount r + (if x ∈ y :: r then 0 else 1)
    rw [ih]
    by_cases e : x = y
    · subst e
      by_cases hx : x ∈ r
      · simp [hx]
      · simp [hx]
        omega
    · have e2 : ¬ y = x := fun z => e z.symm
      by_cases hy : y ∈ r <;> by_cases hx : x ∈ r <;> simp [hy, hx, e, e2] <;> omega

/-- set(..) of ints -/
theorem loop_ints {items : Array Value} {ns : List Int} (hi : IntsAre items.toList ns) (hb : ns.length + 1 < scanBound) :
    LoopGives P w items (fun h S => ∃ c, SetR w h S (fun j => decide (j ∈ ns)) c) := by
  intro A1 I fp wr G Sx R S s W hSf h0 hS hR
  have hsz : items.size = ns.length := by
    have q := IntsAre.length hi
    rw [Array.length_toList] at q
    exact q
  have hval : ∀ (i : Nat) (v : Value), items[i]? = some v → ∃ k t, ns[i]? = some k ∧ v = .int k t := fun i v hv => by
    have hlt : i < ns.length := by
      rw [← hsz]
      exact (Array.getElem?_eq_some_iff.mp hv).1
    obtain ⟨t, e⟩ := PyProof.Rows.IntsAre.int_at hi i v (by rw [Array.getElem?_toList]; exact hv)
    refine ⟨ns[i], t, List.getElem?_eq_getElem hlt, ?_⟩
    rw [e, List.getD_eq_getElem?_getD, List.getElem?_eq_getElem hlt] <;> rfl
  exact set_update_ints W S hSf ns hsz hb hval (items.size - 0) 0 s rfl (Nat.zero_le _) h0 ⟨0, Nat.le_refl _, setR_new_at hS⟩ fun s' c hm _ R' => hR s' hm ⟨c, R'⟩

theorem strs_val : ∀ {us : List Value} {xs : List Str}, StrsAre us xs → ∀ (i : Nat) (v : Value), us[i]? = some v → ∃ x t, xs[i]? = some x ∧ v = .str x t
  | _, _, .nil, i, v, h => by simp at h
  | _, _, .cons n t hr, 0, v, h => by
    simp at h
    exact ⟨n, t, rfl, h.symm⟩
  | _, _, .cons n t hr, i + 1, v, h => by
    simp only [List.getElem?_cons_succ] at h
    exact strs_val hr i v h
theorem strs_len : ∀ {us : List Value} {xs : List Str}, StrsAre us xs → us.length = xs.length
  | _, _, .nil => rfl
  | _, _, .cons _ _ h => congrArg (· + 1) (strs_len h)

/-- set(..) of texts: how many unlike ones -/
theorem loop_strs {items : Array Value} {xs : List Str} (hi : StrsAre items.toList xs) (hb : xs.length + 1 < scanBound) :
    LoopGives P w items (fun h S => h.SetOf (PySem.strKind P w) S (fun j => decide (j ∈ xs)) (dcount xs)) := by
  intro A1 I fp wr G Sx R S s W hSf h0 hS hR
  have hsz : items.size = xs.length := by
    have q := strs_len hi
    rw [Array.length_toList] at q
    exact q
  have hSw : S ∉ wr := fun h => hSf (W.sub _ h)
  have up : ∀ b ∈ wr, b ∈ S :: wr := fun b hb => List.mem_cons_of_mem _ hb
  have go : ∀ (k i : Nat) (z : Shared), items.size - i = k → i ≤ items.size → Sx i z → Moved (S :: wr) G s z → z.heap.SetOf (PySem.strKind P w) S (fun j => decide (j ∈ xs.take i)) (dcount (xs.take i)) →
      codeAny (model P w) A1 (.builtin "set.update.loop" ⟨[.ref S, .ref I], []⟩) R z := by
    intro k
    induction k with
    | zero =>
      intro i z hk hle hst hm hz
      have hin : i = items.size := by omega
      refine codeAny_builtin F.entry_set_update_loop ?_
      rw [Around.under_plainId F.plain_set_update_loop _]
      show wpAny _ A1.in1 (pyNext (.ref I) >>= _) _ _ z
      subst hin
      refine wpAny_bind (W.done z _ _ hst fun z' hm' => wpAny_pure (hR z' (Moved.trans W.gtrans hm (hm'.mono up)) ?_))
      rw [hsz, List.take_length] at hz
      obtain ⟨o, es, ep, t, ho, rest⟩ := hz
      exact ⟨o, es, ep, t, hm'.heap S _ hSw ho, rest⟩
    | succ k ih =>
      intro i z hk hle hst hm hz
      have hlt : i < items.size := by omega
      refine codeAny_builtin F.entry_set_update_loop ?_
      rw [Around.under_plainId F.plain_set_update_loop _]
      show wpAny _ A1.in1 (pyNext (.ref I) >>= _) _ _ z
      refine wpAny_bind (W.item i z _ _ hlt hst fun v z' hP hst' hm' => ?_)
      obtain ⟨x, t, hx, rfl⟩ := strs_val hi i v (by rw [Array.getElem?_toList]; exact hP)
      have hz' : z'.heap.SetOf (PySem.strKind P w) S (fun j => decide (j ∈ xs.take i)) (dcount (xs.take i)) := by
        obtain ⟨o, es, ep, tb, ho, rest⟩ := hz
        exact ⟨o, es, ep, tb, hm'.heap S _ hSw ho, rest⟩
      have hd1 := dcount_le (xs.take i)
      have hd2 : (xs.take i).length ≤ xs.length := by
        rw [List.length_take]
        exact Nat.min_le_right _ _
      show wpAny _ A1.in1 (holding [Value.str x t] (setAdd S (.str x t)) >>= _) _ _ z'
      refine wpAny_bind (wpAny_holding ?_)
      unfold setAdd
      refine wpAny_holding (wpAny_bind ((PySem.strKind P w).pyHash (k := x) (strKind_is _ _ _ _) ?_))
      refine wpAny_setAddHashed_of (knd := PySem.strKind P w) (s := { z' with toks := z'.toks + 1 }) (strKind_is _ _ _ _) rfl hz' (by omega) fun h' sb h2 => ?_
      have et : xs.take (i + 1) = xs.take i ++ [x] := by rw [List.take_add_one, hx]; rfl
      have h3 : h'.SetOf (PySem.strKind P w) S (fun j => decide (j ∈ xs.take (i + 1))) (dcount (xs.take (i + 1))) := by
        refine SetOf_congr h2 (fun j => ?_) ?_
        · rw [et]
          by_cases e1 : j ∈ xs.take i <;> by_cases e2 : j = x <;> simp [e1, e2]
        · rw [et, dcount_more]
          by_cases e1 : x ∈ xs.take i <;> simp [e1]
      refine wpAny_pure ⟨plainId_quiet F.plain_set_update_loop _, ih (i + 1) _ (by omega) hlt (W.frame _ z' _ _ hst' (Nat.le_succ _) fun b hb o e => ?_) (Moved.trans W.gtrans hm ((hm'.mono up).then_heap (Nat.le_succ _) fun b o hb e => ?_)) h3⟩
      · rw [sb.2 b (fun q => hSf (by rw [← q]; exact hb))]
        exact e
      · rw [sb.2 b (fun q => hb (by rw [q]; exact List.mem_cons_self))]
        exact e
  refine go (items.size - 0) 0 s rfl (Nat.zero_le _) h0 (Moved.refl W.grefl) ?_
  refine ⟨_, #[], 0, _, hS, ⟨rfl, rfl, rfl⟩, rfl, (fun e he => by simp at he), (fun k => by simp), (by decide), (by rfl), rfl⟩
end
end KW
end

section
set_option Elab.async false
set_option linter.all false
set_option maxRecDepth 100000
set_option maxHeartbeats 4000000
namespace KW
open PySem PySem.Spec PyProof.Rows L2
section
variable {X : Cx}
/-- the invariant behind a new object -/
theorem inv_new {pins : List (Addr × Obj)} {σ : L2.St} {H : Hp} {s s' : Shared} {r : Addr} {o : HO} (I : Inv X pins σ H s) (hN : NewAt s r s') (new : ∀ H', ObjOk X.prog X.w H' s'.heap r o) : Inv X pins σ (upd H r o) s' ∧ H r = none := by
  obtain ⟨h', d, tk, rfl, hr, k⟩ := hN
  have hn : H r = none := I.hok.fresh hr
  exact ⟨I.call (g' := s.gens) (ch := []) (Un.laid k hr hn) (I.hok.laid k hr (new _)) I.bare (fun _ z => nomatch z), hn⟩
/-- set(xs), xs a list of ints -/
def rSetI (K : PySem.W.Frag) (w : World) : List V → Hp → VK → Prop := fun xs H Q => ∃ (l : Addr) (ns : List Int), xs = [.ref l] ∧ SqL K H l (ns.map V.int) ∧ ns.length ≤ 1000 ∧
  ∀ p c, H p = none → (ns.Nodup → c = ns.length) → Q (.ref p) (upd H p (SetO w p (fun j => decide (j ∈ ns)) c))
theorem cr_setI (hc : X.calm = true) : CallR X (.type "set") (rSetI X.K X.w) := by
  intro pins s σ H xs us Q I r h
  obtain ⟨l, ns, rfl, hl, hz, q⟩ := h
  rw [Vals.ref1 r]
  obtain ⟨its, r2, pl, hz2⟩ := I.list hl
  refine set_of_list (I.ok.hd hc) pl.isList (loop_ints (ns := ns) (by simpa using ints_of_vals r2) (by unfold scanBound; omega)) fun h' tk ⟨c, R⟩ k => ?_
  obtain ⟨J, hn⟩ := inv_new (o := SetO X.w s.heap.objs.size (fun j => decide (j ∈ ns)) c) I (s' := { s with heap := h', toks := tk }) ⟨h', s.drawn, tk, rfl, Nat.le_refl _, k⟩ (fun _ => setO_new R)
  exact ⟨.ref _, _, J, rfl, q _ c hn fun nd => SetR.count R nd fun k => decide_eq_true_iff⟩
/-- a & b, a - b -/
def rAndS (w : World) : R2 := fun x y H Q => ∃ (a b : Addr) (Sa Sb : Int → Bool) (na nb : Nat), x = .ref a ∧ y = .ref b ∧ a ≠ b ∧ H a = some (SetO w a Sa na) ∧ H b = some (SetO w b Sb nb) ∧ na ≤ 1000 ∧ nb ≤ 1000 ∧
  ∀ p c, H p = none → Q (.ref p) (upd H p (SetO w p (fun k => Sa k && Sb k) c))
theorem op_andS : OpR X (binaryOp .BitAnd) (rAndS X.w) := by
  intro pins s σ H x y v u Q I rx ry h
  obtain ⟨a, b, Sa, Sb, na, nb, rfl, rfl, ne, ha, hb, h1, h2, q⟩ := h
  cases rx
  cases ry
  refine and_at (setO_get I ha) (setO_get I hb) ne (by unfold scanBound; omega) (by unfold scanBound; omega) fun s' r c hN R => ?_
  obtain ⟨J, hn⟩ := inv_new (o := SetO X.w r (fun k => Sa k && Sb k) c) I hN (fun _ => setO_new R)
  exact ⟨.ref r, _, J, rfl, q r c hn⟩
def rSubS (w : World) : R2 := fun x y H Q => ∃ (a b : Addr) (Sa Sb : Int → Bool) (na nb : Nat), x = .ref a ∧ y = .ref b ∧ H a = some (SetO w a Sa na) ∧ H b = some (SetO w b Sb nb) ∧ na ≤ 1000 ∧ na / 4 ≤ nb ∧
  ∀ p c, H p = none → Q (.ref p) (upd H p (SetO w p (fun k => Sa k && !Sb k) c))
theorem op_subS : OpR X (binaryOp .Sub) (rSubS X.w) := by
  intro pins s σ H x y v u Q I rx ry h
  obtain ⟨a, b, Sa, Sb, na, nb, rfl, rfl, ha, hb, h1, h2, q⟩ := h
  cases rx
  cases ry
  refine sub_at (setO_get I ha) (setO_get I hb) (by unfold scanBound; omega) h2 fun s' r c hN R => ?_
  obtain ⟨J, hn⟩ := inv_new (o := SetO X.w r (fun k => Sa k && !Sb k) c) I hN (fun _ => setO_new R)
  exact ⟨.ref r, _, J, rfl, q r c hn⟩
/-- a == b -/
def rEqS (w : World) : R2 := fun x y H Q => ∃ (a b : Addr) (Sa Sb : Int → Bool) (na nb : Nat), x = .ref a ∧ y = .ref b ∧ H a = some (SetO w a Sa na) ∧ H b = some (SetO w b Sb nb) ∧
  ∀ c : Bool, (c = true ↔ ∀ k, Sa k = Sb k) → Q (.bl c) H
theorem op_eqS (hu : X.A.units < cLine) : OpR X (compareOp .Eq) (rEqS X.w) := by
  intro pins s σ H x y v u Q I rx ry h
  obtain ⟨a, b, Sa, Sb, na, nb, rfl, rfl, ha, hb, q⟩ := h
  cases rx
  cases ry
  exact equal_at (setO_get I ha) (setO_get I hb) hu fun c hc => ⟨.bl c, H, I, rfl, q c hc⟩
/-- len(a) -/
def rLenSI (w : World) : List V → Hp → VK → Prop := fun xs H Q => ∃ (a : Addr) (S : Int → Bool) (n : Nat) (l : List Int), xs = [.ref a] ∧ H a = some (SetO w a S n) ∧ l.Nodup ∧ (∀ k, S k = true ↔ k ∈ l) ∧ (l.length = n → Q (.int l.length) H)
theorem cr_lenSI : CallR X (.builtin "len") (rLenSI X.w) := by
  intro pins s σ H xs us Q I r h
  obtain ⟨a, S, n, l, rfl, ha, nd, hm, q⟩ := h
  rw [Vals.ref1 r]
  have R := setO_get I ha
  have hn := SetR.count R nd hm
  obtain ⟨o2, es2, ep2, t2, ho2, hx, hd2, g, nd2, hmm, hbb, hf, hn2, hr, hl2⟩ := R
  refine call_len_set ho2 hx hd2 hf (by unfold scanBound at hbb; omega) ⟨.int l.length, H, I.tok _, ⟨_, by rw [hn2, hn]⟩, q hn.symm⟩
/-- the number that the heap knows of -/
theorem cnt {w : World} {H : Hp} {a : Addr} {S : Int → Bool} {n : Nat} {P : Program} {h : Heap} (ok : HOk P w H h) (ha : H a = some (SetO w a S n)) {l : List Int} (nd : l.Nodup) (hm : ∀ k, S k = true ↔ k ∈ l) : n = l.length :=
  SetR.count ((ok a _ ha).1) nd hm
/-- set(xs), xs a list of texts; its len -/
def SetSO (P : Program) (w : World) (a : Addr) (xs : List Str) : HO := .ext fun h => h.SetOf (PySem.strKind P w) a (fun j => decide (j ∈ xs)) (dcount xs)
def rSetS (K : PySem.W.Frag) (P : Program) (w : World) : List V → Hp → VK → Prop := fun vs H Q => ∃ (l : Addr) (xs : List Str), vs = [.ref l] ∧ SqL K H l (xs.map V.str) ∧ xs.length ≤ 1000 ∧ ∀ p, H p = none → Q (.ref p) (upd H p (SetSO P w p xs))
theorem cr_setS (hc : X.calm = true) : CallR X (.type "set") (rSetS X.K X.prog X.w) := by
  intro pins s σ H xs us Q I r h
  obtain ⟨l, ns, rfl, hl, hz, q⟩ := h
  rw [Vals.ref1 r]
  obtain ⟨its, r2, pl, hz2⟩ := I.list hl
  refine set_of_list (I.ok.hd hc) pl.isList (loop_strs (xs := ns) (by simpa using strsAre_of r2) (by unfold scanBound; omega)) fun h' tk R k => ?_
  obtain ⟨J, hn⟩ := inv_new (o := SetSO X.prog X.w s.heap.objs.size ns) I (s' := { s with heap := h', toks := tk }) ⟨h', s.drawn, tk, rfl, Nat.le_refl _, k⟩ (fun _ => by
    have ⟨o, es, ep, t, ho, rest⟩ := R
    exact ⟨R, ⟨o, ho⟩, fun h1 h2 p k => by
      obtain ⟨o, es, ep, t, ho, rest⟩ := p
      exact ⟨o, es, ep, t, k o ho, rest⟩⟩)
  exact ⟨.ref _, _, J, rfl, q _ hn⟩
def rLenSS (P : Program) (w : World) : List V → Hp → VK → Prop := fun vs H Q => ∃ (a : Addr) (xs : List Str), vs = [.ref a] ∧ H a = some (SetSO P w a xs) ∧ Q (.int (dcount xs)) H
theorem cr_lenSS : CallR X (.builtin "len") (rLenSS X.prog X.w) := by
  intro pins s σ H xs us Q I r h
  obtain ⟨a, l, rfl, ha, q⟩ := h
  rw [Vals.ref1 r]
  have R : s.heap.SetOf (PySem.strKind X.prog X.w) a (fun j => decide (j ∈ l)) (dcount l) := (I.hok a _ ha).1
  obtain ⟨o, es, ep, t, ho, hx, hd, he, hm, hb, hf, hn⟩ := R
  refine call_len_set ho hx hd hf (by unfold scanBound at hb; omega) ⟨.int (dcount l), H, I.tok _, ⟨_, by rw [hn]⟩, q⟩
end
end KW
end

section
set_option Elab.async false
set_option linter.all false
set_option maxRecDepth 100000
set_option maxHeartbeats 4000000
/-! Own exceptions over any built-in base, whose __init__ calls the base's (built-in or own). -/
namespace KW
open PySem PySem.Spec PyProof.Rows L2
/-- own classes, then the tail T -/
def refsT (T : List Value) : List Value → Bool
  | .ref _ :: r => refsT T r
  | l => l == T
/-- what is asked of a built-in base -/
structure BaseOk (B newId initId : String) (T : List Value) : Prop where
  F : ExcBaseFacts B newId initId T
  pass : ∀ self : Value, PySem.refuseLoop self "__setattr__" T = pure ()
  ne : T.isEmpty = false
  obj : T.contains (.type "object") = true
theorem refsT_or {T : List Value} : ∀ l : List Value, refsT T l = true → (∃ c r, l = .ref c :: r ∧ refsT T r = true) ∨ l = T
  | .ref c :: r, e => .inl ⟨c, r, rfl, e⟩
  | [], e => .inr (beq_iff_eq.mp e)
  | .none :: _, e | .ellipsis :: _, e | .notImplemented :: _, e | .bool _ :: _, e | .int _ _ :: _, e | .float _ _ :: _, e | .str _ _ :: _, e | .bytes _ _ :: _, e | .type _ :: _, e | .builtin _ :: _, e => .inr (beq_iff_eq.mp e)
section
variable {B newId initId : String} {T : List Value}
theorem refsT_pass (b : BaseOk B newId initId T) (self : Value) : ∀ l : List Value, refsT T l = true → PySem.refuseLoop self "__setattr__" l = pure () := by
  intro l
  induction l with
  | nil =>
    intro e
    rcases refsT_or [] e with ⟨c, r', q, _⟩ | q
    · cases q
    · rw [q]
      exact b.pass self
  | cons a r ih =>
    intro e
    rcases refsT_or (a :: r) e with ⟨c, r', q, h⟩ | q
    · obtain ⟨rfl, rfl⟩ := List.cons.inj q
      rw [PySem.refuseLoop_ref]
      exact ih h
    · rw [q]
      exact b.pass self
theorem refsT_has (X : String) : ∀ l : List Value, refsT T l = true → l.contains (.type X) = T.contains (.type X) := by
  intro l
  induction l with
  | nil =>
    intro e
    rcases refsT_or [] e with ⟨c, r', q, _⟩ | q
    · cases q
    · rw [q]
  | cons a r ih =>
    intro e
    rcases refsT_or (a :: r) e with ⟨c, r', q, h⟩ | q
    · obtain ⟨rfl, rfl⟩ := List.cons.inj q
      rw [List.contains_cons, ih h]
      rfl
    · rw [q]
theorem refsT_ne (b : BaseOk B newId initId T) : ∀ l : List Value, refsT T l = true → l.isEmpty = false := fun l e => by
  rcases refsT_or l e with ⟨c, r', q, h⟩ | q
  · rw [q]
    rfl
  · rw [q]
    exact b.ne
end
theorem base_VE : BaseOk "ValueError" "ValueError.__new__" "ValueError.__init__" [.type "ValueError", .type "Exception", .type "BaseException", .type "object"] where
  F := F.excBase_ValueError
  pass := fun self => by kernel_rfl
  ne := rfl
  obj := by decide +kernel
theorem base_LE : BaseOk "LookupError" "LookupError.__new__" "LookupError.__init__" [.type "LookupError", .type "Exception", .type "BaseException", .type "object"] where
  F := F.excBase_LookupError
  pass := fun self => by kernel_rfl
  ne := rfl
  obj := by decide +kernel
theorem base_RE : BaseOk "RuntimeError" "RuntimeError.__new__" "RuntimeError.__init__" [.type "RuntimeError", .type "Exception", .type "BaseException", .type "object"] where
  F := F.excBase_RuntimeError
  pass := fun self => by kernel_rfl
  ne := rfl
  obj := by decide +kernel

/-! ### self.name = v -/
section
open Builtin Builtin.ObjectAttr
variable {prog : Program} {w : World} {A : Around} {E : Value → Shared → Prop} {R : Result → Shared → Prop} {hp : Heap} {g : Array GenState} {dr : Drawn} {t : Nat} {os : OsState} {B newId initId : String} {T : List Value}
variable {K : W.Frag} {name : Str} {tk : Tok} {v : Value} {x C : Addr} {fv : Array Value} {cd : ClassData}
/-- up to the own dict's store -/
theorem osa_upto (b : BaseOk B newId initId T) {ox : Obj} {od : Option Obj} (X : K.In hp) (I : W.InstAt hp x ox C od) (hcd : W.clsIn K C = some cd) (hm : refsT T cd.mro = true) (ha : W.findIn K (.ref C) name = some none)
    (hq : wpAny (model prog w) A.in1 (storeInOwnDict (.ref x) (.ref C) (.str name tk) name v false) (fun fin s' => ∃ r, fin = .done (.ret r) ∧ R (.ok (.ret r)) s') (fun e s' => R (.error e) s') ⟨hp, g, dr, t, os⟩) :
    codeAny (model prog w) A (.call (.builtin "object.__setattr__") ⟨[.ref x, .str name tk, v], []⟩) R ⟨hp, g, dr, t, os⟩ := by
  have SF := F.store_object
  have ne := refsT_ne b _ hm
  have hob : cd.mro.contains (.type "object") = true := (refsT_has "object" _ hm).trans b.obj
  have isO : W.Looks (model prog w) hp (isInstance (.ref x) (.type "object")) true :=
    I.type.andThen (W.looks_mroIn X (by unfold W.mroIn; rw [hcd, Option.bind_some, if_neg (by rw [ne]; decide), hob]))
  refine codeAny_call_builtin SF.slot.plain SF.entry (@W.check_slot (model prog w) _ _ ⟨hp, g, dr, t, os⟩ "object.__setattr__" "object" "__setattr__" (.ref x) [.str name tk, v] [] _ SF.kind SF.split isO (SF.args _ _ _) ?_)
  have inMro : W.Looks (model prog w) hp (mroOf (.ref C)) cd.mro := (W.looks_clsIn X hcd).andThen .now
  have noTaker : W.Looks (model prog w) hp (storeTaker? none) none := .now
  rw [W.osa_eq, refuse_eq]
  refine wpAny_bind (wpAny_bind (I.type.at (wpAny_bind (inMro.at ?_))))
  rw [refsT_pass b _ _ hm]
  refine wpAny_pure (wpAny_bind (I.type.at (wpAny_bind ((W.looks_findIn X ha).at (wpAny_bind (noTaker.at ?_))))))
  refine wpAny_mono hq (fun fin s' hf => ?_) fun _ _ hf => hf
  obtain ⟨r, rfl, hr⟩ := hf
  exact hr
theorem osa_first (b : BaseOk B newId initId T) (X : K.In hp) (hx : hp.get? x = some { cls := .ref C, data := .fields fv }) (hcd : W.clsIn K C = some cd) (hm : refsT T cd.mro = true) (hh : cd.hasDict = true) (ha : W.findIn K (.ref C) name = some none)
    (hq : ∀ h' tk' dx, (∀ b o, b ≠ x → hp.get? b = some o → h'.get? b = some o) → hp.objs.size ≤ dx → dx ≠ x → h'.get? x = some { cls := .ref C, dict := some dx, data := .fields fv } →
      h'.Ns1 dx (fun y => if y = name then some v else none) → R (.ok (.ret .none)) ⟨h', g, dr, tk', os⟩) :
    codeAny (model prog w) A (.call (.builtin "object.__setattr__") ⟨[.ref x, .str name tk, v], []⟩) R ⟨hp, g, dr, t, os⟩ := by
  have hcls : W.Looks (model prog w) hp (classData C) cd := W.looks_clsIn X hcd
  have nxs : x ≠ hp.objs.size := Nat.ne_of_lt (Heap.lt_size hx)
  refine osa_upto b (od := none) X ⟨hx, rfl, rfl, trivial⟩ hcd hm ha ?_
  obtain ⟨nm, bs, mro, ns, qn, hd, sn, sb, ab, col, dl⟩ := cd
  dsimp only at hh
  subst hh
  unfold storeInOwnDict ownDictForStores
  repeat (first | with_reducible refine PySem.HandSPX.store_in_new ?_ ?_ | with_reducible refine wpAny_loadPart_at hx ?_ | with_reducible refine hcls.at ?_ | wp_step)
  · exact ⟨_, #[], _, (Heap.get?_update_ne _ _ _ _ nxs.symm).trans (Heap.get?_push_at rfl rfl), rfl, (fun e he => absurd he (by simp)), fun _ => rfl⟩
  · intro h' tk' hn' hs
    have hx1 : (hp.push { cls := .type "dict", data := .dict #[] }).get? x = some { cls := .ref C, data := .fields fv } := Heap.get?_push_of_some _ hx
    refine ⟨_, rfl, hq h' tk' hp.objs.size (fun c o hb ho => ?_) (Nat.le_refl _) nxs.symm ?_ hn'⟩
    · exact (hs.2 c (Nat.ne_of_lt (Heap.lt_size ho))).trans ((Heap.get?_update_ne _ _ _ _ hb).trans (Heap.get?_push_of_some _ ho))
    · exact (hs.2 x nxs).trans (Heap.get?_update_self _ hx1 rfl)
theorem osa_next {dx : Addr} {m0 : Str → Option Value} {nl : List Str} (b : BaseOk B newId initId T) (X : K.In hp) (hx : hp.get? x = some { cls := .ref C, dict := some dx, data := .fields fv }) (hns : hp.Ns1 dx m0) (hw : Within m0 nl) (hz : nl.length ≤ 1000)
    (hcd : W.clsIn K C = some cd) (hm : refsT T cd.mro = true) (hh : cd.hasDict = true) (ha : W.findIn K (.ref C) name = some none)
    (hq : ∀ h' tk', (∀ b o, b ≠ dx → hp.get? b = some o → h'.get? b = some o) → h'.Ns1 dx (fun y => if y = name then some v else m0 y) → R (.ok (.ret .none)) ⟨h', g, dr, tk', os⟩) :
    codeAny (model prog w) A (.call (.builtin "object.__setattr__") ⟨[.ref x, .str name tk, v], []⟩) R ⟨hp, g, dr, t, os⟩ := by
  have hcls : W.Looks (model prog w) hp (classData C) cd := W.looks_clsIn X hcd
  obtain ⟨oD, eD, pD, hoD, hdD, _⟩ := hns.count hw
  refine osa_upto b (od := some oD) X ⟨hx, rfl, rfl, hoD⟩ hcd hm ha ?_
  obtain ⟨nm, bs, mro, ns, qn, hd, sn, sb, ab, col, dl⟩ := cd
  dsimp only at hh
  subst hh
  unfold storeInOwnDict ownDictForStores
  repeat (first | with_reducible refine PySem.OEX.store_in_old hns hw hz ?_ | with_reducible refine wpAny_loadPart_at hx ?_ | with_reducible refine hcls.at ?_ | wp_step)
  intro h' tk' hn' hs
  exact ⟨_, rfl, hq h' tk' (fun c o hb ho => (hs.2 c hb).trans ho) hn'⟩
end

/-- what the written part says of an own exception class over the base B -/
structure OxC (K : PySem.W.Frag) (newId : String) (T : List Value) (C : Addr) : Prop where
  cls : ∃ nm q N bs bm sn sub ab col dd k0 k1 k2 k3 k5, K.lookup C = some (excClassObj nm q C N bs bm true sn sub ab col dd k0 k1 k2 k3 k5 newId) ∧ refsT T bm = true
  sa : PySem.W.findIn K (.ref C) "__setattr__" = some (some (.builtin "object.__setattr__"))
  exC : PySem.W.subIn K (.ref C) (.type "BaseException") = some true
  tyC : PySem.W.typeIn K (.ref C) = some (.type "type")
  kC : PySem.W.keepIn K (.ref C) = true
section
variable {X : Cx} {pins : List (Addr × Obj)} {σ : L2.St} {H : Hp} {s : Shared} {a C dx : Addr} {f : Str} {y : V} {u : Value} {fs : List (Str × V)} {Q : Unit → Shared → Prop} {E : Value → Shared → Prop} {A : Around} {B newId initId : String} {T : List Value}
theorem fld_first (b : BaseOk B newId initId T) (O : OxC X.K newId T C) (I : Inv X pins σ H s) (e : H a = some (exo a C none)) (hno : PySem.W.findIn X.K (.ref C) f = some none) (ry : RelV y u)
    (h : ∀ dx s', H dx = none → dx ≠ a → Inv X pins σ (upd (upd H dx (exd dx [(f, y)])) a (exo a C (some dx))) s' → Q () s') : wpAny (model X.prog X.w) A (setAttr (.ref a) f u) Q E s := by
  obtain ⟨nm, q, N, bs, bm, sn, sub, ab, col, dd, k0, k1, k2, k3, k5, hC, hbm⟩ := O.cls
  have hcl : PySem.W.clsIn X.K C = some { name := nm, bases := bs, mro := .ref C :: bm, ns := N, qualname := q, hasDict := true, slotNames := sn, subclasses := sub, abstract := ab, collection := col, hasDel := false } := by
    unfold PySem.W.clsIn
    rw [hC] <;> rfl
  obtain ⟨t1, ho⟩ := exo_at I.hok e
  obtain ⟨hp, g, d, t, os⟩ := s
  refine PySem.W.set_plain I.kIn (od := none) ⟨ho, rfl, rfl, trivial⟩ O.sa ?_
  refine osa_first b I.kIn ho hcl (show refsT T (.ref C :: bm) = true from hbm) rfl hno (fun h' tk' dx k dn dne hx hn => ?_)
  have hnd : H dx = none := I.hok.fresh dn
  have ndx : ∀ {c : Addr} {o : Obj}, hp.get? c = some o → c ≠ dx := fun {c o} q => Nat.ne_of_lt (Nat.lt_of_lt_of_le (Heap.lt_size q) dn)
  have na : ∀ {c : Addr}, H c = none → c ≠ a := fun {c} n z => by
    rw [z, e] at n
    cases n
  have un : Un X.fs [] H (upd (upd H dx (exd dx [(f, y)])) a (exo a C (some dx))) hp h' :=
    ⟨fun c o q n _ _ => k c o (na n) q, fun c o q n _ _ => ⟨o.slots, k c o (na n) q⟩,
      fun c o q n _ => by
        rw [upd_ne (na n), upd_ne (ndx q)]
        exact n,
      fun c o q _ => by
        by_cases hc : c = a
        · exact ⟨_, by rw [hc]; exact hx⟩
        · exact ⟨o, k c o hc q⟩,
      fun c xs q => by
        rw [upd_ne (at_ne e q exo_tup), upd_ne (ne_of_none q hnd)]
        exact q,
      fun c o v q => by
        rw [upd_ne (at_ne e q exo_frz), upd_ne (ne_of_none q hnd)]
        exact q,
      fun c ps q => ⟨#[], by rw [upd_ne (at_ne e q exo_tbl), upd_ne (ne_of_none q hnd), q]; simp⟩⟩
  refine h dx _ hnd dne (I.un (t' := tk') un fun c o q => ?_)
  by_cases hca : c = a
  · subst hca
    rw [upd_same] at q
    cases q
    exact exo_ok hx
  · rw [upd_ne hca] at q
    by_cases hcd : c = dx
    · subst hcd
      rw [upd_same] at q
      cases q
      exact exd_ok hn (relO_put (fs := []) ry fun g => True.intro)
    · rw [upd_ne hcd] at q
      refine (I.hok c o q).stay (fun c2 v hc z => k c2 v ?_ z) (fun c2 hc => ?_) (fun c2 xs hc => ?_)
      · rcases hc with hc | hc
        · rw [hc]
          exact hca
        · exact at_ne e hc exo_own
      · rw [upd_ne (at_ne e hc exo_own), upd_ne (ne_of_none hc hnd)]
        exact hc
      · rw [upd_ne (at_ne e hc exo_tup), upd_ne (ne_of_none hc hnd)]
        exact hc
theorem fld_next (b : BaseOk B newId initId T) (O : OxC X.K newId T C) (I : Inv X pins σ H s) (e : H a = some (exo a C (some dx))) (ed : H dx = some (exd dx fs)) (hl : fs.length ≤ 900) (hno : PySem.W.findIn X.K (.ref C) f = some none) (ry : RelV y u)
    (h : ∀ s', Inv X pins σ (upd H dx (exd dx ((f, y) :: fs))) s' → Q () s') : wpAny (model X.prog X.w) A (setAttr (.ref a) f u) Q E s := by
  obtain ⟨nm, q, N, bs, bm, sn, sub, ab, col, dd, k0, k1, k2, k3, k5, hC, hbm⟩ := O.cls
  have hcl : PySem.W.clsIn X.K C = some { name := nm, bases := bs, mro := .ref C :: bm, ns := N, qualname := q, hasDict := true, slotNames := sn, subclasses := sub, abstract := ab, collection := col, hasDel := false } := by
    unfold PySem.W.clsIn
    rw [hC] <;> rfl
  obtain ⟨t1, ho⟩ := exo_at I.hok e
  obtain ⟨mA, hns, rel⟩ := exd_at I.hok ed
  have hw := within_of rel
  obtain ⟨hp, g, d, t, os⟩ := s
  obtain ⟨oD, _, _, hoD, _, _⟩ := hns.count hw
  refine PySem.W.set_plain I.kIn (od := some oD) ⟨ho, rfl, rfl, hoD⟩ O.sa ?_
  refine osa_next b I.kIn ho hns hw (by rw [List.length_map]; omega) hcl (show refsT T (.ref C :: bm) = true from hbm) rfl hno (fun h' tk' k hn => ?_)
  have there : ∃ o, h'.get? dx = some o := by
    obtain ⟨o, _, _, e', _⟩ := hn
    exact ⟨o, e'⟩
  exact h _ (I.write (t' := tk') (x := dx) (e := dx) (o := exd dx ((f, y) :: fs)) (by rw [ed]; exact True.intro) (.inl rfl) k there (exd_ok hn (relO_put ry rel)))
/-- B.__init__(self, ..) -/
theorem binit_ok {us : List Value} {Q : Value → Shared → Prop} (b : BaseOk B newId initId T) (O : OxC X.K newId T C) (I : Inv X pins σ H s) (e : H a = some (exo a C none)) (hl : us.length ≤ sizeLine) (h : ∀ s', Inv X pins σ H s' → Q .none s') :
    wpAny (model X.prog X.w) A (call (.builtin initId) (.ref a :: us)) Q E s := by
  obtain ⟨nm, q, N, bs, bm, sn, sub, ab, col, dd, k0, k1, k2, k3, k5, hC, hbm⟩ := O.cls
  obtain ⟨t1, ho⟩ := exo_at I.hok e
  obtain ⟨hp, g, d, t, os⟩ := s
  refine wpAny_call (PySem.HandSPX.init_base b.F (fun Y => refsT_has Y bm hbm) (I.kIn _ _ hC) ho hl fun h' t2 k hx => ?_)
  have J := I.write (t' := t) (x := a) (e := a) (o := exo a C none) (by rw [e]; exact True.intro) (.inl rfl) k ⟨_, hx⟩ (exo_ok hx)
  have eu : upd H a (exo a C none) = H := funext fun c => by
    by_cases hc : c = a
    · rw [hc, upd_same, e]
    · rw [upd_ne hc]
  rw [eu] at J
  exact h _ J
end
end KW
end

section
set_option Elab.async false
set_option linter.all false
set_option maxRecDepth 100000
set_option maxHeartbeats 4000000
namespace KW
open PySem PySem.Spec PyProof.Rows L2
/-- B.__init__(self, ..), B a built-in -/
def tBI (K : PySem.W.Frag) (newId : String) (T : List Value) (ta : TA) : TE := fun σ H Q => ta σ H fun vs H1 => ∃ (a C : Addr) (ws : List V), vs = .ref a :: ws ∧ ws.length ≤ 1000 ∧ OxC K newId T C ∧ H1 a = some (exo a C none) ∧ Q .non H1
/-- self.f = e -/
def tFx (K : PySem.W.Frag) (newId : String) (T : List Value) (f : Str) (to te : TE) : TS := fun D σ H => te σ H fun y H1 => to σ H1 fun x H2 => ∃ a C : Addr, x = .ref a ∧ OxC K newId T C ∧ PySem.W.findIn K (.ref C) f = some none ∧
  ((H2 a = some (exo a C none) ∧ ∀ dx, H2 dx = none → dx ≠ a → D.nx σ (upd (upd H2 dx (exd dx [(f, y)])) a (exo a C (some dx)))) ∨
    ∃ (dx : Addr) (fs : List (Str × V)), H2 a = some (exo a C (some dx)) ∧ H2 dx = some (exd dx fs) ∧ fs.length ≤ 900 ∧ D.nx σ (upd H2 dx (exd dx ((f, y) :: fs))))
section
variable {X : Cx} {o e : Expr} {es : List Expr} {to te : TE} {ta : TA} {f : Str} {p p' p1 p2 pos : Pos} {B newId initId : String} {T : List Value}
theorem pe_binit {x : Str} {pl : Sem Bool} (b : BaseOk B newId initId T) (hg : Gl X x) (hm : X.mg x = none) (hv : bootBuiltins x = some (.type B)) (ht : typeOf (.type B) = pure (.type "type")) (hs : Manifest.isStub B = false)
    (vV : PySem.W.findCls X.K (.type B) (.type "type") "__init__" = some (.val (.builtin initId))) (ha : PA X (e :: es) ta)
    (hc : eval (.Call (.Attribute (.Name x p1) "__init__" p2) (e :: es) [] pos) X.env = (do
      let ov ← eval (.Name x p1) X.env
      standAt p2.atName
      let (f, first) ← holding [ov] (getMethod ov "__init__" pl)
      callWith pos f first (backTo pos (starEach (e :: es) X.env)) (backToKw pos (keywordEach [] X.env))) := by rfl)
    (hd1 : x ≠ "__name__" := by decide) (hd2 : (x == ("__debug__" : Str)) = false := by decide) (hh : PySem.W.handedIn (.builtin initId) = true := by decide +kernel)
    (he : starEach (e :: es) X.env = (false, eval e X.env) :: starEach es X.env := by rfl) (hpl : (backTo pos (starEach es X.env)).any (·.1) = false := by rfl) :
    PE X (.Call (.Attribute (.Name x p1) "__init__" p2) (e :: es) [] pos) (tBI X.K newId T ta) := by
  refine ⟨fun pins s σ H Q I h => ?_⟩
  refine PySem.W.methodCall_KW (ld_blt I hg hm hv ?_ hd1 hd2) hc
  obtain ⟨m, fr⟩ := I.fr
  refine PySem.W.method_type fr I.ok.mod.kin ht hs vV hh ?_
  show wpAny _ _ (callWith pos (Value.builtin initId) [] (backTo pos (starEach (e :: es) X.env)) []) _ _ _
  refine PyProof.Rows.callWith_method1 (thn (ha.run pos pins _ σ H _ (I.tok _) h) fun us s1 ⟨vs, H1, I1, r1, a, C, ws, ev, hl, O, ea, q⟩ => ?_) he hpl
  subst ev
  cases r1 with
  | @cons _ u0 _ ur ra rr =>
    obtain rfl : u0 = Value.ref a := ra
    have hlen : ur.length ≤ sizeLine := by
      rw [← Paired.length rr, sizeLine_eq]
      omega
    exact binit_ok b O I1 ea hlen fun s' J => ⟨.non, H1, J, rfl, q⟩
/-- D.__init__(self, ..), D an own class -/
theorem pe_oinit {CX : CXT} {x : Str} {pl : Sem Bool} {C fI : Addr} {mc : Value} {k : Nat} {fd : FuncData} {ps : List Str} {sp : Sp} {ds : List Value} {dvs : List V} {E : XK} (F : FnOk X.prog X.w X.K X.mg X.base CX k fI fd ps sp) (hr : Room k X.A)
    (hg : Gl X x) (hm : X.mg x = some (.ref C)) (r : ClX.CRead X.K C mc) (hf : PySem.W.findCls X.K (.ref C) mc "__init__" = some (.val (.ref fI))) (hk : PySem.W.keepIn X.K (.ref fI) = true) (hb : Binds X.K fd ps ds) (hd : Vals dvs ds) (hx : Passes CX X E) (ha : PA X (e :: es) ta)
    (hc : eval (.Call (.Attribute (.Name x p1) "__init__" p2) (e :: es) [] pos) X.env = (do
      let ov ← eval (.Name x p1) X.env
      standAt p2.atName
      let (f, first) ← holding [ov] (getMethod ov "__init__" pl)
      callWith pos f first (backTo pos (starEach (e :: es) X.env)) (backToKw pos (keywordEach [] X.env))) := by rfl)
    (hdb : (x == ("__debug__" : Str)) = false := by decide) (he : starEach (e :: es) X.env = (false, eval e X.env) :: starEach es X.env := by rfl) (hpl : (backTo pos (starEach es X.env)).any (·.1) = false := by rfl) :
    PE X (.Call (.Attribute (.Name x p1) "__init__" p2) (e :: es) [] pos) (tCall sp dvs E ta) := by
  refine ⟨fun pins s σ H Q I h => ?_⟩
  refine PySem.W.methodCall_KW (ld_glob I hg hm ?_ hdb) hc
  refine PySem.W.method_cls I.kIn r.ga (PySem.W.cls_value I.kIn r.rd hf rfl ?_)
  have I0 := I.tok (s.toks + 1)
  refine PySem.W.callWith_K (h₀ := X.base) I0.ok.mod.kin hk (thn (ha.run pos pins _ σ H _ I0 h) fun us s1 ⟨vs, H1, I1, r1, q⟩ => ⟨I1.kIn, ?_⟩) he hpl
  exact run_fn F hr hb hd hx I1 r1 q
theorem ps_fx (b : BaseOk B newId initId T) (ho : PE X o to) (he : PE X e te) (hs : swapsWith e (some (.Attribute o f p')) pos.line X.env = pure false := by rfl) : PS X (.Assign [.Attribute o f p'] e pos) (tFx X.K newId T f to te) := by
  refine ⟨fun pins s σ H D I h => ?_⟩
  refine plainObj_wpAny_Assign_Attribute (thn (he.run pins s σ H _ I h) fun v s1 ⟨y, H1, I1, r1, q1⟩ => thn (ho.run pins s1 σ H1 _ I1 q1) fun u s2 ⟨x, H2, I2, r2, a, C, ex, O, hno, q⟩ => ?_) hs
  subst ex
  obtain rfl : u = Value.ref a := r2
  rcases q with ⟨ea, q⟩ | ⟨dx, fs, ea, ed, hl, q⟩
  · exact fld_first b O I2 ea hno r1 fun dx s' n ne J => ⟨σ, _, J, q dx n ne⟩
  · exact fld_next b O I2 ea ed hl hno r1 fun s' J => ⟨σ, _, J, q⟩
/-- C(e, ..): C's own __init__ keeps sp -/
theorem pmk_ox {CX : CXT} {x : Str} {C fI : Addr} {k : Nat} {fd : FuncData} {ps : List Str} {sp : Sp} {ds : List Value} {dvs : List V} (b : BaseOk B newId initId T) (O : OxC X.K newId T C) (iC : PySem.W.findIn X.K (.ref C) "__init__" = some (some (.ref fI)))
    (tI : PySem.W.typeIn X.K (.ref fI) = some (.type "function")) (F1 : FnOk X.prog X.w X.K X.mg X.base CX k fI fd ps sp) (hr : Room (k + 1) X.A) (hb : Binds X.K fd ps ds) (hd : Vals dvs ds) (hx : Passes CX X (fun _ _ _ => False)) (hg : Gl X x) (hm : X.mg x = some (.ref C))
    (ha : PA X (e :: es) ta) (hdb : (x == ("__debug__" : Str)) = false := by decide) (he : starEach (e :: es) X.env = (false, eval e X.env) :: starEach es X.env := by rfl) (hpl : (backTo pos (starEach es X.env)).any (·.1) = false := by rfl) :
    PMk X (.Call (.Name x p) (e :: es) [] pos) (tMkO C sp dvs ta) := by
  intro pins s σ H Q I h
  obtain ⟨nm, q, N, bs, bm, sn, sub, ab, col, dd, k0, k1, k2, k3, k5, hC, hbm⟩ := O.cls
  refine wpAny_Call_Name_kw (ld_glob I hg hm ?_ hdb)
  refine PySem.W.callWith_K (h₀ := X.base) I.ok.mod.kin O.kC (thn (ha.run pos pins s σ H _ I h) fun us s1 ⟨vs, H1, I1, r1, hz, q1⟩ => ⟨I1.kIn, ?_⟩) he hpl
  show wpAny _ _ (call (.ref C) us) _ _ _
  obtain ⟨hp, g, dr, tk, os⟩ := s1
  have up1 : hp.objs.size ≤ hp.objs.size + 1 := Nat.le_succ _
  have hq := q1 (hp.objs.size + 1) (I1.hok.fresh up1)
  generalize hp2e : (hp.push (PySem.W.kdv_tup us)).push (PySem.HandSPX.excO C hp.objs.size) = hp2
  have kk : ∀ c o, hp.get? c = some o → hp2.get? c = some o := fun c o e => by
    rw [← hp2e]
    exact Heap.get?_push_of_some _ (Heap.get?_push_of_some _ e)
  have hget : hp2.get? (hp.objs.size + 1) = some (PySem.HandSPX.excO C hp.objs.size) := by
    rw [← hp2e]
    heap_get
  have I2 : Inv X pins σ (upd H1 (hp.objs.size + 1) (exo (hp.objs.size + 1) C none)) ⟨hp2, g, dr, tk, os⟩ := I1.laid (t' := tk) (a := hp.objs.size + 1) (h' := hp2) kk up1 (exo_ok hget)
  have r2 : Vals (V.ref (hp.objs.size + 1) :: (vs ++ dvs)) (Value.ref (hp.objs.size + 1) :: (us ++ ds)) := .cons rfl (r1.append hd)
  have hl : (Value.ref (hp.objs.size + 1) :: us ++ ds).length = ps.length := by
    have e := r2.length
    rw [F1.len _ _ _ _ hq] at e
    exact e.symm
  have hus : us.length ≤ sizeLine := by
    rw [← Paired.length r1, sizeLine_eq]
    omega
  refine wpAny_call (PySem.HandSPX.call_own b.F (fun Y => refsT_has Y bm hbm) (I1.kIn _ _ hC) (PySem.W.looks_findIn I1.kIn iC) (fun self => PySem.W.bind_fn I1.kIn self tI) hus ?_)
  rw [hp2e]
  refine codeAny_mono (F1.run _ X.stack _ _ ⟨Value.ref (hp.objs.size + 1) :: us, []⟩ (Value.ref (hp.objs.size + 1) :: (us ++ ds)) _ _ (fun _ _ _ => False) (hr.make C us []) (I2.env0.make C us []) (hb _ (Value.ref (hp.objs.size + 1) :: us) I2.kIn hl) r2 hq) fun r s' hq' => ?_
  cases r with
  | error er => exact hx pins σ _ _ er s' I2 hq'
  | ok fl =>
    cases fl with
    | ret u =>
      obtain ⟨v, H2, os2, bare2, un2, hok2, rv, ev, d, fs, ea, ed, hd1, q2⟩ := hq'
      subst ev
      obtain ⟨h2, g2, d2, t2, os'⟩ := s'
      exact ⟨rv, mk_end (raises_own O.exC O.tyC) I1 up1 kk un2 hok2 os2 bare2 ea ed hd1 q2⟩
    | next => exact False.elim hq'
    | brk => exact False.elim hq'
    | cont => exact False.elim hq'
end
end KW
end

section
set_option Elab.async false
set_option linter.all false
set_option maxRecDepth 100000
set_option maxHeartbeats 1000000
namespace KW
open PySem PySem.Spec PyProof.Rows L2
/-- the table at a of the written part has v under the tuple key ks -/
def KTab (K : PySem.W.Frag) (P : Program) (w : World) (a : Addr) (ks : List Key) (v : V) : Prop :=
  ∃ (xs : List (List Key × Addr × Value)) (p : Addr × Value), (∀ h : Heap, K.In h → h.DictOfH (tupleKind (mixKind P w)) a xs) ∧ atKey xs ks = some p ∧ RelV v p.2
def rIxTab (K : PySem.W.Frag) (P : Program) (w : World) : R2 := fun x y H Q => ∃ (a b : Addr) (ks : List Key) (v : V), x = .ref a ∧ y = .ref b ∧ H b = some (.tup (ks.map kV)) ∧ KTab K P w a ks v ∧ Q v H
section
variable {X : Cx}
theorem ix_tab (hu : X.A.units + 1 < cLine) : IxR X (rIxTab X.K X.prog X.w) := by
  intro value slice pins s σ H x y v u Q I rx ry h hs
  obtain ⟨a, b, ks, r, rfl, rfl, hb, ⟨xs, p, hd, hk, rv⟩, q⟩ := h
  obtain rfl : v = Value.ref a := rx
  obtain rfl : u = Value.ref b := ry
  have hm := hd _ I.kIn
  have hroom : (tupleKind (mixKind X.prog X.w)).room X.A.in1 := tupleKind_room_in1 hu
  exact tail_any hm.typeIs slot_dict_getitem.lookup (wpAny_getItem_heap hroom (key_of I.hok hb) hm hk ⟨r, H, I.tok _, rv, q⟩) hs
end
/-- an int as a test -/
def tInt (ta : TE) : TT := fun σ H Q => ta σ H fun x H' => ∃ i : Int, x = .int i ∧ Q (i != 0) H'
theorem pt_int {X : Cx} {a : Expr} {ta : TE} (ha : PE X a ta) (he : ∀ whole, isTrue a X.env whole = (do let v ← whole; standAt a.pos; holding [v] (truthy v))) : PT X a (tInt ta) := by
  refine ⟨fun pins s σ H Q I h => ?_⟩
  refine isTrue_plain (thn (ha.run pins s σ H _ I h) fun v s1 ⟨x, H1, I1, r1, i, ex, q1⟩ => ?_) (he _)
  subst ex
  exact tru_ok pins s1 σ H1 _ v Q I1 r1 ⟨_, rfl, q1⟩
theorem eqvAll_ints : ∀ l m : List Int, PyData.eqvAll (l.map PyData.int) (m.map PyData.int) = decide (l = m)
  | [], [] => by simp [PyData.eqvAll]
  | [], y :: m => by simp [PyData.eqvAll]
  | x :: l, [] => by simp [PyData.eqvAll]
  | x :: l, y :: m => by
    have ih := eqvAll_ints l m
    rw [List.map_cons, List.map_cons]
    show (PyData.eqv (.int x) (.int y) && PyData.eqvAll (l.map PyData.int) (m.map PyData.int)) = _
    rw [ih]
    by_cases e : x = y <;> by_cases e2 : l = m <;> simp [PyData.eqv, e, e2]
theorem eqv_ints (l m : List Int) : PyData.eqv (.tuple (l.map PyData.int)) (.tuple (m.map PyData.int)) = decide (l = m) := by
  rw [← eqvAll_ints l m]
  simp [PyData.eqv]
theorem lay_ints : ∀ l : List Int, PyData.canLayAll0 (l.map PyData.int) = true
  | [] => by simp [PyData.canLayAll0]
  | x :: r => by
    have ih := lay_ints r
    simp [PyData.canLayAll0, PyData.canLay0, ih]
theorem depth_ints : ∀ l : List Int, PyData.depthAll (l.map PyData.int) = 0
  | [] => by simp [PyData.depthAll]
  | x :: r => by
    have ih := depth_ints r
    simp [PyData.depthAll, PyData.depth, ih]
theorem shaped_ints (l : List Int) : SeqAt.shaped (.tuple (l.map PyData.int)) = true := by
  unfold SeqAt.shaped
  simp [PyData.canLay0, PyData.depth, lay_ints, depth_ints]
theorem dp_ints {K : PySem.W.Frag} {H : Hp} : ∀ l : List Int, DpAll K H (l.map V.int) (l.map PyData.int)
  | [] => .nil
  | x :: r => .cons (.int x) (dp_ints r)
theorem fne {K : PySem.W.Frag} {x y q q' : Str} {st st' : Stmt} {f f' : Addr} {fd fd' : FuncData} (F : Fun K x q st f fd) (F' : Fun K y q' st' f' fd') (h : x ≠ y) : f ≠ f' := fun e => by
  obtain ⟨oc, od, kV, doc, pm, an, cdv, ct, osl, rfl, lk, _⟩ := F.ex
  obtain ⟨oc2, od2, kV2, doc2, pm2, an2, cdv2, ct2, osl2, rfl, lk2, _⟩ := F'.ex
  rw [e, lk2] at lk
  injection lk with z
  injection z with _ _ z3 _
  injection z3 with z4
  apply h
  have := congrArg FuncData.name z4
  exact this.symm
end KW
end

section
set_option Elab.async false
set_option linter.all false
set_option maxRecDepth 100000
set_option maxHeartbeats 1000000
namespace KW
open PySem PySem.Spec PyProof.Rows L2
/-- dict(zip(xs, ys)), keys ints or texts -/
def tDz (K : PySem.W.Frag) (ta : TA) : TE := fun σ H Q => ta σ H fun vs H1 => ∃ (a b : Addr) (xs ys : List V) (kvs : List (Key × V)), vs = [.ref a, .ref b] ∧ SqL K H1 a xs ∧ SqL K H1 b ys ∧ xs.zip ys = kvs.map (fun kv => (kV kv.1, kv.2)) ∧
  ∀ p, H1 p = none → Q (.ref p) (upd H1 p (.dK (mergeK [] kvs)))
/-- the pairs on the heap's side -/
theorem zip_kv : ∀ {xs ys : List V} {us ws : List Value} {kvs : List (Key × V)}, Vals xs us → Vals ys ws → xs.zip ys = kvs.map (fun kv => (kV kv.1, kv.2)) →
    ∃ prs : List (Key × Value), KV kvs prs ∧ prs.length = min us.length ws.length ∧ ∀ (i : Nat) (k v : Value), us[i]? = some k → ws[i]? = some v → ∃ q, prs[i]? = some (q, v) ∧ keyIs q k = true
  | _, _, _, _, kvs, .nil, r, e => by
    rw [List.zip_nil_left] at e
    have z : kvs = [] := by
      cases kvs with
      | nil => rfl
      | cons _ _ => cases e
    subst z
    exact ⟨[], .nil, by simp, fun i k v h => by simp at h⟩
  | _, _, _, _, kvs, .cons r t, .nil, e => by
    rw [List.zip_nil_right] at e
    have z : kvs = [] := by
      cases kvs with
      | nil => rfl
      | cons _ _ => cases e
    subst z
    exact ⟨[], .nil, by simp, fun i k v _ h => by simp at h⟩
  | x :: xs, y :: ys, u :: us, w :: ws, kvs, .cons r t, .cons r' t', e => by
    cases kvs with
    | nil => cases e
    | cons kv kvs =>
      rw [List.zip_cons_cons, List.map_cons] at e
      injection e with e1 e2
      injection e1 with e3 e4
      obtain ⟨prs, h1, h2, h3⟩ := zip_kv t t' e2
      subst e3
      subst e4
      refine ⟨(kv.1, w) :: prs, .cons ⟨rfl, r'⟩ h1, by simp only [List.length_cons]; omega, fun i k v hk hv => ?_⟩
      cases i with
      | zero =>
        have hk' : u = k := by simpa using hk
        have hv' : w = v := by simpa using hv
        subst hk'
        subst hv'
        refine ⟨kv.1, rfl, ?_⟩
        obtain ⟨key, vv⟩ := kv
        cases key with
        | inl n =>
          obtain ⟨tk, rfl⟩ := r
          exact keyIs_int n tk
        | inr z =>
          obtain ⟨tk, rfl⟩ := r
          exact keyIs_str z tk
      | succ i => exact h3 i k v (by simpa using hk) (by simpa using hv)
section
variable {X : Cx}
theorem pe_dictzip {e e2 : Expr} {ta : TA} {p p2 q pos : Pos} (hc : X.calm = true) (hg : Gl X "dict") (hm : X.mg "dict" = none) (hg2 : Gl X "zip") (hm2 : X.mg "zip" = none) (ha : PA X [e, e2] ta)
    (na : starEach [Expr.Call (.Name "zip" p2) [e, e2] [] q] X.env = (false, eval (.Call (.Name "zip" p2) [e, e2] [] q) X.env) :: starEach [] X.env := by rfl)
    (hs : starEach [e, e2] X.env = (false, eval e X.env) :: starEach [e2] X.env := by rfl) (hpl : (backTo q (starEach [e2] X.env)).any (·.1) = false := by rfl) :
    PE X (.Call (.Name "dict" p) [.Call (.Name "zip" p2) [e, e2] [] q] [] pos) (tDz X.K ta) := by
  refine ⟨fun pins s σ H Q I h => ?_⟩
  refine Call_ (ld_blt I hg hm (by decide +kernel : bootBuiltins "dict" = some (.type "dict")) ?_)
  refine PyProof.Rows.callWith_type1 (PyProof.Rows.args_cons ?_ na) na rfl
  refine Call_ (ld_blt I hg2 hm2 PyProof.Rows.boot_zip (PyProof.Rows.callWith_type1 (thn (ha.run q pins s σ H _ I h) fun us s1 ⟨vs, H1, I1, r1, q1⟩ => ?_) hs hpl))
  obtain ⟨a, b, xs, ys, kvs, ex, hqx, hqy, hz, q1⟩ := q1
  subst ex
  cases r1 with
  | cons r rr =>
    cases rr with
    | cons r' rr =>
      cases rr
      cases r
      cases r'
      obtain ⟨its, rv, pl1, hz1⟩ := I1.list hqx
      obtain ⟨its2, rv2, pl2, _⟩ := I1.list hqy
      have la : a < s1.heap.objs.size := pl1.lt
      have lb : b < s1.heap.objs.size := pl2.lt
      refine call_zip_2 pl1.isList pl2.isList fun h' kz kI kO k1 k2 hsz hk => PyProof.Rows.args_nil ?_
      obtain ⟨prs, rel, hl, hp⟩ := zip_kv rv rv2 hz
      have hn : min its.toArray.size its2.toArray.size ≤ sizeLine := by
        have z := rv.length
        rw [List.size_toArray]
        omega
      refine PySem.call_dict_pairs (knd := mixKind X.prog X.w) (kvs := prs) (PairArg.zip (s1.heap.objs.size + 4) (s1.heap.objs.size + 2) (s1.heap.objs.size + 3) s1.heap.objs.size (s1.heap.objs.size + 1) a b (PySem.W.ktu_apart s1.heap.objs.size a b la lb) its.toArray its2.toArray)
        (I1.ok.hd hc) ⟨kz, kI, ⟨_, _, kO⟩, k1, k2, pl1.isList.at fun o z => hk _ o z, pl2.isList.at fun o z => hk _ o z⟩ ⟨by simpa using hl, fun i key v hv => ?_⟩ hn fun h2 tk hd2 kk => ?_
      · obtain ⟨q2, e1, e2⟩ := hp i key v (by simpa using hv.1) (by simpa using hv.2)
        exact ⟨q2, e1, e2⟩
      · have big : s1.heap.objs.size ≤ h'.objs.size := by omega
        have keep : ∀ c o, s1.heap.get? c = some o → h2.get? c = some o := fun c o z => by
          have lc : c < s1.heap.objs.size := Heap.lt_size z
          refine kk c o ?_ (hk c o z)
          have up : ∀ n : Nat, c ≠ s1.heap.objs.size + n := fun n => Nat.ne_of_lt (Nat.lt_of_lt_of_le lc (Nat.le_add_right _ _))
          simp only [List.mem_cons, List.not_mem_nil, or_false, not_or]
          exact ⟨up 4, up 3, up 0, up 1⟩
        have hmod : (h'.objs.size == sysModules) = false := beq_eq_false_iff_ne.mpr (Nat.ne_of_gt (Nat.lt_of_lt_of_le I1.big big))
        have hlen : (mergeK [] kvs).length ≤ sizeLine := by
          refine Nat.le_trans (length_mergeK kvs []) ?_
          rw [List.length_nil, Nat.zero_add, rel.length, hl]
          simpa using hn
        exact ⟨.ref h'.objs.size, upd H1 h'.objs.size (.dK (mergeK [] kvs)), I1.laid (t' := tk) keep big (show ObjOk X.prog X.w _ _ _ (.dK (mergeK [] kvs)) from ⟨hlen, hmod, merged [] prs, KV.merge rel .nil, hd2⟩), rfl, q1 _ (I1.hok.fresh big)⟩
end
end KW
end

section
set_option Elab.async false
set_option linter.all false
set_option maxRecDepth 100000
namespace K10
open PySem PySem.Spec PyProof.Rows L2 KW
def topS (i : Nat) : Stmt := PySem.Challenge.pw_kindweft_k10_kinds_read_off.main.body.getD i (.Pass ⟨0, 0, 0, 0⟩)
/-- the built-in names that the text uses are its own nowhere -/
structure Bl (mg : Str → Option Value) : Prop where
  m_len : mg "len" = none
  m_abs : mg "abs" = none
  m_range : mg "range" = none
  m_set : mg "set" = none
  m_list : mg "list" = none
  m_sorted : mg "sorted" = none
  m_int : mg "int" = none
  m_tuple : mg "tuple" = none
  m_dict : mg "dict" = none
  m_zip : mg "zip" = none
  m_all : mg "all" = none
  m_isinstance : mg "isinstance" = none
  m_bool : mg "bool" = none
  m_str : mg "str" = none
abbrev s_draw : Stmt := topS 18
abbrev n_draw : List Str := ["_law_flow_here", "_law_size", "_law_cell", "_law_here", "_law_mixed", "_law_found"]
abbrev p_draw : List Str := ["_law_flow_here", "_law_size"]
theorem sc_draw : FnScope n_draw p_draw (defScope s_draw) := ⟨rfl, rfl, rfl, by decide +kernel, rfl, by decide +kernel, by decide +kernel⟩
section
variable {P : Program} {w : World} {K : PySem.W.Frag} {mg : Str → Option Value} {base : Heap}
/-- the flow: its cells, place, rest, mixed number -/
def fl (s : Addr) (a b c : Int) : HO := .lst [.ref s, .int a, .int b, .int c]
def FlOk (a b c : Int) : Prop := 0 ≤ a ∧ 0 ≤ b ∧ 0 ≤ c ∧ c < 2305843009213693951
def spDraw : Sp := fun vs H Q _ => ∃ (f s : Addr) (ns : List Int) (a b c z : Int), vs = [.ref f, .int z] ∧ H f = some (fl s a b c) ∧ H s = some (.lst (ns.map V.int)) ∧ FlOk a b c ∧ 0 < z ∧ z < 2 ^ 100 ∧
  ∀ r a' b' c', 0 ≤ r → r < z → FlOk a' b' c' → Q (.int r) (upd H f (fl s a' b' c'))
theorem divW {i z : Int} (h0 : 0 < z) (h1 : z < 2 ^ 100) : CDivW i z := wide_div (b := 100) h0 (by omega) (by decide) (by decide)
theorem ok_draw {f : Addr} {fd : FuncData} {k : Nat} (F : Fun K "_law_draw" "_law_draw" s_draw f fd) (T : Bl mg) : FnOk P w K mg base CX0 (k + 1) f fd p_draw spDraw := by
  refine F.ok sc_draw (fun vs H Q E h => ?_) (fun cdv A outer s H vs Q E hr h => ?_)
  · obtain ⟨_, _, _, _, _, _, _, rfl, _⟩ := h
    rfl
  · obtain ⟨p, sc, ns, a, b, c, z, rfl, hf, hs, ⟨ha, hb, hc0, hc1⟩, hz0, hz1, q⟩ := h
    refine ⟨_, (pss_cons (ps_if (pt_cmpR op_gt (pe_ix ix_list (pv 0) pe_int (fun _ _ => rfl)) pe_int (nomark _)) (pss_cons (ps_set (i := 5) sc_draw.nd rfl (.inl rfl) (pe_op op_mod (pe_ix ix_list (pv 0) pe_int (fun _ _ => rfl)) (pv 1)))
      (pss_cons (ps_asg (pe_op op_fdivW (pe_ix ix_list (pv 0) pe_int (fun _ _ => rfl)) (pv 1)) (pg_sub (pv 0) pe_int set_list))
      (pss_one (ps_ret (pv 5))))) pss_nil)
      (pss_cons (ps_set (i := 2) sc_draw.nd rfl (.inl rfl) pe_int)
      (Evl.pss_cut (ps_if (pt_cmpR op_lt (pe_ix ix_list (pv 0) pe_int (fun _ _ => rfl)) (pe_callB call_len_seq (by rfl) T.m_len PySem.boot_len (pa_cons (pe_ix ix_list (pv 0) pe_int (fun _ _ => rfl)) pa_nil)) (nomark _)) (pss_one (ps_set (i := 2) sc_draw.nd rfl (.inl rfl) (pe_ix ix_list (pe_ix ix_list (pv 0) pe_int (fun _ _ => rfl)) (pe_ix ix_list (pv 0) pe_int (fun _ _ => rfl)) (fun _ _ => rfl)))) pss_nil)
      (pss_cons (ps_asg (pe_op op_add (pe_ix ix_list (pv 0) pe_int (fun _ _ => rfl)) pe_int) (pg_sub (pv 0) pe_int set_list))
      (pss_cons (ps_if (pt_cmpR op_ge (pe_callB call_abs (by rfl) T.m_abs (by decide +kernel) (pa_cons (pv 2) pa_nil)) (pe_op op_pow pe_int pe_int) (nomark _)) (pss_cons (ps_set (i := 5) sc_draw.nd rfl (.inl rfl) (pe_op op_mod (pe_callB call_abs (by rfl) T.m_abs (by decide +kernel) (pa_cons (pv 2) pa_nil)) (pv 1)))
      (pss_cons (ps_asg (pe_op op_fdivW (pe_callB call_abs (by rfl) T.m_abs (by decide +kernel) (pa_cons (pv 2) pa_nil)) (pv 1)) (pg_sub (pv 0) pe_int set_list))
      (pss_one (ps_ret (pv 5))))) pss_nil)
      (pss_cons (ps_set (i := 3) sc_draw.nd rfl (.inl rfl) (pe_op op_add (pe_op op_add (pe_op op_mul (pe_ix ix_list (pv 0) pe_int (fun _ _ => rfl)) pe_int) (pe_op op_mul (pv 2) pe_int)) pe_int))
      (pss_cons (ps_set (i := 3) sc_draw.nd rfl (.inl rfl) (pe_op op_mod (pe_op op_add (pv 3) (pe_op op_mul (pe_ix ix_list (pv 0) pe_int (fun _ _ => rfl)) pe_int)) pe_int))
      (pss_cons (ps_asg (pv 3) (pg_sub (pv 0) pe_int set_list))
      (pss_cons (ps_set (i := 4) sc_draw.nd rfl (.inl rfl) (pe_op op_add (pe_op op_mul (pv 3) pe_int) (pe_op op_mul (pe_op op_fdiv (pv 3) pe_int) pe_int)))
      (pss_cons (ps_if (pt_cmpR op_gt (pv 1) (pe_op op_pow pe_int pe_int) (nomark _)) (pss_one (ps_ret (pe_op op_mod (pe_op op_mul (pv 4) (pv 3)) (pv 1)))) pss_nil)
      (pss_one (ps_ret (pe_op op_mod (pe_op op_fdiv (pe_op op_mod (pv 4) pe_int) pe_int) (pv 1)))))))))))))), ?_⟩
    have nps : p ≠ sc := fun e => by
      rw [e, hs] at hf
      cases ns with
      | nil => cases hf
      | cons x r => cases hf
    have hF : SqL K H p [.ref sc, .int a, .int b, .int c] := .inl (.inl hf)
    -- if flow[2] > 0
    refine ⟨_, rfl, p, _, 2, .int b, rfl, rfl, hF, rfl, _, _, rfl, rfl, _, rfl, ite2 (fun e => ?_) (fun e => ?_)⟩
    · have e0 : 0 < b := of_decide_eq_true e
      refine ⟨_, rfl, p, _, 2, .int b, rfl, rfl, hF, rfl, _, rfl, b, z, rfl, rfl, hz0, ?_⟩
      refine ⟨_, rfl, p, _, 2, .int b, rfl, rfl, hF, rfl, _, rfl, b, z, rfl, rfl, divW hz0 hz1, _, rfl, p, _, 2, 2, rfl, rfl, hf, rfl, ?_⟩
      exact ⟨_, rfl, q (b % z) a (b / z) c (Int.emod_nonneg _ (by omega)) (Int.emod_lt_of_pos _ hz0) ⟨ha, Int.ediv_nonneg hb (by omega), hc0, hc1⟩⟩
    · -- cell = 0; if flow[1] < len(flow[0]): cell = flow[0][flow[1]]
      have hS : SqL K H sc (ns.map V.int) := .inl (.inl hs)
      refine ⟨fun σ' H' => H' = H ∧ ∃ x : Int, σ' = [some (.ref p), some (.int z), some (.int x), none, none, none], ?_, ?_⟩
      · refine ⟨_, rfl, p, _, 1, .int a, rfl, rfl, hF, rfl, _, rfl, p, _, 0, .ref sc, rfl, rfl, hF, rfl, sc, _, rfl, .inl hS, _, _, rfl, rfl, _, rfl, ite2 (fun e2 => ?_) (fun e2 => ?_)⟩
        · have e3 : a < ((ns.map V.int).length : Int) := of_decide_eq_true e2
          rw [List.length_map] at e3
          obtain ⟨v, hat⟩ : ∃ v : Int, atI (ns.map V.int) a = some (.int v) := by
            obtain ⟨n, rfl⟩ : ∃ n : Nat, a = n := ⟨a.toNat, by omega⟩
            have hl : n < ns.length := by omega
            refine ⟨ns[n], atI_nat ?_⟩
            rw [List.getElem?_map, List.getElem?_eq_getElem hl]
            rfl
          exact ⟨_, rfl, p, _, 0, .ref sc, rfl, rfl, hF, rfl, _, rfl, p, _, 1, .int a, rfl, rfl, hF, rfl, sc, _, a, _, rfl, rfl, hS, hat, rfl, _, rfl⟩
        · exact ⟨rfl, 0, rfl⟩
      · rintro σ' H' ⟨rfl, x, rfl⟩
        -- flow[1] = flow[1] + 1
        refine ⟨_, rfl, p, _, 1, .int a, rfl, rfl, hF, rfl, _, _, rfl, rfl, _, rfl, p, _, 1, 1, rfl, rfl, hf, rfl, ?_⟩
        have hf1 : upd H' p (.lst [.ref sc, .int (a + 1), .int b, .int c]) p = some (.lst [.ref sc, .int (a + 1), .int b, .int c]) := upd_same
        have hF1 : SqL K (upd H' p (.lst [.ref sc, .int (a + 1), .int b, .int c])) p [.ref sc, .int (a + 1), .int b, .int c] := .inl (.inl upd_same)
        -- if abs(cell) >= 10 ** 18
        refine ⟨_, rfl, _, rfl, _, _, rfl, rfl, ⟨by decide, by decide, by decide⟩, _, _, rfl, rfl, _, rfl, ite2 (fun e2 => ?_) (fun e2 => ?_)⟩
        · have e3 : (10 : Int) ^ 18 ≤ (if x < 0 then -x else x) := of_decide_eq_true e2
          have e4 : 0 ≤ (if x < 0 then -x else x) := by omega
          refine ⟨_, rfl, x, rfl, _, rfl, _, z, rfl, rfl, hz0, ?_⟩
          refine ⟨_, rfl, x, rfl, _, rfl, _, z, rfl, rfl, divW hz0 hz1, _, rfl, p, _, 2, 2, rfl, rfl, hf1, rfl, ?_⟩
          refine ⟨_, rfl, ?_⟩
          rw [upd_upd]
          exact q _ (a + 1) _ c (Int.emod_nonneg _ (by omega)) (Int.emod_lt_of_pos _ hz0) ⟨by omega, Int.ediv_nonneg e4 (by omega), hc0, hc1⟩
        · refine ⟨_, rfl, p, _, 3, .int c, rfl, rfl, hF1, rfl, c, _, rfl, rfl, .inr ⟨by decide, by decide⟩, _, rfl, x, _, rfl, rfl, .inr ⟨by decide, by decide⟩, _, _, rfl, rfl, _, _, rfl, rfl, ?_⟩
          refine ⟨_, rfl, _, rfl, p, _, 1, .int (a + 1), rfl, rfl, hF1, rfl, _, _, rfl, rfl, .inr ⟨by decide, by decide⟩, _, _, rfl, rfl, _, _, rfl, rfl, by show (0 : Int) < 2305843009213693951; decide, ?_⟩
          have hM : ∀ m : Int, 0 ≤ m % 2305843009213693951 ∧ m % 2305843009213693951 < 2305843009213693951 := fun m => ⟨Int.emod_nonneg _ (by decide), Int.emod_lt_of_pos _ (by decide)⟩
          refine ⟨_, rfl, _, rfl, p, _, 3, 3, rfl, rfl, hf1, rfl, ?_⟩
          rw [upd_upd]
          refine ⟨_, rfl, _, _, rfl, rfl, .inr ⟨by decide, by decide⟩, _, rfl, _, _, rfl, rfl, ⟨by decide, by decide⟩, _, _, rfl, rfl, .inr ⟨by decide, by decide⟩, _, _, rfl, rfl, ?_⟩
          refine ⟨_, rfl, _, _, rfl, rfl, ⟨by decide, by decide, by decide⟩, _, _, rfl, rfl, _, rfl, ite2 (fun e3 => ?_) (fun e3 => ?_)⟩
          · refine ⟨_, rfl, _, rfl, _, _, rfl, rfl, .inr ⟨Int.lt_of_lt_of_le (by decide) (hM _).1, Int.lt_trans (hM _).2 (by decide)⟩, _, rfl, _, _, rfl, rfl, hz0, ?_⟩
            exact q _ (a + 1) b _ (Int.emod_nonneg _ (by omega)) (Int.emod_lt_of_pos _ hz0) ⟨by omega, hb, (hM _).1, (hM _).2⟩
          · refine ⟨_, rfl, _, _, rfl, rfl, by show (0 : Int) < 2147483647; decide, _, _, rfl, rfl, ⟨by decide, by decide⟩, _, rfl, _, _, rfl, rfl, hz0, ?_⟩
            exact q _ (a + 1) b _ (Int.emod_nonneg _ (by omega)) (Int.emod_lt_of_pos _ hz0) ⟨by omega, hb, (hM _).1, (hM _).2⟩
end
end K10
end

section
set_option Elab.async false
set_option linter.all false
set_option maxRecDepth 100000
namespace K10
open PySem PySem.Spec PyProof.Rows L2 KW
abbrev s_flow : Stmt := topS 19
abbrev n_flow : List Str := ["_law_script"]
abbrev p_flow : List Str := ["_law_script"]
theorem sc_flow : FnScope n_flow p_flow (defScope s_flow) := ⟨rfl, rfl, rfl, by decide +kernel, rfl, by decide +kernel, by decide +kernel⟩
abbrev s_sign : Stmt := topS 22
abbrev n_sign : List Str := ["_law_one", "_law_other"]
abbrev p_sign : List Str := ["_law_one", "_law_other"]
theorem sc_sign : FnScope n_sign p_sign (defScope s_sign) := ⟨rfl, rfl, rfl, by decide +kernel, rfl, by decide +kernel, by decide +kernel⟩
abbrev s_mom : Stmt := topS 7
abbrev n_mom : List Str := ["one", "other"]
abbrev p_mom : List Str := ["one", "other"]
theorem sc_mom : FnScope n_mom p_mom (defScope s_mom) := ⟨rfl, rfl, rfl, by decide +kernel, rfl, by decide +kernel, by decide +kernel⟩
section
variable {P : Program} {w : World} {K : PySem.W.Frag} {mg : Str → Option Value} {base : Heap}
theorem same_upd {H : Hp} {p : Addr} {o : HO} (h : H p = none) : Same H (upd H p o) := fun b x e => by
  rw [upd_ne (ne_of_none e h)]
  exact e
/-- list(script[:63]), 0, 0, 11 -/
def spFlow (K : PySem.W.Frag) : Sp := fun vs H Q _ => ∃ (a : Addr) (ns : List Int), vs = [.ref a] ∧ SqL K H a (ns.map V.int) ∧ ns.length ≤ 63 ∧
  ∀ f s H', H' f = some (fl s 0 0 11) → H' s = some (.lst (ns.map V.int)) → Q (.ref f) H'
theorem cut63 (xs : List V) (h : xs.length ≤ 63) : cutV xs none (some 63) = xs := by
  unfold cutV
  rw [HT.sIx_none, show HT.sIx xs.length xs.length (some 63) = min 63 xs.length from HT.sIx_nat xs.length xs.length 63]
  rw [Nat.min_eq_right h, Nat.sub_zero, List.drop_zero, List.take_length]
theorem ok_flow {f : Addr} {fd : FuncData} {k : Nat} (F : Fun K "_law_flow" "_law_flow" s_flow f fd) (T : Bl mg) : FnOk P w K mg base CX0 (k + 1) f fd p_flow (spFlow K) := by
  refine F.ok sc_flow (fun vs H Q E h => ?_) (fun cdv A outer s H vs Q E hr h => ?_)
  · obtain ⟨_, _, rfl, _⟩ := h
    rfl
  · obtain ⟨a, ns, rfl, hS, hl, q⟩ := h
    refine ⟨_, (pss_one (ps_ret (pe_lst (pa_cons (pe_callTy call_list_of (by rfl) T.m_list (by decide +kernel) (pa_cons (pe_slice sl_list (pv 0) po_none (po_some pe_int)) pa_nil)) (pa_cons pe_int (pa_cons pe_int (pa_cons pe_int pa_nil))))))), ?_⟩
    refine ⟨.ref a, rfl, 63, rfl, a, ns.map V.int, rfl, hS, fun c nc => ?_⟩
    rw [cut63 _ (by rw [List.length_map]; exact hl)]
    refine ⟨c, _, rfl, .inl (.inl (.inl upd_same)), fun l hl2 => ?_⟩
    refine ⟨by show 4 ≤ sizeLine; decide, fun p hp => ?_⟩
    refine q p l _ upd_same ?_
    rw [upd_ne (ne_of_none upd_same hp)]
    exact upd_same
def sg (a b : Int) : Int := if a < b then 0 else if a = b then 1 else 2
def spSign : Sp := fun vs H Q _ => ∃ a b : Int, vs = [.int a, .int b] ∧ Q (.int (sg a b)) H
theorem ok_sign {f : Addr} {fd : FuncData} {k : Nat} (F : Fun K "_law_sign" "_law_sign" s_sign f fd) : FnOk P w K mg base CX0 (k + 1) f fd p_sign spSign := by
  refine F.ok sc_sign (fun vs H Q E h => ?_) (fun cdv A outer s H vs Q E hr h => ?_)
  · obtain ⟨_, _, rfl, _⟩ := h
    rfl
  · obtain ⟨a, b, rfl, q⟩ := h
    refine ⟨_, (pss_one (ps_ret (pe_ifExp (pt_cmpR op_lt (pv 0) (pv 1) (nomark _)) pe_int (pe_ifExp (pt_cmpR op_eq (pv 0) (pv 1) (nomark _)) pe_int pe_int)))), ?_⟩
    refine ⟨_, rfl, _, rfl, _, _, rfl, rfl, _, rfl, ite2 (fun e => ?_) (fun e => ?_)⟩
    · have : sg a b = 0 := if_pos (of_decide_eq_true e)
      rw [this] at q
      exact q
    · have h1 : ¬ a < b := fun z => e (decide_eq_true z)
      refine ⟨_, rfl, _, rfl, rfl, _, rfl, ite2 (fun e2 => ?_) (fun e2 => ?_)⟩
      · have : sg a b = 1 := by
          unfold sg
          rw [if_neg h1, if_pos (V.int.inj (of_decide_eq_true e2))]
        rw [this] at q
        exact q
      · have : sg a b = 2 := by
          unfold sg
          rw [if_neg h1, if_neg (fun z => e2 (decide_eq_true (by rw [z])))]
        rw [this] at q
        exact q
def mk (a b : Int) : Str := if a < b then "ahead" else if b < a then "behind" else "same"
def spMom : Sp := fun vs H Q _ => ∃ a b : Int, vs = [.int a, .int b] ∧ Q (.str (mk a b)) H
theorem ok_mom {f : Addr} {fd : FuncData} {k : Nat} (F : Fun K "moment_kind" "moment_kind" s_mom f fd) : FnOk P w K mg base CX0 (k + 1) f fd p_mom spMom := by
  refine F.ok sc_mom (fun vs H Q E h => ?_) (fun cdv A outer s H vs Q E hr h => ?_)
  · obtain ⟨_, _, rfl, _⟩ := h
    rfl
  · obtain ⟨a, b, rfl, q⟩ := h
    refine ⟨_, (pss_cons (ps_if (pt_cmpR op_lt (pv 0) (pv 1) (nomark _)) (pss_one (ps_ret pe_str)) pss_nil)
      (pss_cons (ps_if (pt_cmpR op_gt (pv 0) (pv 1) (nomark _)) (pss_one (ps_ret pe_str)) pss_nil)
      (pss_one (ps_ret pe_str)))), ?_⟩
    refine ⟨_, rfl, _, rfl, _, _, rfl, rfl, _, rfl, ite2 (fun e => ?_) (fun e => ?_)⟩
    · have : mk a b = "ahead" := if_pos (of_decide_eq_true e)
      rw [this] at q
      exact q
    · have h1 : ¬ a < b := fun z => e (decide_eq_true z)
      refine ⟨_, rfl, _, rfl, _, _, rfl, rfl, _, rfl, ite2 (fun e2 => ?_) (fun e2 => ?_)⟩
      · have : mk a b = "behind" := by
          unfold mk
          rw [if_neg h1, if_pos (of_decide_eq_true e2)]
        rw [this] at q
        exact q
      · have : mk a b = "same" := by
          unfold mk
          rw [if_neg h1, if_neg (fun z => e2 (decide_eq_true z))]
        rw [this] at q
        exact q
end
end K10
end

section
set_option Elab.async false
set_option linter.all false
set_option maxRecDepth 100000
namespace K10
open PySem PySem.Spec PyProof.Rows L2 KW
abbrev s_str : Stmt := topS 8
abbrev n_str : List Str := ["one", "other"]
abbrev p_str : List Str := ["one", "other"]
theorem sc_str : FnScope n_str p_str (defScope s_str) := ⟨rfl, rfl, rfl, by decide +kernel, rfl, by decide +kernel, by decide +kernel⟩

abbrev s_cou : Stmt := topS 9
abbrev n_cou : List Str := ["one", "other", "letters"]
abbrev p_cou : List Str := ["one", "other"]
theorem sc_cou : FnScope n_cou p_cou (defScope s_cou) := ⟨rfl, rfl, rfl, by decide +kernel, rfl, by decide +kernel, by decide +kernel⟩

abbrev s_bra : Stmt := topS 10
abbrev n_bra : List Str := ["one", "other"]
abbrev p_bra : List Str := ["one", "other"]
theorem sc_bra : FnScope n_bra p_bra (defScope s_bra) := ⟨rfl, rfl, rfl, by decide +kernel, rfl, by decide +kernel, by decide +kernel⟩

abbrev s_par : Stmt := topS 11
abbrev n_par : List Str := ["one", "other", "shared"]
abbrev p_par : List Str := ["one", "other"]
theorem sc_par : FnScope n_par p_par (defScope s_par) := ⟨rfl, rfl, rfl, by decide +kernel, rfl, by decide +kernel, by decide +kernel⟩

abbrev s_btw : Stmt := topS 13
abbrev n_btw : List Str := ["word", "one", "other", "reader"]
abbrev p_btw : List Str := ["word", "one", "other"]
theorem sc_btw : FnScope n_btw p_btw (defScope s_btw) := ⟨rfl, rfl, rfl, by decide +kernel, rfl, by decide +kernel, by decide +kernel⟩

abbrev s_off : Stmt := topS 16
abbrev n_off : List Str := ["word", "one", "other"]
abbrev p_off : List Str := ["word", "one", "other"]
theorem sc_off : FnScope n_off p_off (defScope s_off) := ⟨rfl, rfl, rfl, by decide +kernel, rfl, by decide +kernel, by decide +kernel⟩

abbrev s_table : Stmt := topS 20
abbrev n_table : List Str := ["_law_kinds", "_law_same_here", "_law_backs", "_law_steps"]
abbrev p_table : List Str := ["_law_kinds", "_law_same_here", "_law_backs", "_law_steps"]
theorem sc_table : FnScope n_table p_table (defScope s_table) := ⟨rfl, rfl, rfl, by decide +kernel, rfl, by decide +kernel, by decide +kernel⟩

abbrev s_kof : Stmt := topS 21
abbrev n_kof : List Str := ["_law_word", "_law_first"]
abbrev p_kof : List Str := ["_law_word"]
theorem sc_kof : FnScope n_kof p_kof (defScope s_kof) := ⟨rfl, rfl, rfl, by decide +kernel, rfl, by decide +kernel, by decide +kernel⟩

abbrev s_lparts : Stmt := topS 23
abbrev n_lparts : List Str := ["_law_one", "_law_other"]
abbrev p_lparts : List Str := ["_law_one", "_law_other"]
theorem sc_lparts : FnScope n_lparts p_lparts (defScope s_lparts) := ⟨rfl, rfl, rfl, by decide +kernel, rfl, by decide +kernel, by decide +kernel⟩

abbrev s_lstr : Stmt := topS 24
abbrev n_lstr : List Str := ["_law_one", "_law_other", "_law_a", "_law_b", "_law_c", "_law_d"]
abbrev p_lstr : List Str := ["_law_one", "_law_other"]
theorem sc_lstr : FnScope n_lstr p_lstr (defScope s_lstr) := ⟨rfl, rfl, rfl, by decide +kernel, rfl, by decide +kernel, by decide +kernel⟩

abbrev s_lkind : Stmt := topS 25
abbrev n_lkind : List Str := ["_law_word", "_law_one", "_law_other", "_law_across", "_law_up"]
abbrev p_lkind : List Str := ["_law_word", "_law_one", "_law_other"]
theorem sc_lkind : FnScope n_lkind p_lkind (defScope s_lkind) := ⟨rfl, rfl, rfl, by decide +kernel, rfl, by decide +kernel, by decide +kernel⟩

abbrev s_same : Stmt := topS 26
abbrev n_same : List Str := ["_law_found", "_law_due", "_law_k"]
abbrev p_same : List Str := ["_law_found", "_law_due"]
theorem sc_same : FnScope n_same p_same (defScope s_same) := ⟨rfl, rfl, rfl, by decide +kernel, rfl, by decide +kernel, by decide +kernel⟩

abbrev s_num : Stmt := topS 27
abbrev n_num : List Str := ["_law_flow_here", "_law_few"]
abbrev p_num : List Str := ["_law_flow_here", "_law_few"]
theorem sc_num : FnScope n_num p_num (defScope s_num) := ⟨rfl, rfl, rfl, by decide +kernel, rfl, by decide +kernel, by decide +kernel⟩

abbrev s_thing : Stmt := topS 28
abbrev n_thing : List Str := ["_law_flow_here", "_law_word", "_law_few", "_law_bits", "_law_low", "_law_high", "_law_mark", "_law_k"]
abbrev p_thing : List Str := ["_law_flow_here", "_law_word", "_law_few"]
theorem sc_thing : FnScope n_thing p_thing (defScope s_thing) := ⟨rfl, rfl, rfl, by decide +kernel, rfl, by decide +kernel, by decide +kernel⟩

abbrev s_law : Stmt := topS 29
abbrev n_law : List Str := ["_law_script", "_law_flow_here", "_law_words", "_law_word", "_law_right", "e", "_law_few", "_law_t", "_law_turn", "_law_due", "_law_one", "_law_other"]
abbrev p_law : List Str := ["_law_script"]
theorem sc_law : FnScope n_law p_law (defScope s_law) := ⟨rfl, rfl, rfl, by decide +kernel, rfl, by decide +kernel, by decide +kernel⟩

/-- where the defs and tables of the text stand -/
structure Fa (K : PySem.W.Frag) (mg : Str → Option Value) (ad : Nat → Addr) (fd : Nat → FuncData) : Prop where
  F_mom : Fun K "moment_kind" "moment_kind" s_mom (ad 7) (fd 7)
  g_mom : mg "moment_kind" = some (.ref (ad 7))
  b_mom : Binds K (fd 7) p_mom []
  F_str : Fun K "stretch_kind" "stretch_kind" s_str (ad 8) (fd 8)
  g_str : mg "stretch_kind" = some (.ref (ad 8))
  b_str : Binds K (fd 8) p_str []
  F_cou : Fun K "course_kind" "course_kind" s_cou (ad 9) (fd 9)
  g_cou : mg "course_kind" = some (.ref (ad 9))
  b_cou : Binds K (fd 9) p_cou []
  F_bra : Fun K "branch_kind" "branch_kind" s_bra (ad 10) (fd 10)
  g_bra : mg "branch_kind" = some (.ref (ad 10))
  b_bra : Binds K (fd 10) p_bra []
  F_par : Fun K "part_kind" "part_kind" s_par (ad 11) (fd 11)
  g_par : mg "part_kind" = some (.ref (ad 11))
  b_par : Binds K (fd 11) p_par []
  F_btw : Fun K "kind_between" "kind_between" s_btw (ad 13) (fd 13)
  g_btw : mg "kind_between" = some (.ref (ad 13))
  b_btw : Binds K (fd 13) p_btw []
  F_off : Fun K "read_off" "read_off" s_off (ad 16) (fd 16)
  g_off : mg "read_off" = some (.ref (ad 16))
  b_off : Binds K (fd 16) p_off []
  F_draw : Fun K "_law_draw" "_law_draw" s_draw (ad 18) (fd 18)
  g_draw : mg "_law_draw" = some (.ref (ad 18))
  b_draw : Binds K (fd 18) p_draw []
  F_flow : Fun K "_law_flow" "_law_flow" s_flow (ad 19) (fd 19)
  g_flow : mg "_law_flow" = some (.ref (ad 19))
  b_flow : Binds K (fd 19) p_flow []
  F_table : Fun K "_law_table" "_law_table" s_table (ad 20) (fd 20)
  g_table : mg "_law_table" = some (.ref (ad 20))
  b_table : Binds K (fd 20) p_table []
  F_kof : Fun K "_law_kinds_of" "_law_kinds_of" s_kof (ad 21) (fd 21)
  g_kof : mg "_law_kinds_of" = some (.ref (ad 21))
  b_kof : Binds K (fd 21) p_kof []
  F_sign : Fun K "_law_sign" "_law_sign" s_sign (ad 22) (fd 22)
  g_sign : mg "_law_sign" = some (.ref (ad 22))
  b_sign : Binds K (fd 22) p_sign []
  F_lparts : Fun K "_law_kind_of_parts" "_law_kind_of_parts" s_lparts (ad 23) (fd 23)
  g_lparts : mg "_law_kind_of_parts" = some (.ref (ad 23))
  b_lparts : Binds K (fd 23) p_lparts []
  F_lstr : Fun K "_law_kind_of_stretches" "_law_kind_of_stretches" s_lstr (ad 24) (fd 24)
  g_lstr : mg "_law_kind_of_stretches" = some (.ref (ad 24))
  b_lstr : Binds K (fd 24) p_lstr []
  F_lkind : Fun K "_law_kind_of" "_law_kind_of" s_lkind (ad 25) (fd 25)
  g_lkind : mg "_law_kind_of" = some (.ref (ad 25))
  b_lkind : Binds K (fd 25) p_lkind []
  F_same : Fun K "_law_same" "_law_same" s_same (ad 26) (fd 26)
  g_same : mg "_law_same" = some (.ref (ad 26))
  b_same : Binds K (fd 26) p_same []
  F_num : Fun K "_law_number" "_law_number" s_num (ad 27) (fd 27)
  g_num : mg "_law_number" = some (.ref (ad 27))
  b_num : Binds K (fd 27) p_num []
  F_thing : Fun K "_law_thing" "_law_thing" s_thing (ad 28) (fd 28)
  g_thing : mg "_law_thing" = some (.ref (ad 28))
  b_thing : Binds K (fd 28) p_thing []
  F_law : Fun K "law" "law" s_law (ad 29) (fd 29)
  g_law : mg "law" = some (.ref (ad 29))
  b_law : Binds K (fd 29) p_law []
  g_norths : mg "NORTHS" = some (.ref (ad 4))
  g_wests : mg "WESTS" = some (.ref (ad 5))
  g_sharing : mg "SHARING" = some (.ref (ad 6))
  g_readers : mg "READERS" = some (.ref (ad 12))
  g_words : mg "WORDS" = some (.ref (ad 15))
end K10
end

section
set_option Elab.async false
set_option linter.all false
set_option maxRecDepth 100000
namespace K10
open PySem PySem.Spec PyProof.Rows L2 KW
abbrev Ex := Evl.Ex
/-! ### what two things show -/
inductive M3 where | ah | sa | be
  deriving DecidableEq
def M3.s : M3 → Str
  | .ah => "ahead"
  | .sa => "same"
  | .be => "behind"
def m3 (a b : Int) : M3 := if a < b then .ah else if b < a then .be else .sa
theorem mk_m3 (a b : Int) : mk a b = (m3 a b).s := by
  unfold mk m3
  by_cases h : a < b
  · rw [if_pos h, if_pos h]
    rfl
  · rw [if_neg h, if_neg h]
    by_cases h2 : b < a
    · rw [if_pos h2, if_pos h2]
      rfl
    · rw [if_neg h2, if_neg h2]
      rfl
def shar : M3 → M3 → Str
  | .ah, .ah => "overlaps"
  | .ah, .sa => "ended"
  | .ah, .be => "around"
  | .sa, .ah => "begins"
  | .sa, .sa => "same"
  | .sa, .be => "begun"
  | .be, .ah => "within"
  | .be, .sa => "ends"
  | .be, .be => "overlaid"
def nor : M3 → Str
  | .ah => "n"
  | .sa => ""
  | .be => "s"
def wes : M3 → Str
  | .ah => "w"
  | .sa => ""
  | .be => "e"
/-- the tables of the text -/
structure Tb (K : PySem.W.Frag) (P : Program) (w : World) (ad : Nat → Addr) : Prop where
  sharing : ∀ x y : M3, KTab K P w (ad 6) [.inr x.s, .inr y.s] (.str (shar x y))
  norths : ∀ x : M3, KDct K w (ad 4) x.s (.str (nor x))
  wests : ∀ x : M3, KDct K w (ad 5) x.s (.str (wes x))
  r1 : KDct K w (ad 12) "moments" (.ref (ad 7))
  r2 : KDct K w (ad 12) "stretches" (.ref (ad 8))
  r3 : KDct K w (ad 12) "courses" (.ref (ad 9))
  r4 : KDct K w (ad 12) "branches" (.ref (ad 10))
  r5 : KDct K w (ad 12) "parts" (.ref (ad 11))
  words : ∀ H : Hp, SqT K H (ad 15) [.str "moments", .str "stretches", .str "courses", .str "branches", .str "parts"]
def stK (a b c d : Int) : Str := if b < c then "before" else if b = c then "meets" else if d < a then "after" else if a = d then "met" else shar (m3 a c) (m3 b d)
def coL (a b c d : Int) : Str := nor (m3 b d) ++ wes (m3 a c)
def coK (a b c d : Int) : Str := if (coL a b c d).length = 0 then "same" else coL a b c d
def brK (l m : List Int) : Str := if l = m then "same" else if l = m.take l.length then "up" else if m = l.take m.length then "down" else "apart"
def common (l m : List Int) : List Int := l.filter fun k => decide (k ∈ m)
def paN (n a b : Nat) : Str := if n = 0 then "apart" else if n = a ∧ n = b then "same" else if n = a then "within" else if n = b then "around" else "across"
def paK (l m : List Int) : Str := paN (common l m).length l.length m.length
section
variable {P : Program} {w : World} {K : PySem.W.Frag} {mg : Str → Option Value} {base : Heap} {ad : Nat → Addr} {fd : Nat → FuncData}
def spStr (K : PySem.W.Frag) : Sp := fun vs H Q _ => ∃ (p q : Addr) (a b c d : Int), vs = [.ref p, .ref q] ∧ SqT K H p [.int a, .int b] ∧ SqT K H q [.int c, .int d] ∧ ∀ H', Ex H H' → Q (.str (stK a b c d)) H'
theorem ok_str (F : Fa K mg ad fd) (T : Bl mg) (B : Tb K P w ad) : FnOk P w K mg base CX0 2 (ad 8) (fd 8) p_str (spStr K) := by
  have G_mom : FnOk P w K mg base CX0 1 (ad 7) (fd 7) p_mom spMom := ok_mom F.F_mom
  refine F.F_str.ok sc_str (fun vs H Q E h => ?_) (fun cdv A outer s H vs Q E hr h => ?_)
  · obtain ⟨_, _, _, _, _, _, rfl, _⟩ := h
    rfl
  · obtain ⟨p, r, a, b, c, d, rfl, hp, hq, q⟩ := h
    refine ⟨_, (pss_cons (ps_if (pt_cmpR op_lt (pe_ix ix_tup (pv 0) pe_int (fun _ _ => rfl)) (pe_ix ix_tup (pv 1) pe_int (fun _ _ => rfl)) (nomark _)) (pss_one (ps_ret pe_str)) pss_nil)
      (pss_cons (ps_if (pt_cmpR op_eq (pe_ix ix_tup (pv 0) pe_int (fun _ _ => rfl)) (pe_ix ix_tup (pv 1) pe_int (fun _ _ => rfl)) (nomark _)) (pss_one (ps_ret pe_str)) pss_nil)
      (pss_cons (ps_if (pt_cmpR op_gt (pe_ix ix_tup (pv 0) pe_int (fun _ _ => rfl)) (pe_ix ix_tup (pv 1) pe_int (fun _ _ => rfl)) (nomark _)) (pss_one (ps_ret pe_str)) pss_nil)
      (pss_cons (ps_if (pt_cmpR op_eq (pe_ix ix_tup (pv 0) pe_int (fun _ _ => rfl)) (pe_ix ix_tup (pv 1) pe_int (fun _ _ => rfl)) (nomark _)) (pss_one (ps_ret pe_str)) pss_nil)
      (pss_one (ps_ret (pe_ix (ix_tab (hu_of hr)) (pe_glob (v := .ref _) rfl F.g_sharing rfl) (pe_tup (pa_cons (pe_call G_mom (hr.mono (by decide)) (by rfl) F.g_mom F.F_mom.kp F.b_mom .nil pass0 (pa_cons (pe_ix ix_tup (pv 0) pe_int (fun _ _ => rfl)) (pa_cons (pe_ix ix_tup (pv 1) pe_int (fun _ _ => rfl)) pa_nil))) (pa_cons (pe_call G_mom (hr.mono (by decide)) (by rfl) F.g_mom F.F_mom.kp F.b_mom .nil pass0 (pa_cons (pe_ix ix_tup (pv 0) pe_int (fun _ _ => rfl)) (pa_cons (pe_ix ix_tup (pv 1) pe_int (fun _ _ => rfl)) pa_nil))) pa_nil))) (fun _ _ => rfl)))))))), ?_⟩
    have q0 := q H (Evl.Ex.refl H)
    refine ⟨_, rfl, p, _, 1, .int b, rfl, rfl, hp, rfl, _, rfl, r, _, 0, .int c, rfl, rfl, hq, rfl, _, _, rfl, rfl, _, rfl, ite2 (fun e => ?_) (fun e => ?_)⟩
    · have z : stK a b c d = "before" := if_pos (of_decide_eq_true e)
      rw [z] at q0
      exact q0
    have h1 : ¬ b < c := fun z => e (decide_eq_true z)
    refine ⟨_, rfl, p, _, 1, .int b, rfl, rfl, hp, rfl, _, rfl, r, _, 0, .int c, rfl, rfl, hq, rfl, rfl, _, rfl, ite2 (fun e => ?_) (fun e => ?_)⟩
    · have z : stK a b c d = "meets" := by
        unfold stK
        rw [if_neg h1, if_pos (V.int.inj (of_decide_eq_true e))]
      rw [z] at q0
      exact q0
    have h2 : ¬ b = c := fun z => e (decide_eq_true (by rw [z]))
    refine ⟨_, rfl, p, _, 0, .int a, rfl, rfl, hp, rfl, _, rfl, r, _, 1, .int d, rfl, rfl, hq, rfl, _, _, rfl, rfl, _, rfl, ite2 (fun e => ?_) (fun e => ?_)⟩
    · have z : stK a b c d = "after" := by
        unfold stK
        rw [if_neg h1, if_neg h2, if_pos (of_decide_eq_true e)]
      rw [z] at q0
      exact q0
    have h3 : ¬ d < a := fun z => e (decide_eq_true z)
    refine ⟨_, rfl, p, _, 0, .int a, rfl, rfl, hp, rfl, _, rfl, r, _, 1, .int d, rfl, rfl, hq, rfl, rfl, _, rfl, ite2 (fun e => ?_) (fun e => ?_)⟩
    · have z : stK a b c d = "met" := by
        unfold stK
        rw [if_neg h1, if_neg h2, if_neg h3, if_pos (V.int.inj (of_decide_eq_true e))]
      rw [z] at q0
      exact q0
    have h4 : ¬ a = d := fun z => e (decide_eq_true (by rw [z]))
    have z : stK a b c d = shar (m3 a c) (m3 b d) := by
      unfold stK
      rw [if_neg h1, if_neg h2, if_neg h3, if_neg h4]
    rw [z] at q
    refine ⟨_, rfl, p, _, 0, .int a, rfl, rfl, hp, rfl, _, rfl, r, _, 0, .int c, rfl, rfl, hq, rfl, a, c, rfl, ?_⟩
    refine ⟨_, rfl, p, _, 1, .int b, rfl, rfl, hp, rfl, _, rfl, r, _, 1, .int d, rfl, rfl, hq, rfl, b, d, rfl, ?_⟩
    rw [mk_m3, mk_m3]
    refine ⟨by show 2 ≤ sizeLine; decide, fun t nt => ?_⟩
    exact ⟨ad 6, t, [.inr (m3 a c).s, .inr (m3 b d).s], _, rfl, rfl, upd_same, B.sharing _ _, q _ (Evl.Ex.new nt)⟩
def spCou (K : PySem.W.Frag) : Sp := fun vs H Q _ => ∃ (p q : Addr) (a b c d : Int), vs = [.ref p, .ref q] ∧ SqT K H p [.int a, .int b] ∧ SqT K H q [.int c, .int d] ∧ ∀ H', Ex H H' → Q (.str (coK a b c d)) H'
theorem short_nw (x y : M3) : (nor x ++ wes y).length ≤ sizeLine ∧ (nor x).length + (wes y).length ≤ sizeLine := by
  cases x <;> cases y <;> exact ⟨by decide +kernel, by decide +kernel⟩
theorem ok_cou (F : Fa K mg ad fd) (T : Bl mg) (B : Tb K P w ad) : FnOk P w K mg base CX0 2 (ad 9) (fd 9) p_cou (spCou K) := by
  have G_mom : FnOk P w K mg base CX0 1 (ad 7) (fd 7) p_mom spMom := ok_mom F.F_mom
  refine F.F_cou.ok sc_cou (fun vs H Q E h => ?_) (fun cdv A outer s H vs Q E hr h => ?_)
  · obtain ⟨_, _, _, _, _, _, rfl, _⟩ := h
    rfl
  · obtain ⟨p, r, a, b, c, d, rfl, hp, hq, q⟩ := h
    refine ⟨_, (pss_cons (ps_set (i := 2) sc_cou.nd rfl (.inl rfl) (pe_op op_add_str (pe_ix ix_kdict (pe_glob (v := .ref _) rfl F.g_norths rfl) (pe_call G_mom (hr.mono (by decide)) (by rfl) F.g_mom F.F_mom.kp F.b_mom .nil pass0 (pa_cons (pe_ix ix_tup (pv 0) pe_int (fun _ _ => rfl)) (pa_cons (pe_ix ix_tup (pv 1) pe_int (fun _ _ => rfl)) pa_nil))) (fun _ _ => rfl)) (pe_ix ix_kdict (pe_glob (v := .ref _) rfl F.g_wests rfl) (pe_call G_mom (hr.mono (by decide)) (by rfl) F.g_mom F.F_mom.kp F.b_mom .nil pass0 (pa_cons (pe_ix ix_tup (pv 0) pe_int (fun _ _ => rfl)) (pa_cons (pe_ix ix_tup (pv 1) pe_int (fun _ _ => rfl)) pa_nil))) (fun _ _ => rfl))))
      (pss_one (ps_ret (pe_orT (pv 2) (pe_one pe_str))))), ?_⟩
    have q0 := q H (Evl.Ex.refl H)
    refine ⟨_, rfl, p, _, 1, .int b, rfl, rfl, hp, rfl, _, rfl, r, _, 1, .int d, rfl, rfl, hq, rfl, b, d, rfl, ?_⟩
    rw [mk_m3]
    refine ⟨ad 4, _, _, rfl, rfl, B.norths _, ?_⟩
    refine ⟨_, rfl, p, _, 0, .int a, rfl, rfl, hp, rfl, _, rfl, r, _, 0, .int c, rfl, rfl, hq, rfl, a, c, rfl, ?_⟩
    rw [mk_m3]
    refine ⟨ad 5, _, _, rfl, rfl, B.wests _, _, _, rfl, rfl, (short_nw _ _).2, ?_⟩
    refine ⟨_, rfl, _, ⟨(short_nw _ _).1, rfl⟩, ite2 (fun e => ?_) (fun e => ?_)⟩
    · have z : coK a b c d = coL a b c d := by
        unfold coK
        rw [if_neg]
        intro z
        have e2 : (((coL a b c d).length : Int) != 0) = true := e
        rw [z] at e2
        cases e2
      rw [z] at q0
      exact q0
    · have z : coK a b c d = "same" := by
        unfold coK
        rw [if_pos]
        have e2 : ¬ (((coL a b c d).length : Int) != 0) = true := e
        have e3 : ((coL a b c d).length : Int) = 0 := by simpa using e2
        omega
      rw [z] at q0
      exact q0
end
end K10
end

section
set_option Elab.async false
set_option linter.all false
set_option maxRecDepth 100000
namespace K10
open PySem PySem.Spec PyProof.Rows L2 KW
theorem cut_to (l : List Int) (n : Nat) : cutV (l.map V.int) none (some (n : Int)) = (l.take n).map V.int := by
  unfold cutV
  rw [HT.sIx_none, HT.sIx_nat, List.drop_zero, Nat.sub_zero, List.length_map]
  by_cases h : n ≤ l.length
  · rw [Nat.min_eq_left h, List.map_take]
  · rw [Nat.min_eq_right (by omega), ← List.map_take, List.take_of_length_le (Nat.le_refl _), List.take_of_length_le (by omega)]
theorem whole_to {l : List Int} {n : Nat} (h : HT.sIx (l.map V.int).length (l.map V.int).length (some (n : Int)) = (l.map V.int).length) : l.take n = l := by
  rw [HT.sIx_nat, List.length_map] at h
  exact List.take_of_length_le (by omega)
section
variable {P : Program} {w : World} {K : PySem.W.Frag} {mg : Str → Option Value} {base : Heap} {ad : Nat → Addr} {fd : Nat → FuncData}
def spBra (K : PySem.W.Frag) : Sp := fun vs H Q _ => ∃ (p q : Addr) (l m : List Int), vs = [.ref p, .ref q] ∧ SqT K H p (l.map V.int) ∧ SqT K H q (m.map V.int) ∧ ∀ H', Ex H H' → Q (.str (brK l m)) H'
theorem eqT {H : Hp} {p q : Addr} {l m : List Int} {Q : VK} (hp : SqT K H p (l.map V.int)) (hq : SqT K H q (m.map V.int)) (h : Q (.bl (decide (l = m))) H) : rEqD K (.ref p) (.ref q) H Q :=
  ⟨_, _, .tup hp (dp_ints l), .tup hq (dp_ints m), shaped_ints l, shaped_ints m, by rw [eqv_ints]; exact h⟩
/-- t[:n], then ==, l the left side -/
theorem slT {H : Hp} {p q : Addr} {l m : List Int} {n : Nat} {Q : VK} (hp : SqT K H p (l.map V.int)) (hq : SqT K H q (m.map V.int)) (h : ∀ H', Ex H H' → Q (.bl (decide (l = m.take n))) H') :
    rSlA K (.ref q) none (some (n : Int)) H (fun y H2 => rEqD K (.ref p) y H2 Q) := by
  refine ⟨q, _, rfl, hq, fun hw => ?_, fun hw t nt => ?_⟩
  · refine eqT hp hq ?_
    have e := whole_to hw.2
    rw [← e] at h
    rw [List.take_take, Nat.min_self] at h
    rw [← e]
    exact h H (Evl.Ex.refl H)
  · rw [cut_to]
    exact eqT (Evl.ex_t (Evl.Ex.new nt) hp) (.inl (.inl upd_same)) (h _ (Evl.Ex.new nt))
theorem ok_bra (F : Fa K mg ad fd) (T : Bl mg) : FnOk P w K mg base CX0 2 (ad 10) (fd 10) p_bra (spBra K) := by
  refine F.F_bra.ok sc_bra (fun vs H Q E h => ?_) (fun cdv A outer s H vs Q E hr h => ?_)
  · obtain ⟨_, _, _, _, rfl, _⟩ := h
    rfl
  · obtain ⟨p, r, l, m, rfl, hp, hq, q⟩ := h
    refine ⟨_, (pss_cons (ps_if (pt_cmpR (op_eqD hr.units) (pv 0) (pv 1) (nomark _)) (pss_one (ps_ret pe_str)) pss_nil)
      (pss_cons (ps_if (pt_cmpR (op_eqD hr.units) (pv 0) (pe_slice sl_tupA (pv 1) po_none (po_some (pe_callB call_len_seq (by rfl) T.m_len PySem.boot_len (pa_cons (pv 0) pa_nil)))) (nomark _)) (pss_one (ps_ret pe_str)) pss_nil)
      (pss_cons (ps_if (pt_cmpR (op_eqD hr.units) (pv 1) (pe_slice sl_tupA (pv 0) po_none (po_some (pe_callB call_len_seq (by rfl) T.m_len PySem.boot_len (pa_cons (pv 1) pa_nil)))) (nomark _)) (pss_one (ps_ret pe_str)) pss_nil)
      (pss_one (ps_ret pe_str))))), ?_⟩
    refine ⟨_, rfl, _, rfl, eqT hp hq ⟨_, rfl, ite2 (fun e => ?_) (fun e => ?_)⟩⟩
    · have z : brK l m = "same" := if_pos (of_decide_eq_true e)
      rw [z] at q
      exact q H (Evl.Ex.refl H)
    have h1 : ¬ l = m := fun z => e (decide_eq_true z)
    refine ⟨_, rfl, _, rfl, _, rfl, p, _, rfl, .inr hp, _, rfl, ?_⟩
    rw [List.length_map]
    refine slT hp hq fun H1 x1 => ⟨_, rfl, ite2 (fun e => ?_) (fun e => ?_)⟩
    · have z : brK l m = "up" := by
        unfold brK
        rw [if_neg h1, if_pos (of_decide_eq_true e)]
      rw [z] at q
      exact q H1 x1
    have h2 : ¬ l = m.take l.length := fun z => e (decide_eq_true z)
    refine ⟨_, rfl, _, rfl, _, rfl, r, _, rfl, .inr (Evl.ex_t x1 hq), _, rfl, ?_⟩
    rw [List.length_map]
    refine slT (Evl.ex_t x1 hq) (Evl.ex_t x1 hp) fun H2 x2 => ⟨_, rfl, ite2 (fun e => ?_) (fun e => ?_)⟩
    · have z : brK l m = "down" := by
        unfold brK
        rw [if_neg h1, if_neg h2, if_pos (of_decide_eq_true e)]
      rw [z] at q
      exact q H2 (x1.trans x2)
    · have z : brK l m = "apart" := by
        unfold brK
        rw [if_neg h1, if_neg h2, if_neg (fun z => e (decide_eq_true z))]
      rw [z] at q
      exact q H2 (x1.trans x2)
/-- a set of marks, as a list -/
def Mk (l : List Int) : Prop := l.Nodup ∧ 1 ≤ l.length ∧ l.length ≤ 7
def spPar (K : PySem.W.Frag) : Sp := fun vs H Q _ => ∃ (p q : Addr) (l m : List Int), vs = [.ref p, .ref q] ∧ SqL K H p (l.map V.int) ∧ SqL K H q (m.map V.int) ∧ Mk l ∧ Mk m ∧ ∀ H', Ex H H' → Q (.str (paK l m)) H'
theorem mem_common {l m : List Int} (k : Int) : (decide (k ∈ l) && decide (k ∈ m)) = true ↔ k ∈ common l m := by
  unfold common
  rw [List.mem_filter, Bool.and_eq_true, decide_eq_true_iff]
theorem ok_par (F : Fa K mg ad fd) (T : Bl mg) : FnOk P w K mg base CX0 2 (ad 11) (fd 11) p_par (spPar K) := by
  refine F.F_par.ok sc_par (fun vs H Q E h => ?_) (fun cdv A outer s H vs Q E hr h => ?_)
  · obtain ⟨_, _, _, _, rfl, _⟩ := h
    rfl
  · obtain ⟨p, r, l, m, rfl, hp, hq, hl, hm, q⟩ := h
    refine ⟨_, (pss_cons (ps_set (i := 2) sc_par.nd rfl (.inl rfl) (pe_callB cr_lenSI (by rfl) T.m_len PySem.boot_len (pa_cons (pe_op op_andS (pe_callTy (cr_setI rfl) (by rfl) T.m_set boot_set (pa_cons (pv 0) pa_nil)) (pe_callTy (cr_setI rfl) (by rfl) T.m_set boot_set (pa_cons (pv 1) pa_nil))) pa_nil)))
      (pss_cons (ps_if (pt_cmpR op_eq (pv 2) pe_int (nomark _)) (pss_one (ps_ret pe_str)) pss_nil)
      (pss_cons (ps_if (PW.pt (pw_and (pt_cmpR op_eq (pv 2) (pe_callB call_len_seq (by rfl) T.m_len PySem.boot_len (pa_cons (pv 0) pa_nil)) (nomark _)) (pw_and1 (pt_cmpR op_eq (pv 2) (pe_callB call_len_seq (by rfl) T.m_len PySem.boot_len (pa_cons (pv 1) pa_nil)) (nomark _))))) (pss_one (ps_ret pe_str)) pss_nil)
      (pss_cons (ps_if (pt_cmpR op_eq (pv 2) (pe_callB call_len_seq (by rfl) T.m_len PySem.boot_len (pa_cons (pv 0) pa_nil)) (nomark _)) (pss_one (ps_ret pe_str)) pss_nil)
      (pss_cons (ps_if (pt_cmpR op_eq (pv 2) (pe_callB call_len_seq (by rfl) T.m_len PySem.boot_len (pa_cons (pv 1) pa_nil)) (nomark _)) (pss_one (ps_ret pe_str)) pss_nil)
      (pss_one (ps_ret pe_str))))))), ?_⟩
    refine ⟨_, rfl, p, l, rfl, hp, by have := hl.2.2; omega, fun u1 c1 n1 e1 => ?_⟩
    have x1 := Evl.Ex.new (o := SetO w u1 (fun j => decide (j ∈ l)) c1) n1
    refine ⟨_, rfl, r, m, rfl, Evl.ex_l x1 hq, by have := hm.2.2; omega, fun u2 c2 n2 e2 => ?_⟩
    have x2 := Evl.Ex.new (o := SetO w u2 (fun j => decide (j ∈ m)) c2) n2
    have hc1 := e1 hl.1
    have hc2 := e2 hm.1
    refine ⟨u1, u2, _, _, c1, c2, rfl, rfl, ne_of_none upd_same n2, x2 _ _ upd_same, upd_same, by have := hl.2.2; omega, by have := hm.2.2; omega, fun u3 c3 n3 => ?_⟩
    have x3 := Evl.Ex.new (o := SetO w u3 (fun k => decide (k ∈ l) && decide (k ∈ m)) c3) n3
    refine ⟨u3, _, c3, common l m, rfl, upd_same, hl.1.filter _, mem_common, fun _ => ?_⟩
    have xx := (x1.trans x2).trans x3
    have q0 := q _ xx
    have hp3 := Evl.ex_l xx hp
    have hq3 := Evl.ex_l xx hq
    have inj : ∀ {i j : Nat}, V.int (i : Int) = V.int (j : Int) ↔ i = j := fun {i j} => ⟨fun z => by injection z with z; omega, fun z => by rw [z]⟩
    unfold paK at q0
    generalize (common l m).length = n at *
    refine ⟨_, rfl, rfl, _, rfl, ite2 (fun e => ?_) (fun e => ?_)⟩
    · have h0 : n = 0 := by
        have z : V.int (n : Int) = V.int 0 := of_decide_eq_true e
        injection z with z
        omega
      rw [show paN n l.length m.length = "apart" from if_pos h0] at q0
      exact q0
    have h0 : ¬ n = 0 := fun z => e (decide_eq_true (by rw [z]; rfl))
    have t1 : decide (V.int (n : Int) = V.int ((l.map V.int).length : Int)) = decide (n = l.length) := by
      rw [List.length_map]
      exact decide_eq_decide.mpr inj
    have t2 : decide (V.int (n : Int) = V.int ((m.map V.int).length : Int)) = decide (n = m.length) := by
      rw [List.length_map]
      exact decide_eq_decide.mpr inj
    refine ⟨_, rfl, _, rfl, p, _, rfl, .inl hp3, rfl, _, rfl, ite2 (fun e1 => ?_) (fun e1 => ?_)⟩
    · have h1 : n = l.length := of_decide_eq_true (t1 ▸ e1)
      refine ⟨_, rfl, _, rfl, r, _, rfl, .inl hq3, rfl, _, rfl, ite2 (fun e2 => ?_) (fun e2 => ?_)⟩
      · have h2 : n = m.length := of_decide_eq_true (t2 ▸ e2)
        have z : paN n l.length m.length = "same" := by
          unfold paN
          rw [if_neg h0, if_pos ⟨h1, h2⟩]
        rw [z] at q0
        exact q0
      · have h2 : ¬ n = m.length := fun z => e2 (t2.trans (decide_eq_true z))
        refine ⟨_, rfl, _, rfl, p, _, rfl, .inl hp3, rfl, _, rfl, ite2 (fun e3 => ?_) (fun e3 => absurd e1 e3)⟩
        have z : paN n l.length m.length = "within" := by
          unfold paN
          rw [if_neg h0, if_neg (fun z => h2 z.2), if_pos h1]
        rw [z] at q0
        exact q0
    · have h1 : ¬ n = l.length := fun z => e1 (t1.trans (decide_eq_true z))
      refine iteF ⟨_, rfl, _, rfl, p, _, rfl, .inl hp3, rfl, _, rfl, ite2 (fun e3 => absurd e3 e1) (fun e3 => ?_)⟩
      refine ⟨_, rfl, _, rfl, r, _, rfl, .inl hq3, rfl, _, rfl, ite2 (fun e2 => ?_) (fun e2 => ?_)⟩
      · have h2 : n = m.length := of_decide_eq_true (t2 ▸ e2)
        have z : paN n l.length m.length = "around" := by
          unfold paN
          rw [if_neg h0, if_neg (fun z => h1 z.1), if_neg h1, if_pos h2]
        rw [z] at q0
        exact q0
      · have h2 : ¬ n = m.length := fun z => e2 (t2.trans (decide_eq_true z))
        have z : paN n l.length m.length = "across" := by
          unfold paN
          rw [if_neg h0, if_neg (fun z => h1 z.1), if_neg h1, if_neg h2]
        rw [z] at q0
        exact q0
end
end K10
end

section
set_option Elab.async false
set_option linter.all false
set_option maxRecDepth 100000
namespace K10
open PySem PySem.Spec PyProof.Rows L2 KW
abbrev tailLE : List Value := [.type "LookupError", .type "Exception", .type "BaseException", .type "object"]
abbrev s_mis : Stmt := inClass (topS 1) 0
abbrev s_not : Stmt := inClass (topS 2) 0
theorem sc_mis : FnScope ["self", "message"] ["self", "message"] (defScope s_mis) := ⟨rfl, rfl, rfl, by decide +kernel, rfl, by decide +kernel, by decide +kernel⟩
theorem sc_not : FnScope ["self", "name"] ["self", "name"] (defScope s_not) := ⟨rfl, rfl, rfl, by decide +kernel, rfl, by decide +kernel, by decide +kernel⟩
/-- a def with defaults that every call hands all arguments -/
structure FunD (K : PySem.W.Frag) (x qual : Str) (st : Stmt) (f : Addr) (fd : FuncData) : Prop where
  ex : ∃ (oc : Value) (od : Option Addr) (dV kV doc pm : Value) (an : Option Addr) (cdv ct : Value) (osl : Array (Option Value)),
    fd = PySem.W.fnOf x qual (defArgs st) (defBody st) (defScope st) dV kV doc pm an cdv ct ∧ K.lookup f = some ⟨oc, od, .func fd, osl⟩ ∧ PySem.W.codeIn K cdv qual = true
  kp : PySem.W.keepIn K (.ref f) = true
/-- what the text tells of its refusal -/
structure Xc (K : PySem.W.Frag) (mg : Str → Option Value) (ad : Nat → Addr) (fd : Nat → FuncData) : Prop where
  g_mis : mg "Missing" = some (.ref (ad 1))
  g_not : mg "NoTable" = some (.ref (ad 2))
  m_LE : mg "LookupError" = none
  FM : FunD K "__init__" "Missing.__init__" s_mis (ad 101) (fd 101)
  FN : Fun K "__init__" "NoTable.__init__" s_not (ad 102) (fd 102)
  bM : Binds K (fd 101) ["self", "message"] []
  bN : Binds K (fd 102) ["self", "name"] []
  rM : ClX.CRead K (ad 1) (.type "type")
  cM : PySem.W.findCls K (.ref (ad 1)) (.type "type") "__init__" = some (.val (.ref (ad 101)))
  O : OxC K "LookupError.__new__" tailLE (ad 2)
  noW : PySem.W.findIn K (.ref (ad 2)) "word" = some none
  noN : PySem.W.findIn K (.ref (ad 2)) "name" = some none
  iN : PySem.W.findIn K (.ref (ad 2)) "__init__" = some (some (.ref (ad 102)))
  tN : PySem.W.typeIn K (.ref (ad 102)) = some (.type "function")
  vL : PySem.W.findCls K (.type "LookupError") (.type "type") "__init__" = some (.val (.builtin "LookupError.__init__"))
  xf : XfC K (ad 2)
  te : PySem.W.exmOne K (.ref (ad 2)) (.ref (ad 2)) = some true
theorem typ_LE : typeOf (.type "LookupError") = pure (.type "type") := by kernel_rfl
theorem boot_LE : bootBuiltins "LookupError" = some (.type "LookupError") := by decide +kernel
section
variable {P : Program} {w : World} {K : PySem.W.Frag} {mg : Str → Option Value} {base : Heap} {ad : Nat → Addr} {fd : Nat → FuncData}
def spMis (C : Addr) : Sp := fun vs H Q _ => ∃ (a : Addr) (m : Str), vs = [.ref a, .str m] ∧ H a = some (exo a C none) ∧ ∀ dx, H dx = none → dx ≠ a → Q .non (upd (upd H dx (exd dx [("word", .str "Missing")])) a (exo a C (some dx)))
theorem ok_mis (X : Xc K mg ad fd) : FnOk P w K mg base CX0 1 (ad 101) (fd 101) ["self", "message"] (spMis (ad 2)) := by
  obtain ⟨oc, od, dV, kV, doc, pm, an, cdv, ct, osl, e, lk, hcd⟩ := X.FM.ex
  rw [e] at lk ⊢
  refine fn_of lk hcd sc_mis (fun vs H Q E h => ?_) (fun A outer s H vs Q E hr h => ?_)
  · obtain ⟨_, _, rfl, _⟩ := h
    rfl
  · obtain ⟨a, m, rfl, ha, q⟩ := h
    refine ⟨_, PSs.nox (pss_cons (ps_expr (pe_binit base_LE rfl X.m_LE boot_LE typ_LE (by decide +kernel) X.vL (pa_cons (pv 0) (pa_cons (pv 1) pa_nil)))) (pss_one (ps_fx base_LE (pv 0) pe_str))), ?_⟩
    refine ⟨_, rfl, _, rfl, a, ad 2, _, rfl, by show 1 ≤ 1000; decide, X.O, ha, ?_⟩
    exact ⟨_, rfl, a, ad 2, rfl, X.O, X.noW, .inl ⟨ha, q⟩⟩
def spNot (C : Addr) : Sp := fun vs H Q _ => ∃ (a : Addr) (x : Str), vs = [.ref a, .str x] ∧ x.length ≤ 1000 ∧ H a = some (exo a C none) ∧
  ∀ dx H' fs, H dx = none → dx ≠ a → H' a = some (exo a C (some dx)) → H' dx = some (exd dx fs) → fs.lookup ("name" : Str) = some (V.str x) → Q .non H'
theorem ok_not (X : Xc K mg ad fd) : FnOk P w K mg base CX0 2 (ad 102) (fd 102) ["self", "name"] (spNot (ad 2)) := by
  have G : FnOk P w K mg base CX0 1 (ad 101) (fd 101) ["self", "message"] (spMis (ad 2)) := ok_mis X
  refine X.FN.ok sc_not (fun vs H Q E h => ?_) (fun cdv A outer s H vs Q E hr h => ?_)
  · obtain ⟨_, _, rfl, _⟩ := h
    rfl
  · obtain ⟨a, x, rfl, hx, ha, q⟩ := h
    refine ⟨_, pss_cons (ps_expr (pe_oinit G hr rfl X.g_mis X.rM X.cM X.FM.kp X.bM .nil pass0 (pa_cons (pv 0) (pa_cons (pe_joined (.cons pe_str (.cons (pe_fmt (pv 1)) .nil))) pa_nil))))
      (pss_cons (ps_fx base_LE (pv 0) pe_str) (pss_one (ps_fx base_LE (pv 0) (pv 1)))), ?_⟩
    have hz : x.length ≤ sizeLine := Nat.le_trans hx (by decide)
    refine ⟨_, rfl, _, rfl, by decide +kernel, _, rfl, .inl ⟨x, rfl, hz, x, rfl, ?_, a, _, rfl, ha, fun dx nd ne => ?_⟩⟩
    · have e : (Str.empty ++ Str.ofString "no table ").length ≤ 100 := by decide +kernel
      rw [Str.length_append]
      exact Nat.le_trans (Nat.add_le_add e hx) (by decide)
    · have e1 : (upd (upd H dx (exd dx [("word", .str "Missing")])) a (exo a (ad 2) (some dx))) dx = some (exd dx [("word", .str "Missing")]) := by
        rw [upd_ne ne]
        exact upd_same
      refine ⟨_, rfl, a, ad 2, rfl, X.O, X.noW, .inr ⟨dx, _, upd_same, e1, by decide, ?_⟩⟩
      refine ⟨_, rfl, _, rfl, a, ad 2, rfl, X.O, X.noN, .inr ⟨dx, _, (by rw [upd_ne ne.symm]; exact upd_same), upd_same, by decide, ?_⟩⟩
      refine q dx _ _ nd ne ?_ upd_same ?_
      · rw [upd_ne ne.symm, upd_ne ne.symm]
        exact upd_same
      · rw [lookup_put, if_pos rfl]
/-! ### things, by the word of their sort -/
inductive Wd where | mo | st | co | br | pa
def Wd.s : Wd → Str
  | .mo => "moments"
  | .st => "stretches"
  | .co => "courses"
  | .br => "branches"
  | .pa => "parts"
inductive Th where | num (n : Int) | pr (a b : Int) | way (l : List Int) | mks (l : List Int)
def Tv (K : PySem.W.Frag) (H : Hp) : Wd → V → Th → Prop
  | .mo, v, .num n => v = .int n
  | .st, v, .pr a b => ∃ p, v = .ref p ∧ SqT K H p [.int a, .int b] ∧ a < b
  | .co, v, .pr a b => ∃ p, v = .ref p ∧ SqT K H p [.int a, .int b]
  | .br, v, .way l => ∃ p, v = .ref p ∧ SqT K H p (l.map V.int)
  | .pa, v, .mks l => ∃ p, v = .ref p ∧ SqL K H p (l.map V.int) ∧ Mk l
  | _, _, _ => False
def kd : Wd → Th → Th → Str
  | .mo, .num a, .num b => mk a b
  | .st, .pr a b, .pr c d => stK a b c d
  | .co, .pr a b, .pr c d => coK a b c d
  | .br, .way l, .way m => brK l m
  | .pa, .mks l, .mks m => paK l m
  | _, _, _ => ""
def spBtw (K : PySem.W.Frag) : Sp := fun vs H Q _ => ∃ (W : Wd) (u v : V) (t t' : Th), vs = [.str W.s, u, v] ∧ Tv K H W u t ∧ Tv K H W v t' ∧ ∀ H', Ex H H' → Q (.str (kd W t t')) H'
def rdr (K : PySem.W.Frag) (ad : Nat → Addr) (f : Addr) : Option Sp :=
  if f = ad 7 then some spMom else if f = ad 8 then some (spStr K) else if f = ad 9 then some (spCou K) else if f = ad 10 then some (spBra K) else if f = ad 11 then some (spPar K) else none
theorem ok_btw (F : Fa K mg ad fd) (T : Bl mg) (B : Tb K P w ad) : FnOk P w K mg base CX0 3 (ad 13) (fd 13) p_btw (spBtw K) := by
  have hA : ∀ f sp, rdr K ad f = some sp → Held P w K mg base 2 f sp := fun f sp h => by
    unfold rdr at h
    by_cases e7 : f = ad 7
    · rw [if_pos e7] at h
      cases h
      rw [e7]
      exact ⟨fd 7, p_mom, ok_mom F.F_mom, F.F_mom.kp, F.b_mom⟩
    rw [if_neg e7] at h
    by_cases e8 : f = ad 8
    · rw [if_pos e8] at h
      cases h
      rw [e8]
      exact ⟨fd 8, p_str, ok_str F T B, F.F_str.kp, F.b_str⟩
    rw [if_neg e8] at h
    by_cases e9 : f = ad 9
    · rw [if_pos e9] at h
      cases h
      rw [e9]
      exact ⟨fd 9, p_cou, ok_cou F T B, F.F_cou.kp, F.b_cou⟩
    rw [if_neg e9] at h
    by_cases e10 : f = ad 10
    · rw [if_pos e10] at h
      cases h
      rw [e10]
      exact ⟨fd 10, p_bra, ok_bra F T, F.F_bra.kp, F.b_bra⟩
    rw [if_neg e10] at h
    by_cases e11 : f = ad 11
    · rw [if_pos e11] at h
      cases h
      rw [e11]
      exact ⟨fd 11, p_par, ok_par F T, F.F_par.kp, F.b_par⟩
    rw [if_neg e11] at h
    cases h
  have n78 := fne F.F_mom F.F_str (by decide +kernel)
  have n79 := fne F.F_mom F.F_cou (by decide +kernel)
  have n710 := fne F.F_mom F.F_bra (by decide +kernel)
  have n711 := fne F.F_mom F.F_par (by decide +kernel)
  have n89 := fne F.F_str F.F_cou (by decide +kernel)
  have n810 := fne F.F_str F.F_bra (by decide +kernel)
  have n811 := fne F.F_str F.F_par (by decide +kernel)
  have n910 := fne F.F_cou F.F_bra (by decide +kernel)
  have n911 := fne F.F_cou F.F_par (by decide +kernel)
  have n1011 := fne F.F_bra F.F_par (by decide +kernel)
  have k7 : rdr K ad (ad 7) = some spMom := if_pos rfl
  have k8 : rdr K ad (ad 8) = some (spStr K) := by
    unfold rdr
    rw [if_neg n78.symm, if_pos rfl]
  have k9 : rdr K ad (ad 9) = some (spCou K) := by
    unfold rdr
    rw [if_neg n79.symm, if_neg n89.symm, if_pos rfl]
  have k10 : rdr K ad (ad 10) = some (spBra K) := by
    unfold rdr
    rw [if_neg n710.symm, if_neg n810.symm, if_neg n910.symm, if_pos rfl]
  have k11 : rdr K ad (ad 11) = some (spPar K) := by
    unfold rdr
    rw [if_neg n711.symm, if_neg n811.symm, if_neg n911.symm, if_neg n1011.symm, if_pos rfl]
  refine F.F_btw.ok sc_btw (fun vs H Q E h => ?_) (fun cdv A outer s H vs Q E hr h => ?_)
  · obtain ⟨_, _, _, _, _, rfl, _⟩ := h
    rfl
  · obtain ⟨W, u, v, t, t', rfl, hu, hv, q⟩ := h
    refine ⟨_, (pss_cons (ps_set (i := 3) sc_btw.nd rfl (.inl rfl) (pe_ix ix_kdict (pe_glob (v := .ref _) rfl F.g_readers rfl) (pv 0) (fun _ _ => rfl)))
      (pss_one (ps_ret (pe_callA (i := 3) hA (hr.mono (by decide)) rfl (.inl rfl) (pa_cons (pv 1) (pa_cons (pv 2) pa_nil)))))), ?_⟩
    cases W with
    | mo =>
      cases t <;> first | exact hu.elim | skip
      cases t' <;> first | exact hv.elim | skip
      obtain rfl := hu
      obtain rfl := hv
      refine ⟨_, rfl, ad 12, _, _, rfl, rfl, B.r1, ?_⟩
      exact ⟨ad 7, _, rfl, k7, _, rfl, _, rfl, _, _, rfl, q H (Evl.Ex.refl H)⟩
    | st =>
      cases t <;> first | exact hu.elim | skip
      cases t' <;> first | exact hv.elim | skip
      obtain ⟨p, rfl, hp, _⟩ := hu
      obtain ⟨r, rfl, hr', _⟩ := hv
      refine ⟨_, rfl, ad 12, _, _, rfl, rfl, B.r2, ?_⟩
      exact ⟨ad 8, _, rfl, k8, _, rfl, _, rfl, p, r, _, _, _, _, rfl, hp, hr', q⟩
    | co =>
      cases t <;> first | exact hu.elim | skip
      cases t' <;> first | exact hv.elim | skip
      obtain ⟨p, rfl, hp⟩ := hu
      obtain ⟨r, rfl, hr'⟩ := hv
      refine ⟨_, rfl, ad 12, _, _, rfl, rfl, B.r3, ?_⟩
      exact ⟨ad 9, _, rfl, k9, _, rfl, _, rfl, p, r, _, _, _, _, rfl, hp, hr', q⟩
    | br =>
      cases t <;> first | exact hu.elim | skip
      cases t' <;> first | exact hv.elim | skip
      obtain ⟨p, rfl, hp⟩ := hu
      obtain ⟨r, rfl, hr'⟩ := hv
      refine ⟨_, rfl, ad 12, _, _, rfl, rfl, B.r4, ?_⟩
      exact ⟨ad 10, _, rfl, k10, _, rfl, _, rfl, p, r, _, _, rfl, hp, hr', q⟩
    | pa =>
      cases t <;> first | exact hu.elim | skip
      cases t' <;> first | exact hv.elim | skip
      obtain ⟨p, rfl, hp, hm⟩ := hu
      obtain ⟨r, rfl, hr', hm'⟩ := hv
      refine ⟨_, rfl, ad 12, _, _, rfl, rfl, B.r5, ?_⟩
      exact ⟨ad 11, _, rfl, k11, _, rfl, _, rfl, p, r, _, _, rfl, hp, hr', hm, hm', q⟩
/-- read_off: the kind; or, of a word that is none, NoTable with it -/
def spOff (K : PySem.W.Frag) (C : Addr) : Sp := fun vs H Q E => (∃ (W : Wd) (u v : V) (t t' : Th), vs = [.str W.s, u, v] ∧ Tv K H W u t ∧ Tv K H W v t' ∧ ∀ H', Ex H H' → Q (.str (kd W t t')) H') ∨
  ∃ (u v : V), vs = [.str "part", u, v] ∧ ∀ d fs H', H' d = some (.xd fs) → fs.lookup ("name" : Str) = some (V.str "part") → E (.ref C) (some d) H'
theorem in_words (W : Wd) : inV (.str W.s) [.str "moments", .str "stretches", .str "courses", .str "branches", .str "parts"] = true := by
  cases W <;> decide +kernel
theorem in_part : inV (.str "part") [.str "moments", .str "stretches", .str "courses", .str "branches", .str "parts"] = false := by decide +kernel
theorem ok_off (F : Fa K mg ad fd) (T : Bl mg) (B : Tb K P w ad) (X : Xc K mg ad fd) : FnOk P w K mg base (L2.CX P w) 4 (ad 16) (fd 16) p_off (spOff K (ad 2)) := by
  have G_btw : FnOk P w K mg base CX0 3 (ad 13) (fd 13) p_btw (spBtw K) := ok_btw F T B
  have G_not : FnOk P w K mg base CX0 2 (ad 102) (fd 102) ["self", "name"] (spNot (ad 2)) := ok_not X
  refine F.F_off.okX sc_off (fun vs H Q E h => ?_) (fun cdv A outer s H vs Q E hr h => ?_)
  · rcases h with ⟨_, _, _, _, _, rfl, _⟩ | ⟨_, _, rfl, _⟩ <;> rfl
  · refine ⟨_, pss_cons (ps_if (pt_cmpR op_notIn_seq (pv 0) (pe_glob (v := .ref _) rfl F.g_words rfl) (by rfl))
        (pss_one (ps_raise rfl (takes_of rfl rfl rfl rfl) (pmk_ox base_LE X.O X.iN X.tN G_not hr X.bN .nil pass0 rfl X.g_not (pa_cons (pv 0) pa_nil)))) pss_nil)
      (pss_one (ps_ret (pe_call G_btw (hr.mono (by decide)) (by rfl) F.g_btw F.F_btw.kp F.b_btw .nil pass0 (pa_cons (pv 0) (pa_cons (pv 1) (pa_cons (pv 2) pa_nil)))))), ?_⟩
    rcases h with ⟨W, u, v, t, t', rfl, hu, hv, q⟩ | ⟨u, v, rfl, q⟩
    · refine ⟨_, rfl, ad 15, _, rfl, .inr (B.words H), rfl, rfl, false, (by rw [if_pos rfl, in_words W] <;> rfl), ?_⟩
      refine iteF ⟨_, rfl, _, rfl, _, rfl, W, u, v, t, t', rfl, hu, hv, q⟩
    · refine ⟨_, rfl, ad 15, _, rfl, .inr (B.words H), rfl, rfl, true, (by rw [if_pos rfl, in_part] <;> rfl), ?_⟩
      refine iteT ⟨_, rfl, by show 1 ≤ 1000; decide, fun a na => ⟨a, "part", rfl, by decide +kernel, upd_same, fun dx H' fs nd ne e1 e2 e3 => ⟨rfl, dx, fs, e1, e2, ?_, ?_⟩⟩⟩
      · rw [upd_ne ne] at nd
        exact nd
      · exact q dx fs _ upd_same e3
end
end K10
end

section
set_option Elab.async false
set_option linter.all false
set_option maxRecDepth 100000
namespace K10
open PySem PySem.Spec PyProof.Rows L2 KW
theorem bt {a b : Str} (h : a = b) : V.bl (decide (V.str a = V.str b)) = V.bl true := by
  rw [h]
  simp
theorem bf {a b : Str} (h : a ≠ b) : V.bl (decide (V.str a = V.str b)) = V.bl false := by
  rw [decide_eq_false]
  intro z
  injection z with z
  exact h z
def kofL : Wd → List Str
  | .mo => ["ahead", "same", "behind"]
  | .co => ["nw", "n", "ne", "w", "same", "e", "sw", "s", "se"]
  | .br => ["up", "same", "down", "apart"]
  | .pa => ["within", "around", "same", "across", "apart"]
  | .st => ["before", "meets", "overlaps", "begins", "within", "ends", "same", "ended", "around", "begun", "overlaid", "met", "after"]
section
variable {P : Program} {w : World} {K : PySem.W.Frag} {mg : Str → Option Value} {base : Heap} {ad : Nat → Addr} {fd : Nat → FuncData}
def spKof : Sp := fun vs H Q _ => ∃ W : Wd, vs = [.str W.s] ∧ ∀ p H', Ex H H' → H' p = some (.lst ((kofL W).map V.str)) → Q (.ref p) H'
theorem ok_kof (F : Fa K mg ad fd) : FnOk P w K mg base CX0 1 (ad 21) (fd 21) p_kof spKof := by
  refine F.F_kof.ok sc_kof (fun vs H Q E h => ?_) (fun cdv A outer s H vs Q E hr h => ?_)
  · obtain ⟨_, rfl, _⟩ := h
    rfl
  · obtain ⟨W, rfl, q⟩ := h
    refine ⟨_, (pss_cons (ps_if (pt_cmpR op_eq (pv 0) pe_str (nomark _)) (pss_one (ps_ret (pe_lst (pa_cons pe_str (pa_cons pe_str (pa_cons pe_str pa_nil)))))) pss_nil)
      (pss_cons (ps_if (pt_cmpR op_eq (pv 0) pe_str (nomark _)) (pss_one (ps_ret (pe_lst (pa_cons pe_str (pa_cons pe_str (pa_cons pe_str (pa_cons pe_str (pa_cons pe_str (pa_cons pe_str (pa_cons pe_str (pa_cons pe_str (pa_cons pe_str pa_nil)))))))))))) pss_nil)
      (pss_cons (ps_if (pt_cmpR op_eq (pv 0) pe_str (nomark _)) (pss_one (ps_ret (pe_lst (pa_cons pe_str (pa_cons pe_str (pa_cons pe_str (pa_cons pe_str pa_nil))))))) pss_nil)
      (pss_cons (ps_if (pt_cmpR op_eq (pv 0) pe_str (nomark _)) (pss_one (ps_ret (pe_lst (pa_cons pe_str (pa_cons pe_str (pa_cons pe_str (pa_cons pe_str (pa_cons pe_str pa_nil)))))))) pss_nil)
      (pss_cons (ps_set (i := 1) sc_kof.nd rfl (.inl rfl) (pe_lst (pa_cons pe_str (pa_cons pe_str (pa_cons pe_str (pa_cons pe_str (pa_cons pe_str (pa_cons pe_str (pa_cons pe_str pa_nil)))))))))
      (pss_one (ps_ret (pe_op op_cat (pv 1) (pe_lst (pa_cons pe_str (pa_cons pe_str (pa_cons pe_str (pa_cons pe_str (pa_cons pe_str (pa_cons pe_str pa_nil))))))))))))))), ?_⟩
    cases W with
    | mo =>
      refine ⟨_, rfl, rfl, true, bt rfl, iteT ?_⟩
      exact ⟨by show 3 ≤ sizeLine; decide, fun p hp => q p _ (Evl.Ex.new hp) upd_same⟩
    | co =>
      refine ⟨_, rfl, rfl, false, bf (by decide +kernel), iteF ⟨_, rfl, rfl, true, bt rfl, iteT ?_⟩⟩
      exact ⟨by show 9 ≤ sizeLine; decide, fun p hp => q p _ (Evl.Ex.new hp) upd_same⟩
    | br =>
      refine ⟨_, rfl, rfl, false, bf (by decide +kernel), iteF ⟨_, rfl, rfl, false, bf (by decide +kernel), iteF ⟨_, rfl, rfl, true, bt rfl, iteT ?_⟩⟩⟩
      exact ⟨by show 4 ≤ sizeLine; decide, fun p hp => q p _ (Evl.Ex.new hp) upd_same⟩
    | pa =>
      refine ⟨_, rfl, rfl, false, bf (by decide +kernel), iteF ⟨_, rfl, rfl, false, bf (by decide +kernel), iteF ⟨_, rfl, rfl, false, bf (by decide +kernel), iteF ⟨_, rfl, rfl, true, bt rfl, iteT ?_⟩⟩⟩⟩
      exact ⟨by show 5 ≤ sizeLine; decide, fun p hp => q p _ (Evl.Ex.new hp) upd_same⟩
    | st =>
      refine ⟨_, rfl, rfl, false, bf (by decide +kernel), iteF ⟨_, rfl, rfl, false, bf (by decide +kernel), iteF ⟨_, rfl, rfl, false, bf (by decide +kernel), iteF ⟨_, rfl, rfl, false, bf (by decide +kernel), iteF ?_⟩⟩⟩⟩
      refine ⟨by show 7 ≤ sizeLine; decide, fun p1 h1 => ?_⟩
      refine ⟨_, rfl, by show 6 ≤ sizeLine; decide, fun p2 h2 => ?_⟩
      have x1 := Evl.Ex.new (o := .lst [.str "before", .str "meets", .str "overlaps", .str "begins", .str "within", .str "ends", .str "same"]) h1
      have x2 := Evl.Ex.new (o := .lst [.str "ended", .str "around", .str "begun", .str "overlaid", .str "met", .str "after"]) h2
      exact ⟨p1, p2, _, _, rfl, rfl, x2 _ _ upd_same, upd_same, by show 7 + 6 ≤ sizeLine; decide, fun p3 h3 => q p3 _ ((x1.trans x2).trans (Evl.Ex.new h3)) upd_same⟩
/-- the table of the law: its kinds -/
def spTab : Sp := fun vs H Q _ => ∃ (a b d : Addr) (ks : List Str) (y : Str), vs = [.ref a, .str y, .ref b, .ref d] ∧ H a = some (.lst (ks.map V.str)) ∧ H b = some (.lst []) ∧
  ∀ p l kvs H', Ex H H' → H' p = some (.dK kvs) → valV kvs (.inr "kinds") = some (.ref l) → H' l = some (.lst (ks.map V.str)) → Q (.ref p) H'
theorem ok_tab (F : Fa K mg ad fd) (T : Bl mg) : FnOk P w K mg base CX0 1 (ad 20) (fd 20) p_table spTab := by
  refine F.F_table.ok sc_table (fun vs H Q E h => ?_) (fun cdv A outer s H vs Q E hr h => ?_)
  · obtain ⟨_, _, _, _, _, rfl, _⟩ := h
    rfl
  · obtain ⟨a, b, d, ks, y, rfl, ha, hb, q⟩ := h
    refine ⟨_, (pss_one (ps_ret (pe_disp (pps_cons pe_str (pe_callTy call_list_of (by rfl) T.m_list (by decide +kernel) (pa_cons (pv 0) pa_nil)) (pps_cons pe_str (pv 1) (pps_cons pe_str (pe_dictzip rfl (by rfl) T.m_dict (by rfl) T.m_zip (pa_cons (pv 0) (pa_cons (pv 2) pa_nil))) (pps_cons pe_str (pv 3) pps_nil)))) rfl rfl (by decide) (by decide)))), ?_⟩
    intro p hp
    have x0 := Evl.Ex.new (o := .dK []) hp
    refine ⟨_, rfl, a, _, rfl, .inl (.inl (.inl (x0 _ _ ha))), fun l hl => ?_⟩
    have x1 := Evl.Ex.new (o := .lst (ks.map V.str)) hl
    refine ⟨_, rfl, ?_⟩
    refine ⟨_, rfl, _, rfl, a, b, ks.map V.str, [], [], rfl, .inl (.inl (x1 _ _ (x0 _ _ ha))), .inl (.inl (x1 _ _ (x0 _ _ hb))), by simp, fun c hc => ?_⟩
    have x2 := Evl.Ex.new (o := .dK (mergeK [] [])) hc
    refine ⟨_, rfl, x2 _ _ (x1 _ _ upd_same), [(.inr "kinds", .ref l), (.inr "same", .str y), (.inr "back", .ref c), (.inr "step", .ref d)], rfl, by show 4 ≤ 15; decide, ?_⟩
    refine q p l _ _ (fun z o hz => ?_) upd_same ?_ ?_
    · rw [upd_ne (ne_of_none hz hp)]
      exact x2 _ _ (x1 _ _ (x0 _ _ hz))
    · rfl
    · have hpl : l ≠ p := fun e => by
        rw [e, upd_same] at hl
        cases hl
      rw [upd_ne hpl]
      exact x2 _ _ upd_same
end
end K10
end

section
set_option Elab.async false
set_option linter.all false
set_option maxRecDepth 100000
namespace K10
open PySem PySem.Spec PyProof.Rows L2 KW
def dif (l m : List Int) : List Int := l.filter fun k => !decide (k ∈ m)
def lstK (a b c d : Int) : Str := if b < c then "before" else if b = c then "meets" else if d < a then "after" else if d = a then "met" else if a = c then (match m3 b d with | .ah => "begins" | .sa => "same" | .be => "begun") else
  if b = d then (if c < a then "ends" else "ended") else if a < c then (if b < d then "overlaps" else "around") else (if b < d then "within" else "overlaid")
def lpaK (l m : List Int) : Str := if (dif l m).length = 0 ∧ (dif m l).length = 0 then "same" else if (dif l m).length = 0 then "within" else if (dif m l).length = 0 then "around" else if 0 < (common l m).length then "across" else "apart"
theorem mem_dif {l m : List Int} (k : Int) : (decide (k ∈ l) && !decide (k ∈ m)) = true ↔ k ∈ dif l m := by
  unfold dif
  rw [List.mem_filter, Bool.and_eq_true, decide_eq_true_iff]
theorem dif_nil {l m : List Int} : (dif l m).length = 0 ↔ ∀ k ∈ l, k ∈ m := by
  rw [List.length_eq_zero_iff]
  unfold dif
  rw [List.filter_eq_nil_iff]
  exact ⟨fun h k hk => by simpa using h k hk, fun h k hk => by simpa using h k hk⟩
theorem same_sets {l m : List Int} : (∀ k, decide (k ∈ l) = decide (k ∈ m)) ↔ (dif l m).length = 0 ∧ (dif m l).length = 0 := by
  rw [dif_nil, dif_nil]
  constructor
  · intro h
    exact ⟨fun k hk => of_decide_eq_true ((h k).symm.trans (decide_eq_true hk)), fun k hk => of_decide_eq_true ((h k).trans (decide_eq_true hk))⟩
  · rintro ⟨h1, h2⟩ k
    exact decide_eq_decide.mpr ⟨h1 k, h2 k⟩
theorem sg_m3 (a b : Int) : sg a b = (match m3 a b with | .ah => 0 | .sa => 1 | .be => 2) := by
  unfold sg m3
  by_cases h : a < b
  · rw [if_pos h, if_pos h]
  · rw [if_neg h, if_neg h]
    by_cases h2 : b < a
    · rw [if_pos h2, if_neg (by omega)]
    · rw [if_neg h2, if_pos (by omega)]
section
variable {P : Program} {w : World} {K : PySem.W.Frag} {mg : Str → Option Value} {base : Heap} {ad : Nat → Addr} {fd : Nat → FuncData}
def spLpa (K : PySem.W.Frag) : Sp := fun vs H Q _ => ∃ (p q : Addr) (l m : List Int), vs = [.ref p, .ref q] ∧ SqL K H p (l.map V.int) ∧ SqL K H q (m.map V.int) ∧ Mk l ∧ Mk m ∧ ∀ H', Ex H H' → Q (.str (lpaK l m)) H'
/-- two sets made of two lists -/
theorem two_sets {σ : L2.St} {H : Hp} {i j : Nat} {p r : Addr} {l m : List Int} {R : R2} {Q : VK} (hi : σ[i]? = some (some (.ref p))) (hj : σ[j]? = some (some (.ref r))) (hp : SqL K H p (l.map V.int)) (hq : SqL K H r (m.map V.int)) (hl : Mk l) (hm : Mk m)
    (h : ∀ u1 u2 H', Ex H H' → u1 ≠ u2 → H' u1 = some (SetO w u1 (fun j => decide (j ∈ l)) l.length) → H' u2 = some (SetO w u2 (fun j => decide (j ∈ m)) m.length) → R (.ref u1) (.ref u2) H' Q) :
    tOp R (tCB (rSetI K w) (tCons (tVar i) tNil)) (tCB (rSetI K w) (tCons (tVar j) tNil)) σ H Q := by
  refine ⟨_, hi, p, l, rfl, hp, by have := hl.2.2; omega, fun u1 c1 n1 e1 => ?_⟩
  obtain rfl := e1 hl.1
  have x1 := Evl.Ex.new (o := SetO w u1 (fun j => decide (j ∈ l)) l.length) n1
  refine ⟨_, hj, r, m, rfl, Evl.ex_l x1 hq, by have := hm.2.2; omega, fun u2 c2 n2 e2 => ?_⟩
  obtain rfl := e2 hm.1
  have x2 := Evl.Ex.new (o := SetO w u2 (fun j => decide (j ∈ m)) m.length) n2
  exact h u1 u2 _ (x1.trans x2) (ne_of_none upd_same n2) (x2 _ _ upd_same) upd_same
theorem ok_lpa (F : Fa K mg ad fd) (T : Bl mg) : FnOk P w K mg base CX0 2 (ad 23) (fd 23) p_lparts (spLpa K) := by
  refine F.F_lparts.ok sc_lparts (fun vs H Q E h => ?_) (fun cdv A outer s H vs Q E hr h => ?_)
  · obtain ⟨_, _, _, _, rfl, _⟩ := h
    rfl
  · obtain ⟨p, r, l, m, rfl, hp, hq, hl, hm, q⟩ := h
    refine ⟨_, (pss_cons (ps_if (pt_cmpR (op_eqS hr.units0) (pe_callTy (cr_setI rfl) (by rfl) T.m_set boot_set (pa_cons (pv 0) pa_nil)) (pe_callTy (cr_setI rfl) (by rfl) T.m_set boot_set (pa_cons (pv 1) pa_nil)) (nomark _)) (pss_one (ps_ret pe_str)) pss_nil)
      (pss_cons (ps_if (pt_cmpR op_eq (pe_callB cr_lenSI (by rfl) T.m_len PySem.boot_len (pa_cons (pe_op op_subS (pe_callTy (cr_setI rfl) (by rfl) T.m_set boot_set (pa_cons (pv 0) pa_nil)) (pe_callTy (cr_setI rfl) (by rfl) T.m_set boot_set (pa_cons (pv 1) pa_nil))) pa_nil)) pe_int (nomark _)) (pss_one (ps_ret pe_str)) pss_nil)
      (pss_cons (ps_if (pt_cmpR op_eq (pe_callB cr_lenSI (by rfl) T.m_len PySem.boot_len (pa_cons (pe_op op_subS (pe_callTy (cr_setI rfl) (by rfl) T.m_set boot_set (pa_cons (pv 1) pa_nil)) (pe_callTy (cr_setI rfl) (by rfl) T.m_set boot_set (pa_cons (pv 0) pa_nil))) pa_nil)) pe_int (nomark _)) (pss_one (ps_ret pe_str)) pss_nil)
      (pss_one (ps_ret (pe_ifExp (pt_cmpR op_gt (pe_callB cr_lenSI (by rfl) T.m_len PySem.boot_len (pa_cons (pe_op op_andS (pe_callTy (cr_setI rfl) (by rfl) T.m_set boot_set (pa_cons (pv 0) pa_nil)) (pe_callTy (cr_setI rfl) (by rfl) T.m_set boot_set (pa_cons (pv 1) pa_nil))) pa_nil)) pe_int (nomark _)) pe_str pe_str)))))), ?_⟩
    have l1 := hl.2.1
    have l7 := hl.2.2
    have m1 := hm.2.1
    have m7 := hm.2.2
    refine two_sets (K := K) (w := w) (l := l) (m := m) rfl rfl hp hq hl hm fun u1 u2 H1 x1 ne e1 e2 => ⟨u1, u2, _, _, _, _, rfl, rfl, e1, e2, fun c hc => ⟨c, rfl, ite2 (fun e => ?_) (fun e => ?_)⟩⟩
    · have z : lpaK l m = "same" := if_pos (same_sets.1 (hc.1 e))
      rw [z] at q
      exact q H1 x1
    have h1 : ¬ ((dif l m).length = 0 ∧ (dif m l).length = 0) := fun z => e (hc.2 (same_sets.2 z))
    refine two_sets (K := K) (w := w) (l := l) (m := m) rfl rfl (Evl.ex_l x1 hp) (Evl.ex_l x1 hq) hl hm fun v1 v2 H2 x2 ne2 f1 f2 => ⟨v1, v2, _, _, _, _, rfl, rfl, f1, f2, by omega, by omega, fun v3 c3 n3 => ?_⟩
    refine ⟨v3, _, c3, dif l m, rfl, upd_same, hl.1.filter _, mem_dif, fun _ => ?_⟩
    have x3 := (x1.trans x2).trans (Evl.Ex.new (o := SetO w v3 (fun k => decide (k ∈ l) && !decide (k ∈ m)) c3) n3)
    refine ⟨rfl, _, rfl, ite2 (fun e => ?_) (fun e => ?_)⟩
    · have h2 : (dif l m).length = 0 := by
        have z : V.int ((dif l m).length : Int) = V.int 0 := of_decide_eq_true e
        injection z with z
        omega
      have z : lpaK l m = "within" := by
        unfold lpaK
        rw [if_neg h1, if_pos h2]
      rw [z] at q
      exact q _ x3
    have h2 : ¬ (dif l m).length = 0 := fun z => e (decide_eq_true (by rw [z]; rfl))
    refine two_sets (K := K) (w := w) (l := m) (m := l) rfl rfl (Evl.ex_l x3 hq) (Evl.ex_l x3 hp) hm hl fun w1 w2 H4 x4 ne4 g1 g2 => ⟨w1, w2, _, _, _, _, rfl, rfl, g1, g2, by omega, by omega, fun w3 c5 n5 => ?_⟩
    refine ⟨w3, _, c5, dif m l, rfl, upd_same, hm.1.filter _, mem_dif, fun _ => ?_⟩
    have x5 := (x3.trans x4).trans (Evl.Ex.new (o := SetO w w3 (fun k => decide (k ∈ m) && !decide (k ∈ l)) c5) n5)
    refine ⟨rfl, _, rfl, ite2 (fun e => ?_) (fun e => ?_)⟩
    · have h3 : (dif m l).length = 0 := by
        have z : V.int ((dif m l).length : Int) = V.int 0 := of_decide_eq_true e
        injection z with z
        omega
      have z : lpaK l m = "around" := by
        unfold lpaK
        rw [if_neg h1, if_neg h2, if_pos h3]
      rw [z] at q
      exact q _ x5
    have h3 : ¬ (dif m l).length = 0 := fun z => e (decide_eq_true (by rw [z]; rfl))
    refine two_sets (K := K) (w := w) (l := l) (m := m) rfl rfl (Evl.ex_l x5 hp) (Evl.ex_l x5 hq) hl hm fun y1 y2 H6 x6 ne6 i1 i2 => ⟨y1, y2, _, _, _, _, rfl, rfl, ne6, i1, i2, by omega, by omega, fun y3 c7 n7 => ?_⟩
    refine ⟨y3, _, c7, common l m, rfl, upd_same, hl.1.filter _, mem_common, fun _ => ?_⟩
    have x7 := (x5.trans x6).trans (Evl.Ex.new (o := SetO w y3 (fun k => decide (k ∈ l) && decide (k ∈ m)) c7) n7)
    refine ⟨_, _, rfl, rfl, _, rfl, ite2 (fun e => ?_) (fun e => ?_)⟩
    · have h4 : 0 < (common l m).length := by
        have z : (0 : Int) < ((common l m).length : Int) := of_decide_eq_true e
        omega
      have z : lpaK l m = "across" := by
        unfold lpaK
        rw [if_neg h1, if_neg h2, if_neg h3, if_pos h4]
      rw [z] at q
      exact q _ x7
    · have h4 : ¬ 0 < (common l m).length := fun z => e (decide_eq_true (by omega))
      have z : lpaK l m = "apart" := by
        unfold lpaK
        rw [if_neg h1, if_neg h2, if_neg h3, if_neg h4]
      rw [z] at q
      exact q _ x7
def spLst (K : PySem.W.Frag) : Sp := fun vs H Q _ => ∃ (p q : Addr) (a b c d : Int), vs = [.ref p, .ref q] ∧ SqT K H p [.int a, .int b] ∧ SqT K H q [.int c, .int d] ∧ ∀ H', Ex H H' → Q (.str (lstK a b c d)) H'
theorem intEq {a b : Int} : decide (V.int a = V.int b) = decide (a = b) := decide_eq_decide.mpr ⟨fun z => by injection z, fun z => by rw [z]⟩
theorem ok_lst (F : Fa K mg ad fd) (T : Bl mg) : FnOk P w K mg base CX0 2 (ad 24) (fd 24) p_lstr (spLst K) := by
  have G_sign : FnOk P w K mg base CX0 1 (ad 22) (fd 22) p_sign spSign := ok_sign F.F_sign
  refine F.F_lstr.ok sc_lstr (fun vs H Q E h => ?_) (fun cdv A outer s H vs Q E hr h => ?_)
  · obtain ⟨_, _, _, _, _, _, rfl, _⟩ := h
    rfl
  · obtain ⟨p, r, a, b, c, d, rfl, hp, hq, q⟩ := h
    refine ⟨_, (pss_cons (ps_asg (pv 0) (pg_tup rfl (pgs_cons (pg_name (i := 2) sc_lstr.nd rfl (.inl rfl)) (pgs_cons (pg_name (i := 3) sc_lstr.nd rfl (.inl rfl)) pgs_nil))))
      (pss_cons (ps_asg (pv 1) (pg_tup rfl (pgs_cons (pg_name (i := 4) sc_lstr.nd rfl (.inl rfl)) (pgs_cons (pg_name (i := 5) sc_lstr.nd rfl (.inl rfl)) pgs_nil))))
      (pss_cons (ps_if (pt_cmpR op_lt (pv 3) (pv 4) (nomark _)) (pss_one (ps_ret pe_str)) pss_nil)
      (pss_cons (ps_if (pt_cmpR op_eq (pv 3) (pv 4) (nomark _)) (pss_one (ps_ret pe_str)) pss_nil)
      (pss_cons (ps_if (pt_cmpR op_lt (pv 5) (pv 2) (nomark _)) (pss_one (ps_ret pe_str)) pss_nil)
      (pss_cons (ps_if (pt_cmpR op_eq (pv 5) (pv 2) (nomark _)) (pss_one (ps_ret pe_str)) pss_nil)
      (pss_cons (ps_if (pt_cmpR op_eq (pv 2) (pv 4) (nomark _)) (pss_one (ps_ret (pe_ix ix_list (pe_lst (pa_cons pe_str (pa_cons pe_str (pa_cons pe_str pa_nil)))) (pe_call G_sign (hr.mono (by decide)) (by rfl) F.g_sign F.F_sign.kp F.b_sign .nil pass0 (pa_cons (pv 3) (pa_cons (pv 5) pa_nil))) (fun _ _ => rfl)))) pss_nil)
      (pss_cons (ps_if (pt_cmpR op_eq (pv 3) (pv 5) (nomark _)) (pss_one (ps_ret (pe_ifExp (pt_cmpR op_gt (pv 2) (pv 4) (nomark _)) pe_str pe_str))) pss_nil)
      (pss_cons (ps_if (pt_cmpR op_lt (pv 2) (pv 4) (nomark _)) (pss_one (ps_ret (pe_ifExp (pt_cmpR op_lt (pv 3) (pv 5) (nomark _)) pe_str pe_str))) pss_nil)
      (pss_one (ps_ret (pe_ifExp (pt_cmpR op_lt (pv 3) (pv 5) (nomark _)) pe_str pe_str)))))))))))), ?_⟩
    refine ⟨_, rfl, p, _, rfl, hp, rfl, _, _, rfl, _, _, rfl, rfl, ?_⟩
    refine ⟨_, rfl, r, _, rfl, hq, rfl, _, _, rfl, _, _, rfl, rfl, ?_⟩
    unfold lstK at q
    refine ⟨_, rfl, _, rfl, _, _, rfl, rfl, _, rfl, ite2 (fun e => ?_) (fun e => ?_)⟩
    · rw [if_pos (of_decide_eq_true e)] at q
      exact q H (Evl.Ex.refl H)
    rw [if_neg (fun z => e (decide_eq_true z))] at q
    refine ⟨_, rfl, _, rfl, rfl, _, rfl, ite2 (fun e => ?_) (fun e => ?_)⟩
    · rw [if_pos (of_decide_eq_true (intEq ▸ e))] at q
      exact q H (Evl.Ex.refl H)
    rw [if_neg (fun z => e (intEq ▸ decide_eq_true z))] at q
    refine ⟨_, rfl, _, rfl, _, _, rfl, rfl, _, rfl, ite2 (fun e => ?_) (fun e => ?_)⟩
    · rw [if_pos (of_decide_eq_true e)] at q
      exact q H (Evl.Ex.refl H)
    rw [if_neg (fun z => e (decide_eq_true z))] at q
    refine ⟨_, rfl, _, rfl, rfl, _, rfl, ite2 (fun e => ?_) (fun e => ?_)⟩
    · rw [if_pos (of_decide_eq_true (intEq ▸ e))] at q
      exact q H (Evl.Ex.refl H)
    rw [if_neg (fun z => e (intEq ▸ decide_eq_true z))] at q
    refine ⟨_, rfl, _, rfl, rfl, _, rfl, ite2 (fun e => ?_) (fun e => ?_)⟩
    · rw [if_pos (of_decide_eq_true (intEq ▸ e))] at q
      refine ⟨by show 3 ≤ sizeLine; decide, fun t nt => ⟨_, rfl, _, rfl, b, d, rfl, t, _, sg b d, _, rfl, rfl, .inl (.inl upd_same), ?_, q _ (Evl.Ex.new nt)⟩⟩
      rw [sg_m3]
      cases m3 b d <;> rfl
    rw [if_neg (fun z => e (intEq ▸ decide_eq_true z))] at q
    refine ⟨_, rfl, _, rfl, rfl, _, rfl, ite2 (fun e => ?_) (fun e => ?_)⟩
    · rw [if_pos (of_decide_eq_true (intEq ▸ e))] at q
      refine ⟨_, rfl, _, rfl, _, _, rfl, rfl, _, rfl, ite2 (fun e => ?_) (fun e => ?_)⟩
      · rw [if_pos (of_decide_eq_true e)] at q
        exact q H (Evl.Ex.refl H)
      · rw [if_neg (fun z => e (decide_eq_true z))] at q
        exact q H (Evl.Ex.refl H)
    rw [if_neg (fun z => e (intEq ▸ decide_eq_true z))] at q
    refine ⟨_, rfl, _, rfl, _, _, rfl, rfl, _, rfl, ite2 (fun e => ?_) (fun e => ?_)⟩
    · rw [if_pos (of_decide_eq_true e)] at q
      refine ⟨_, rfl, _, rfl, _, _, rfl, rfl, _, rfl, ite2 (fun e => ?_) (fun e => ?_)⟩
      · rw [if_pos (of_decide_eq_true e)] at q
        exact q H (Evl.Ex.refl H)
      · rw [if_neg (fun z => e (decide_eq_true z))] at q
        exact q H (Evl.Ex.refl H)
    · rw [if_neg (fun z => e (decide_eq_true z))] at q
      refine ⟨_, rfl, _, rfl, _, _, rfl, rfl, _, rfl, ite2 (fun e => ?_) (fun e => ?_)⟩
      · rw [if_pos (of_decide_eq_true e)] at q
        exact q H (Evl.Ex.refl H)
      · rw [if_neg (fun z => e (decide_eq_true z))] at q
        exact q H (Evl.Ex.refl H)
end
end K10
end

section
set_option Elab.async false
set_option linter.all false
set_option maxRecDepth 100000
namespace K10
open PySem PySem.Spec PyProof.Rows L2 KW
theorem lst_eq (a b c d : Int) : lstK a b c d = stK a b c d := by
  unfold lstK stK
  by_cases h1 : b < c
  · rw [if_pos h1, if_pos h1]
  rw [if_neg h1, if_neg h1]
  by_cases h2 : b = c
  · rw [if_pos h2, if_pos h2]
  rw [if_neg h2, if_neg h2]
  by_cases h3 : d < a
  · rw [if_pos h3, if_pos h3]
  rw [if_neg h3, if_neg h3]
  by_cases h4 : d = a
  · rw [if_pos h4, if_pos h4.symm]
  rw [if_neg h4, if_neg (show ¬ a = d from fun z => h4 z.symm)]
  unfold m3
  by_cases h5 : a = c
  · have e1 : ¬ a < c := by omega
    have e2 : ¬ c < a := by omega
    rw [if_pos h5, if_neg e1, if_neg e2]
    by_cases h6 : b < d
    · rw [if_pos h6]
      rfl
    · rw [if_neg h6]
      by_cases h7 : d < b
      · rw [if_pos h7]
        rfl
      · rw [if_neg h7]
        rfl
  rw [if_neg h5]
  by_cases h6 : b = d
  · have e1 : ¬ b < d := by omega
    have e2 : ¬ d < b := by omega
    rw [if_pos h6, if_neg e1, if_neg e2]
    by_cases h7 : c < a
    · rw [if_pos h7, if_neg (by omega : ¬ a < c), if_pos h7]
      rfl
    · rw [if_neg h7, if_pos (by omega : a < c)]
      rfl
  rw [if_neg h6]
  by_cases h7 : a < c
  · rw [if_pos h7, if_pos h7]
    by_cases h8 : b < d
    · rw [if_pos h8, if_pos h8]
      rfl
    · rw [if_neg h8, if_neg h8, if_pos (by omega : d < b)]
      rfl
  · rw [if_neg h7, if_neg h7, if_pos (by omega : c < a)]
    by_cases h8 : b < d
    · rw [if_pos h8, if_pos h8]
      rfl
    · rw [if_neg h8, if_neg h8, if_pos (by omega : d < b)]
      rfl
theorem cd_len (m : List Int) : ∀ l : List Int, (common l m).length + (dif l m).length = l.length
  | [] => rfl
  | x :: r => by
    have ih := cd_len m r
    unfold common dif at ih ⊢
    by_cases h : x ∈ m
    · rw [List.filter_cons_of_pos (by simpa using h), List.filter_cons_of_neg (by simpa using h), List.length_cons, List.length_cons]
      omega
    · rw [List.filter_cons_of_neg (by simpa using h), List.filter_cons_of_pos (by simpa using h), List.length_cons, List.length_cons]
      omega
theorem common_comm {l m : List Int} (hl : l.Nodup) (hm : m.Nodup) : (common l m).length = (common m l).length :=
  perm_nodup (hl.filter _) (hm.filter _) fun k => by
    unfold common
    rw [List.mem_filter, List.mem_filter, decide_eq_true_iff, decide_eq_true_iff]
    exact And.comm
theorem lpa_eq {l m : List Int} (hl : Mk l) (hm : Mk m) : lpaK l m = paK l m := by
  have e1 := cd_len m l
  have e2 := cd_len l m
  have e3 := common_comm hl.1 hm.1
  have l1 := hl.2.1
  have m1 := hm.2.1
  unfold lpaK paK paN
  generalize (common l m).length = n at *
  generalize (common m l).length = n' at *
  generalize (dif l m).length = x at *
  generalize (dif m l).length = y at *
  subst e3
  by_cases h0 : n = 0
  · rw [if_pos h0, if_neg (by omega), if_neg (by omega), if_neg (by omega), if_neg (by omega)]
  rw [if_neg h0]
  by_cases h1 : n = l.length
  · by_cases h2 : n = m.length
    · rw [if_pos (by omega), if_pos ⟨h1, h2⟩]
    · rw [if_neg (by omega), if_pos (by omega), if_neg (by omega), if_pos h1]
  · by_cases h2 : n = m.length
    · rw [if_neg (by omega), if_neg (by omega), if_pos (by omega), if_neg (by omega), if_neg h1, if_pos h2]
    · rw [if_neg (by omega), if_neg (by omega), if_neg (by omega), if_pos (by omega), if_neg (by omega), if_neg h1, if_neg h2]
theorem co_pick (x y : M3) : (nor x ++ wes y ≠ "") = ¬ ((nor x ++ wes y).length = 0) := by
  cases x <;> cases y <;> simp only [eq_iff_iff] <;> decide +kernel
section
variable {P : Program} {w : World} {K : PySem.W.Frag} {mg : Str → Option Value} {base : Heap} {ad : Nat → Addr} {fd : Nat → FuncData}
/-- an item of a written list of three, by the sign -/
theorem pick3 {H : Hp} {a b : Int} {x y z : V} {Q : VK} (h : ∀ H', Ex H H' → Q (match m3 a b with | .ah => x | .sa => y | .be => z) H') (t : Addr) (nt : H t = none) :
    rIxL K (.ref t) (.int (sg a b)) (upd H t (.lst [x, y, z])) Q := by
  refine ⟨t, _, sg a b, _, rfl, rfl, .inl (.inl upd_same), ?_, h _ (Evl.Ex.new nt)⟩
  rw [sg_m3]
  cases m3 a b <;> rfl
theorem slT2 {H : Hp} {q : Addr} {m : List Int} {n : Nat} {C : VK} (hq : SqT K H q (m.map V.int)) (h : ∀ y H', Ex H H' → SqT K H' y ((m.take n).map V.int) → C (.ref y) H') : rSlA K (.ref q) none (some (n : Int)) H C := by
  refine ⟨q, _, rfl, hq, fun hw => ?_, fun hw t nt => ?_⟩
  · refine h q H (Evl.Ex.refl H) ?_
    rw [whole_to hw.2]
    exact hq
  · rw [cut_to]
    exact h t _ (Evl.Ex.new nt) (.inl (.inl upd_same))
theorem ok_lk (F : Fa K mg ad fd) (T : Bl mg) : FnOk P w K mg base CX0 3 (ad 25) (fd 25) p_lkind (spBtw K) := by
  have G_sign : FnOk P w K mg base CX0 1 (ad 22) (fd 22) p_sign spSign := ok_sign F.F_sign
  have G_lparts : FnOk P w K mg base CX0 2 (ad 23) (fd 23) p_lparts (spLpa K) := ok_lpa F T
  have G_lstr : FnOk P w K mg base CX0 2 (ad 24) (fd 24) p_lstr (spLst K) := ok_lst F T
  refine F.F_lkind.ok sc_lkind (fun vs H Q E h => ?_) (fun cdv A outer s H vs Q E hr h => ?_)
  · obtain ⟨_, _, _, _, _, rfl, _⟩ := h
    rfl
  · obtain ⟨W, u, v, t, t', rfl, hu, hv, q⟩ := h
    refine ⟨_, (pss_cons (ps_if (pt_cmpR op_eq (pv 0) pe_str (nomark _)) (pss_one (ps_ret (pe_ix ix_list (pe_lst (pa_cons pe_str (pa_cons pe_str (pa_cons pe_str pa_nil)))) (pe_call G_sign (hr.mono (by decide)) (by rfl) F.g_sign F.F_sign.kp F.b_sign .nil pass0 (pa_cons (pv 1) (pa_cons (pv 2) pa_nil))) (fun _ _ => rfl)))) pss_nil)
      (pss_cons (ps_if (pt_cmpR op_eq (pv 0) pe_str (nomark _)) (pss_cons (ps_set (i := 3) sc_lkind.nd rfl (.inl rfl) (pe_ix ix_list (pe_lst (pa_cons pe_str (pa_cons pe_str (pa_cons pe_str pa_nil)))) (pe_call G_sign (hr.mono (by decide)) (by rfl) F.g_sign F.F_sign.kp F.b_sign .nil pass0 (pa_cons (pe_ix ix_tup (pv 1) pe_int (fun _ _ => rfl)) (pa_cons (pe_ix ix_tup (pv 2) pe_int (fun _ _ => rfl)) pa_nil))) (fun _ _ => rfl)))
      (pss_cons (ps_set (i := 4) sc_lkind.nd rfl (.inl rfl) (pe_ix ix_list (pe_lst (pa_cons pe_str (pa_cons pe_str (pa_cons pe_str pa_nil)))) (pe_call G_sign (hr.mono (by decide)) (by rfl) F.g_sign F.F_sign.kp F.b_sign .nil pass0 (pa_cons (pe_ix ix_tup (pv 1) pe_int (fun _ _ => rfl)) (pa_cons (pe_ix ix_tup (pv 2) pe_int (fun _ _ => rfl)) pa_nil))) (fun _ _ => rfl)))
      (pss_one (ps_ret (pe_ifExp (pt_cmpR op_ne (pe_op op_add_str (pv 4) (pv 3)) pe_str (nomark _)) (pe_op op_add_str (pv 4) (pv 3)) pe_str))))) pss_nil)
      (pss_cons (ps_if (pt_cmpR op_eq (pv 0) pe_str (nomark _)) (pss_cons (ps_if (pt_cmpR (op_eqD hr.units) (pv 1) (pv 2) (nomark _)) (pss_one (ps_ret pe_str)) pss_nil)
      (pss_cons (ps_if (pt_cmpR (op_eqD hr.units) (pe_slice sl_tupA (pv 2) po_none (po_some (pe_callB call_len_seq (by rfl) T.m_len PySem.boot_len (pa_cons (pv 1) pa_nil)))) (pv 1) (nomark _)) (pss_one (ps_ret pe_str)) pss_nil)
      (pss_one (ps_ret (pe_ifExp (pt_cmpR (op_eqD hr.units) (pe_slice sl_tupA (pv 1) po_none (po_some (pe_callB call_len_seq (by rfl) T.m_len PySem.boot_len (pa_cons (pv 2) pa_nil)))) (pv 2) (nomark _)) pe_str pe_str))))) pss_nil)
      (pss_cons (ps_if (pt_cmpR op_eq (pv 0) pe_str (nomark _)) (pss_one (ps_ret (pe_call G_lparts (hr.mono (by decide)) (by rfl) F.g_lparts F.F_lparts.kp F.b_lparts .nil pass0 (pa_cons (pv 1) (pa_cons (pv 2) pa_nil))))) pss_nil)
      (pss_one (ps_ret (pe_call G_lstr (hr.mono (by decide)) (by rfl) F.g_lstr F.F_lstr.kp F.b_lstr .nil pass0 (pa_cons (pv 1) (pa_cons (pv 2) pa_nil))))))))), ?_⟩
    cases W with
    | mo =>
      cases t <;> first | exact hu.elim | skip
      cases t' <;> first | exact hv.elim | skip
      rename_i a b
      obtain rfl := hu
      obtain rfl := hv
      refine ⟨_, rfl, rfl, true, bt rfl, iteT ⟨by show 3 ≤ sizeLine; decide, fun t nt => ⟨_, rfl, _, rfl, a, b, rfl, pick3 (fun H' x => ?_) t nt⟩⟩⟩
      have q1 := q H' x
      have z : kd .mo (.num a) (.num b) = (m3 a b).s := mk_m3 a b
      rw [z] at q1
      cases e : m3 a b <;> rw [e] at q1 <;> exact q1
    | co =>
      cases t <;> first | exact hu.elim | skip
      cases t' <;> first | exact hv.elim | skip
      rename_i a b c d
      obtain ⟨p, rfl, hp⟩ := hu
      obtain ⟨r, rfl, hq⟩ := hv
      refine ⟨_, rfl, rfl, false, bf (by decide +kernel), iteF ⟨_, rfl, rfl, true, bt rfl, iteT ?_⟩⟩
      refine ⟨by show 3 ≤ sizeLine; decide, fun t nt => ?_⟩
      have x1 := Evl.Ex.new (o := .lst [.str "w", .str "", .str "e"]) nt
      refine ⟨_, rfl, p, _, 0, .int a, rfl, rfl, Evl.ex_t x1 hp, rfl, _, rfl, r, _, 0, .int c, rfl, rfl, Evl.ex_t x1 hq, rfl, a, c, rfl, pick3 (fun H1 x2 => ?_) t nt⟩
      have ew : (match m3 a c with | .ah => V.str "w" | .sa => V.str "" | .be => V.str "e") = V.str (wes (m3 a c)) := by cases m3 a c <;> rfl
      rw [ew]
      refine ⟨by show 3 ≤ sizeLine; decide, fun t2 nt2 => ?_⟩
      have x3 := Evl.Ex.new (o := .lst [.str "n", .str "", .str "s"]) nt2
      refine ⟨_, rfl, p, _, 1, .int b, rfl, rfl, Evl.ex_t (x2.trans x3) hp, rfl, _, rfl, r, _, 1, .int d, rfl, rfl, Evl.ex_t (x2.trans x3) hq, rfl, b, d, rfl, pick3 (fun H2 x4 => ?_) t2 nt2⟩
      have en : (match m3 b d with | .ah => V.str "n" | .sa => V.str "" | .be => V.str "s") = V.str (nor (m3 b d)) := by cases m3 b d <;> rfl
      rw [en]
      have q1 := q H2 (x2.trans x4)
      have z : kd .co (.pr a b) (.pr c d) = if (nor (m3 b d) ++ wes (m3 a c)).length = 0 then ("same" : Str) else nor (m3 b d) ++ wes (m3 a c) := rfl
      rw [z] at q1
      refine ⟨_, rfl, _, rfl, _, _, rfl, rfl, (short_nw _ _).2, rfl, _, rfl, ite2 (fun e => ?_) (fun e => ?_)⟩
      · have e2 : nor (m3 b d) ++ wes (m3 a c) ≠ "" := fun z => by
          rw [show V.str (nor (m3 b d) ++ wes (m3 a c)) = V.str "" by rw [z]] at e
          simp at e
        rw [co_pick] at e2
        rw [if_neg e2] at q1
        exact ⟨_, rfl, _, rfl, _, _, rfl, rfl, (short_nw _ _).2, q1⟩
      · have e2 : ¬ (nor (m3 b d) ++ wes (m3 a c) ≠ "") := fun z => e (by
          rw [decide_eq_false]
          · rfl
          · intro y
            injection y with y
            exact z y)
        rw [co_pick] at e2
        rw [if_pos (Decidable.not_not.mp e2)] at q1
        exact q1
    | br =>
      cases t <;> first | exact hu.elim | skip
      cases t' <;> first | exact hv.elim | skip
      rename_i l m
      obtain ⟨p, rfl, hp⟩ := hu
      obtain ⟨r, rfl, hq⟩ := hv
      refine ⟨_, rfl, rfl, false, bf (by decide +kernel), iteF ⟨_, rfl, rfl, false, bf (by decide +kernel), iteF ⟨_, rfl, rfl, true, bt rfl, iteT ?_⟩⟩⟩
      have z : kd .br (.way l) (.way m) = brK l m := rfl
      rw [z] at q
      unfold brK at q
      refine ⟨_, rfl, _, rfl, eqT hp hq ⟨_, rfl, ite2 (fun e => ?_) (fun e => ?_)⟩⟩
      · rw [if_pos (of_decide_eq_true e)] at q
        exact q H (Evl.Ex.refl H)
      rw [if_neg (fun z => e (decide_eq_true z))] at q
      refine ⟨_, rfl, _, rfl, p, _, rfl, .inr hp, _, rfl, ?_⟩
      rw [List.length_map]
      refine slT2 hq fun y1 H1 x1 hy1 => ⟨_, rfl, eqT hy1 (Evl.ex_t x1 hp) ⟨_, rfl, ite2 (fun e => ?_) (fun e => ?_)⟩⟩
      · rw [if_pos (of_decide_eq_true e).symm] at q
        exact q H1 x1
      rw [if_neg (fun z => e (decide_eq_true z.symm))] at q
      refine ⟨_, rfl, _, rfl, r, _, rfl, .inr (Evl.ex_t x1 hq), _, rfl, ?_⟩
      rw [List.length_map]
      refine slT2 (Evl.ex_t x1 hp) fun y2 H2 x2 hy2 => ⟨_, rfl, eqT hy2 (Evl.ex_t (x1.trans x2) hq) ⟨_, rfl, ite2 (fun e => ?_) (fun e => ?_)⟩⟩
      · rw [if_pos (of_decide_eq_true e).symm] at q
        exact q H2 (x1.trans x2)
      · rw [if_neg (fun z => e (decide_eq_true z.symm))] at q
        exact q H2 (x1.trans x2)
    | pa =>
      cases t <;> first | exact hu.elim | skip
      cases t' <;> first | exact hv.elim | skip
      obtain ⟨p, rfl, hp, hl⟩ := hu
      obtain ⟨r, rfl, hq, hm⟩ := hv
      refine ⟨_, rfl, rfl, false, bf (by decide +kernel), iteF ⟨_, rfl, rfl, false, bf (by decide +kernel), iteF ⟨_, rfl, rfl, false, bf (by decide +kernel), iteF ⟨_, rfl, rfl, true, bt rfl, iteT ?_⟩⟩⟩⟩
      exact ⟨_, rfl, _, rfl, p, r, _, _, rfl, hp, hq, hl, hm, by rw [lpa_eq hl hm]; exact q⟩
    | st =>
      cases t <;> first | exact hu.elim | skip
      cases t' <;> first | exact hv.elim | skip
      obtain ⟨p, rfl, hp, _⟩ := hu
      obtain ⟨r, rfl, hq, _⟩ := hv
      refine ⟨_, rfl, rfl, false, bf (by decide +kernel), iteF ⟨_, rfl, rfl, false, bf (by decide +kernel), iteF ⟨_, rfl, rfl, false, bf (by decide +kernel), iteF ⟨_, rfl, rfl, false, bf (by decide +kernel), iteF ?_⟩⟩⟩⟩
      exact ⟨_, rfl, _, rfl, p, r, _, _, _, _, rfl, hp, hq, by rw [lst_eq]; exact q⟩
end
end K10
end

section
set_option Elab.async false
set_option linter.all false
set_option maxRecDepth 100000
namespace K10
open PySem PySem.Spec PyProof.Rows L2 KW
section
variable {P : Program} {w : World} {K : PySem.W.Frag} {mg : Str → Option Value} {base : Heap} {ad : Nat → Addr} {fd : Nat → FuncData}
theorem never {f : Addr} {fd : FuncData} {ps : List Str} {k : Nat} : FnOk P w K mg base CX0 k f fd ps (fun _ _ _ _ => False) := ⟨fun _ _ _ _ h => h.elim, fun _ _ _ _ _ _ _ _ _ _ _ _ _ h => h.elim⟩
/-- a text and the same text -/
def spSam1 : Sp := fun vs H Q _ => ∃ x : Str, vs = [.str x, .str x] ∧ Q (.bl true) H
theorem isS {σ : L2.St} {H : Hp} {i : Nat} {x : Str} {c : String} {b : Bool} {Q : VK} (hi : σ[i]? = some (some (.str x))) (h : kitB "str" c = some b) (q : Q (.bl b) H) : tCB (rIsi K) (tCons (tVar i) (tCons (tC (.ty c)) tNil)) σ H Q :=
  ⟨_, hi, _, _, _, _, b, rfl, .ty c, .base (.str x), kit_ty h, q⟩
theorem isL {σ : L2.St} {H : Hp} {i : Nat} {a : Addr} {xs : List V} {c : String} {b : Bool} {Q : VK} (hi : σ[i]? = some (some (.ref a))) (e : H a = some (.lst xs)) (h : kitB "list" c = some b) (q : Q (.bl b) H) : tCB (rIsi K) (tCons (tVar i) (tCons (tC (.ty c)) tNil)) σ H Q :=
  ⟨_, hi, _, _, _, _, b, rfl, .ty c, .base (.lst e), kit_ty h, q⟩
theorem ok_sam1 (F : Fa K mg ad fd) (T : Bl mg) : FnOk P w K mg base CX0 2 (ad 26) (fd 26) p_same spSam1 := by
  have G_same : FnOk P w K mg base CX0 1 (ad 26) (fd 26) p_same (fun _ _ _ _ => False) := never
  refine F.F_same.ok sc_same (fun vs H Q E h => ?_) (fun cdv A outer s H vs Q E hr h => ?_)
  · obtain ⟨_, rfl, _⟩ := h
    rfl
  · obtain ⟨x, rfl, q⟩ := h
    refine ⟨_, (pss_cons (ps_if (PW.pt (pw_or (pt_val (pe_callB call_isi (by rfl) T.m_isinstance (by decide +kernel) (pa_cons (pv 1) (pa_cons (pe_bltn (v := .ty "list") (by rfl) T.m_list (by decide +kernel) rfl) pa_nil)))) (pw_or1 (pt_val (pe_callB call_isi (by rfl) T.m_isinstance (by decide +kernel) (pa_cons (pv 1) (pa_cons (pe_bltn (v := .ty "tuple") (by rfl) T.m_tuple (by decide +kernel) rfl) pa_nil))))))) (pss_cons (ps_if (PW.pt (pw_or (pt_cmpR op_ne (pe_callB call_isi (by rfl) T.m_isinstance (by decide +kernel) (pa_cons (pv 0) (pa_cons (pe_bltn (v := .ty "list") (by rfl) T.m_list (by decide +kernel) rfl) pa_nil))) (pe_callB call_isi (by rfl) T.m_isinstance (by decide +kernel) (pa_cons (pv 1) (pa_cons (pe_bltn (v := .ty "list") (by rfl) T.m_list (by decide +kernel) rfl) pa_nil))) (nomark _)) (pw_or1 (pt_cmpR op_ne (pe_callB call_isi (by rfl) T.m_isinstance (by decide +kernel) (pa_cons (pv 0) (pa_cons (pe_bltn (v := .ty "tuple") (by rfl) T.m_tuple (by decide +kernel) rfl) pa_nil))) (pe_callB call_isi (by rfl) T.m_isinstance (by decide +kernel) (pa_cons (pv 1) (pa_cons (pe_bltn (v := .ty "tuple") (by rfl) T.m_tuple (by decide +kernel) rfl) pa_nil))) (nomark _))))) (pss_one (ps_ret pe_bl)) pss_nil)
      (pss_one (ps_ret (pe_and (pe_cmpR op_eq (pe_callB call_len_seq (by rfl) T.m_len PySem.boot_len (pa_cons (pv 0) pa_nil)) (pe_callB call_len_seq (by rfl) T.m_len PySem.boot_len (pa_cons (pv 1) pa_nil)) (nomark _)) (pe_one (pe_callB (cr_all rfl) (by rfl) T.m_all (by decide +kernel) (pa_cons (pe_lc (own := [("_law_k", 2)]) rfl sc_same.nd (pi_range1 rfl T.m_range (pa_cons (pe_callB call_len_seq (by rfl) T.m_len PySem.boot_len (pa_cons (pv 1) pa_nil)) pa_nil)) (blkOk_by (N := n_same) (sc := defScope s_same) (by decide +kernel)) (fun _ _ _ _ _ => (pg_name (i := 2) sc_same.nd rfl (.inl rfl))) (fun _ _ _ _ _ => pts_nil) (fun _ _ _ _ _ => (pe_call G_same (hr.mono (by decide)) (by rfl) F.g_same F.F_same.kp F.b_same .nil pass0 (pa_cons (pe_ix (r := rIxL K) ix_list (pv 0) (pv 2) (fun _ _ => rfl)) (pa_cons (pe_ix (r := rIxL K) ix_list (pv 1) (pv 2) (fun _ _ => rfl)) pa_nil))))) pa_nil))))))) pss_nil)
      (pss_cons (ps_if (PW.pt (pw_or (pt_cmpR op_isN (pv 1) pe_non (nomark _)) (pw_or1 (pt_cmpR op_isN (pv 0) pe_non (nomark _))))) (pss_one (ps_ret (pe_and (pe_cmpR op_isN (pv 0) pe_non (nomark _)) (pe_one (pe_cmpR op_isN (pv 1) pe_non (nomark _)))))) pss_nil)
      (pss_cons (ps_if (PW.pt (pw_or (pt_cmpR op_ne (pe_callB call_isi (by rfl) T.m_isinstance (by decide +kernel) (pa_cons (pv 0) (pa_cons (pe_bltn (v := .ty "bool") (by rfl) T.m_bool (by decide +kernel) rfl) pa_nil))) (pe_callB call_isi (by rfl) T.m_isinstance (by decide +kernel) (pa_cons (pv 1) (pa_cons (pe_bltn (v := .ty "bool") (by rfl) T.m_bool (by decide +kernel) rfl) pa_nil))) (nomark _)) (pw_or1 (pt_cmpR op_ne (pe_callB call_isi (by rfl) T.m_isinstance (by decide +kernel) (pa_cons (pv 0) (pa_cons (pe_bltn (v := .ty "int") (by rfl) T.m_int (by decide +kernel) rfl) pa_nil))) (pe_callB call_isi (by rfl) T.m_isinstance (by decide +kernel) (pa_cons (pv 1) (pa_cons (pe_bltn (v := .ty "int") (by rfl) T.m_int (by decide +kernel) rfl) pa_nil))) (nomark _))))) (pss_one (ps_ret pe_bl)) pss_nil)
      (pss_one (ps_ret (pe_and (pe_cmpR op_eq (pe_callB call_isi (by rfl) T.m_isinstance (by decide +kernel) (pa_cons (pv 0) (pa_cons (pe_bltn (v := .ty "str") (by rfl) T.m_str (by decide +kernel) rfl) pa_nil))) (pe_callB call_isi (by rfl) T.m_isinstance (by decide +kernel) (pa_cons (pv 1) (pa_cons (pe_bltn (v := .ty "str") (by rfl) T.m_str (by decide +kernel) rfl) pa_nil))) (nomark _)) (pe_one (pe_cmpR op_eq (pv 0) (pv 1) (nomark _))))))))), ?_⟩
    refine isS (K := K) (c := "list") (b := false) rfl (by decide +kernel) ⟨_, rfl, iteF ?_⟩
    refine isS (K := K) (c := "tuple") (b := false) rfl (by decide +kernel) ⟨_, rfl, iteF ?_⟩
    refine ⟨_, rfl, rfl, _, rfl, iteF ⟨_, rfl, rfl, _, rfl, iteF ?_⟩⟩
    refine isS (K := K) (c := "bool") (b := false) rfl (by decide +kernel) ?_
    refine isS (K := K) (c := "bool") (b := false) rfl (by decide +kernel) ⟨rfl, _, rfl, iteF ?_⟩
    refine isS (K := K) (c := "int") (b := false) rfl (by decide +kernel) ?_
    refine isS (K := K) (c := "int") (b := false) rfl (by decide +kernel) ⟨rfl, _, rfl, iteF ?_⟩
    refine isS (K := K) (c := "str") (b := true) rfl (by decide +kernel) ?_
    refine isS (K := K) (c := "str") (b := true) rfl (by decide +kernel) ⟨rfl, true, rfl, iteT ⟨_, rfl, _, rfl, rfl, ?_⟩⟩
    rw [decide_eq_true rfl]
    exact q
/-- two lists of the same texts -/
def spSam2 : Sp := fun vs H Q _ => ∃ (p r : Addr) (xs : List Str), vs = [.ref p, .ref r] ∧ H p = some (.lst (xs.map V.str)) ∧ H r = some (.lst (xs.map V.str)) ∧ xs.length ≤ 100 ∧ ∀ H', Ex H H' → Q (.bl true) H'
theorem all_true (n : Nat) : (List.replicate n true).all id = true := by
  induction n with
  | zero => rfl
  | succ n ih =>
    rw [List.replicate_succ, List.all_cons, ih]
    rfl
theorem ok_sam2 (F : Fa K mg ad fd) (T : Bl mg) : FnOk P w K mg base CX0 3 (ad 26) (fd 26) p_same spSam2 := by
  have G_same : FnOk P w K mg base CX0 2 (ad 26) (fd 26) p_same spSam1 := ok_sam1 F T
  refine F.F_same.ok sc_same (fun vs H Q E h => ?_) (fun cdv A outer s H vs Q E hr h => ?_)
  · obtain ⟨_, _, _, rfl, _⟩ := h
    rfl
  · obtain ⟨p, r, xs, rfl, hp, hq, hl, q⟩ := h
    refine ⟨_, (pss_cons (ps_if (PW.pt (pw_or (pt_val (pe_callB call_isi (by rfl) T.m_isinstance (by decide +kernel) (pa_cons (pv 1) (pa_cons (pe_bltn (v := .ty "list") (by rfl) T.m_list (by decide +kernel) rfl) pa_nil)))) (pw_or1 (pt_val (pe_callB call_isi (by rfl) T.m_isinstance (by decide +kernel) (pa_cons (pv 1) (pa_cons (pe_bltn (v := .ty "tuple") (by rfl) T.m_tuple (by decide +kernel) rfl) pa_nil))))))) (pss_cons (ps_if (PW.pt (pw_or (pt_cmpR op_ne (pe_callB call_isi (by rfl) T.m_isinstance (by decide +kernel) (pa_cons (pv 0) (pa_cons (pe_bltn (v := .ty "list") (by rfl) T.m_list (by decide +kernel) rfl) pa_nil))) (pe_callB call_isi (by rfl) T.m_isinstance (by decide +kernel) (pa_cons (pv 1) (pa_cons (pe_bltn (v := .ty "list") (by rfl) T.m_list (by decide +kernel) rfl) pa_nil))) (nomark _)) (pw_or1 (pt_cmpR op_ne (pe_callB call_isi (by rfl) T.m_isinstance (by decide +kernel) (pa_cons (pv 0) (pa_cons (pe_bltn (v := .ty "tuple") (by rfl) T.m_tuple (by decide +kernel) rfl) pa_nil))) (pe_callB call_isi (by rfl) T.m_isinstance (by decide +kernel) (pa_cons (pv 1) (pa_cons (pe_bltn (v := .ty "tuple") (by rfl) T.m_tuple (by decide +kernel) rfl) pa_nil))) (nomark _))))) (pss_one (ps_ret pe_bl)) pss_nil)
      (pss_one (ps_ret (pe_and (pe_cmpR op_eq (pe_callB call_len_seq (by rfl) T.m_len PySem.boot_len (pa_cons (pv 0) pa_nil)) (pe_callB call_len_seq (by rfl) T.m_len PySem.boot_len (pa_cons (pv 1) pa_nil)) (nomark _)) (pe_one (pe_callB (cr_all rfl) (by rfl) T.m_all (by decide +kernel) (pa_cons (pe_lc (own := [("_law_k", 2)]) rfl sc_same.nd (pi_range1 rfl T.m_range (pa_cons (pe_callB call_len_seq (by rfl) T.m_len PySem.boot_len (pa_cons (pv 1) pa_nil)) pa_nil)) (blkOk_by (N := n_same) (sc := defScope s_same) (by decide +kernel)) (fun _ _ _ _ _ => (pg_name (i := 2) sc_same.nd rfl (.inl rfl))) (fun _ _ _ _ _ => pts_nil) (fun _ _ _ _ _ => (pe_call G_same (hr.mono (by decide)) (by rfl) F.g_same F.F_same.kp F.b_same .nil pass0 (pa_cons (pe_ix (r := rIxL K) ix_list (pv 0) (pv 2) (fun _ _ => rfl)) (pa_cons (pe_ix (r := rIxL K) ix_list (pv 1) (pv 2) (fun _ _ => rfl)) pa_nil))))) pa_nil))))))) pss_nil)
      (pss_cons (ps_if (PW.pt (pw_or (pt_cmpR op_isN (pv 1) pe_non (nomark _)) (pw_or1 (pt_cmpR op_isN (pv 0) pe_non (nomark _))))) (pss_one (ps_ret (pe_and (pe_cmpR op_isN (pv 0) pe_non (nomark _)) (pe_one (pe_cmpR op_isN (pv 1) pe_non (nomark _)))))) pss_nil)
      (pss_cons (ps_if (PW.pt (pw_or (pt_cmpR op_ne (pe_callB call_isi (by rfl) T.m_isinstance (by decide +kernel) (pa_cons (pv 0) (pa_cons (pe_bltn (v := .ty "bool") (by rfl) T.m_bool (by decide +kernel) rfl) pa_nil))) (pe_callB call_isi (by rfl) T.m_isinstance (by decide +kernel) (pa_cons (pv 1) (pa_cons (pe_bltn (v := .ty "bool") (by rfl) T.m_bool (by decide +kernel) rfl) pa_nil))) (nomark _)) (pw_or1 (pt_cmpR op_ne (pe_callB call_isi (by rfl) T.m_isinstance (by decide +kernel) (pa_cons (pv 0) (pa_cons (pe_bltn (v := .ty "int") (by rfl) T.m_int (by decide +kernel) rfl) pa_nil))) (pe_callB call_isi (by rfl) T.m_isinstance (by decide +kernel) (pa_cons (pv 1) (pa_cons (pe_bltn (v := .ty "int") (by rfl) T.m_int (by decide +kernel) rfl) pa_nil))) (nomark _))))) (pss_one (ps_ret pe_bl)) pss_nil)
      (pss_one (ps_ret (pe_and (pe_cmpR op_eq (pe_callB call_isi (by rfl) T.m_isinstance (by decide +kernel) (pa_cons (pv 0) (pa_cons (pe_bltn (v := .ty "str") (by rfl) T.m_str (by decide +kernel) rfl) pa_nil))) (pe_callB call_isi (by rfl) T.m_isinstance (by decide +kernel) (pa_cons (pv 1) (pa_cons (pe_bltn (v := .ty "str") (by rfl) T.m_str (by decide +kernel) rfl) pa_nil))) (nomark _)) (pe_one (pe_cmpR op_eq (pv 0) (pv 1) (nomark _))))))))), ?_⟩
    refine isL (K := K) (c := "list") (b := true) rfl hq (by decide +kernel) ⟨_, rfl, iteT ?_⟩
    refine isL (K := K) (c := "list") (b := true) rfl hp (by decide +kernel) ?_
    refine isL (K := K) (c := "list") (b := true) rfl hq (by decide +kernel) ⟨rfl, _, rfl, iteF ?_⟩
    refine isL (K := K) (c := "tuple") (b := false) rfl hp (by decide +kernel) ?_
    refine isL (K := K) (c := "tuple") (b := false) rfl hq (by decide +kernel) ⟨rfl, _, rfl, iteF ?_⟩
    refine ⟨_, rfl, p, _, rfl, .inl (.inl (.inl hp)), _, rfl, r, _, rfl, .inl (.inl (.inl hq)), rfl, true, (by rw [decide_eq_true rfl]), iteT ?_⟩
    refine ⟨_, rfl, r, _, rfl, .inl (.inl (.inl hq)), _, rfl, by have := Int.natCast_nonneg (xs.map V.str).length; omega, by rw [List.length_map]; omega, fun D hD => ?_⟩
    rw [List.length_map, Int.toNat_natCast]
    refine lc_range (lo := 0) (n := xs.length) (fun i H' => H D = none ∧ Ex H H' ∧ H' D = some (.lst ((List.replicate i true).map V.bl))) ⟨hD, Evl.Ex.new hD, upd_same⟩ (fun i H' hi hp' => ?_) (fun H' hp' => ?_)
    · obtain ⟨h1, x1, e1⟩ := hp'
      have g : (xs.map V.str)[i]? = some (.str xs[i]) := by
        rw [List.getElem?_map, List.getElem?_eq_getElem hi]
        rfl
      have g2 : atI (xs.map V.str) (0 + (i : Int)) = some (.str xs[i]) := by
        rw [Int.zero_add]
        exact atI_nat g
      refine ⟨rfl, ?_⟩
      refine ⟨_, rfl, _, rfl, p, _, _, _, rfl, rfl, .inl (.inl (x1 _ _ hp)), g2, _, rfl, _, rfl, r, _, _, _, rfl, rfl, .inl (.inl (x1 _ _ hq)), g2, xs[i], rfl, ?_⟩
      refine ⟨_, e1, ?_, h1, x1.mut h1, ?_⟩
      · rw [List.length_map, List.length_replicate]
        exact Nat.lt_of_lt_of_le hi (Nat.le_trans hl (by decide))
      · rw [upd_same]
        congr 2
        rw [List.replicate_succ', List.map_append]
        rfl
    · obtain ⟨h1, x1, e1⟩ := hp'
      refine ⟨D, List.replicate xs.length true, rfl, .inl (.inl e1), ?_⟩
      rw [all_true]
      exact q H' x1
end
end K10
end

section
set_option Elab.async false
set_option linter.all false
set_option maxRecDepth 100000
namespace K10
open PySem PySem.Spec PyProof.Rows L2 KW
/-- a good flow stands at f; all but the flow stays -/
def Flo (H : Hp) (f s : Addr) (ns : List Int) : Prop := ∃ a b c, H f = some (fl s a b c) ∧ FlOk a b c ∧ H s = some (.lst (ns.map V.int))
def Mv (f : Addr) (H H' : Hp) : Prop := ∀ a o, a ≠ f → H a = some o → H' a = some o
theorem Mv.refl {f : Addr} {H : Hp} : Mv f H H := fun _ _ _ e => e
theorem Mv.trans {f : Addr} {H H1 H2 : Hp} (a : Mv f H H1) (b : Mv f H1 H2) : Mv f H H2 := fun x o n e => b x o n (a x o n e)
theorem Mv.ex {f : Addr} {H H' : Hp} (x : Ex H H') : Mv f H H' := fun a o _ e => x a o e
theorem fl_ints {s : Addr} {a b c : Int} {ns : List Int} : fl s a b c ≠ .lst (ns.map V.int) := fun z => by
  have z' : HO.lst [.ref s, .int a, .int b, .int c] = .lst (ns.map V.int) := z
  injection z' with z'
  cases ns with
  | nil => cases z'
  | cons x r =>
    rw [List.map_cons] at z'
    injection z' with z1 _
    cases z1
theorem fl_strs {s : Addr} {a b c : Int} {xs : List Str} : fl s a b c ≠ .lst (xs.map V.str) := fun z => by
  have z' : HO.lst [.ref s, .int a, .int b, .int c] = .lst (xs.map V.str) := z
  injection z' with z'
  cases xs with
  | nil => cases z'
  | cons x r =>
    rw [List.map_cons] at z'
    injection z' with z1 _
    cases z1
theorem Flo.ne {H : Hp} {f s p : Addr} {ns : List Int} {o : HO} (h : Flo H f s ns) (e : H p = some o) (d : ∀ a b c, fl s a b c ≠ o) : p ≠ f := fun z => by
  obtain ⟨a, b, c, hf, _⟩ := h
  rw [z, hf] at e
  exact d a b c (Option.some.inj e)
theorem Flo.sf {H : Hp} {f s : Addr} {ns : List Int} (h : Flo H f s ns) : s ≠ f := by
  obtain ⟨a, b, c, hf, ok, hs⟩ := h
  exact Flo.ne ⟨a, b, c, hf, ok, hs⟩ hs fun _ _ _ => fl_ints
theorem Flo.ex {H H' : Hp} {f s : Addr} {ns : List Int} (h : Flo H f s ns) (x : Ex H H') : Flo H' f s ns := by
  obtain ⟨a, b, c, hf, ok, hs⟩ := h
  exact ⟨a, b, c, x _ _ hf, ok, x _ _ hs⟩
section
variable {P : Program} {w : World} {K : PySem.W.Frag} {mg : Str → Option Value} {base : Heap} {ad : Nat → Addr} {fd : Nat → FuncData}
theorem mvT {H H' : Hp} {f s p : Addr} {ns : List Int} {xs : List V} (h : Flo H f s ns) (m : Mv f H H') (e : SqT K H p xs) : SqT K H' p xs := by
  rcases e with (e | ⟨o, e⟩) | e
  · exact .inl (.inl (m _ _ (h.ne e fun _ _ _ z => by cases z) e))
  · exact .inl (.inr ⟨o, m _ _ (h.ne e fun _ _ _ z => by cases z) e⟩)
  · exact .inr e
theorem mvL {H H' : Hp} {f s p : Addr} {ns l : List Int} (h : Flo H f s ns) (m : Mv f H H') (e : SqL K H p (l.map V.int)) : SqL K H' p (l.map V.int) := by
  rcases e with (e | ⟨o, e⟩) | e
  · exact .inl (.inl (m _ _ (h.ne e fun _ _ _ => fl_ints) e))
  · exact .inl (.inr ⟨o, m _ _ (h.ne e fun _ _ _ z => by cases z) e⟩)
  · exact .inr e
theorem mvV {H H' : Hp} {f s : Addr} {ns : List Int} {W : Wd} {v : V} {t : Th} (h : Flo H f s ns) (m : Mv f H H') (e : Tv K H W v t) : Tv K H' W v t := by
  cases W <;> cases t <;> first | exact e.elim | exact e | skip
  all_goals first
    | (obtain ⟨p, rfl, hp⟩ := e; exact ⟨p, rfl, mvT h m hp⟩)
    | (obtain ⟨p, rfl, hp, hm⟩ := e; exact ⟨p, rfl, mvT h m hp, hm⟩)
    | (obtain ⟨p, rfl, hp, hm⟩ := e; exact ⟨p, rfl, mvL h m hp, hm⟩)
/-- a draw -/
theorem dr {H : Hp} {f s : Addr} {ns : List Int} {z : Int} {Q : VK} (h : Flo H f s ns) (h0 : 0 < z) (h1 : z < 2 ^ 100) (k : ∀ r H', 0 ≤ r → r < z → Mv f H H' → Flo H' f s ns → Q (.int r) H') : spDraw [.ref f, .int z] H Q E0 := by
  have sf := h.sf
  obtain ⟨a, b, c, hf, ok, hs⟩ := h
  refine ⟨f, s, ns, a, b, c, z, rfl, hf, hs, ok, h0, h1, fun r a' b' c' r0 r1 ok' => k r _ r0 r1 (fun x o n e => ?_) ⟨a', b', c', upd_same, ok', ?_⟩⟩
  · rw [upd_ne n]
    exact e
  · rw [upd_ne sf]
    exact hs
/-- .. as it stands in a text: draw(flow, e) -/
theorem drE {σ : L2.St} {H : Hp} {i : Nat} {f s : Addr} {ns : List Int} {z : Int} {tz : TE} {Q : VK} {E : XK} (hi : σ[i]? = some (some (.ref f))) (hz : ∀ R : VK, R (.int z) H → tz σ H R) (hf : Flo H f s ns) (h0 : 0 < z) (h1 : z < 2 ^ 100)
    (k : ∀ r H', 0 ≤ r → r < z → Mv f H H' → Flo H' f s ns → Q (.int r) H') : tCall spDraw [] E (tCons (tVar i) (tCons tz tNil)) σ H Q := ⟨_, hi, hz _ (dr hf h0 h1 k)⟩
theorem drN {σ : L2.St} {H : Hp} {i : Nat} {f s : Addr} {ns : List Int} {z : Int} {Q : VK} {E : XK} (hi : σ[i]? = some (some (.ref f))) (hf : Flo H f s ns) (h0 : 0 < z) (h1 : z < 2 ^ 100) (k : ∀ r H', 0 ≤ r → r < z → Mv f H H' → Flo H' f s ns → Q (.int r) H') :
    tCall spDraw [] E (tCons (tVar i) (tCons (tC (.int z)) tNil)) σ H Q := drE hi (fun _ h => h) hf h0 h1 k
def spNum : Sp := fun vs H Q _ => ∃ (f s u : Addr) (ns xs : List Int), vs = [.ref f, .ref u] ∧ Flo H f s ns ∧ H u = some (.lst (xs.map V.int)) ∧ 0 < xs.length ∧ xs.length < 1000 ∧ ∀ n H', Mv f H H' → Flo H' f s ns → Q (.int n) H'
theorem ok_num (F : Fa K mg ad fd) (T : Bl mg) : FnOk P w K mg base CX0 2 (ad 27) (fd 27) p_num spNum := by
  have G_draw : FnOk P w K mg base CX0 1 (ad 18) (fd 18) p_draw spDraw := ok_draw F.F_draw T
  refine F.F_num.ok sc_num (fun vs H Q E h => ?_) (fun cdv A outer s H vs Q E hr h => ?_)
  · obtain ⟨_, _, _, _, _, rfl, _⟩ := h
    rfl
  · obtain ⟨f, sc, u, ns, xs, rfl, hf, hu, h0, h1, q⟩ := h
    refine ⟨_, (pss_cons (ps_if (pt_cmpR op_gt (pe_call G_draw (hr.mono (by decide)) (by rfl) F.g_draw F.F_draw.kp F.b_draw .nil pass0 (pa_cons (pv 0) (pa_cons pe_int pa_nil))) pe_int (nomark _)) (pss_one (ps_ret (pe_ix ix_list (pv 1) (pe_call G_draw (hr.mono (by decide)) (by rfl) F.g_draw F.F_draw.kp F.b_draw .nil pass0 (pa_cons (pv 0) (pa_cons (pe_callB call_len_seq (by rfl) T.m_len PySem.boot_len (pa_cons (pv 1) pa_nil)) pa_nil))) (fun _ _ => rfl)))) pss_nil)
      (pss_one (ps_ret (pe_op op_sub (pe_call G_draw (hr.mono (by decide)) (by rfl) F.g_draw F.F_draw.kp F.b_draw .nil pass0 (pa_cons (pv 0) (pa_cons (pe_op op_mul pe_int (pe_op op_pow pe_int pe_int)) pa_nil))) (pe_op op_pow pe_int pe_int))))), ?_⟩
    refine drN (z := 3) rfl hf (by decide) (by decide) fun r H1 r0 r1 m1 f1 => ⟨_, _, rfl, rfl, _, rfl, ite2 (fun e => ?_) (fun e => ?_)⟩
    · have hu1 := m1 _ _ (hf.ne hu fun _ _ _ => fl_ints) hu
      refine ⟨_, rfl, ?_⟩
      refine drE (z := (xs.length : Int)) rfl (fun R hR => ⟨_, rfl, u, _, rfl, .inl (.inl (.inl hu1)), by rw [List.length_map]; exact hR⟩) f1 (by omega) (by omega) fun r2 H2 a0 a1 m2 f2 => ?_
      have hu2 := m2 _ _ (f1.ne hu1 fun _ _ _ => fl_ints) hu1
      obtain ⟨n, rfl⟩ : ∃ n : Nat, r2 = n := ⟨r2.toNat, by omega⟩
      have hn : n < xs.length := by omega
      refine ⟨u, _, _, .int xs[n], rfl, rfl, .inl (.inl hu2), atI_nat ?_, q _ H2 (m1.trans m2) f2⟩
      rw [List.getElem?_map, List.getElem?_eq_getElem hn]
      rfl
    · refine drE (z := 2 * 10 ^ 29) rfl (fun R hR => ⟨_, _, rfl, rfl, ⟨by decide, by decide, by decide⟩, _, _, rfl, rfl, .inl ⟨by decide, by decide⟩, hR⟩) f1 (by decide) (by decide) fun r2 H2 a0 a1 m2 f2 => ?_
      exact ⟨_, _, rfl, rfl, ⟨by decide, by decide, by decide⟩, _, _, rfl, rfl, q _ H2 (m1.trans m2) f2⟩
end
end K10
end

section
set_option Elab.async false
set_option linter.all false
set_option maxRecDepth 100000
namespace K10
open PySem PySem.Spec PyProof.Rows L2 KW
theorem yesT {σ : L2.St} {H : Hp} {A B : Hp → Prop} (h : A H) : tYes σ H (fun b H3 => if b = true then A H3 else B H3) := by
  show if true = true then A H else B H
  rw [if_pos rfl]
  exact h
theorem two_sorted {a b : Int} {l : List Int} (p : l.Perm [a, b]) (h : l.Pairwise (· ≤ ·)) : ∃ x y, l = [x, y] ∧ x ≤ y := by
  have hl := p.length_eq
  match l, hl with
  | [x, y], _ => exact ⟨x, y, rfl, by simpa using h⟩
/-- the marks of a number -/
def marks (b : Int) : Nat → List Int
  | 0 => []
  | n + 1 => if (Builtin.bitAnd (b / 2 ^ n) 1 != 0) = true then marks b n ++ [(n : Int)] else marks b n
theorem marks_lt (b : Int) : ∀ n : Nat, ∀ k ∈ marks b n, k < (n : Int)
  | 0, k, h => by cases h
  | n + 1, k, h => by
    unfold marks at h
    have ih := marks_lt b n
    split at h
    · rcases List.mem_append.mp h with z | z
      · have := ih k z
        omega
      · rw [List.mem_singleton.mp z]
        omega
    · have := ih k h
      omega
theorem marks_nodup (b : Int) : ∀ n : Nat, (marks b n).Nodup
  | 0 => List.nodup_nil
  | n + 1 => by
    unfold marks
    split
    · rw [List.nodup_append]
      refine ⟨marks_nodup b n, by simp, fun x hx y hy e => ?_⟩
      rw [List.mem_singleton] at hy
      have := marks_lt b n x hx
      omega
    · exact marks_nodup b n
theorem marks_len (b : Int) : ∀ n : Nat, (marks b n).length ≤ n
  | 0 => Nat.le_refl _
  | n + 1 => by
    have := marks_len b n
    unfold marks
    split
    · rw [List.length_append]
      show (marks b n).length + 1 ≤ n + 1
      omega
    · omega
theorem marks_some : ∀ r : Fin 31, 1 ≤ (marks (1 + (r.val : Int)) 5).length := by decide +kernel
theorem marks_mk {r : Int} (h0 : 0 ≤ r) (h1 : r < 31) : Mk (marks (1 + r) 5) := by
  have := marks_some ⟨r.toNat, by omega⟩
  rw [show ((⟨r.toNat, by omega⟩ : Fin 31).val : Int) = r by show (r.toNat : Int) = r; omega] at this
  exact ⟨marks_nodup _ _, this, Nat.le_trans (marks_len _ _) (by decide)⟩
section
variable {P : Program} {w : World} {K : PySem.W.Frag} {mg : Str → Option Value} {base : Heap} {ad : Nat → Addr} {fd : Nat → FuncData}
theorem nmC {σ : L2.St} {H : Hp} {i j : Nat} {f s u : Addr} {ns xs : List Int} {Q : VK} {E : XK} (hi : σ[i]? = some (some (.ref f))) (hj : σ[j]? = some (some (.ref u))) (hf : Flo H f s ns) (hu : H u = some (.lst (xs.map V.int))) (h0 : 0 < xs.length) (h1 : xs.length < 1000)
    (k : ∀ n H', Mv f H H' → Flo H' f s ns → H' u = some (.lst (xs.map V.int)) → Q (.int n) H') : tCall spNum [] E (tCons (tVar i) (tCons (tVar j) tNil)) σ H Q :=
  ⟨_, hi, _, hj, f, s, u, ns, xs, rfl, hf, hu, h0, h1, fun n H' m f' => k n H' m f' (m _ _ (hf.ne hu fun _ _ _ => fl_ints) hu)⟩
def spThing (K : PySem.W.Frag) : Sp := fun vs H Q _ => ∃ (W : Wd) (f s u : Addr) (ns xs : List Int), vs = [.ref f, .str W.s, .ref u] ∧ Flo H f s ns ∧ H u = some (.lst (xs.map V.int)) ∧ 0 < xs.length ∧ xs.length < 1000 ∧
  ∀ v t H', Mv f H H' → Flo H' f s ns → Tv K H' W v t → Q v H'
theorem ok_thing (F : Fa K mg ad fd) (T : Bl mg) : FnOk P w K mg base CX0 3 (ad 28) (fd 28) p_thing (spThing K) := by
  have G_draw : FnOk P w K mg base CX0 1 (ad 18) (fd 18) p_draw spDraw := ok_draw F.F_draw T
  have G_num : FnOk P w K mg base CX0 2 (ad 27) (fd 27) p_num spNum := ok_num F T
  refine F.F_thing.ok sc_thing (fun vs H Q E h => ?_) (fun cdv A outer s H vs Q E hr h => ?_)
  · obtain ⟨_, _, _, _, _, _, rfl, _⟩ := h
    rfl
  · obtain ⟨W, f, sc, u, ns, xs, rfl, hf, hu, h0, h1, q⟩ := h
    refine ⟨_, (pss_cons (ps_if (pt_cmpR op_eq (pv 1) pe_str (nomark _)) (pss_one (ps_ret (pe_call G_num (hr.mono (by decide)) (by rfl) F.g_num F.F_num.kp F.b_num .nil pass0 (pa_cons (pv 0) (pa_cons (pv 2) pa_nil))))) pss_nil)
      (pss_cons (ps_if (pt_cmpR op_eq (pv 1) pe_str (nomark _)) (pss_one (ps_ret (pe_tup (pa_cons (pe_call G_num (hr.mono (by decide)) (by rfl) F.g_num F.F_num.kp F.b_num .nil pass0 (pa_cons (pv 0) (pa_cons (pv 2) pa_nil))) (pa_cons (pe_call G_num (hr.mono (by decide)) (by rfl) F.g_num F.F_num.kp F.b_num .nil pass0 (pa_cons (pv 0) (pa_cons (pv 2) pa_nil))) pa_nil))))) pss_nil)
      (pss_cons (ps_if (pt_cmpR op_eq (pv 1) pe_str (nomark _)) (pss_cons (ps_asg (pe_callB cr_sorted (by rfl) T.m_sorted (by decide +kernel) (pa_cons (pe_lst (pa_cons (pe_call G_num (hr.mono (by decide)) (by rfl) F.g_num F.F_num.kp F.b_num .nil pass0 (pa_cons (pv 0) (pa_cons (pv 2) pa_nil))) (pa_cons (pe_call G_num (hr.mono (by decide)) (by rfl) F.g_num F.F_num.kp F.b_num .nil pass0 (pa_cons (pv 0) (pa_cons (pv 2) pa_nil))) pa_nil))) pa_nil)) (pg_lst rfl (pgs_cons (pg_name (i := 4) sc_thing.nd rfl (.inl rfl)) (pgs_cons (pg_name (i := 5) sc_thing.nd rfl (.inl rfl)) pgs_nil))))
      (pss_one (ps_ret (pe_tup (pa_cons (pv 4) (pa_cons (pe_op op_add (pv 5) (pe_callTy call_int1 (by rfl) T.m_int (by decide +kernel) (pa_cons (pe_cmpR op_eq (pv 5) (pv 4) (nomark _)) pa_nil))) pa_nil)))))) pss_nil)
      (pss_cons (ps_if (pt_cmpR op_eq (pv 1) pe_str (nomark _)) (pss_one (ps_ret (pe_callTy call_tuple_of (by rfl) T.m_tuple (by decide +kernel) (pa_cons (pe_lc (own := [("_law_k", 7)]) rfl sc_thing.nd (pi_range1 rfl T.m_range (pa_cons (pe_op op_add pe_int (pe_call G_draw (hr.mono (by decide)) (by rfl) F.g_draw F.F_draw.kp F.b_draw .nil pass0 (pa_cons (pv 0) (pa_cons pe_int pa_nil)))) pa_nil)) (blkOk_by (N := n_thing) (sc := defScope s_thing) (by decide +kernel)) (fun _ _ _ _ _ => (pg_name (i := 7) sc_thing.nd rfl (.inl rfl))) (fun _ _ _ _ _ => pts_nil) (fun _ _ _ _ _ => (pe_call G_draw (hr.mono (by decide)) (by rfl) F.g_draw F.F_draw.kp F.b_draw .nil pass0 (pa_cons (pv 0) (pa_cons pe_int pa_nil))))) pa_nil)))) pss_nil)
      (pss_cons (ps_set (i := 3) sc_thing.nd rfl (.inr rfl) (pe_op op_add pe_int (pe_call G_draw (hr.mono (by decide)) (by rfl) F.g_draw F.F_draw.kp F.b_draw .nil pass0 (pa_cons (pv 0) (pa_cons pe_int pa_nil)))))
      (pss_one (ps_ret (pe_lc (own := [("_law_mark", 6)]) rfl sc_thing.nd (pi_range1 rfl T.m_range (pa_cons pe_int pa_nil)) (blkOk_by (N := n_thing) (sc := defScope s_thing) (by decide +kernel)) (fun _ _ _ _ _ => (pg_name (i := 6) sc_thing.nd rfl (.inl rfl))) (fun _ _ _ _ _ => (pts_one (pt_int (pe_op op_and (pe_op op_shr (pv 3) (pv 6)) pe_int) (by intro _; rfl)))) (fun _ _ _ _ _ => (pv 6)))))))))), ?_⟩
    cases W with
    | mo =>
      refine ⟨_, rfl, rfl, true, bt rfl, iteT ?_⟩
      exact nmC (xs := xs) rfl rfl hf hu h0 h1 fun n H1 m1 f1 _ => q (.int n) (.num n) H1 m1 f1 rfl
    | co =>
      refine ⟨_, rfl, rfl, false, bf (by decide +kernel), iteF ⟨_, rfl, rfl, true, bt rfl, iteT ?_⟩⟩
      refine nmC (xs := xs) rfl rfl hf hu h0 h1 fun a H1 m1 f1 hu1 => ?_
      refine nmC (xs := xs) rfl rfl f1 hu1 h0 h1 fun b H2 m2 f2 hu2 => ?_
      refine ⟨by show 2 ≤ sizeLine; decide, fun t nt => ?_⟩
      exact q (.ref t) (.pr a b) _ ((m1.trans m2).trans (.ex (Evl.Ex.new nt))) (f2.ex (Evl.Ex.new nt)) ⟨t, rfl, .inl (.inl upd_same)⟩
    | st =>
      refine ⟨_, rfl, rfl, false, bf (by decide +kernel), iteF ⟨_, rfl, rfl, false, bf (by decide +kernel), iteF ⟨_, rfl, rfl, true, bt rfl, iteT ?_⟩⟩⟩
      refine nmC (xs := xs) rfl rfl hf hu h0 h1 fun a H1 m1 f1 hu1 => ?_
      refine nmC (xs := xs) rfl rfl f1 hu1 h0 h1 fun b H2 m2 f2 hu2 => ?_
      refine ⟨by show 2 ≤ sizeLine; decide, fun t nt => ?_⟩
      have x1 := Evl.Ex.new (o := .lst [.int a, .int b]) nt
      refine ⟨t, [a, b], rfl, .inl (.inl upd_same), by show 2 < 64; decide, fun l2 p2 pm ps np => ?_⟩
      obtain ⟨x, y, rfl, hxy⟩ := two_sorted pm ps
      have x2 := Evl.Ex.new (o := .lst [.int x, .int y]) np
      refine ⟨p2, _, rfl, .inl (.inl upd_same), rfl, _, _, rfl, _, _, rfl, rfl, ?_⟩
      refine ⟨_, rfl, _, rfl, _, rfl, _, rfl, rfl, .inr ⟨_, rfl, _, _, rfl, rfl, ?_⟩⟩
      refine ⟨by show 2 ≤ sizeLine; decide, fun t3 nt3 => ?_⟩
      have x3 := Evl.Ex.new (o := .tup [.int x, .int (y + if decide (V.int y = V.int x) = true then 1 else 0)]) nt3
      exact q (.ref t3) (.pr x _) _ ((m1.trans m2).trans (.ex ((x1.trans x2).trans x3))) (f2.ex ((x1.trans x2).trans x3)) ⟨t3, rfl, .inl (.inl upd_same), by
        by_cases e : y = x
        · rw [e]
          simp
          omega
        · rw [decide_eq_false (fun z => e (by injection z))]
          simp
          omega⟩
    | br =>
      refine ⟨_, rfl, rfl, false, bf (by decide +kernel), iteF ⟨_, rfl, rfl, false, bf (by decide +kernel), iteF ⟨_, rfl, rfl, false, bf (by decide +kernel), iteF ⟨_, rfl, rfl, true, bt rfl, iteT ?_⟩⟩⟩⟩
      refine drN (z := 4) rfl hf (by decide) (by decide) fun r H1 r0 r1 m1 f1 => ⟨_, _, rfl, rfl, _, rfl, by omega, by omega, fun D hD => ?_⟩
      have nDf : D ≠ f := fun e => by
        obtain ⟨_, _, _, z, _⟩ := f1
        rw [e, z] at hD
        cases hD
      have nDs : D ≠ sc := fun e => by
        obtain ⟨_, _, _, _, _, z⟩ := f1
        rw [e, z] at hD
        cases hD
      refine lc_range (lo := 0) (n := (1 + r).toNat) (fun i H' => Mv f H1 H' ∧ Flo H' f sc ns ∧ ∃ l : List Int, l.length = i ∧ H' D = some (.lst (l.map V.int)))
        ⟨.ex (Evl.Ex.new hD), f1.ex (Evl.Ex.new hD), [], rfl, upd_same⟩ (fun i H' hi hp' => ?_) (fun H' hp' => ?_)
      · obtain ⟨mm, ff, l, hl, e1⟩ := hp'
        refine ⟨rfl, yesT ?_⟩
        refine drN (z := 2) rfl ff (by decide) (by decide) fun r2 H2 a0 a1 m2 f2 => ?_
        have e2 := m2 _ _ nDf e1
        refine ⟨_, e2, ?_, ?_, ?_, l ++ [r2], by rw [List.length_append, hl]; rfl, ?_⟩
        · rw [List.length_map, hl]
          have : i < 10 := by omega
          exact Nat.lt_trans this (by decide)
        · intro a o na ea
          have na2 : a ≠ D := ne_of_none ea hD
          rw [upd_ne na2]
          exact m2 _ _ na (mm _ _ na ea)
        · obtain ⟨a, b, c, z1, z2, z3⟩ := f2
          exact ⟨a, b, c, by rw [upd_ne nDf.symm]; exact z1, z2, by rw [upd_ne nDs.symm]; exact z3⟩
        · rw [upd_same, List.map_append]
          rfl
      · obtain ⟨mm, ff, l, hl, e1⟩ := hp'
        refine ⟨D, _, rfl, .inl ⟨.inl (.inl e1), fun t nt => ?_⟩⟩
        exact q (.ref t) (.way l) _ ((m1.trans mm).trans (.ex (Evl.Ex.new nt))) (ff.ex (Evl.Ex.new nt)) ⟨t, rfl, .inl (.inl upd_same)⟩
    | pa =>
      refine ⟨_, rfl, rfl, false, bf (by decide +kernel), iteF ⟨_, rfl, rfl, false, bf (by decide +kernel), iteF ⟨_, rfl, rfl, false, bf (by decide +kernel), iteF ⟨_, rfl, rfl, false, bf (by decide +kernel), iteF ?_⟩⟩⟩⟩
      refine drN (z := 31) rfl hf (by decide) (by decide) fun r H1 r0 r1 m1 f1 => ⟨_, _, rfl, rfl, ?_⟩
      refine ⟨5, rfl, by decide, by decide, fun D hD => ?_⟩
      refine lc_range (lo := 0) (n := 5) (fun i H' => Ex H1 H' ∧ H' D = some (.lst ((marks (1 + r) i).map V.int)) ∧ i ≤ 5) ⟨Evl.Ex.new hD, upd_same, by decide⟩ (fun i H' hi hp' => ?_) (fun H' hp' => ?_)
      · obtain ⟨x1, e1, _⟩ := hp'
        refine ⟨rfl, ?_⟩
        refine ⟨_, rfl, _, rfl, _, _, rfl, rfl, by omega, _, _, rfl, rfl, _, rfl, ?_⟩
        have ei : (0 + (i : Int)).toNat = i := by omega
        have em : marks (1 + r) (i + 1) = if (Builtin.bitAnd ((1 + r) / 2 ^ i) 1 != 0) = true then marks (1 + r) i ++ [(i : Int)] else marks (1 + r) i := rfl
        rw [ei]
        refine ite2 (fun e => ?_) (fun e => ?_)
        · rw [if_pos e] at em
          refine ⟨_, rfl, _, e1, ?_, x1.mut hD, ?_, by omega⟩
          · rw [List.length_map]
            have := marks_len (1 + r) i
            have h6 : (marks (1 + r) i).length < 6 := by omega
            exact Nat.lt_trans h6 (by decide)
          · rw [upd_same, em, List.map_append, Int.zero_add]
            rfl
        · rw [if_neg e] at em
          exact ⟨x1, by rw [em]; exact e1, by omega⟩
      · obtain ⟨x1, e1, _⟩ := hp'
        exact q (.ref D) (.mks _) H' (m1.trans (.ex x1)) (f1.ex x1) ⟨D, rfl, .inl (.inl e1), marks_mk r0 r1⟩
end
end K10
end

section
set_option Elab.async false
set_option linter.all false
set_option maxRecDepth 100000
namespace K10
open PySem PySem.Spec PyProof.Rows L2 KW
theorem inV_strs (x : Str) : ∀ xs : List Str, inV (.str x) (xs.map V.str) = decide (x ∈ xs)
  | [] => by simp [inV]
  | y :: r => by
    have ih := inV_strs x r
    unfold inV at ih ⊢
    rw [List.map_cons, List.any_cons, ih]
    show ((y == x) || decide (x ∈ r)) = _
    by_cases e : x = y
    · subst e
      simp
    · have e2 : ¬ y = x := fun z => e z.symm
      simp [e, e2]
theorem strs_flat : ∀ xs : List Str, (xs.map V.str).all flatV = true
  | [] => rfl
  | x :: r => by
    rw [List.map_cons, List.all_cons, strs_flat r]
    rfl
theorem kd_in {K : PySem.W.Frag} {H : Hp} {W : Wd} {u v : V} {t t' : Th} (hu : Tv K H W u t) (hv : Tv K H W v t') : kd W t t' ∈ kofL W := by
  cases W <;> cases t <;> first | exact hu.elim | skip
  all_goals cases t' <;> first | exact hv.elim | skip
  · rename_i a b
    show mk a b ∈ kofL .mo
    rw [mk_m3]
    cases m3 a b <;> decide +kernel
  · rename_i a b c d
    show stK a b c d ∈ kofL .st
    unfold stK
    split
    · decide +kernel
    split
    · decide +kernel
    split
    · decide +kernel
    split
    · decide +kernel
    cases m3 a c <;> cases m3 b d <;> decide +kernel
  · rename_i a b c d
    show (if (nor (m3 b d) ++ wes (m3 a c)).length = 0 then ("same" : Str) else nor (m3 b d) ++ wes (m3 a c)) ∈ kofL .co
    cases m3 a c <;> cases m3 b d <;> decide +kernel
  · rename_i l m
    show brK l m ∈ kofL .br
    unfold brK
    split
    · decide +kernel
    split
    · decide +kernel
    split
    · decide +kernel
    · decide +kernel
  · rename_i l m
    show paN _ _ _ ∈ kofL .pa
    unfold paN
    split
    · decide +kernel
    split
    · decide +kernel
    split
    · decide +kernel
    split
    · decide +kernel
    · decide +kernel
theorem kd_self {K : PySem.W.Frag} {H : Hp} {W : Wd} {u : V} {t : Th} (hu : Tv K H W u t) : kd W t t = "same" := by
  cases W <;> cases t <;> first | exact hu.elim | skip
  · rename_i a
    show mk a a = "same"
    unfold mk
    rw [if_neg (by omega), if_neg (by omega)]
  · rename_i a b
    obtain ⟨p, _, _, hab⟩ := hu
    show stK a b a b = "same"
    unfold stK
    rw [if_neg (by omega), if_neg (by omega), if_neg (by omega), if_neg (by omega)]
    unfold m3
    rw [if_neg (by omega), if_neg (by omega), if_neg (by omega), if_neg (by omega)]
    rfl
  · rename_i a b
    show coK a b a b = "same"
    unfold coK coL m3
    rw [if_neg (by omega : ¬ b < b), if_neg (by omega : ¬ b < b), if_neg (by omega : ¬ a < a), if_neg (by omega : ¬ a < a)]
    decide +kernel
  · exact if_pos rfl
  · rename_i l
    obtain ⟨p, _, _, hm⟩ := hu
    have e : (common l l).length = l.length := by
      unfold common
      rw [List.filter_eq_self.mpr (fun k hk => by simpa using hk)]
    have l1 := hm.2.1
    show paN _ _ _ = "same"
    rw [e]
    unfold paN
    rw [if_neg (by omega), if_pos ⟨rfl, rfl⟩]
section
variable {P : Program} {w : World} {K : PySem.W.Frag} {mg : Str → Option Value} {base : Heap} {ad : Nat → Addr} {fd : Nat → FuncData}
theorem thC {σ : L2.St} {H : Hp} {i j k : Nat} {W : Wd} {f s u : Addr} {ns xs : List Int} {Q : VK} {E : XK} (hi : σ[i]? = some (some (.ref f))) (hj : σ[j]? = some (some (.str W.s))) (hk : σ[k]? = some (some (.ref u))) (hf : Flo H f s ns)
    (hu : H u = some (.lst (xs.map V.int))) (h0 : 0 < xs.length) (h1 : xs.length < 1000) (q : ∀ v t H', Mv f H H' → Flo H' f s ns → Tv K H' W v t → Q v H') : tCall (spThing K) [] E (tCons (tVar i) (tCons (tVar j) (tCons (tVar k) tNil))) σ H Q :=
  ⟨_, hi, _, hj, _, hk, W, f, s, u, ns, xs, rfl, hf, hu, h0, h1, q⟩
theorem lkC {σ : L2.St} {H : Hp} {i j k : Nat} {W : Wd} {u v : V} {t t' : Th} {Q : VK} {E : XK} (hi : σ[i]? = some (some (.str W.s))) (hj : σ[j]? = some (some u)) (hk : σ[k]? = some (some v)) (hu : Tv K H W u t) (hv : Tv K H W v t')
    (q : ∀ H', Ex H H' → Q (.str (kd W t t')) H') : tCall (spBtw K) [] E (tCons (tVar i) (tCons (tVar j) (tCons (tVar k) tNil))) σ H Q := ⟨_, hi, _, hj, _, hk, W, u, v, t, t', rfl, hu, hv, q⟩
theorem ofC {σ : L2.St} {H : Hp} {i j k : Nat} {W : Wd} {u v : V} {t t' : Th} {C : Addr} {Q : VK} {E : XK} (hi : σ[i]? = some (some (.str W.s))) (hj : σ[j]? = some (some u)) (hk : σ[k]? = some (some v)) (hu : Tv K H W u t) (hv : Tv K H W v t')
    (q : ∀ H', Ex H H' → Q (.str (kd W t t')) H') : tCall (spOff K C) [] E (tCons (tVar i) (tCons (tVar j) (tCons (tVar k) tNil))) σ H Q := ⟨_, hi, _, hj, _, hk, .inl ⟨W, u, v, t, t', rfl, hu, hv, q⟩⟩
theorem tvE {H H' : Hp} {W : Wd} {v : V} {t : Th} (x : Ex H H') (e : Tv K H W v t) : Tv K H' W v t := by
  cases W <;> cases t <;> first | exact e.elim | exact e | skip
  all_goals first
    | (obtain ⟨p, rfl, hp⟩ := e; exact ⟨p, rfl, Evl.ex_t x hp⟩)
    | (obtain ⟨p, rfl, hp, hm⟩ := e; exact ⟨p, rfl, Evl.ex_t x hp, hm⟩)
    | (obtain ⟨p, rfl, hp, hm⟩ := e; exact ⟨p, rfl, Evl.ex_l x hp, hm⟩)
def wds : List Wd := [.mo, .st, .co, .br, .pa]
def spLaw (K : PySem.W.Frag) : Sp := fun vs H Q _ => ∃ (a : Addr) (ns : List Int), vs = [.ref a] ∧ SqL K H a (ns.map V.int) ∧ ns.length ≤ 63 ∧ ∀ H', Q (.bl true) H'
theorem ok_law (F : Fa K mg ad fd) (T : Bl mg) (B : Tb K P w ad) (Xf : Xc K mg ad fd) : FnOk P w K mg base CX0 5 (ad 29) (fd 29) p_law (spLaw K) := by
  have G_flow : FnOk P w K mg base CX0 1 (ad 19) (fd 19) p_flow (spFlow K) := ok_flow F.F_flow T
  have G_draw : FnOk P w K mg base CX0 1 (ad 18) (fd 18) p_draw spDraw := ok_draw F.F_draw T
  have G_kof : FnOk P w K mg base CX0 1 (ad 21) (fd 21) p_kof spKof := ok_kof F
  have G_table : FnOk P w K mg base CX0 1 (ad 20) (fd 20) p_table spTab := ok_tab F T
  have G_thing : FnOk P w K mg base CX0 3 (ad 28) (fd 28) p_thing (spThing K) := ok_thing F T
  have G_lkind : FnOk P w K mg base CX0 3 (ad 25) (fd 25) p_lkind (spBtw K) := ok_lk F T
  have G_same : FnOk P w K mg base CX0 3 (ad 26) (fd 26) p_same spSam2 := ok_sam2 F T
  have G_off : FnOk P w K mg base (L2.CX P w) 4 (ad 16) (fd 16) p_off (spOff K (ad 2)) := ok_off F T B Xf
  refine F.F_law.ok sc_law (fun vs H Q E h => ?_) (fun cdv A outer s H vs Q E hr h => ?_)
  · obtain ⟨_, _, rfl, _⟩ := h
    rfl
  · obtain ⟨a, ns, rfl, hS, hl, q⟩ := h
    refine ⟨_, (pss_cons (ps_set (i := 1) sc_law.nd rfl (.inl rfl) (pe_call G_flow (hr.mono (by decide)) (by rfl) F.g_flow F.F_flow.kp F.b_flow .nil pass0 (pa_cons (pv 0) pa_nil)))
      (pss_cons (ps_set (i := 2) sc_law.nd rfl (.inl rfl) (pe_lst (pa_cons pe_str (pa_cons pe_str (pa_cons pe_str (pa_cons pe_str (pa_cons pe_str pa_nil)))))))
      (pss_cons (ps_for PassesOwn.never rfl (pi_list (pv 2)) (pg_name (i := 3) sc_law.nd rfl (.inl rfl)) (pss_cons (ps_set (i := 6) sc_law.nd rfl (.inl rfl) (pe_lst (pa_cons (pe_op op_sub (pe_call G_draw (hr.mono (by decide)) (by rfl) F.g_draw F.F_draw.kp F.b_draw .nil pass0 (pa_cons (pv 1) (pa_cons pe_int pa_nil))) pe_int) (pa_cons (pe_op op_sub (pe_call G_draw (hr.mono (by decide)) (by rfl) F.g_draw F.F_draw.kp F.b_draw .nil pass0 (pa_cons (pv 1) (pa_cons pe_int pa_nil))) pe_int) (pa_cons (pe_op op_sub (pe_call G_draw (hr.mono (by decide)) (by rfl) F.g_draw F.F_draw.kp F.b_draw .nil pass0 (pa_cons (pv 1) (pa_cons (pe_op op_mul pe_int (pe_op op_pow pe_int pe_int)) pa_nil))) (pe_op op_pow pe_int pe_int)) pa_nil)))))
      (pss_cons (ps_set (i := 7) sc_law.nd rfl (.inl rfl) (pe_call G_table (hr.mono (by decide)) (by rfl) F.g_table F.F_table.kp F.b_table .nil pass0 (pa_cons (pe_call G_kof (hr.mono (by decide)) (by rfl) F.g_kof F.F_kof.kp F.b_kof .nil pass0 (pa_cons (pv 3) pa_nil)) (pa_cons pe_str (pa_cons (pe_lst pa_nil) (pa_cons pe_dnewK pa_nil))))))
      (pss_one (ps_for PassesOwn.never rfl (pi_range1 rfl T.m_range (pa_cons pe_int pa_nil)) (pg_name (i := 8) sc_law.nd rfl (.inl rfl)) (pss_cons (ps_par (by rfl) sc_law.nd rfl rfl (by decide) rfl rfl (pa_cons (pe_call G_thing (hr.mono (by decide)) (by rfl) F.g_thing F.F_thing.kp F.b_thing .nil pass0 (pa_cons (pv 1) (pa_cons (pv 3) (pa_cons (pv 6) pa_nil)))) (pa_cons (pe_call G_thing (hr.mono (by decide)) (by rfl) F.g_thing F.F_thing.kp F.b_thing .nil pass0 (pa_cons (pv 1) (pa_cons (pv 3) (pa_cons (pv 6) pa_nil)))) pa_nil)) (by rfl) (i := 10) (j := 11))
      (pss_cons (ps_set (i := 9) sc_law.nd rfl (.inl rfl) (pe_lst (pa_cons (pe_call G_lkind (hr.mono (by decide)) (by rfl) F.g_lkind F.F_lkind.kp F.b_lkind .nil pass0 (pa_cons (pv 3) (pa_cons (pv 10) (pa_cons (pv 11) pa_nil)))) (pa_cons (pe_call G_lkind (hr.mono (by decide)) (by rfl) F.g_lkind F.F_lkind.kp F.b_lkind .nil pass0 (pa_cons (pv 3) (pa_cons (pv 11) (pa_cons (pv 10) pa_nil)))) (pa_cons pe_str pa_nil)))))
      (pss_cons (ps_if (pt_cmpR op_notIn_seq (pe_ix ix_list (pv 9) pe_int (fun _ _ => rfl)) (pe_dget (hu_of hr) (pv 7) pe_str (fun _ _ => rfl)) (by rfl)) (pss_one (ps_ret pe_bl)) pss_nil)
      (pss_one (ps_if (pt_not (pt_val (pe_call G_same (hr.mono (by decide)) (by rfl) F.g_same F.F_same.kp F.b_same .nil pass0 (pa_cons (pe_lst (pa_cons (pe_call G_off (hr.mono (by decide)) (by rfl) F.g_off F.F_off.kp F.b_off .nil passL (pa_cons (pv 3) (pa_cons (pv 10) (pa_cons (pv 11) pa_nil)))) (pa_cons (pe_call G_off (hr.mono (by decide)) (by rfl) F.g_off F.F_off.kp F.b_off .nil passL (pa_cons (pv 3) (pa_cons (pv 11) (pa_cons (pv 10) pa_nil)))) (pa_cons (pe_call G_off (hr.mono (by decide)) (by rfl) F.g_off F.F_off.kp F.b_off .nil passL (pa_cons (pv 3) (pa_cons (pv 10) (pa_cons (pv 10) pa_nil)))) pa_nil)))) (pa_cons (pv 9) pa_nil))))) (pss_one (ps_ret pe_bl)) pss_nil))))))))))
      (pss_cons (ps_set (i := 4) sc_law.nd rfl (.inl rfl) pe_bl)
      (pss_cons (ps_try_as (i := 5) (tb := fun W => tDrop (tCallS (spOff K (ad 2)) (WE W) (tCons (tC (.str "part")) (tCons (tLst (tCons (tC (.int 1)) tNil)) (tCons (tLst (tCons (tC (.int 2)) tNil)) tNil))))) (ts := fun a cls d => tAsg (tOp rEq (tXf a cls d (ad 2) "name" (tVar 5)) (tC (.str "part"))) (gName 4)) (Wout := fun _ _ _ _ => False) rfl rfl sc_law.nd rfl rfl ⟨rfl, by decide, .inl Xf.g_not⟩ takes0 (fun W pn xe tk _ => pss_one (ps_expr (by exact (pe_callS G_off (hr.mono (by decide)) (by rfl) F.g_off F.F_off.kp F.b_off (fun σ => passAt tk σ) (by exact (pa_cons pe_str (pa_cons (pe_lst (pa_cons pe_int pa_nil)) (pa_cons (pe_lst (pa_cons pe_int pa_nil)) pa_nil)))))))) (fun a oe cls d pn hz hf => pss_one (ps_set (i := 4) sc_law.nd rfl (.inl rfl) (by exact (pe_cmpR op_eq (pe_xf Xf.xf Xf.noN hz hf (pv 5)) pe_str (nomark _))))))
      (pss_one (ps_ret (pv 4)))))))), ?_⟩
    refine ⟨_, rfl, a, ns, rfl, hS, hl, fun f sc H1 ef es => ?_⟩
    have f0 : Flo H1 f sc ns := ⟨0, 0, 11, ef, ⟨by decide, by decide, by decide, by decide⟩, es⟩
    refine ⟨by show 5 ≤ sizeLine; decide, fun wl nw => ?_⟩
    have x0 := Evl.Ex.new (o := .lst ((wds.map Wd.s).map V.str)) nw
    refine ⟨_, rfl, wl, rfl, ⟨_, .inl (.inl upd_same)⟩, for_list (K := K) (a := wl) (xs := (wds.map Wd.s).map V.str)
      (fun i σ H' => ∃ y3 y6 y7 y8 y9 y10 y11, σ = [some (.ref a), some (.ref f), some (.ref wl), y3, none, none, y6, y7, y8, y9, y10, y11] ∧ Flo H' f sc ns ∧ H' wl = some (.lst ((wds.map Wd.s).map V.str)))
      ⟨none, none, none, none, none, none, none, rfl, f0.ex x0, upd_same⟩ (fun i σ H' _ ⟨_, _, _, _, _, _, _, _, _, e⟩ => .inl (.inl e)) ?_ ?_⟩
    · rintro i y σ H2 hi ⟨y3, y6, y7, y8, y9, y10, y11, rfl, f2, ew2⟩
      obtain ⟨W, rfl⟩ : ∃ W : Wd, y = .str W.s := by
        rw [List.map_map, List.getElem?_map] at hi
        cases e : wds[i]? with
        | none =>
          rw [e] at hi
          cases hi
        | some W =>
          rw [e] at hi
          exact ⟨W, (Option.some.inj hi).symm⟩
      -- few
      refine drN (z := 9) rfl f2 (by decide) (by decide) fun r1 H3 _ _ m3' f3 => ⟨_, _, rfl, rfl, ?_⟩
      refine drN (z := 9) rfl f3 (by decide) (by decide) fun r2 H4 _ _ m4 f4 => ⟨_, _, rfl, rfl, ?_⟩
      refine drE (z := 2 * 10 ^ 29) rfl (fun R hR => ⟨_, _, rfl, rfl, ⟨by decide, by decide, by decide⟩, _, _, rfl, rfl, .inl ⟨by decide, by decide⟩, hR⟩) f4 (by decide) (by decide) fun r3 H5 _ _ m5 f5 => ?_
      refine ⟨_, _, rfl, rfl, ⟨by decide, by decide, by decide⟩, _, _, rfl, rfl, ?_⟩
      refine ⟨by show 3 ≤ sizeLine; decide, fun u nu => ?_⟩
      have x5 := Evl.Ex.new (o := .lst ([r1 - 4, r2 - 4, r3 - 10 ^ 29].map V.int)) nu
      have m6 : Mv f H2 (upd H5 u (.lst ([r1 - 4, r2 - 4, r3 - 10 ^ 29].map V.int))) := ((m3'.trans m4).trans m5).trans (.ex x5)
      have f6 : Flo (upd H5 u (.lst ([r1 - 4, r2 - 4, r3 - 10 ^ 29].map V.int))) f sc ns := f5.ex x5
      have eu6 : (upd H5 u (.lst ([r1 - 4, r2 - 4, r3 - 10 ^ 29].map V.int))) u = some (.lst ([r1 - 4, r2 - 4, r3 - 10 ^ 29].map V.int)) := upd_same
      have ew6 := m6 _ _ (f2.ne ew2 fun _ _ _ => fl_strs) ew2
      -- t
      refine ⟨_, rfl, W, rfl, fun pk H7 x7 ek => ?_⟩
      refine ⟨by show 0 ≤ sizeLine; decide, fun pb nb => ?_⟩
      have x8 := Evl.Ex.new (o := .lst []) nb
      intro pd nd
      have x9 := Evl.Ex.new (o := .dK []) nd
      refine ⟨pk, pb, pd, kofL W, "same", rfl, x9 _ _ (x8 _ _ ek), x9 _ _ upd_same, fun pt lk kvs Ha xa et ev el => ?_⟩
      have xt := ((x7.trans x8).trans x9).trans xa
      -- the turns
      refine ⟨4, rfl, by decide, by decide, for_range (lo := 0) (n := 4)
        (fun i σ H' => ∃ y8 y9 y10 y11, σ = [some (.ref a), some (.ref f), some (.ref wl), some (.str W.s), none, none, some (.ref u), some (.ref pt), y8, y9, y10, y11] ∧ Flo H' f sc ns ∧ H' wl = some (.lst ((wds.map Wd.s).map V.str)) ∧
          H' u = some (.lst ([r1 - 4, r2 - 4, r3 - 10 ^ 29].map V.int)) ∧ H' pt = some (.dK kvs) ∧ H' lk = some (.lst ((kofL W).map V.str)))
        ⟨y8, y9, y10, y11, rfl, f6.ex xt, xt _ _ ew6, xt _ _ eu6, et, el⟩ ?_ ?_⟩
      · rintro j σ Hb hj ⟨z8, z9, z10, z11, rfl, fb, ewb, eub, etb, elb⟩
        have move : ∀ {Hx Hy : Hp}, Flo Hx f sc ns → Mv f Hx Hy → Hx wl = some (.lst ((wds.map Wd.s).map V.str)) → Hx u = some (.lst ([r1 - 4, r2 - 4, r3 - 10 ^ 29].map V.int)) → Hx pt = some (.dK kvs) → Hx lk = some (.lst ((kofL W).map V.str)) →
            Hy wl = some (.lst ((wds.map Wd.s).map V.str)) ∧ Hy u = some (.lst ([r1 - 4, r2 - 4, r3 - 10 ^ 29].map V.int)) ∧ Hy pt = some (.dK kvs) ∧ Hy lk = some (.lst ((kofL W).map V.str)) := fun fx mm e1 e2 e3 e4 =>
          ⟨mm _ _ (fx.ne e1 fun _ _ _ => fl_strs) e1, mm _ _ (fx.ne e2 fun _ _ _ => fl_ints) e2, mm _ _ (fx.ne e3 fun _ _ _ z => by cases z) e3, mm _ _ (fx.ne e4 fun _ _ _ => fl_strs) e4⟩
        refine thC (K := K) (W := W) rfl rfl rfl fb eub (by show 0 < 3; decide) (by show 3 < 1000; decide) fun v t Hc mc fc tc => ?_
        obtain ⟨c1, c2, c3, c4⟩ := move fb mc ewb eub etb elb
        refine thC (K := K) (W := W) rfl rfl rfl fc c2 (by show 0 < 3; decide) (by show 3 < 1000; decide) fun v' t' Hd md fd' td => ?_
        obtain ⟨d1, d2, d3, d4⟩ := move fc md c1 c2 c3 c4
        have tc' := mvV fc md tc
        refine ⟨v, v', rfl, ?_⟩
        refine lkC (K := K) (W := W) rfl rfl rfl tc' td fun He xe => ?_
        refine lkC (K := K) (W := W) rfl rfl rfl (tvE xe td) (tvE xe tc') fun Hg xg => ?_
        refine ⟨by show 3 ≤ sizeLine; decide, fun dp ndp => ?_⟩
        have xh := Evl.Ex.new (o := .lst ([kd W t t', kd W t' t, "same"].map V.str)) ndp
        have xx := (xe.trans xg).trans xh
        refine ⟨_, rfl, dp, _, 0, .str (kd W t t'), rfl, rfl, .inl (.inl upd_same), rfl, _, rfl, pt, .ref lk, rfl, ?_, lk, _, rfl, .inl (.inl (.inl (xx _ _ d4))), rfl, strs_flat _, false, ?_, iteF ?_⟩
        · rw [← ev]
          exact DGet.k (k := .inr "kinds") (xx _ _ d3)
        · rw [if_pos rfl, inV_strs, decide_eq_true (kd_in tc' td)] <;> rfl
        refine ofC (K := K) (W := W) (C := ad 2) rfl rfl rfl (tvE xx tc') (tvE xx td) fun Hi xi => ?_
        refine ofC (K := K) (W := W) (C := ad 2) rfl rfl rfl (tvE (xx.trans xi) td) (tvE (xx.trans xi) tc') fun Hj xj => ?_
        refine ofC (K := K) (W := W) (C := ad 2) rfl rfl rfl (tvE ((xx.trans xi).trans xj) tc') (tvE ((xx.trans xi).trans xj) tc') fun Hk xk => ?_
        refine ⟨by show 3 ≤ sizeLine; decide, fun op nop => ?_⟩
        rw [kd_self tc']
        have xo := Evl.Ex.new (o := .lst ([kd W t t', kd W t' t, "same"].map V.str)) nop
        have xy := ((xi.trans xj).trans xk).trans xo
        refine ⟨_, rfl, op, dp, [kd W t t', kd W t' t, "same"], rfl, upd_same, xy _ _ upd_same, by show 3 ≤ 100; decide, fun Hl xl => ⟨true, rfl, iteF ?_⟩⟩
        have xz := (xx.trans xy).trans xl
        exact ⟨_, _, _, _, rfl, fd'.ex xz, xz _ _ d1, xz _ _ d2, xz _ _ d3, xz _ _ d4⟩
      · rintro σ Hb ⟨z8, z9, z10, z11, rfl, fb, ewb, _⟩
        exact ⟨_, _, _, _, _, _, _, rfl, fb, ewb⟩
    · rintro σ H2 ⟨y3, y6, y7, y8, y9, y10, y11, rfl, f2, ew2⟩
      refine ⟨by show 1 ≤ sizeLine; decide, fun p1 n1 => ⟨by show 1 ≤ sizeLine; decide, fun p2 n2 => ?_⟩⟩
      refine .inr ⟨_, _, rfl, fun d fs H3 e3 e4 => ⟨true, Xf.te, fun _ ea na => ?_, fun z => by cases z⟩⟩
      refine ⟨_, rfl, rfl, rfl, d, fs, _, rfl, e3, e4, rfl, ?_⟩
      refine ⟨_, rfl, ?_⟩
      rw [decide_eq_true rfl]
      exact q _
end
end K10
end

section
set_option Elab.async false
set_option linter.all false
set_option maxRecDepth 100000
/-! A piece of the top by rules: the run of a Sem within a frame, with a bound of its steps. -/
namespace KwTop
open PySem PySem.W PySem.Calls PyProof.Rows

structure Cx where
  p : Program
  w : World
  n0 : Nat
  ann : Option Value
  code : Code
  st : List Frame

/-- the top comes to its end within n steps -/
def GN (c : Cx) (P : Shared → Prop) (n : Nat) (s : Shared) (t : Thread) : Prop :=
  ∃ r, topRun treeTable c.p c.w c.n0 c.ann n s t = some r ∧ P r

theorem GN.le {c : Cx} {P : Shared → Prop} {n m : Nat} {s : Shared} {t : Thread} (h : GN c P n s t) (l : n ≤ m) : GN c P m s t := by
  obtain ⟨r, e, z⟩ := h
  refine ⟨r, ?_, z⟩
  have q := topRun_mono (m - n) _ _ _ _ e
  rwa [show n + (m - n) = m by omega] at q

theorem GN.step {c : Cx} {P : Shared → Prop} {n : Nat} {s s' : Shared} {t t' : Thread} (a : through t = false) (b : stepOk c.n0 c.ann t = true)
    (e : PySem.step (denote treeTable) c.p c.w s t = .go s' t') (h : GN c P n s' t') : GN c P (n + 1) s t := by
  obtain ⟨r, q, z⟩ := h
  refine ⟨r, ?_, z⟩
  unfold topRun
  rw [a, b, e]
  exact q

/-- m within its frame: whatever goes on behind it -/
def EV {α : Type} (c : Cx) (b : Nat) (m : Sem α) (Q : α → Shared → Prop) (s : Shared) : Prop :=
  ∀ (P : Shared → Prop) (K : α → Sem Fin) (H : Value → Sem Fin) (gd : Bool → Bool) (lv : List Value → List Value) (pos : Pos) (n : Nat),
    (∀ a s' pos', Q a s' → GN c P n s' ⟨K a, c.code, pos', c.st⟩) → GN c P (n + b) s ⟨m.wrap K H gd lv, c.code, pos, c.st⟩

section
variable {α β : Type} {c : Cx} {s : Shared}
theorem EV.le {b b' : Nat} {m : Sem α} {Q : α → Shared → Prop} (h : EV c b m Q s) (l : b ≤ b') : EV c b' m Q s :=
  fun P K H gd lv pos n k => (h P K H gd lv pos n k).le (by omega)
theorem EV.mono {b : Nat} {m : Sem α} {Q Q' : α → Shared → Prop} (h : EV c b m Q s) (z : ∀ a s', Q a s' → Q' a s') : EV c b m Q' s :=
  fun P K H gd lv pos n k => h P K H gd lv pos n fun a s' pos' q => k a s' pos' (z a s' q)
theorem ev_pure {a : α} {Q : α → Shared → Prop} (h : Q a s) : EV c 0 (pure a : Sem α) Q s :=
  fun P K H gd lv pos n k => k a s pos h
theorem ev_bind {b b' : Nat} {m : Sem α} {f : α → Sem β} {Q : β → Shared → Prop} (h : EV c b m (fun a s' => EV c b' (f a) Q s') s) : EV c (b' + b) (m >>= f) Q s := by
  intro P K H gd lv pos n k
  have e : (m >>= f).wrap K H gd lv = m.wrap (fun a => (f a).wrap K H gd lv) H gd lv := by
    rw [Sem.bind_eq_wrap', Sem.wrap_wrap]
    rfl
  rw [e, ← Nat.add_assoc]
  exact h P _ H gd lv pos (n + b') fun a s' pos' q => q P K H gd lv pos' n k
theorem ev_keep {b : Nat} {vs : List Value} {m : Sem α} {Q : α → Shared → Prop} (h : EV c b m Q s) : EV c b (m.keep vs) Q s := by
  intro P K H gd lv pos n k
  rw [Sem.keep_eq_wrap, Sem.wrap_wrap]
  exact h P K _ _ _ pos n k
theorem ev_holding {b : Nat} {vs : List Value} {m : Sem α} {Q : α → Shared → Prop} (h : EV c b m Q s) : EV c b (holding vs m) Q s := by
  unfold holding
  split
  · exact h
  · exact ev_keep h
theorem ev_rule {tag : String} {Q : Unit → Shared → Prop} (h : Q () s) : EV c 1 (rule tag) Q s :=
  fun P K H gd lv pos n k => GN.step (by simp [rule, Sem.wrap, through]) (by simp [rule, Sem.wrap, stepOk, Thread.calm, Thread.atCollectorCode, Thread.yieldsInsideHandler]) rfl (k () s pos h)
theorem ev_at {q : Pos} {Q : Unit → Shared → Prop} (h : Q () s) : EV c 1 (standAt q) Q s :=
  fun P K H gd lv pos n k => GN.step (by simp [standAt, Sem.wrap, through]) (by simp [standAt, Sem.wrap, stepOk, Thread.calm, Thread.atCollectorCode, Thread.yieldsInsideHandler]) rfl (k () s q h)
theorem ev_point {Q : Unit → Shared → Prop} (h : Q () s) : EV c 1 (point) Q s :=
  fun P K H gd lv pos n k => GN.step (by simp [point, Sem.wrap, through]) (by simp [point, Sem.wrap, stepOk, Thread.calm, Thread.atCollectorCode, Thread.yieldsInsideHandler]) rfl (k () s pos h)
theorem ev_load {a : Addr} {part : Option Value} {o : Obj} {Q : Obj → Shared → Prop} (ho : s.heap.get? a = some o) (h : Q o s) : EV c 1 (loadPart a part) Q s := by
  intro P K H gd lv pos n k
  refine GN.step (by simp [loadPart, Sem.wrap, through]) (by simp [loadPart, Sem.wrap, stepOk, Thread.calm, Thread.atCollectorCode, Thread.yieldsInsideHandler]) ?_ (k o s pos h)
  obtain ⟨heap, gens, drawn, toks, os⟩ := s
  simp only [loadPart, Sem.wrap, PySem.step]
  rw [show heap.get? a = some o from ho]
theorem ev_update {a : Addr} {part : Option Value} {f : Obj → Obj} {o : Obj} {Q : Unit → Shared → Prop} (ha : c.n0 ≤ a) (ho : s.heap.get? a = some o)
    (h : Q () { s with heap := s.heap.update a f }) : EV c 1 (updatePart a part f) Q s := by
  intro P K H gd lv pos n k
  refine GN.step (by simp [updatePart, Sem.wrap, through]) (by simp [updatePart, Sem.wrap, stepOk, Thread.calm, Thread.atCollectorCode, Thread.yieldsInsideHandler, ha]) ?_ (k () _ pos h)
  obtain ⟨heap, gens, drawn, toks, os⟩ := s
  simp only [updatePart, Sem.wrap, PySem.step]
  rw [show heap.get? a = some o from ho]
  rfl
theorem ev_alloc {o : Obj} {Q : Addr → Shared → Prop} (h : Q s.heap.objs.size { s with heap := s.heap.push o }) : EV c 1 (alloc o) Q s :=
  fun P K H gd lv pos n k => GN.step (by simp [alloc, Sem.wrap, through]) (by simp [alloc, Sem.wrap, stepOk, Thread.calm, Thread.atCollectorCode, Thread.yieldsInsideHandler]) rfl (k _ _ pos h)
theorem ev_for {x : Nat} (f : α → β → Sem (ForInStep β)) (I : List α → β → Shared → Prop) (Q : β → Shared → Prop)
    (turn : ∀ x' rest b s, I (x' :: rest) b s → EV c x (f x' b) (fun r s' => match r with | .yield b' => I rest b' s' | .done b' => Q b' s') s)
    (fin : ∀ b s, I [] b s → Q b s) (l : List α) (b : β) (h : I l b s) : EV c (l.length * x) (forIn l b f) Q s := by
  induction l generalizing b s with
  | nil =>
    rw [List.forIn_nil]
    exact (ev_pure (fin _ _ h)).le (Nat.zero_le _)
  | cons x' l ih =>
    rw [List.forIn_cons, List.length_cons, Nat.succ_mul]
    refine ev_bind ((turn x' l b s h).mono fun r s' hr => ?_)
    cases r with
    | done b' => exact (ev_pure hr).le (Nat.zero_le _)
    | yield b' => exact ih _ hr
end
end KwTop
end

section
set_option Elab.async false
set_option linter.all false
set_option maxRecDepth 100000
namespace KwTop
open PySem PySem.W PySem.Calls PyProof.Rows
section
variable {c : Cx} {s : Shared}
/-- an entry that is none of the key's -/
def Other (c : Cx) (be bq : Nat) (s : Shared) (key : Value) (e : DictEntry) : Prop :=
  e.key ≠ key ∧ EV c be (eqBool e.key key) (fun r s' => r = false ∧ s' = s) s ∧ EV c bq (eqIsQuiet 8 e.key) (fun r s' => r = true ∧ s' = s) s

theorem EV.then {α β : Type} {b b' : Nat} {m : Sem α} {f : α → Sem β} {a0 : α} {s1 : Shared} {Q : β → Shared → Prop} (h : EV c b m (fun a s' => a = a0 ∧ s' = s1) s) (k : EV c b' (f a0) Q s1) : EV c (b' + b) (m >>= f) Q s :=
  ev_bind (h.mono fun a s' z => by rw [z.1, z.2]; exact k)

theorem ev_tells {bq : Nat} {key : Value} {stored : List Value} (hq : EV c bq (eqIsQuiet 8 key) (fun r s' => r = true ∧ s' = s) s)
    (hst : ∀ v ∈ stored, EV c bq (eqIsQuiet 8 v) (fun r s' => r = true ∧ s' = s) s) : EV c ((0 + stored.length * (0 + bq)) + bq) (tableMayTell key stored) (fun r s' => r = false ∧ s' = s) s := by
  unfold tableMayTell
  split
  · exact (ev_pure ⟨rfl, rfl⟩).le (Nat.zero_le _)
  · refine hq.then ?_
    simp only [Bool.not_true, Bool.false_eq_true, if_false]
    refine ev_bind ?_
    refine ev_for _ (fun rest r s' => s' = s ∧ r = (none, ()) ∧ ∀ v ∈ rest, EV c bq (eqIsQuiet 8 v) (fun r s' => r = true ∧ s' = s) s) _ ?_ ?_ _ _ ⟨rfl, rfl, hst⟩
    · rintro x rest r s' ⟨e1, rfl, hr⟩
      rw [e1]
      refine (hr x List.mem_cons_self).then ?_
      simp only [Bool.not_true, Bool.false_eq_true, if_false]
      exact ev_pure ⟨rfl, rfl, fun v hv => hr v (List.mem_cons_of_mem _ hv)⟩
    · rintro r s' ⟨e1, rfl, _⟩
      rw [e1]
      exact ev_pure ⟨rfl, rfl⟩

theorem ev_entries {d : Addr} {part : Option Value} {o : Obj} {es ep} {Q : Array DictEntry → Shared → Prop} (ho : s.heap.get? d = some o) (hd : o.data = .dict es ep) (h : Q es s) : EV c (0 + 1) (dictEntries d part) Q s := by
  unfold dictEntries
  refine ev_bind (ev_load ho ?_)
  rw [hd]
  exact ev_pure h
theorem ev_epoch {d : Addr} {part : Option Value} {o : Obj} {es ep} {Q : Nat → Shared → Prop} (ho : s.heap.get? d = some o) (hd : o.data = .dict es ep) (h : Q ep s) : EV c (0 + 1) (dictEpoch d part) Q s := by
  unfold dictEpoch
  refine ev_bind (ev_load ho ?_)
  rw [hd]
  exact ev_pure h

theorem ev_find {be bq : Nat} {d a : Addr} {o : Obj} {es : Array DictEntry} {ep : Nat} {h : Int} (ho : s.heap.get? d = some o) (hd : o.data = .dict es ep)
    (hq : EV c bq (eqIsQuiet 8 (.ref a)) (fun r s' => r = true ∧ s' = s) s) (hes : ∀ e ∈ es, Other c be bq s (.ref a) e) :
    EV c (1 + es.size * (be + 3) + (es.size * bq + bq) + 1) (dictFind d (.ref a) h) (fun r s' => r = none ∧ s' = s) s := by
  have hany : ¬ (es.any fun e => e.key == Value.ref a && e.hash != h) = true := by
    rw [← Array.any_toList, List.any_eq_true]
    rintro ⟨e, hin, hc⟩
    have k := (hes e (Array.mem_toList_iff.mp hin)).1
    simp only [Bool.and_eq_true, beq_iff_eq] at hc
    exact k hc.1
  generalize hpl : placesWithHash es.size (fun i => es[i]?.map (·.hash)) h = places
  have hlen : places.length ≤ es.size := by
    rw [← hpl]
    unfold placesWithHash
    exact Nat.le_trans (List.length_filter_le _ _) (by simp)
  generalize hst0 : places.filterMap (fun i => es[i]?.map (·.key)) = stored
  have hst : ∀ v ∈ stored, EV c bq (eqIsQuiet 8 v) (fun r s' => r = true ∧ s' = s) s := by
    intro v hv
    rw [← hst0] at hv
    obtain ⟨i, _, hi⟩ := List.mem_filterMap.mp hv
    cases hei : es[i]? with
    | none => rw [hei] at hi; cases hi
    | some e =>
      rw [hei] at hi
      obtain rfl : e.key = v := by simpa using hi
      exact (hes e (Array.mem_of_getElem? hei)).2.2
  have hsl : stored.length ≤ es.size := by
    rw [← hst0]
    exact Nat.le_trans (List.length_filterMap_le _ _) hlen
  unfold dictFind
  refine ev_holding ?_
  refine EV.le (b := (0 + places.length * (be + 3)) + ((0 + stored.length * (0 + bq)) + bq) + (0 + 1)) ?_ ?_
  · refine ev_bind (ev_entries ho hd ?_)
    dsimp only
    rw [hpl, hst0]
    rw [if_neg (show ¬ ((Value.ref a :: stored).all carriedByValue) = true by simp [carriedByValue])]
    rw [if_neg hany]
    have p0 : EV c ((0 + stored.length * (0 + bq)) + bq) (pure false : Sem Bool) (fun r s' => r = false ∧ s' = s) s := (ev_pure ⟨rfl, rfl⟩).le (Nat.zero_le _)
    by_cases hone : (stored == [Value.ref a]) = true <;> (first | rw [if_pos hone] | rw [if_neg hone]) <;> (first | refine p0.then ?_ | refine (ev_tells hq hst).then ?_) <;> (
      rw [if_neg (by simp)]
      refine ev_bind ?_
      refine ev_for _ (fun rest r s' => s' = s ∧ r = (none, none)) _ ?_ ?_ _ _ ⟨rfl, rfl⟩
      · rintro x rest r s' ⟨e1, rfl⟩
        rw [e1]
        cases hex : es[x]? with
        | none => exact (ev_pure ⟨rfl, rfl⟩).le (Nat.zero_le _)
        | some e =>
          dsimp only
          by_cases hh : (e.hash == h) = true
          · rw [if_pos hh]
            obtain ⟨k1, k2, k3⟩ := hes e (Array.mem_of_getElem? hex)
            refine EV.le (b := ((0 + 1) + (0 + 1)) + be + (0 + 1)) ?_ (by omega)
            refine ev_bind (ev_epoch ho hd (k2.then ?_))
            refine ev_bind (ev_epoch ho hd ?_)
            rw [if_neg (by simp)]
            simp only [Bool.false_eq_true, if_false]
            refine ev_bind (ev_rule ?_)
            first
              | exact ev_pure ⟨rfl, rfl⟩
              | (rw [if_neg (by simp)]; exact ev_pure ⟨rfl, rfl⟩)
          · rw [if_neg hh]
            exact (ev_pure ⟨rfl, rfl⟩).le (Nat.zero_le _)
      · rintro r s' ⟨e1, rfl⟩
        rw [e1]
        exact ev_pure ⟨rfl, rfl⟩)
  · have m1 : places.length * (be + 3) ≤ es.size * (be + 3) := Nat.mul_le_mul_right _ hlen
    have m2 : stored.length * bq ≤ es.size * bq := Nat.mul_le_mul_right _ hsl
    simp only [Nat.zero_add]
    omega
end
end KwTop
end

section
set_option Elab.async false
set_option linter.all false
set_option maxRecDepth 100000
namespace KwTop
open PySem PySem.W PySem.Calls PyProof.Rows
section
variable {c : Cx} {s s1 : Shared}
def adj (i : Int) : Int := if i == -1 then -2 else i
theorem ev_hash {b1 b2 b3 : Nat} {a : Addr} {sp : Value} {i : Int} {tk : Tok} (hn : (some sp == some Value.none) = false)
    (l1 : EV c b1 (cRoomFor "hash" [.ref a]) (fun r s' => r = () ∧ s' = s) s)
    (l2 : EV c b2 (specialOf (.ref a) "__hash__") (fun r s' => r = some sp ∧ s' = s) s)
    (l3 : ∀ X, EV c b3 (callSpecialIfBoundUnlessNone? (.ref a) "__hash__" X) (fun r s' => r = some (.int i tk) ∧ s' = s1) s)
    (hr : (decide (-(2 ^ 63 : Int) ≤ i) && decide (i < 2 ^ 63)) = true) :
    EV c (0 + b3 + b2 + b2 + b1) (pyHash (.ref a)) (fun r s' => r = adj i ∧ s' = s1) s := by
  show EV c _ (pyHashByItsType (.ref a)) _ _
  unfold pyHashByItsType
  refine l1.then ?_
  refine l2.then ?_
  rw [if_neg (by rw [hn]; simp)]
  refine l2.then ?_
  rw [if_neg (by simp)]
  refine (l3 _).then ?_
  dsimp only
  unfold pyHashByItsType.reduced
  rw [if_pos hr]
  exact ev_pure ⟨rfl, rfl⟩

theorem ev_set {bh be bq : Nat} {d a : Addr} {v : Value} {o o' : Obj} {es : Array DictEntry} {ep : Nat} {h : Int} {s2 : Shared} (hd0 : c.n0 ≤ d)
    (hh : EV c bh (pyHash (.ref a)) (fun r s' => r = h ∧ s' = s1) s)
    (ho : s1.heap.get? d = some o) (hd : o.data = .dict es ep)
    (hq : EV c bq (eqIsQuiet 8 (.ref a)) (fun r s' => r = true ∧ s' = s1) s1) (hes : ∀ e ∈ es, Other c be bq s1 (.ref a) e)
    (h2 : { s1 with heap := s1.heap.update d (Obj.mapDictKeys (·.push ⟨h, .ref a, v⟩)) } = s2) (ho2 : s2.heap.get? d = some o') (hl : o'.data.pastItsLine = none) :
    EV c (5 + (1 + es.size * (be + 3) + (es.size * bq + bq) + 1) + bh) (dictSet d (.ref a) v) (fun _ s' => s' = s2) s := by
  unfold dictSet
  refine ev_holding ?_
  refine hh.then ?_
  unfold dictSetHashed
  refine ev_holding ?_
  refine (ev_find ho hd hq hes).then ?_
  dsimp only
  refine EV.le (b := ((((0 + 1) + 1) + 1) + 1)) ?_ (by omega)
  refine ev_bind (ev_rule ?_)
  unfold updateDictKeys
  refine ev_bind (ev_load ho ?_)
  rw [hd]
  dsimp only
  refine ev_bind (ev_update hd0 ho ?_)
  rw [h2]
  unfold lookBehind
  refine ev_bind (ev_load ho2 ?_)
  rw [hl]
  exact ev_pure rfl
end
end KwTop
end

section
set_option Elab.async false
set_option linter.all false
set_option maxRecDepth 100000
namespace KwTop
open PySem PySem.W PySem.Calls PyProof.Rows HandSHeadRun
/-! ### runs over the tree -/
section
variable (st : SharedT → Thread → Option (SharedT × Thread)) (n0 : Nat) (ann : Option Value)
def segF (b : Nat) : Nat → SharedT → Thread → Option (Flow × SharedT × Code × Pos)
  | 0, _, _ => none
  | m + 1, s, t => match endAt b t with
    | some f => some (f, s, t.code, t.pos)
    | none => match stepOk n0 ann t with
      | false => none
      | true => match st s t with
        | some (s', t') => segF b m s' t'
        | none => none
/-- the same, the counts worked out at each step -/
def segC (b : Nat) : Nat → SharedT → Thread → Option (Flow × SharedT × Code × Pos)
  | 0, _, _ => none
  | m + 1, s, t => match endAt b t with
    | some f => some (f, s, t.code, t.pos)
    | none => match stepOk n0 ann t with
      | false => none
      | true => match st s t with
        | some (s', t') => frS s' fun s' => segC b m s' t'
        | none => none
def goC : Nat → SharedT → Thread → Option (SharedT × Thread)
  | 0, s, t => some (s, t)
  | m + 1, s, t => match through t with
    | true => none
    | false => match stepOk n0 ann t with
      | false => none
      | true => match st s t with
        | some (s', t') => frS s' fun s' => goC m s' t'
        | none => none
end
theorem segC_eq {st : SharedT → Thread → Option (SharedT × Thread)} {n0 : Nat} {ann : Option Value} {b : Nat} : ∀ (m : Nat) (s : SharedT) (t : Thread), segC st n0 ann b m s t = segF st n0 ann b m s t
  | 0, _, _ => rfl
  | m + 1, s, t => by
    unfold segC segF
    cases endAt b t with
    | some f => rfl
    | none =>
      cases stepOk n0 ann t with
      | false => rfl
      | true =>
        cases st s t with
        | none => rfl
        | some r =>
          obtain ⟨s', t'⟩ := r
          show (frS s' fun s' => segC st n0 ann b m s' t') = segF st n0 ann b m s' t'
          rw [frS_eq]
          exact segC_eq m s' t'
theorem segF_ok {tb : String → Option Builtin} {p : Program} {w : World} {n0 : Nat} {ann : Option Value} {b : Nat} : ∀ {m : Nat} {s s' : SharedT} {t : Thread} {f : Flow} {c : Code} {q : Pos}, segF (stepT (denote tb) p w) n0 ann b m s t = some (f, s', c, q) →
    segRun tb p w n0 ann b m s.abs t = some (f, s'.abs, c, q)
  | 0, _, _, _, _, _, _, h => by cases h
  | m + 1, s, s', t, f, c, q, h => by
    unfold segF at h
    unfold segRun
    cases he : endAt b t with
    | some g =>
      rw [he] at h
      obtain ⟨rfl, rfl, rfl, rfl⟩ : g = f ∧ s = s' ∧ t.code = c ∧ t.pos = q := by simpa using h
      rfl
    | none =>
      rw [he] at h
      cases hk : stepOk n0 ann t with
      | false => rw [hk] at h; cases h
      | true =>
        rw [hk] at h
        cases hs : stepT (denote tb) p w s t with
        | none => rw [hs] at h; cases h
        | some r =>
          obtain ⟨s2, t2⟩ := r
          rw [hs] at h
          have q := segF_ok (show segF (stepT (denote tb) p w) n0 ann b m s2 t2 = some (f, s', c, q) from h)
          rw [stepT_spec hs]
          exact q
theorem goC_ok {tb : String → Option Builtin} {p : Program} {w : World} {n0 : Nat} {ann : Option Value} : ∀ {m : Nat} {s s' : SharedT} {t t' : Thread}, goC (stepT (denote tb) p w) n0 ann m s t = some (s', t') → topGo tb p w n0 ann m s.abs t = some (s'.abs, t')
  | 0, s, s', t, t', h => by
    obtain ⟨rfl, rfl⟩ : s = s' ∧ t = t' := by simpa [goC] using h
    rfl
  | m + 1, s, s', t, t', h => by
    unfold goC at h
    unfold topGo
    cases ht : through t with
    | true => rw [ht] at h; cases h
    | false =>
      rw [ht] at h
      cases hk : stepOk n0 ann t with
      | false => rw [hk] at h; cases h
      | true =>
        rw [hk] at h
        cases hs : stepT (denote tb) p w s t with
        | none => rw [hs] at h; cases h
        | some r =>
          obtain ⟨s2, t2⟩ := r
          rw [hs] at h
          have h3 : (frS s2 fun s' => goC (stepT (denote tb) p w) n0 ann m s' t2) = some (s', t') := h
          rw [frS_eq] at h3
          have q := goC_ok h3
          rw [stepT_spec hs]
          exact q
/-! ### a run by the kernel is a rule -/
section
variable {α : Type} {c : Cx} {S S' : SharedT}
theorem ev_seg {b : Nat} {m : Sem α} {f : Flow} {Q : α → Shared → Prop} (res : α → Flow) (hB : splitAtGen c.st = none)
    (h : ∀ gd lv pos, ∃ pos', segF (stepQ (denQ tabQ) c.p c.w) c.n0 c.ann c.st.length b S ⟨m.wrap (fun a => .pure (.done (res a))) deadEnd gd lv, c.code, pos, c.st⟩ = some (f, S', c.code, pos'))
    (hf : ∀ a, res a = f → Q a S'.abs) : EV c b m Q S.abs := by
  intro P K H gd lv pos n k
  obtain ⟨pos', e⟩ := h gd lv pos
  rw [← stepQ_eq, ← denQ_eq, ← tabQ_eq] at e
  obtain ⟨a, ha, hN⟩ := seg_top (res := res) (K' := K) (H' := H) hB b S.abs ⟨m.wrap (fun a => .pure (.done (res a))) deadEnd gd lv, c.code, pos, c.st⟩ ⟨m.wrap K H gd lv, c.code, pos, c.st⟩ _ _ _ _ ⟨rfl, rfl, .inl ⟨rfl, rfl, _, rfl, rfl⟩⟩ (segF_ok e)
  obtain ⟨r, er, z⟩ := k a _ pos' (hf a ha)
  refine ⟨r, ?_, z⟩
  rw [Nat.add_comm]
  exact hN n r er
end
/-! ### a tree with one object another one -/
def at1 (S : SharedT) (d : Addr) (o : Obj) (tk : Nat) : SharedT := { S with tree := S.tree.set d fun _ => o, toks := tk }
theorem abs_same {t t' : BT} {n : Nat} {life : Life} (h : ∀ i, t.get i = t'.get i) : absHeap t n life = absHeap t' n life := by
  unfold absHeap BT.list
  rw [show (fun i => (t.get i).getD default) = fun i => (t'.get i).getD default from funext fun i => by rw [h i]]
theorem at1_get {S : SharedT} {d : Addr} {o o0 : Obj} {tk : Nat} (h : S.tree.get d = some o0) (l : d < S.n) : (at1 S d o tk).abs.heap.get? d = alive o := by
  show (absHeap (S.tree.set d fun _ => o) S.n S.life).get? d = _
  refine abs_get l ?_
  rw [BT.get_set, if_pos rfl, h]
  rfl
theorem at1_upd {S : SharedT} {d : Addr} {o o0 : Obj} {tk : Nat} {f : Obj → Obj} (h : S.tree.get d = some o0) :
    ({ (at1 S d o tk).abs with heap := (at1 S d o tk).abs.heap.update d f } : Shared) = (at1 S d (f o) tk).abs := by
  have g : (S.tree.set d fun _ => o).get d = some o := by
    rw [BT.get_set, if_pos rfl, h]
    rfl
  have e : (absHeap (S.tree.set d fun _ => o) S.n S.life).update d f = absHeap (S.tree.set d fun _ => f o) S.n S.life := by
    rw [← absHeap_set g]
    refine abs_same fun i => ?_
    rw [BT.get_set, BT.get_set, BT.get_set, if_pos rfl, BT.get_set, h]
    by_cases q : i = d
    · rw [if_pos q, if_pos q]; rfl
    · rw [if_neg q, if_neg q, if_neg q]
  show (⟨(absHeap (S.tree.set d fun _ => o) S.n S.life).update d f, S.gens, S.drawn, tk, S.os⟩ : Shared) = ⟨absHeap (S.tree.set d fun _ => f o) S.n S.life, S.gens, S.drawn, tk, S.os⟩
  rw [e]
end KwTop
end

noncomputable section
set_option Elab.async false
set_option linter.all false
set_option maxRecDepth 100000
namespace KH
open PySem PySem.W PySem.Calls PyProof.Rows HandSHeadRun KwTop
abbrev R : OpenRow := OpenLaw.row PySem.Challenge.rw_kindweft_k10_kinds_read_off
abbrev pr : Program := R.prog
abbrev bd : List Stmt := behindTheImports pr
def env : Env := { scope := pr.main.scope, locals := mainNs, globals := mainNs, cells := [], code := .ref 13, frame := some 14 }
abbrev cod : Code := .body bd env
abbrev q0 : Pos := ⟨0, 0, 0, 0⟩
abbrev bs : List Frame := [topFrame q0]
abbrev an6 : Option Value := some (.ref 6)
abbrev cx (w : World) : KwTop.Cx := ⟨pr, w, 11, an6, cod, bs⟩
abbrev stq (w : World) := stepQ (denQ tabQ) pr w
/-- the state ahead of the table -/
def preS (w : World) (os : OsState) : Option (SharedT × (Thread × Code) × Pos) := match putAll (boot_heap w.params).objs.toList .nil 0 with
  | some (t, n) => frNat n fun n => match goC (stq w) 11 an6 12 (bootT w os (t, n)) (topStub pr) with
    | some (s, th) => (match segC (stq w) 11 an6 1 2000 s (piecesOf (bd.take 6) env cod q0 bs) with
      | some (.next, s', c', p') => some (s', (th, c'), p')
      | _ => none)
    | none => none
  | none => none
end KH
end

noncomputable section
set_option Elab.async false
set_option linter.all false
set_option maxRecDepth 100000
namespace KH
open PySem PySem.W PySem.Calls PyProof.Rows HandSHeadRun KwTop
def sSh : Stmt := bd.getD 6 (.Pass q0)
def kys : List (Str × Str × Str) := [("ahead", "ahead", "overlaps"), ("ahead", "same", "ended"), ("ahead", "behind", "around"), ("same", "ahead", "begins"), ("same", "same", "same"), ("same", "behind", "begun"), ("behind", "ahead", "within"), ("behind", "same", "ends"), ("behind", "behind", "overlaid")]
def kAt (i : Nat) : Str × Str × Str := kys.getD i ("", "", "")
def tupO (i : Nat) : Obj := { cls := .type "tuple", data := .seq #[.str (kAt i).1 (265 + 3 * i), .str (kAt i).2.1 (266 + 3 * i)] }
def dO : Obj := { cls := .type "dict", data := .dict #[] }
def sD (S : SharedT) : SharedT := { S with tree := S.tree.ins 57 dO, n := 58 }
def sK : Nat → SharedT → SharedT
  | 0, S => sD S
  | i + 1, S => { sK i S with tree := (sK i S).tree.ins (58 + i) (tupO i), n := 59 + i, toks := 268 + 3 * i }
def sM (i : Nat) (S : SharedT) : SharedT := { sK i S with tree := (sK i S).tree.ins (58 + i) (tupO i), n := 59 + i, toks := 267 + 3 * i }
def dKs : List (Option PySem.Expr) := match sSh with | .Assign _ (.Dict ks _ _) _ => ks | _ => []
def dVs : List PySem.Expr := match sSh with | .Assign _ (.Dict _ vs _) _ => vs | _ => []
def dP : Pos := match sSh with | .Assign _ (.Dict _ _ p) _ => p | _ => q0
def dT : List PySem.Expr := match sSh with | .Assign ts _ _ => ts | _ => []
def dA : Pos := match sSh with | .Assign _ _ p => p | _ => q0
def dE : PySem.Expr := match sSh with | .Assign _ e _ => e | _ => .Name "" q0
def kE (i : Nat) : PySem.Expr := (dKs.getD i none).getD (.Name "" q0)
def vE (i : Nat) : PySem.Expr := dVs.getD i (.Name "" q0)
def kM (i : Nat) : Sem Value := eval (kE i) env
def vM (i : Nat) : Sem Value := do let x ← eval (vE i) env; standAt dP; pure x
theorem sh_eq : sSh = .Assign dT (.Dict ((List.range 9).map fun i => some (kE i)) ((List.range 9).map vE) dP) dA := by kernel_rfl
def lf {α : Type} (w : World) (m : Sem α) (res : α → Flow) (n : Nat) (S : SharedT) (gd : Bool → Bool) (lv : List Value → List Value) (pos : Pos) : Option (Flow × SharedT × Code) :=
  (segF (stq w) 11 an6 1 n S ⟨m.wrap (fun a => .pure (.done (res a))) deadEnd gd lv, cod, pos, bs⟩).map fun r => (r.1, r.2.1, r.2.2.1)
abbrev rB : Bool → Flow := fun b => .ret (.bool b)
abbrev rA : Addr → Flow := fun a => .ret (.ref a)
def LA (w : World) (gd : Bool → Bool) (lv : List Value → List Value) (pos : Pos) (S : SharedT) := (lf w (swapsWithSole dT dE dA.line env) rB 60 S gd lv pos, lf w (alloc dO) rA 60 S gd lv pos,
  (List.range 9).map fun i => (lf w (kM i) .ret 60 (sK i S) gd lv pos, lf w (vM i) .ret 60 (sM i S) gd lv pos))
def RA (S : SharedT) : Option (Flow × SharedT × Code) × Option (Flow × SharedT × Code) × List (Option (Flow × SharedT × Code) × Option (Flow × SharedT × Code)) := (some (.ret (.bool false), S, cod), some (.ret (.ref 57), sD S, cod),
  (List.range 9).map fun i => (some (.ret (.ref (58 + i)), sM i S, cod), some (.ret (.str (kAt i).2.2 (267 + 3 * i)), sK (i + 1) S, cod)))
abbrev row : String := "special-get-raises"
set_option maxHeartbeats 0 in
theorem leaf1 (w : World) : ∀ (os : OsState) (gd : Bool → Bool) (lv : List Value → List Value) (pos : Pos), (preS w os).map (fun x => LA w gd lv pos x.1) = (preS w os).map (fun x => RA x.1) :=
  byRow2 row (P := fun w => ∀ (os : OsState) (gd : Bool → Bool) (lv : List Value → List Value) (pos : Pos), (preS w os).map (fun x => LA w gd lv pos x.1) = (preS w os).map (fun x => RA x.1))
    (fun w => by intro os gd lv pos; kernel_rfl) (fun w => by intro os gd lv pos; kernel_rfl) w
set_option maxHeartbeats 0 in
theorem leaf0 (w : World) : ∀ (os : OsState), (preS w os).map (fun x => (x.2.1, (sK 9 x.1).tree.get 57)) = some ((⟨denQ tabQ cod, cod, q0, bs⟩, cod), some dO) :=
  byRow2 row (P := fun w => ∀ (os : OsState), (preS w os).map (fun x => (x.2.1, (sK 9 x.1).tree.get 57)) = some ((⟨denQ tabQ cod, cod, q0, bs⟩, cod), some dO))
    (fun w => by intro os; kernel_rfl) (fun w => by intro os; kernel_rfl) w
end KH
end

noncomputable section
set_option Elab.async false
set_option linter.all false
set_option maxRecDepth 100000
namespace KH
open PySem PySem.W PySem.Calls PyProof.Rows HandSHeadRun KwTop
abbrev rU : Unit → Flow := fun _ => .next
def rO : Option Value → Flow
  | some v => .ret v
  | none => .next
def hX (w : World) (x : Str) : Int := if x.cps.isEmpty then 0 else reduceHash (w.params.strHash x.cps)
def hT (w : World) (i : Nat) : Int := Builtin.Tuple.tupleHashOf [hX w (kAt i).1, hX w (kAt i).2.1]
def LB (w : World) (gd : Bool → Bool) (lv : List Value → List Value) (pos : Pos) (o : Obj) (tk : Nat) (X : Sem Value) (S : SharedT) :=
  (List.range 9).map fun j => (lf w (eqIsQuiet 8 (.ref (58 + j))) rB 60 (at1 (sK 9 S) 57 o tk) gd lv pos, lf w (cRoomFor "hash" [.ref (58 + j)]) rU 60 (at1 (sK 9 S) 57 o tk) gd lv pos,
    lf w (specialOf (.ref (58 + j)) "__hash__") rO 60 (at1 (sK 9 S) 57 o tk) gd lv pos, lf w (callSpecialIfBoundUnlessNone? (.ref (58 + j)) "__hash__" X) rO 200 (at1 (sK 9 S) 57 o tk) gd lv pos,
    (List.range j).map fun i => lf w (eqBool (.ref (58 + i)) (.ref (58 + j))) rB 200 (at1 (sK 9 S) 57 o tk) gd lv pos)
abbrev Lr : Type := Option (Flow × SharedT × Code)
def RB (w : World) (o : Obj) (tk : Nat) (S : SharedT) : List (Lr × Lr × Lr × Lr × List Lr) :=
  (List.range 9).map fun j => (some (.ret (.bool true), at1 (sK 9 S) 57 o tk, cod), some (.next, at1 (sK 9 S) 57 o tk, cod), some (.ret (.builtin "tuple.__hash__"), at1 (sK 9 S) 57 o tk, cod),
    some (.ret (.int (hT w j) (tk + 2)), at1 (sK 9 S) 57 o (tk + 3), cod), (List.range j).map fun i => some (.ret (.bool false), at1 (sK 9 S) 57 o tk, cod))
set_option maxHeartbeats 0 in
theorem leaf2 (w : World) : ∀ (os : OsState) (gd : Bool → Bool) (lv : List Value → List Value) (pos : Pos) (o : Obj) (tk : Nat) (X : Sem Value), (preS w os).map (fun x => LB w gd lv pos o tk X x.1) = (preS w os).map (fun x => RB w o tk x.1) :=
  byRow2 row (P := fun w => ∀ (os : OsState) (gd : Bool → Bool) (lv : List Value → List Value) (pos : Pos) (o : Obj) (tk : Nat) (X : Sem Value), (preS w os).map (fun x => LB w gd lv pos o tk X x.1) = (preS w os).map (fun x => RB w o tk x.1))
    (fun w => by intro os gd lv pos o tk X; kernel_rfl) (fun w => by intro os gd lv pos o tk X; kernel_rfl) w
end KH
end

noncomputable section
set_option Elab.async false
set_option linter.all false
set_option maxRecDepth 100000
namespace KH
open PySem PySem.Spec PyProof.Rows L2 KW He
/-! ### what the end leans on -/
def dNames : List (Nat × Str) := [(7, "moment_kind"), (8, "stretch_kind"), (9, "course_kind"), (10, "branch_kind"), (11, "part_kind"), (13, "kind_between"), (16, "read_off"), (18, "_law_draw"), (19, "_law_flow"), (20, "_law_table"),
  (21, "_law_kinds_of"), (22, "_law_sign"), (23, "_law_kind_of_parts"), (24, "_law_kind_of_stretches"), (25, "_law_kind_of"), (26, "_law_same"), (27, "_law_number"), (28, "_law_thing"), (29, "law")]
def tNames : List Str := ["Missing", "NoTable", "NORTHS", "WESTS", "SHARING", "READERS", "WORDS"]
def frees : List Str := ["len", "abs", "range", "set", "list", "sorted", "int", "tuple", "dict", "zip", "all", "isinstance", "bool", "str", "LookupError"]
def fE : List He.FnD := (dNames.map fun q => (⟨(q.2, none), q.2, q.2, defArgs (K10.topS q.1), defBody (K10.topS q.1), defScope (K10.topS q.1)⟩ : He.FnD)) ++ [⟨("NoTable", some "__init__"), "__init__", "NoTable.__init__", defArgs K10.s_not, defBody K10.s_not, defScope K10.s_not⟩]
def fM : He.DefD := ⟨("Missing", some "__init__"), "__init__", "Missing.__init__", defArgs K10.s_mis, defBody K10.s_mis, defScope K10.s_mis, [.str "not there"], []⟩
def fA : List He.Fa := (dNames.map fun q => .glo q.2) ++ tNames.map .glo ++ frees.map .free ++ dNames.map (fun q => .keep q.2)
def tabs : List He.Tab := [((ga · "NORTHS"), ["ahead", "same", "behind"]), ((ga · "WESTS"), ["ahead", "same", "behind"]), ((ga · "READERS"), ["moments", "stretches", "courses", "branches", "parts"])]
/-- the class of the refusal -/
def oxB (K : PySem.W.Frag) (C : Addr) (newId : String) (T : List Value) : Bool := (match K.lookup C with
  | some ⟨.type t, _, .cls cd, sl⟩ => (match cd.mro, sl.toList with
    | .ref C' :: bm, [_, _, _, _, some (.builtin n), _] => decide (t = "type") && (decide (C' = C) && (decide (n = newId) && (decide (cd.hasDel = false) && (decide (cd.hasDict = true) && refsT T bm))))
    | _, _ => false)
  | _ => false) && (eqO (PySem.W.findIn K (.ref C) "__setattr__") (some (some (.builtin "object.__setattr__"))) && (decide (PySem.W.subIn K (.ref C) (.type "BaseException") = some true) && (decide (PySem.W.typeIn K (.ref C) = some (.type "type")) && PySem.W.keepIn K (.ref C))))
def valB (r : Option PySem.W.CFound) (v : Value) : Bool := match r with
  | some (.val u) => decide (u = v)
  | _ => false
def exB (K : PySem.W.Frag) : Bool :=
  valsB K (ga K "NORTHS") [("ahead", .str "n"), ("same", .str ""), ("behind", .str "s")] && (valsB K (ga K "WESTS") [("ahead", .str "w"), ("same", .str ""), ("behind", .str "e")] &&
  (valsB K (ga K "READERS") [("moments", .glo "moment_kind"), ("stretches", .glo "stretch_kind"), ("courses", .glo "course_kind"), ("branches", .glo "branch_kind"), ("parts", .glo "part_kind")] &&
  (tupB K "WORDS" [.str "moments", .str "stretches", .str "courses", .str "branches", .str "parts"] &&
  (oxB K (ga K "NoTable") "LookupError.__new__" K10.tailLE && (PySem.W.readsIn K (ga K "Missing") (.type "type") &&
  (eqO (PySem.W.specialIn K (.ref (ga K "Missing")) "__getattribute__") (some (some (.builtin "type.__getattribute__"))) &&
  (valB (PySem.W.findCls K (.ref (ga K "Missing")) (.type "type") "__init__") (.ref (ma K (ga K "Missing") "__init__")) &&
  (eqO (PySem.W.findIn K (.ref (ga K "NoTable")) "word") (some none) && (eqO (PySem.W.findIn K (.ref (ga K "NoTable")) "name") (some none) &&
  (eqO (PySem.W.findIn K (.ref (ga K "NoTable")) "__init__") (some (some (.ref (ma K (ga K "NoTable") "__init__")))) &&
  (decide (PySem.W.typeIn K (.ref (ma K (ga K "NoTable") "__init__")) = some (.type "function")) &&
  (valB (PySem.W.findCls K (.type "LookupError") (.type "type") "__init__") (.builtin "LookupError.__init__") &&
  (xfB K (ga K "NoTable") && (decide (PySem.W.exmOne K (.ref (ga K "NoTable")) (.ref (ga K "NoTable")) = some true) &&
  PySem.W.keepIn K (.ref (ma K (ga K "NoTable") "__init__"))))))))))))))))
/-- the table with tuples for keys -/
def shO (w : World) : Obj := { cls := .type "dict", data := .dict ((List.range 9).map fun i => (⟨KwTop.adj (hT w i), .ref (58 + i), .str (kAt i).2.2 (267 + 3 * i)⟩ : DictEntry)).toArray 9 }
def shL (K : PySem.W.Frag) : Option Obj × List (Option Obj) × Bool := (K.lookup 57, (List.range 9).map fun i => K.lookup (58 + i), decide (ga K "SHARING" = 57))
def shV (w : World) : Option Obj × List (Option Obj) × Bool := (some (shO w), (List.range 9).map fun i => some (tupO i), true)
abbrev AlK : Type := He.Al × He.AlT × Bool × (Option Obj × List (Option Obj) × Bool)
def obK (K : PySem.W.Frag) : AlK := (obsE fA fE K, obsT [] [fM] tabs K, exB K, shL K)
def vlK (w : World) : AlK := (valE fE, valT [fM] tabs w, true, shV w)
def obG (g : Addr → Option Obj) : AlK := obK (frG g (List.range 198))
def hk : PySem.W.Hook where
  α := AlK
  obs := fun s => obG s.heap.get?
  val := vlK
  says := fun w h => ∃ K : PySem.W.Frag, K.In h ∧ obK K = vlK w
  of := fun _ _ e => ⟨_, frG_in, e⟩
  keeps := fun _ _ _ ⟨K, hK, c⟩ k => ⟨K, PySem.W.Frag.In.keeps hK k, c⟩
def ob (s : PySem.W.SharedT) : AlK := obG (HandSHeadRun.getT s)
theorem ob_eq (s : PySem.W.SharedT) : ob s = hk.obs s.abs := by
  have e : HandSHeadRun.getT s = s.abs.heap.get? := funext (HandSHeadRun.getT_eq s)
  unfold ob
  rw [e] <;> rfl
end KH
end

noncomputable section
set_option Elab.async false
set_option linter.all false
set_option maxRecDepth 100000
namespace KH
open PySem PySem.W PySem.Calls PyProof.Rows HandSHeadRun KwTop
abbrev qv : Program := view pr [29]
def loose : List Str := (dNames.map (·.2)).dropLast ++ tNames
/-- what is left of the table's statement -/
def asgM : Sem Flow := do assignStores env (.ref 57) (← swappedStores dT dE env) ((assignEach dT env).map (·.2))
def sT (w : World) (S : SharedT) : SharedT := at1 (sK 9 S) 57 (shO w) 319
abbrev xt : Shared → Bool := fun s => xlAt qv [] s && recOk R.toRowW.records s
def lookE (w : World) (s : SharedT) := (looksF pr (boot_heap w.params) s.abs, seenQ qv loose (importedModules pr.main.body) xt s.abs, ob s)
def L3 (w : World) (gd : Bool → Bool) (lv : List Value → List Value) (pos pos2 : Pos) (S : SharedT) :=
  (segF (stq w) 11 an6 1 200 (sT w S) ⟨asgM.wrap (fun f => .pure (.done f)) deadEnd gd lv, cod, pos, bs⟩).map fun r => (r.1, r.2.2.1, (goF (stq w) 11 an6 3000 r.2.1 (restOf (bd.drop 7) env cod pos2 bs)).map (lookE w))
set_option maxHeartbeats 0 in
theorem leaf3 (w : World) : ∀ (os : OsState) (gd : Bool → Bool) (lv : List Value → List Value) (pos pos2 : Pos), (preS w os).map (fun x => L3 w gd lv pos pos2 x.1) = some (some (.next, cod, some (true, openGood qv loose, vlK w))) :=
  byRow2 row (P := fun w => ∀ (os : OsState) (gd : Bool → Bool) (lv : List Value → List Value) (pos pos2 : Pos), (preS w os).map (fun x => L3 w gd lv pos pos2 x.1) = some (some (.next, cod, some (true, openGood qv loose, vlK w))))
    (fun w => by intro os gd lv pos pos2; kernel_rfl) (fun w => by intro os gd lv pos pos2; kernel_rfl) w
end KH
end

noncomputable section
set_option Elab.async false
set_option linter.all false
set_option maxRecDepth 100000
namespace KwTop
open PySem PySem.W PySem.Calls PyProof.Rows HandSHeadRun
/-- a run by the kernel is a rule; the state behind it may hang on what is around -/
theorem ev_seg' {α : Type} {c : Cx} {S : SharedT} {b : Nat} {m : Sem α} {Q : α → Shared → Prop} (res : α → Flow) (hB : splitAtGen c.st = none)
    (h : ∀ gd lv pos, ∃ f S' pos', segF (stepQ (denQ tabQ) c.p c.w) c.n0 c.ann c.st.length b S ⟨m.wrap (fun a => .pure (.done (res a))) deadEnd gd lv, c.code, pos, c.st⟩ = some (f, S', c.code, pos') ∧ ∀ a, res a = f → Q a S'.abs) : EV c b m Q S.abs := by
  intro P K H gd lv pos n k
  obtain ⟨f, S', pos', e, hf⟩ := h gd lv pos
  rw [← stepQ_eq, ← denQ_eq, ← tabQ_eq] at e
  obtain ⟨a, ha, hN⟩ := seg_top (res := res) (K' := K) (H' := H) hB b S.abs ⟨m.wrap (fun a => .pure (.done (res a))) deadEnd gd lv, c.code, pos, c.st⟩ ⟨m.wrap K H gd lv, c.code, pos, c.st⟩ _ _ _ _ ⟨rfl, rfl, .inl ⟨rfl, rfl, _, rfl, rfl⟩⟩ (segF_ok e)
  obtain ⟨r, er, z⟩ := k a _ pos' (hf a ha)
  refine ⟨r, ?_, z⟩
  rw [Nat.add_comm]
  exact hN n r er
theorem ev_pairs {c : Cx} {s s1 s2 : Shared} {b1 b2 b3 : Nat} {k v : Sem Value} {rest : List (Sem Value × Sem Value)} {kv vv : Value} {Q : List (Value × Value) → Shared → Prop} (hk : EV c b1 k (fun r s' => r = kv ∧ s' = s1) s) (hv : EV c b2 v (fun r s' => r = vv ∧ s' = s2) s1)
    (hr : EV c b3 (evalPairs rest) (fun r s' => Q ((kv, vv) :: r) s') s2) : EV c (b3 + b2 + b1) (evalPairs ((k, v) :: rest)) Q s := by
  unfold evalPairs
  refine hk.then (EV.then (ev_holding hv) ?_)
  refine EV.le (b := 0 + b3) ?_ (by omega)
  exact ev_bind (ev_holding (hr.mono fun r s' z => ev_pure z))
theorem hash_range (l : List Int) : (decide (-(2 ^ 63 : Int) ≤ Builtin.Tuple.tupleHashOf l) && decide (Builtin.Tuple.tupleHashOf l < 2 ^ 63)) = true := by
  have k : ∃ b : Nat, b < 2 ^ 64 ∧ Builtin.Tuple.tupleHashOf l = if b == 2 ^ 64 - 1 then 1546275796 else if b < 2 ^ 63 then (b : Int) else (b : Int) - ((2 ^ 64 : Nat) : Int) := ⟨_, Nat.mod_lt _ (by decide), rfl⟩
  obtain ⟨b, h, e⟩ := k
  rw [e]
  clear e
  split
  · decide
  · split <;> simp only [Bool.and_eq_true, decide_eq_true_eq] <;> omega
end KwTop
namespace KH
open PySem PySem.W PySem.Calls PyProof.Rows HandSHeadRun KwTop
theorem lf_ok {α : Type} {w : World} {m : Sem α} {res : α → Flow} {n : Nat} {S S' : SharedT} {f : Flow} {Q : α → Shared → Prop} (h : ∀ gd lv pos, lf w m res n S gd lv pos = some (f, S', cod)) (hf : ∀ a, res a = f → Q a S'.abs) : EV (cx w) n m Q S.abs := by
  refine ev_seg' res rfl fun gd lv pos => ?_
  have e := h gd lv pos
  unfold lf at e
  obtain ⟨⟨f', S2, c', p'⟩, e1, e2⟩ := Option.map_eq_some_iff.mp e
  obtain ⟨rfl, rfl, rfl⟩ : f' = f ∧ S2 = S' ∧ c' = cod := by simpa using e2
  exact ⟨_, _, p', e1, hf⟩
theorem rB_inj {a b : Bool} (h : rB a = rB b) : a = b := by
  injection h with h
  injection h
section
variable {w : World} {os : OsState} {S : SharedT} {x : (Thread × Code) × Pos}
theorem at9 {β : Type} {f g : Nat → β} (h : (List.range 9).map f = (List.range 9).map g) {i : Nat} (hi : i < 9) : f i = g i := by
  have e : ((List.range 9).map f)[i]? = ((List.range 9).map g)[i]? := by rw [h]
  rw [List.getElem?_map, List.getElem?_map, List.getElem?_range hi] at e
  exact Option.some.inj e
theorem atN {β : Type} {n : Nat} {f g : Nat → β} (h : (List.range n).map f = (List.range n).map g) {i : Nat} (hi : i < n) : f i = g i := by
  have e : ((List.range n).map f)[i]? = ((List.range n).map g)[i]? := by rw [h]
  rw [List.getElem?_map, List.getElem?_map, List.getElem?_range hi] at e
  exact Option.some.inj e
theorem l1 (h : preS w os = some (S, x)) (gd : Bool → Bool) (lv : List Value → List Value) (pos : Pos) : LA w gd lv pos S = RA S := by
  have e := leaf1 w os gd lv pos
  rw [h] at e
  exact Option.some.inj e
theorem l2 (h : preS w os = some (S, x)) (gd : Bool → Bool) (lv : List Value → List Value) (pos : Pos) (o : Obj) (tk : Nat) (X : Sem Value) : LB w gd lv pos o tk X S = RB w o tk S := by
  have e := leaf2 w os gd lv pos o tk X
  rw [h] at e
  exact Option.some.inj e
theorem l1a (h : preS w os = some (S, x)) (gd : Bool → Bool) (lv : List Value → List Value) (pos : Pos) : lf w (swapsWithSole dT dE dA.line env) rB 60 S gd lv pos = some (.ret (.bool false), S, cod) := by
  have e := l1 h gd lv pos
  unfold LA RA at e
  exact (Prod.mk.inj e).1
theorem l1b (h : preS w os = some (S, x)) (gd : Bool → Bool) (lv : List Value → List Value) (pos : Pos) : lf w (alloc dO) rA 60 S gd lv pos = some (.ret (.ref 57), sD S, cod) := by
  have e := l1 h gd lv pos
  unfold LA RA at e
  exact (Prod.mk.inj (Prod.mk.inj e).2).1
theorem l1c (h : preS w os = some (S, x)) (gd : Bool → Bool) (lv : List Value → List Value) (pos : Pos) {i : Nat} (hi : i < 9) :
    (lf w (kM i) .ret 60 (sK i S) gd lv pos, lf w (vM i) .ret 60 (sM i S) gd lv pos) = (some (.ret (.ref (58 + i)), sM i S, cod), some (.ret (.str (kAt i).2.2 (267 + 3 * i)), sK (i + 1) S, cod)) := by
  have e := l1 h gd lv pos
  unfold LA RA at e
  exact at9 (Prod.mk.inj (Prod.mk.inj e).2).2 hi
theorem e_swap (h : preS w os = some (S, x)) : EV (cx w) 60 (swapsWithSole dT dE dA.line env) (fun r s' => r = false ∧ s' = S.abs) S.abs :=
  lf_ok (l1a h) fun a ha => ⟨rB_inj ha, rfl⟩
theorem rA_inj {a b : Addr} (h : rA a = .ret (.ref b)) : a = b := by
  injection h with h
  injection h
theorem ret_inj {a b : Value} (h : Flow.ret a = .ret b) : a = b := by
  injection h
theorem e_alloc (h : preS w os = some (S, x)) : EV (cx w) 60 (alloc dO) (fun r s' => r = 57 ∧ s' = (sK 0 S).abs) S.abs :=
  lf_ok (l1b h) fun a ha => ⟨rA_inj ha, rfl⟩
theorem e_key (h : preS w os = some (S, x)) {i : Nat} (hi : i < 9) : EV (cx w) 60 (kM i) (fun r s' => r = .ref (58 + i) ∧ s' = (sM i S).abs) (sK i S).abs :=
  lf_ok (fun gd lv pos => (Prod.mk.inj (l1c h gd lv pos hi)).1) fun a ha => ⟨ret_inj ha, rfl⟩
theorem e_val (h : preS w os = some (S, x)) {i : Nat} (hi : i < 9) : EV (cx w) 60 (vM i) (fun r s' => r = .str (kAt i).2.2 (267 + 3 * i) ∧ s' = (sK (i + 1) S).abs) (sM i S).abs :=
  lf_ok (fun gd lv pos => (Prod.mk.inj (l1c h gd lv pos hi)).2) fun a ha => ⟨ret_inj ha, rfl⟩
abbrev sA (S : SharedT) (o : Obj) (tk : Nat) : SharedT := at1 (sK 9 S) 57 o tk
theorem e_quiet (h : preS w os = some (S, x)) {j : Nat} (hj : j < 9) (o : Obj) (tk : Nat) : EV (cx w) 60 (eqIsQuiet 8 (.ref (58 + j))) (fun r s' => r = true ∧ s' = (sA S o tk).abs) (sA S o tk).abs :=
  lf_ok (f := .ret (.bool true)) (S' := sA S o tk) (fun gd lv pos => congrArg (fun z => z.1) (at9 (l2 h gd lv pos o tk (pure .none)) hj)) fun a ha => ⟨rB_inj ha, rfl⟩
theorem e_room (h : preS w os = some (S, x)) {j : Nat} (hj : j < 9) (o : Obj) (tk : Nat) : EV (cx w) 60 (cRoomFor "hash" [.ref (58 + j)]) (fun r s' => r = () ∧ s' = (sA S o tk).abs) (sA S o tk).abs :=
  lf_ok (f := .next) (S' := sA S o tk) (fun gd lv pos => congrArg (fun z => z.2.1) (at9 (l2 h gd lv pos o tk (pure .none)) hj)) fun a ha => ⟨rfl, rfl⟩
theorem rO_inj {a : Option Value} {v : Value} (h : rO a = .ret v) : a = some v := by
  cases a with
  | none => cases h
  | some u =>
    injection h with h
    rw [h]
theorem e_spec (h : preS w os = some (S, x)) {j : Nat} (hj : j < 9) (o : Obj) (tk : Nat) : EV (cx w) 60 (specialOf (.ref (58 + j)) "__hash__") (fun r s' => r = some (.builtin "tuple.__hash__") ∧ s' = (sA S o tk).abs) (sA S o tk).abs :=
  lf_ok (f := .ret (.builtin "tuple.__hash__")) (S' := sA S o tk) (fun gd lv pos => congrArg (fun z => z.2.2.1) (at9 (l2 h gd lv pos o tk (pure .none)) hj)) fun a ha => ⟨rO_inj ha, rfl⟩
theorem e_call (h : preS w os = some (S, x)) {j : Nat} (hj : j < 9) (o : Obj) (tk : Nat) (X : Sem Value) : EV (cx w) 200 (callSpecialIfBoundUnlessNone? (.ref (58 + j)) "__hash__" X) (fun r s' => r = some (.int (hT w j) (tk + 2)) ∧ s' = (sA S o (tk + 3)).abs) (sA S o tk).abs :=
  lf_ok (f := .ret (.int (hT w j) (tk + 2))) (S' := sA S o (tk + 3)) (fun gd lv pos => congrArg (fun z => z.2.2.2.1) (at9 (l2 h gd lv pos o tk X) hj)) fun a ha => ⟨rO_inj ha, rfl⟩
theorem e_eq (h : preS w os = some (S, x)) {i j : Nat} (hj : j < 9) (hi : i < j) (o : Obj) (tk : Nat) : EV (cx w) 200 (eqBool (.ref (58 + i)) (.ref (58 + j))) (fun r s' => r = false ∧ s' = (sA S o tk).abs) (sA S o tk).abs :=
  lf_ok (f := .ret (.bool false)) (S' := sA S o tk) (fun gd lv pos => atN (congrArg (fun z => z.2.2.2.2) (at9 (l2 h gd lv pos o tk (pure .none)) hj)) hi) fun a ha => ⟨rB_inj ha, rfl⟩
theorem e_hash (h : preS w os = some (S, x)) {j : Nat} (hj : j < 9) (o : Obj) (tk : Nat) : EV (cx w) (0 + 200 + 60 + 60 + 60) (pyHash (.ref (58 + j))) (fun r s' => r = adj (hT w j) ∧ s' = (sA S o (tk + 3)).abs) (sA S o tk).abs :=
  ev_hash (by decide) (e_room h hj o tk) (e_spec h hj o tk) (e_call h hj o tk) (hash_range _)
/-! ### the table grows -/
def enT (w : World) (i : Nat) : DictEntry := ⟨adj (hT w i), .ref (58 + i), .str (kAt i).2.2 (267 + 3 * i)⟩
def dAt (w : World) (i : Nat) : Obj := { cls := .type "dict", data := .dict ((List.range i).map (enT w)).toArray i }
theorem dAt_succ (i : Nat) : Obj.mapDictKeys (·.push (enT w i)) (dAt w i) = dAt w (i + 1) := by
  unfold dAt Obj.mapDictKeys
  simp [List.range_succ]
theorem e_store (h : preS w os = some (S, x)) {i : Nat} (hi : i < 9) (tk : Nat) : EV (cx w) 10000 (dictSet 57 (.ref (58 + i)) (.str (kAt i).2.2 (267 + 3 * i))) (fun _ s' => s' = (sA S (dAt w (i + 1)) (tk + 3)).abs) (sA S (dAt w i) tk).abs := by
  have g0 : (sK 9 S).tree.get 57 = some dO := by
    have e := leaf0 w os
    rw [h] at e
    exact congrArg (fun z => z.2) (Option.some.inj e)
  have ln : (57 : Nat) < (sK 9 S).n := by show 57 < 67; decide
  refine EV.le (b := 5 + (1 + ((List.range i).map (enT w)).toArray.size * (200 + 3) + (((List.range i).map (enT w)).toArray.size * 60 + 60) + 1) + (0 + 200 + 60 + 60 + 60)) ?_ ?_
  · refine ev_set (o := dAt w i) (o' := dAt w (i + 1)) (h := adj (hT w i)) (by show 11 ≤ 57; decide) (e_hash h hi (dAt w i) tk) (at1_get g0 ln) rfl (e_quiet h hi _ _) (fun e he => ?_) ?_ (at1_get g0 ln) ?_
    · obtain ⟨j, hj, rfl⟩ : ∃ j, j < i ∧ enT w j = e := by
        have z := Array.mem_toList_iff.mpr he
        simpa using z
      refine ⟨fun q => ?_, e_eq h hi hj _ _, e_quiet h (Nat.lt_trans hj hi) _ _⟩
      have q2 : (Value.ref (58 + j)) = .ref (58 + i) := q
      injection q2 with q3
      exact absurd (show (58 + j : Nat) = 58 + i from q3) (by omega)
    · exact (at1_upd g0).trans (by rw [show (⟨adj (hT w i), .ref (58 + i), .str (kAt i).2.2 (267 + 3 * i)⟩ : DictEntry) = enT w i from rfl, dAt_succ])
    · have z : ¬ ((List.range (i + 1)).map (enT w)).toArray.size > sizeLine + 1 := by
        rw [List.size_toArray, List.length_map, List.length_range, sizeLine_eq]
        omega
      show (if ((List.range (i + 1)).map (enT w)).toArray.size > sizeLine + 1 then some "dict:memory" else none) = none
      rw [if_neg z]
  · rw [List.size_toArray, List.length_map, List.length_range]
    omega
end
end KH
end

noncomputable section
set_option Elab.async false
set_option linter.all false
set_option maxRecDepth 100000
namespace KH
open PySem PySem.W PySem.Calls PyProof.Rows HandSHeadRun KwTop
section
variable {w : World} {os : OsState} {S : SharedT} {x : (Thread × Code) × Pos}
abbrev kvT (i : Nat) : Value × Value := (.ref (58 + i), .str (kAt i).2.2 (267 + 3 * i))
theorem e_pairs (h : preS w os = some (S, x)) : ∀ (k i : Nat) (Q : List (Value × Value) → Shared → Prop), i + k = 9 → Q ((List.range' i k).map kvT) (sK 9 S).abs → EV (cx w) (k * 120) (evalPairs ((List.range' i k).map fun i => (kM i, vM i))) Q (sK i S).abs
  | 0, i, Q, e, q => by
    obtain rfl : i = 9 := by omega
    exact (ev_pure q).le (Nat.zero_le _)
  | k + 1, i, Q, e, q => by
    have hi : i < 9 := by omega
    rw [List.range'_succ, List.map_cons]
    rw [List.range'_succ, List.map_cons] at q
    refine EV.le (b := k * 120 + 60 + 60) ?_ (by omega)
    exact ev_pairs (e_key h hi) (e_val h hi) (e_pairs h k (i + 1) _ (by omega) q)
theorem e_stores (h : preS w os = some (S, x)) : ∀ (k i : Nat) (Q : PUnit → Shared → Prop), i + k = 9 → Q PUnit.unit (sA S (dAt w 9) 319).abs →
    EV (cx w) (k * 10000) (forIn ((List.range' i k).map kvT) PUnit.unit fun (y : Value × Value) (_ : PUnit) => (do dictSet 57 y.1 y.2; pure (ForInStep.yield PUnit.unit) : Sem (ForInStep PUnit))) Q (sA S (dAt w i) (292 + 3 * i)).abs
  | 0, i, Q, e, q => by
    obtain rfl : i = 9 := by omega
    exact (ev_pure q).le (Nat.zero_le _)
  | k + 1, i, Q, e, q => by
    have hi : i < 9 := by omega
    rw [List.range'_succ, List.map_cons, List.forIn_cons]
    refine EV.le (b := k * 10000 + (0 + 10000)) ?_ (by omega)
    refine ev_bind (ev_bind ((e_store h hi (292 + 3 * i)).mono fun _ s' z => ?_))
    rw [z]
    refine ev_pure ?_
    exact e_stores h k (i + 1) Q (by omega) q
theorem dE_eq : dE = .Dict ((List.range 9).map fun i => some (kE i)) ((List.range 9).map vE) dP := by kernel_rfl
theorem sh_eq2 : sSh = .Assign dT dE dA := by kernel_rfl
theorem shape : (evalEachOpt ((List.range 9).map fun i => some (kE i)) env).zip ((evalEach ((List.range 9).map vE) env).map fun v => do let x ← v; standAt dP; pure x) = ((List.range' 0 9).map fun i => (kM i, vM i)).map fun p => (some p.1, p.2) := rfl
theorem at0 (h : preS w os = some (S, x)) : (sK 9 S).abs = (sA S (dAt w 0) 292).abs := by
  have g0 : (sK 9 S).tree.get 57 = some dO := by
    have e := leaf0 w os
    rw [h] at e
    exact congrArg (fun z => z.2) (Option.some.inj e)
  have e : absHeap ((sK 9 S).tree.set 57 fun _ => dAt w 0) (sK 9 S).n (sK 9 S).life = absHeap (sK 9 S).tree (sK 9 S).n (sK 9 S).life := by
    refine abs_same fun i => ?_
    rw [BT.get_set]
    by_cases q : i = 57
    · rw [if_pos q, q, g0]
      rfl
    · rw [if_neg q]
  show (⟨absHeap (sK 9 S).tree (sK 9 S).n (sK 9 S).life, (sK 9 S).gens, (sK 9 S).drawn, (sK 9 S).toks, (sK 9 S).os⟩ : Shared) = ⟨absHeap ((sK 9 S).tree.set 57 fun _ => dAt w 0) (sK 9 S).n (sK 9 S).life, (sK 9 S).gens, (sK 9 S).drawn, 292, (sK 9 S).os⟩
  rw [e]
  rfl
theorem bindL {α β : Type} {c : KwTop.Cx} {s : Shared} {b b' B : Nat} {m : Sem α} {f : α → Sem β} {Q : β → Shared → Prop} (l : b' + b ≤ B) (h : EV c b m (fun a s' => EV c b' (f a) Q s') s) : EV c B (m >>= f) Q s := (ev_bind h).le l
theorem thenL {α β : Type} {c : KwTop.Cx} {s s1 : Shared} {b b' B : Nat} {m : Sem α} {f : α → Sem β} {a0 : α} {Q : β → Shared → Prop} (l : b' + b ≤ B) (h : EV c b m (fun a s' => a = a0 ∧ s' = s1) s) (k : EV c b' (f a0) Q s1) : EV c B (m >>= f) Q s := (h.then k).le l
theorem e_loop (h : preS w os = some (S, x)) : EV (cx w) 90001 (forIn ((List.range' 0 9).map kvT) PUnit.unit fun (y : Value × Value) (_ : PUnit) => (do dictSet 57 y.1 y.2; pure (ForInStep.yield PUnit.unit) : Sem (ForInStep PUnit))) (fun r s' => r = PUnit.unit ∧ s' = (sT w S).abs) (sK 9 S).abs := by
  rw [at0 h]
  exact (e_stores h 9 0 _ rfl ⟨rfl, rfl⟩).le (by decide)
theorem e_sub (h : preS w os = some (S, x)) : EV (cx w) 99000 (subDict ((List.range' 0 9).map fun i => (kM i, vM i))) (fun v s' => v = 57 ∧ s' = (sT w S).abs) S.abs := by
  unfold subDict
  refine thenL (b := 60) (b' := 98000) (by decide) (e_alloc h) ?_
  refine thenL (a0 := PUnit.unit) (s1 := (sT w S).abs) (b := 97000) (b' := 0) (by decide) ?_ (ev_pure ⟨rfl, rfl⟩)
  refine ev_holding ?_
  rw [if_pos (by decide)]
  refine bindL (b := 9 * 120) (b' := 95000) (by decide) (e_pairs h 9 0 _ rfl ?_)
  refine ev_holding ?_
  exact thenL (b := 90001) (b' := 0) (by decide) (e_loop h) (ev_pure ⟨rfl, rfl⟩)
theorem e_dict (h : preS w os = some (S, x)) : EV (cx w) 100000 (eval dE env) (fun v s' => v = .ref 57 ∧ s' = (sT w S).abs) S.abs := by
  rw [dE_eq, arm_eval_Dict, shape, dictDisplay_pairs _ (by decide) (by decide)]
  refine bindL (b := 1) (b' := 99500) (by decide) (ev_at ?_)
  exact thenL (b := 99000) (b' := 0) (by decide) (e_sub h) (ev_pure ⟨rfl, rfl⟩)
/-- behind the table -/
def Behind (w : World) (s : Shared) : Prop := ∃ S' : SharedT, s = S'.abs ∧ ∀ pos2, ∃ e, goF (stq w) 11 an6 3000 S' (restOf (bd.drop 7) env cod pos2 bs) = some e ∧ lookE w e = (true, openGood qv loose, vlK w)
theorem e_asg (h : preS w os = some (S, x)) : EV (cx w) 200 asgM (fun f s' => f = .next ∧ Behind w s') (sT w S).abs := by
  refine ev_seg' id rfl fun gd lv pos => ?_
  have e : ∀ pos2, L3 w gd lv pos pos2 S = some (.next, cod, some (true, openGood qv loose, vlK w)) := fun pos2 => by
    have e := leaf3 w os gd lv pos pos2
    rw [h] at e
    exact Option.some.inj e
  have e0 := e q0
  unfold L3 at e0
  obtain ⟨⟨f', S2, c', p'⟩, e1, e2⟩ := Option.map_eq_some_iff.mp e0
  obtain ⟨h1, h2⟩ := Prod.mk.inj e2
  obtain ⟨h3, h4⟩ := Prod.mk.inj h2
  dsimp only at h1 h3 h4
  subst h1
  subst h3
  refine ⟨_, S2, p', e1, fun a ha => ⟨ha, S2, rfl, fun pos2 => ?_⟩⟩
  have e3 := e pos2
  unfold L3 at e3
  have e4 := (congrArg (fun z => Option.map (fun r : Flow × SharedT × Code × Pos => (r.1, r.2.2.1, (goF (stq w) 11 an6 3000 r.2.1 (restOf (bd.drop 7) env cod pos2 bs)).map (lookE w))) z) e1).symm.trans e3
  have e5 := congrArg (fun z => z.2.2) (Option.some.inj e4)
  exact Option.map_eq_some_iff.mp e5
theorem e_exec (h : preS w os = some (S, x)) : EV (cx w) 110000 (exec sSh env) (fun f s' => f = .next ∧ Behind w s') S.abs := by
  rw [sh_eq2, arm_exec_Assign]
  refine bindL (b := 1) (b' := 105000) (by decide) (ev_at ?_)
  refine thenL (b := 60) (b' := 104000) (by decide) (e_swap h) ?_
  rw [if_neg (by decide)]
  exact thenL (b := 100000) (b' := 200) (by decide) (e_dict h) (e_asg h)
end
end KH
end

noncomputable section
set_option Elab.async false
set_option linter.all false
set_option maxRecDepth 100000
namespace KH
open PySem PySem.W PySem.Calls PyProof.Rows HandSHeadRun KwTop
def Post (w : World) (r : Shared) : Prop := looksF pr (boot_heap w.params) r = true ∧ openSeen qv loose (importedModules pr.main.body) xt true r = openGood qv loose ∧ hk.obs r = hk.val w
theorem block0 (w : World) (s : Shared) : segRun treeTable pr w 11 an6 1 1 s (blockOf bd env cod q0 bs) = some (.next, s, cod, q0) := by kernel_rfl
theorem bd_split : bd = bd.take 6 ++ (sSh :: bd.drop 7) := by kernel_rfl
theorem topTable {w : World} {os : OsState} {S : SharedT} {x : (Thread × Code) × Pos} (h : preS w os = some (S, x)) (pos : Pos) : GN (cx w) (Post w) (3000 + 110000) S.abs (restOf (sSh :: bd.drop 7) env cod pos bs) := by
  unfold restOf
  rw [execs_cons_wrap]
  refine e_exec h (Post w) _ _ _ _ pos 3000 fun f s' pos' q => ?_
  obtain ⟨rfl, S', rfl, k⟩ := q
  obtain ⟨e, g, l⟩ := k pos'
  have g2 : goF (stepT (denote treeTable) pr w) 11 an6 3000 S' (restOf (bd.drop 7) env cod pos' bs) = some e := by
    rw [stepQ_eq, denQ_eq, tabQ_eq]
    exact g
  have r := goF_ok g2
  unfold lookE at l
  obtain ⟨l1, l2⟩ := Prod.mk.inj l
  obtain ⟨l3, l4⟩ := Prod.mk.inj l2
  exact ⟨e.abs, r, l1, by rw [seenQ_eq]; exact l3, by rw [← ob_eq]; exact l4⟩
theorem run (w : World) (os : OsState) : ∃ r, topRun treeTable pr w 11 an6 120000 ⟨boot_heap w.params, #[], boot_drawn, boot_toks, os⟩ (topStub pr) = some r ∧ Post w r := by
  obtain ⟨⟨S, ⟨th, c'⟩, p'⟩, h, e⟩ := Option.map_eq_some_iff.mp (leaf0 w os)
  obtain ⟨e1, _⟩ := Prod.mk.inj e
  obtain ⟨e2, e3⟩ := Prod.mk.inj e1
  have T := topTable h
  unfold preS at h
  cases hp : putAll (boot_heap w.params).objs.toList .nil 0 with
  | none =>
    rw [hp] at h
    cases h
  | some tn =>
    obtain ⟨t, n⟩ := tn
    rw [hp] at h
    dsimp only at h
    rw [frNat_eq] at h
    have eb : (bootT w os (t, n)).abs = ⟨boot_heap w.params, #[], boot_drawn, boot_toks, os⟩ := by
      show (⟨absHeap t n (boot_heap w.params).life, #[], boot_drawn, boot_toks, os⟩ : Shared) = _
      rw [putAll_heap hp]
    cases hg : goC (stq w) 11 an6 12 (bootT w os (t, n)) (topStub pr) with
    | none =>
      rw [hg] at h
      cases h
    | some r1 =>
      obtain ⟨s1, th1⟩ := r1
      rw [hg] at h
      dsimp only at h
      cases hs : segC (stq w) 11 an6 1 2000 s1 (piecesOf (bd.take 6) env cod q0 bs) with
      | none =>
        rw [hs] at h
        cases h
      | some r2 =>
        obtain ⟨f, s2, c2, p2⟩ := r2
        rw [hs] at h
        cases f with
        | next =>
          dsimp only at h
          have h2 := Option.some.inj h
          obtain ⟨rfl, h3⟩ := Prod.mk.inj h2
          obtain ⟨h4, rfl⟩ := Prod.mk.inj h3
          obtain ⟨rfl, rfl⟩ := Prod.mk.inj h4
          rw [segC_eq] at hs
          have est : stq w = stepT (denote treeTable) pr w := by
            show stepQ (denQ tabQ) pr w = _
            rw [← stepQ_eq, ← denQ_eq, ← tabQ_eq]
          rw [est] at hg hs
          have g1 := goC_ok hg
          have g2 := segF_ok hs
          rw [eb] at g1
          rw [e2, ← denQ_eq, ← tabQ_eq] at g1
          rw [e3] at g2
          obtain ⟨r, hr, P⟩ := T p2
          refine ⟨r, ?_, P⟩
          have k1 : topRun treeTable pr w 11 an6 (2000 + (3000 + 110000)) s1.abs (restOf (bd.take 6 ++ (sSh :: bd.drop 7)) env cod q0 bs) = some r := piece_app (q := q0) g2 hr
          have k1' : topRun treeTable pr w 11 an6 (2000 + (3000 + 110000)) s1.abs (restOf bd env cod q0 bs) = some r := (congrArg (fun l => topRun treeTable pr w 11 an6 (2000 + (3000 + 110000)) s1.abs (restOf l env cod q0 bs)) bd_split).trans k1
          have k2 : topRun treeTable pr w 11 an6 (1 + (2000 + (3000 + 110000))) s1.abs ⟨denote treeTable cod, cod, q0, bs⟩ = some r := piece_block (q := q0) (block0 w s1.abs) k1'
          have k3 : topRun treeTable pr w 11 an6 (12 + (1 + (2000 + (3000 + 110000)))) ⟨boot_heap w.params, #[], boot_drawn, boot_toks, os⟩ (topStub pr) = some r := go_top g1 k2
          have k4 := topRun_mono 4987 _ _ _ _ k3
          rwa [show 12 + (1 + (2000 + (3000 + 110000))) + 4987 = 120000 from rfl] at k4
        | brk => cases h
        | cont => cases h
        | ret v => cases h
theorem bootN (P : Params) : (boot_heap P).objs.size = 11 := by kernel_rfl
theorem boot6 (w : World) : bootAnn w = an6 := by kernel_rfl
theorem left : LeftO pr qv loose xt hk.obs hk.val 121000 true := fun w => by
  have ho := boot_open (p := pr) (N := 121000) (by kernel_rfl) (by decide) (fun s => by kernel_rfl) w
  obtain ⟨⟨hp, gs, dr, tk, os⟩, a, b⟩ := Option.map_eq_some_iff.mp ho
  obtain ⟨rfl, rfl, rfl, rfl⟩ : hp = boot_heap w.params ∧ gs = Array.mk [] ∧ dr = boot_drawn ∧ tk = boot_toks := by simpa using b
  obtain ⟨r, e, k1, k2, k3⟩ := run w os
  have e2 := topRun_mono 1000 _ _ _ _ e
  have t : topFrom treeTable pr w 121000 ⟨boot_heap w.params, Array.mk [], boot_drawn, boot_toks, os⟩ = some r := by
    unfold topFrom
    dsimp only
    rw [boot_ns, bootN]
    have z : (topRun treeTable pr w 11 (bootAnn w) 121000 ⟨boot_heap w.params, #[], boot_drawn, boot_toks, os⟩ (topStub pr)) = some r := by
      rw [boot6]
      exact e2
    refine Eq.trans (congrArg (fun y => Option.bind y _) z) ?_
    have k : (staticsOk (importedModules pr.main.body) (boot_heap w.params) r.heap && namesBound pr r.heap && gensDone r && laidKept (boot_heap w.params) r.heap) = true := k1
    dsimp only [Option.bind]
    rw [k]
  unfold openEnds
  rw [a]
  refine Eq.trans (congrArg (Option.map _) t) ?_
  exact congrArg some (Prod.ext k2 k3)
end KH
end

noncomputable section
set_option Elab.async false
set_option linter.all false
set_option maxRecDepth 100000
namespace KH
open PySem PySem.Spec PyProof.Rows L2 KW He
def adK (K : PySem.W.Frag) : Nat → Addr
  | 1 => ga K "Missing"
  | 2 => ga K "NoTable"
  | 4 => ga K "NORTHS"
  | 5 => ga K "WESTS"
  | 6 => ga K "SHARING"
  | 12 => ga K "READERS"
  | 15 => ga K "WORDS"
  | 7 => ga K "moment_kind"
  | 8 => ga K "stretch_kind"
  | 9 => ga K "course_kind"
  | 10 => ga K "branch_kind"
  | 11 => ga K "part_kind"
  | 13 => ga K "kind_between"
  | 16 => ga K "read_off"
  | 18 => ga K "_law_draw"
  | 19 => ga K "_law_flow"
  | 20 => ga K "_law_table"
  | 21 => ga K "_law_kinds_of"
  | 22 => ga K "_law_sign"
  | 23 => ga K "_law_kind_of_parts"
  | 24 => ga K "_law_kind_of_stretches"
  | 25 => ga K "_law_kind_of"
  | 26 => ga K "_law_same"
  | 27 => ga K "_law_number"
  | 28 => ga K "_law_thing"
  | 29 => ga K "law"
  | 101 => ma K (ga K "Missing") "__init__"
  | 102 => ma K (ga K "NoTable") "__init__"
  | _ => 0
def fdOf (K : PySem.W.Frag) (a : Addr) : FuncData := match K.lookup a with
  | some ⟨_, _, .func fd, _⟩ => fd
  | _ => PySem.W.fnOf "" "" (defArgs K10.s_mom) [] (defScope K10.s_mom) .none .none .none .none none .none .none
theorem fdOf_eq {K : PySem.W.Frag} {a : Addr} {oc : Value} {od : Option Addr} {fd : FuncData} {sl : Array (Option Value)} (h : K.lookup a = some ⟨oc, od, .func fd, sl⟩) : fd = fdOf K a := by
  unfold fdOf
  rw [h] <;> rfl
def fdK (K : PySem.W.Frag) (n : Nat) : FuncData := fdOf K (adK K n)
section
variable {K : PySem.W.Frag} {w : World} {h : Heap} {mg : Str → Option Value}
theorem fun_of {x q : Str} {st : Stmt} {a : Addr} (e : ∃ oc od osl kV doc pm an cdv ct, K.lookup a = some ⟨oc, od, .func (PySem.W.fnOf x q (defArgs st) (defBody st) (defScope st) .none kV doc pm an cdv ct), osl⟩ ∧ PySem.W.codeIn K cdv q = true) (k : PySem.W.keepIn K (.ref a) = true) : Fun K x q st a (fdOf K a) := by
  obtain ⟨oc, od, osl, kV, doc, pm, an, cdv, ct, l, c⟩ := e
  exact ⟨⟨oc, od, kV, doc, pm, an, cdv, ct, osl, (fdOf_eq l).symm, (fdOf_eq l) ▸ l, c⟩, k⟩
theorem sE (c : obK K = vlK w) : SaysE fA fE K := congrArg (fun z : AlK => z.1) c
theorem sT' (c : obK K = vlK w) : SaysT [] [fM] tabs w K := congrArg (fun z : AlK => z.2.1) c
theorem sX (c : obK K = vlK w) : exB K = true := congrArg (fun z : AlK => z.2.2.1) c
theorem sS (c : obK K = vlK w) : shL K = shV w := congrArg (fun z : AlK => z.2.2.2) c
theorem fa_mk (c : obK K = vlK w) (X : K.In h) (G : h.Ns mainGlobals mg) : K10.Fa K mg (adK K) (fdK K) := by
  have c := sE c
  have F7 : Fun K "moment_kind" "moment_kind" K10.s_mom (ga K "moment_kind") (fdOf K (ga K "moment_kind")) := fun_of (c.def_ 0 (d := ⟨("moment_kind", none), "moment_kind", "moment_kind", defArgs (K10.topS 7), defBody (K10.topS 7), defScope (K10.topS 7)⟩) rfl) (keep_ok (c.fact 41 (f := .keep "moment_kind") rfl))
  have F8 : Fun K "stretch_kind" "stretch_kind" K10.s_str (ga K "stretch_kind") (fdOf K (ga K "stretch_kind")) := fun_of (c.def_ 1 (d := ⟨("stretch_kind", none), "stretch_kind", "stretch_kind", defArgs (K10.topS 8), defBody (K10.topS 8), defScope (K10.topS 8)⟩) rfl) (keep_ok (c.fact 42 (f := .keep "stretch_kind") rfl))
  have F9 : Fun K "course_kind" "course_kind" K10.s_cou (ga K "course_kind") (fdOf K (ga K "course_kind")) := fun_of (c.def_ 2 (d := ⟨("course_kind", none), "course_kind", "course_kind", defArgs (K10.topS 9), defBody (K10.topS 9), defScope (K10.topS 9)⟩) rfl) (keep_ok (c.fact 43 (f := .keep "course_kind") rfl))
  have F10 : Fun K "branch_kind" "branch_kind" K10.s_bra (ga K "branch_kind") (fdOf K (ga K "branch_kind")) := fun_of (c.def_ 3 (d := ⟨("branch_kind", none), "branch_kind", "branch_kind", defArgs (K10.topS 10), defBody (K10.topS 10), defScope (K10.topS 10)⟩) rfl) (keep_ok (c.fact 44 (f := .keep "branch_kind") rfl))
  have F11 : Fun K "part_kind" "part_kind" K10.s_par (ga K "part_kind") (fdOf K (ga K "part_kind")) := fun_of (c.def_ 4 (d := ⟨("part_kind", none), "part_kind", "part_kind", defArgs (K10.topS 11), defBody (K10.topS 11), defScope (K10.topS 11)⟩) rfl) (keep_ok (c.fact 45 (f := .keep "part_kind") rfl))
  have F13 : Fun K "kind_between" "kind_between" K10.s_btw (ga K "kind_between") (fdOf K (ga K "kind_between")) := fun_of (c.def_ 5 (d := ⟨("kind_between", none), "kind_between", "kind_between", defArgs (K10.topS 13), defBody (K10.topS 13), defScope (K10.topS 13)⟩) rfl) (keep_ok (c.fact 46 (f := .keep "kind_between") rfl))
  have F16 : Fun K "read_off" "read_off" K10.s_off (ga K "read_off") (fdOf K (ga K "read_off")) := fun_of (c.def_ 6 (d := ⟨("read_off", none), "read_off", "read_off", defArgs (K10.topS 16), defBody (K10.topS 16), defScope (K10.topS 16)⟩) rfl) (keep_ok (c.fact 47 (f := .keep "read_off") rfl))
  have F18 : Fun K "_law_draw" "_law_draw" K10.s_draw (ga K "_law_draw") (fdOf K (ga K "_law_draw")) := fun_of (c.def_ 7 (d := ⟨("_law_draw", none), "_law_draw", "_law_draw", defArgs (K10.topS 18), defBody (K10.topS 18), defScope (K10.topS 18)⟩) rfl) (keep_ok (c.fact 48 (f := .keep "_law_draw") rfl))
  have F19 : Fun K "_law_flow" "_law_flow" K10.s_flow (ga K "_law_flow") (fdOf K (ga K "_law_flow")) := fun_of (c.def_ 8 (d := ⟨("_law_flow", none), "_law_flow", "_law_flow", defArgs (K10.topS 19), defBody (K10.topS 19), defScope (K10.topS 19)⟩) rfl) (keep_ok (c.fact 49 (f := .keep "_law_flow") rfl))
  have F20 : Fun K "_law_table" "_law_table" K10.s_table (ga K "_law_table") (fdOf K (ga K "_law_table")) := fun_of (c.def_ 9 (d := ⟨("_law_table", none), "_law_table", "_law_table", defArgs (K10.topS 20), defBody (K10.topS 20), defScope (K10.topS 20)⟩) rfl) (keep_ok (c.fact 50 (f := .keep "_law_table") rfl))
  have F21 : Fun K "_law_kinds_of" "_law_kinds_of" K10.s_kof (ga K "_law_kinds_of") (fdOf K (ga K "_law_kinds_of")) := fun_of (c.def_ 10 (d := ⟨("_law_kinds_of", none), "_law_kinds_of", "_law_kinds_of", defArgs (K10.topS 21), defBody (K10.topS 21), defScope (K10.topS 21)⟩) rfl) (keep_ok (c.fact 51 (f := .keep "_law_kinds_of") rfl))
  have F22 : Fun K "_law_sign" "_law_sign" K10.s_sign (ga K "_law_sign") (fdOf K (ga K "_law_sign")) := fun_of (c.def_ 11 (d := ⟨("_law_sign", none), "_law_sign", "_law_sign", defArgs (K10.topS 22), defBody (K10.topS 22), defScope (K10.topS 22)⟩) rfl) (keep_ok (c.fact 52 (f := .keep "_law_sign") rfl))
  have F23 : Fun K "_law_kind_of_parts" "_law_kind_of_parts" K10.s_lparts (ga K "_law_kind_of_parts") (fdOf K (ga K "_law_kind_of_parts")) := fun_of (c.def_ 12 (d := ⟨("_law_kind_of_parts", none), "_law_kind_of_parts", "_law_kind_of_parts", defArgs (K10.topS 23), defBody (K10.topS 23), defScope (K10.topS 23)⟩) rfl) (keep_ok (c.fact 53 (f := .keep "_law_kind_of_parts") rfl))
  have F24 : Fun K "_law_kind_of_stretches" "_law_kind_of_stretches" K10.s_lstr (ga K "_law_kind_of_stretches") (fdOf K (ga K "_law_kind_of_stretches")) := fun_of (c.def_ 13 (d := ⟨("_law_kind_of_stretches", none), "_law_kind_of_stretches", "_law_kind_of_stretches", defArgs (K10.topS 24), defBody (K10.topS 24), defScope (K10.topS 24)⟩) rfl) (keep_ok (c.fact 54 (f := .keep "_law_kind_of_stretches") rfl))
  have F25 : Fun K "_law_kind_of" "_law_kind_of" K10.s_lkind (ga K "_law_kind_of") (fdOf K (ga K "_law_kind_of")) := fun_of (c.def_ 14 (d := ⟨("_law_kind_of", none), "_law_kind_of", "_law_kind_of", defArgs (K10.topS 25), defBody (K10.topS 25), defScope (K10.topS 25)⟩) rfl) (keep_ok (c.fact 55 (f := .keep "_law_kind_of") rfl))
  have F26 : Fun K "_law_same" "_law_same" K10.s_same (ga K "_law_same") (fdOf K (ga K "_law_same")) := fun_of (c.def_ 15 (d := ⟨("_law_same", none), "_law_same", "_law_same", defArgs (K10.topS 26), defBody (K10.topS 26), defScope (K10.topS 26)⟩) rfl) (keep_ok (c.fact 56 (f := .keep "_law_same") rfl))
  have F27 : Fun K "_law_number" "_law_number" K10.s_num (ga K "_law_number") (fdOf K (ga K "_law_number")) := fun_of (c.def_ 16 (d := ⟨("_law_number", none), "_law_number", "_law_number", defArgs (K10.topS 27), defBody (K10.topS 27), defScope (K10.topS 27)⟩) rfl) (keep_ok (c.fact 57 (f := .keep "_law_number") rfl))
  have F28 : Fun K "_law_thing" "_law_thing" K10.s_thing (ga K "_law_thing") (fdOf K (ga K "_law_thing")) := fun_of (c.def_ 17 (d := ⟨("_law_thing", none), "_law_thing", "_law_thing", defArgs (K10.topS 28), defBody (K10.topS 28), defScope (K10.topS 28)⟩) rfl) (keep_ok (c.fact 58 (f := .keep "_law_thing") rfl))
  have F29 : Fun K "law" "law" K10.s_law (ga K "law") (fdOf K (ga K "law")) := fun_of (c.def_ 18 (d := ⟨("law", none), "law", "law", defArgs (K10.topS 29), defBody (K10.topS 29), defScope (K10.topS 29)⟩) rfl) (keep_ok (c.fact 59 (f := .keep "law") rfl))
  exact {
    F_mom := F7
    g_mom := glo_ok X G (c.fact 0 (f := .glo "moment_kind") rfl)
    b_mom := F7.binds (ps := K10.p_mom) fun _ _ _ _ _ _ us hl => match us, hl with | [_, _], _ => rfl
    F_str := F8
    g_str := glo_ok X G (c.fact 1 (f := .glo "stretch_kind") rfl)
    b_str := F8.binds (ps := K10.p_str) fun _ _ _ _ _ _ us hl => match us, hl with | [_, _], _ => rfl
    F_cou := F9
    g_cou := glo_ok X G (c.fact 2 (f := .glo "course_kind") rfl)
    b_cou := F9.binds (ps := K10.p_cou) fun _ _ _ _ _ _ us hl => match us, hl with | [_, _], _ => rfl
    F_bra := F10
    g_bra := glo_ok X G (c.fact 3 (f := .glo "branch_kind") rfl)
    b_bra := F10.binds (ps := K10.p_bra) fun _ _ _ _ _ _ us hl => match us, hl with | [_, _], _ => rfl
    F_par := F11
    g_par := glo_ok X G (c.fact 4 (f := .glo "part_kind") rfl)
    b_par := F11.binds (ps := K10.p_par) fun _ _ _ _ _ _ us hl => match us, hl with | [_, _], _ => rfl
    F_btw := F13
    g_btw := glo_ok X G (c.fact 5 (f := .glo "kind_between") rfl)
    b_btw := F13.binds (ps := K10.p_btw) fun _ _ _ _ _ _ us hl => match us, hl with | [_, _, _], _ => rfl
    F_off := F16
    g_off := glo_ok X G (c.fact 6 (f := .glo "read_off") rfl)
    b_off := F16.binds (ps := K10.p_off) fun _ _ _ _ _ _ us hl => match us, hl with | [_, _, _], _ => rfl
    F_draw := F18
    g_draw := glo_ok X G (c.fact 7 (f := .glo "_law_draw") rfl)
    b_draw := F18.binds (ps := K10.p_draw) fun _ _ _ _ _ _ us hl => match us, hl with | [_, _], _ => rfl
    F_flow := F19
    g_flow := glo_ok X G (c.fact 8 (f := .glo "_law_flow") rfl)
    b_flow := F19.binds (ps := K10.p_flow) fun _ _ _ _ _ _ us hl => match us, hl with | [_], _ => rfl
    F_table := F20
    g_table := glo_ok X G (c.fact 9 (f := .glo "_law_table") rfl)
    b_table := F20.binds (ps := K10.p_table) fun _ _ _ _ _ _ us hl => match us, hl with | [_, _, _, _], _ => rfl
    F_kof := F21
    g_kof := glo_ok X G (c.fact 10 (f := .glo "_law_kinds_of") rfl)
    b_kof := F21.binds (ps := K10.p_kof) fun _ _ _ _ _ _ us hl => match us, hl with | [_], _ => rfl
    F_sign := F22
    g_sign := glo_ok X G (c.fact 11 (f := .glo "_law_sign") rfl)
    b_sign := F22.binds (ps := K10.p_sign) fun _ _ _ _ _ _ us hl => match us, hl with | [_, _], _ => rfl
    F_lparts := F23
    g_lparts := glo_ok X G (c.fact 12 (f := .glo "_law_kind_of_parts") rfl)
    b_lparts := F23.binds (ps := K10.p_lparts) fun _ _ _ _ _ _ us hl => match us, hl with | [_, _], _ => rfl
    F_lstr := F24
    g_lstr := glo_ok X G (c.fact 13 (f := .glo "_law_kind_of_stretches") rfl)
    b_lstr := F24.binds (ps := K10.p_lstr) fun _ _ _ _ _ _ us hl => match us, hl with | [_, _], _ => rfl
    F_lkind := F25
    g_lkind := glo_ok X G (c.fact 14 (f := .glo "_law_kind_of") rfl)
    b_lkind := F25.binds (ps := K10.p_lkind) fun _ _ _ _ _ _ us hl => match us, hl with | [_, _, _], _ => rfl
    F_same := F26
    g_same := glo_ok X G (c.fact 15 (f := .glo "_law_same") rfl)
    b_same := F26.binds (ps := K10.p_same) fun _ _ _ _ _ _ us hl => match us, hl with | [_, _], _ => rfl
    F_num := F27
    g_num := glo_ok X G (c.fact 16 (f := .glo "_law_number") rfl)
    b_num := F27.binds (ps := K10.p_num) fun _ _ _ _ _ _ us hl => match us, hl with | [_, _], _ => rfl
    F_thing := F28
    g_thing := glo_ok X G (c.fact 17 (f := .glo "_law_thing") rfl)
    b_thing := F28.binds (ps := K10.p_thing) fun _ _ _ _ _ _ us hl => match us, hl with | [_, _, _], _ => rfl
    F_law := F29
    g_law := glo_ok X G (c.fact 18 (f := .glo "law") rfl)
    b_law := F29.binds (ps := K10.p_law) fun _ _ _ _ _ _ us hl => match us, hl with | [_], _ => rfl
    g_norths := glo_ok X G (c.fact 21 (f := .glo "NORTHS") rfl)
    g_wests := glo_ok X G (c.fact 22 (f := .glo "WESTS") rfl)
    g_sharing := glo_ok X G (c.fact 23 (f := .glo "SHARING") rfl)
    g_readers := glo_ok X G (c.fact 24 (f := .glo "READERS") rfl)
    g_words := glo_ok X G (c.fact 25 (f := .glo "WORDS") rfl)
  }
theorem bl_mk (c : obK K = vlK w) (X : K.In h) (G : h.Ns mainGlobals mg) : K10.Bl mg := by
  have c := sE c
  exact {
    m_len := free_ok X G (c.fact 26 (f := .free "len") rfl)
    m_abs := free_ok X G (c.fact 27 (f := .free "abs") rfl)
    m_range := free_ok X G (c.fact 28 (f := .free "range") rfl)
    m_set := free_ok X G (c.fact 29 (f := .free "set") rfl)
    m_list := free_ok X G (c.fact 30 (f := .free "list") rfl)
    m_sorted := free_ok X G (c.fact 31 (f := .free "sorted") rfl)
    m_int := free_ok X G (c.fact 32 (f := .free "int") rfl)
    m_tuple := free_ok X G (c.fact 33 (f := .free "tuple") rfl)
    m_dict := free_ok X G (c.fact 34 (f := .free "dict") rfl)
    m_zip := free_ok X G (c.fact 35 (f := .free "zip") rfl)
    m_all := free_ok X G (c.fact 36 (f := .free "all") rfl)
    m_isinstance := free_ok X G (c.fact 37 (f := .free "isinstance") rfl)
    m_bool := free_ok X G (c.fact 38 (f := .free "bool") rfl)
    m_str := free_ok X G (c.fact 39 (f := .free "str") rfl)
  }
theorem kdct {d : Addr} {x : Str} {v : V} {kvs : List (Str × Dv)} {q : Dv} (t : ∃ es n, KDict K w d es n) (b : valsB K d kvs = true) (i : Nat) (m : kvs[i]? = some (x, q)) (e : q.v K = v) : KDct K w d x v := by
  obtain ⟨es, n, k⟩ := t
  obtain ⟨u, h1, h2⟩ := valsB_ok b (List.mem_of_getElem? m)
  exact ⟨es, n, u, k.at_, k.lit, h1, by rw [← e]; exact h2⟩
theorem adj_eq (l : List Int) : reduceHash (Builtin.Tuple.tupleHashOf l) = KwTop.adj (Builtin.Tuple.tupleHashOf l) := by
  unfold reduceHash KwTop.adj
  rw [if_pos (KwTop.hash_range l)]
def shX : List (List Key × Addr × Value) := (List.range 9).map fun i => ([.inr (kAt i).1, .inr (kAt i).2.1], 58 + i, .str (kAt i).2.2 (267 + 3 * i))
theorem sh_tab (c : obK K = vlK w) (P : Program) : ∀ h : Heap, K.In h → h.DictOfH (tupleKind (mixKind P w)) (ga K "SHARING") shX := by
  intro h X
  have c := sS c
  obtain ⟨c1, c2⟩ := Prod.mk.inj c
  obtain ⟨c3, c4⟩ := Prod.mk.inj c2
  have e57 : ga K "SHARING" = 57 := of_decide_eq_true c4
  rw [e57]
  refine ⟨shO w, _, 9, X _ _ c1, ⟨rfl, rfl, rfl⟩, rfl, ?_, fun x hx => ?_, by decide⟩
  · unfold shX
    rw [List.map_map]
    refine List.map_congr_left fun i _ => ?_
    show (⟨KwTop.adj (hT w i), .ref (58 + i), .str (kAt i).2.2 (267 + 3 * i)⟩ : DictEntry) = ⟨reduceHash (Builtin.Tuple.tupleHashOf [hashStr w (kAt i).1, hashStr w (kAt i).2.1]), .ref (58 + i), .str (kAt i).2.2 (267 + 3 * i)⟩
    rw [adj_eq]
    rfl
  · unfold shX at hx
    obtain ⟨i, hi, rfl⟩ := List.mem_map.mp hx
    have l : K.lookup (58 + i) = some (tupO i) := at9 c3 (List.mem_range.mp hi)
    exact ⟨tupO i, _, _, X _ _ l, rfl, rfl, .cons (keyIs_str (kAt i).1 (265 + 3 * i)) (.cons (keyIs_str (kAt i).2.1 (266 + 3 * i)) .nil)⟩
theorem tb_mk (c : obK K = vlK w) (P : Program) : K10.Tb K P w (adK K) := by
  have t := sT' c
  have x := sX c
  unfold exB at x
  simp only [Bool.and_eq_true] at x
  obtain ⟨x1, x2, x3, x4, _⟩ := x
  exact {
    sharing := fun a b => by
      have k := sh_tab c P
      cases a <;> cases b <;> exact ⟨shX, _, k, rfl, ⟨_, rfl⟩⟩
    norths := fun a => by
      cases a
      · exact kdct (t.tab 0 rfl) x1 (q := .str "n") 0 rfl rfl
      · exact kdct (t.tab 0 rfl) x1 (q := .str "") 1 rfl rfl
      · exact kdct (t.tab 0 rfl) x1 (q := .str "s") 2 rfl rfl
    wests := fun a => by
      cases a
      · exact kdct (t.tab 1 rfl) x2 (q := .str "w") 0 rfl rfl
      · exact kdct (t.tab 1 rfl) x2 (q := .str "") 1 rfl rfl
      · exact kdct (t.tab 1 rfl) x2 (q := .str "e") 2 rfl rfl
    r1 := kdct (t.tab 2 rfl) x3 (q := .glo "moment_kind") 0 rfl rfl
    r2 := kdct (t.tab 2 rfl) x3 (q := .glo "stretch_kind") 1 rfl rfl
    r3 := kdct (t.tab 2 rfl) x3 (q := .glo "course_kind") 2 rfl rfl
    r4 := kdct (t.tab 2 rfl) x3 (q := .glo "branch_kind") 3 rfl rfl
    r5 := kdct (t.tab 2 rfl) x3 (q := .glo "part_kind") 4 rfl rfl
    words := fun H => tupB_ok x4 H
  }
theorem oxB_ok {C : Addr} {newId : String} {T : List Value} (x : oxB K C newId T = true) : OxC K newId T C := by
  unfold oxB at x
  simp only [Bool.and_eq_true] at x
  obtain ⟨a, b, d, e, f⟩ := x
  refine ⟨?_, eqO_ok b, of_decide_eq_true d, of_decide_eq_true e, f⟩
  cases q : K.lookup C with
  | none =>
    rw [q] at a
    cases a
  | some o =>
    rw [q] at a
    split at a
    · rename_i t dd cd sl eo
      cases eo
      split at a
      · rename_i C' bm k0 k1 k2 k3 n k5 em es
        simp only [Bool.and_eq_true, decide_eq_true_eq] at a
        obtain ⟨rfl, rfl, rfl, hd, hdi, rt⟩ := a
        obtain ⟨nm, bs, mro, ns, qn, hdct, sn, sub, ab, col, hdel⟩ := cd
        obtain rfl : mro = .ref C' :: bm := em
        obtain rfl : hdel = false := hd
        obtain rfl : hdct = true := hdi
        obtain rfl : sl = #[k0, k1, k2, k3, some (.builtin n), k5] := by rw [← Array.toArray_toList (xs := sl), es]
        exact ⟨_, _, _, _, _, _, _, _, _, _, _, _, _, _, _, rfl, rt⟩
      · cases a
    · cases a
theorem valB_ok {r : Option PySem.W.CFound} {v : Value} (x : valB r v = true) : r = some (.val v) := by
  unfold valB at x
  split at x
  · rw [of_decide_eq_true x]
  · cases x
theorem xc_mk (c : obK K = vlK w) (X : K.In h) (G : h.Ns mainGlobals mg) : K10.Xc K mg (adK K) (fdK K) := by
  have s := sE c
  have t := sT' c
  have x := sX c
  unfold exB at x
  simp only [Bool.and_eq_true] at x
  obtain ⟨_, _, _, _, x5, x6, x7, x8, x9, x10, x11, x12, x13, x14, x15, x16⟩ := x
  have FN : Fun K "__init__" "NoTable.__init__" K10.s_not (ma K (ga K "NoTable") "__init__") (fdOf K (ma K (ga K "NoTable") "__init__")) := fun_of (s.def_ 19 (d := ⟨("NoTable", some "__init__"), "__init__", "NoTable.__init__", defArgs K10.s_not, defBody K10.s_not, defScope K10.s_not⟩) rfl) x16
  obtain ⟨fd, FM⟩ := t.d.def_ 0 (d := fM) rfl
  have hb := FM.binds1 (ps := ["self", "message"]) 2 1 (List.cons_ne_nil _ _) rfl fun T kV doc pm an cdv ct us its h1 h2 => match us, its, h1, h2 with
    | [_, _], [_], _, _ => ⟨_, rfl, rfl⟩
  obtain ⟨⟨oc, od, dV, kV, doc, pm, an, cdv, ct, osl, e, l, cc, _, _⟩, kp⟩ := FM
  have ef := fdOf_eq l
  have FM' : K10.FunD K "__init__" "Missing.__init__" K10.s_mis (ma K (ga K "Missing") "__init__") (fdOf K (ma K (ga K "Missing") "__init__")) := ⟨⟨oc, od, dV, kV, doc, pm, an, cdv, ct, osl, ef.symm.trans e, ef ▸ l, cc⟩, kp⟩
  have bM : Binds K (fdOf K (ma K (ga K "Missing") "__init__")) ["self", "message"] [] := by
    obtain ⟨ds, z, b⟩ := hb
    obtain rfl : ds = [] := by
      cases ds with
      | nil => rfl
      | cons a r => exact absurd z.length (by simp [DefD.dvs, fM])
    rw [ef] at b
    exact b
  exact {
    g_mis := glo_ok X G (s.fact 19 (f := .glo "Missing") rfl)
    g_not := glo_ok X G (s.fact 20 (f := .glo "NoTable") rfl)
    m_LE := free_ok X G (s.fact 40 (f := .free "LookupError") rfl)
    FM := FM'
    FN := FN
    bM := bM
    bN := FN.binds (ps := ["self", "name"]) fun _ _ _ _ _ _ us hl => match us, hl with | [_, _], _ => rfl
    rM := ⟨x6, eqO_ok x7⟩
    cM := valB_ok x8
    O := oxB_ok x5
    noW := eqO_ok x9
    noN := eqO_ok x10
    iN := eqO_ok x11
    tN := of_decide_eq_true x12
    vL := valB_ok x13
    xf := xfB_ok x14
    te := of_decide_eq_true x15
  }
end
end KH
end

section
set_option Elab.async false
set_option linter.all false
set_option maxRecDepth 100000
open PySem PySem.W PySem.Calls PyProof.Rows
set_option maxHeartbeats 0 in
theorem PySem.Challenge.cw_kindweft_k10_kinds_read_off_holds : PySem.Challenge.rw_kindweft_k10_kinds_read_off.Holds := by
  w_on; o_law
  refine holds_open (r := OpenLaw.row PySem.Challenge.rw_kindweft_k10_kinds_read_off) (q := KH.qv) (loose := KH.loose) (XP := XL KH.qv []) (YP := KH.hk.says) (d := HandSHeadRun.topDef KH.pr 29) (kwd := []) KH.left KH.hk.of KH.hk.keeps
    (fun s z => xl_of s (Bool.and_eq_true_iff.mp z).1) XL.keeps (by kernel_rfl) (by kernel_rfl) (by kernel_rfl) (fun s z => recFacts_of (Bool.and_eq_true_iff.mp z).2) (by rfl) (by first | assumption | decide +kernel) (by decide +kernel) ⟨rfl, rfl, rfl, rfl, rfl, by decide +kernel⟩ ?hw ?hc
  case hw => w_witness2
  case hc =>
    refine L2.walk_ofE (l := PySem.Challenge.rw_kindweft_k10_kinds_read_off) (n := 63) (k := 5) (x := "_law_script") (CX := L2.CX0) rfl (by decide) (by kernel_rfl) ⟨rfl, by decide, by decide⟩ ?F (fun _ _ _ _ z => z)
    intro w mg f h Y G hmg0
    obtain ⟨K, KX, c⟩ := Y
    have hmg : mg ("law" : PySem.Str) = some (.ref f) := by
      have e : (HandSHeadRun.topDef KH.pr 29).name = ("law" : PySem.Str) := by kernel_rfl
      rw [← e]
      exact hmg0
    have F := KH.fa_mk c KX G
    have eq := F.g_law.symm.trans hmg
    obtain rfl : KH.adK K 29 = f := by
      injection eq with eq
      injection eq
    refine ⟨K, KH.fdK K 29, K10.spLaw K, KX, fun s v => ?_, fun H a ns hl _ hS => ⟨a, ns, rfl, hS, hl, fun _ => rfl⟩, fun base _ _ => K10.ok_law F (KH.bl_mk c KX G) (KH.tb_mk c _) (KH.xc_mk c KX G)⟩
    obtain ⟨oc, od, kV, doc, pm, an, cdv, ct, osl, e, l, cc⟩ := F.F_law.ex
    rw [e]
    exact .of_eq rfl
end

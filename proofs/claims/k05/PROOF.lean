import PyProof.Rows.All
import Wide.All
import OpenK.AllK
import Wide.FinOn
import HandS.ForMost
import HandS.Evl
import HandS.Flow
import HandS.IsInst
import HandS.Walk
import HandS.Deep
import HandS.Steps
import HandS.TupAny
import HandS.DictComp
import HandS.Strs
import HandS.SetFor
import HandS.ExcInit
import HandS.ClsMeth
import HandS.FStr
import HandS.CallSlots
import HandS.ExcField
import HandS.CallLocal
import HandS.More
import HandS.NoneIn
import KE.KDictZip
import HandS.WideBits
import HandS.ForExc
import HandS.Sort
import KE.GoesEnum
import PyProof.ListRange
import PyProof.DictMoreH
import HandS.SetKeys
import HandS.Style
import PyProof.StrBlock2
import HandS.Call
import KE.BitLaws
import HandS.OwnEq
import KE.KCallOwn
import HandS.Text
import HandS.DictEq
import HandS.Dict
import PyProof.DictFindH
import HandS.Codes
import HandS.Wide
import PyProof.StrLawsChain
import HandS.Head0
import HandS.Head1
import HandS.Head2
import HandS.HeadEnd
import HandS.HeadHook1
import KE.KStateDown
import PySem.Challenge.RW_kindweft_k05_tables_alike
section
set_option Elab.async false
set_option linter.all false
set_option maxRecDepth 100000
/-! DL: data as trees; what a reading denotes. A def without outer effect becomes a plain function over trees, by rules. -/
namespace DL
open PySem PySem.Spec PyProof.Rows L2
open Evl (Ex)

/-- data -/
inductive D where
  | non | bl (b : Bool) | int (i : Int) | str (x : Str)
  | lst (ds : List D) | tup (ds : List D)
  | dic (kvs : List (Key × D)) | dit (kvs : List (List Key × D))
  | ins (C : Addr) (fs : List (Str × D))

mutual
/-- v stands for the tree d, by what G knows -/
inductive Rp (K : PySem.W.Frag) (G : Hp) : V → D → Prop
  | non : Rp K G .non .non
  | bl (b : Bool) : Rp K G (.bl b) (.bl b)
  | int (i : Int) : Rp K G (.int i) (.int i)
  | str (x : Str) : Rp K G (.str x) (.str x)
  | lst {a : Addr} {xs : List V} {ds : List D} : G a = some (.lst xs) → Rps K G xs ds → Rp K G (.ref a) (.lst ds)
  | tup {a : Addr} {xs : List V} {ds : List D} : G a = some (.tup xs) → Rps K G xs ds → Rp K G (.ref a) (.tup ds)
  | dic {a : Addr} {kvs : List (Key × V)} {ds : List (Key × D)} : G a = some (.dK kvs) → kvs.map (·.1) = ds.map (·.1) → Rps K G (kvs.map (·.2)) (ds.map (·.2)) → Rp K G (.ref a) (.dic ds)
  | dit {a : Addr} {kvs : List (List Key × V)} {ds : List (List Key × D)} : Rd G a (.dT kvs) → kvs.map (·.1) = ds.map (·.1) → Rps K G (kvs.map (·.2)) (ds.map (·.2)) → Rp K G (.ref a) (.dit ds)
  | ins {a C dx : Addr} {fs : List (Str × V)} {ds : List (Str × D)} : G a = some (.ins C dx fs) → fs.map (·.1) = ds.map (·.1) → Rps K G (fs.map (·.2)) (ds.map (·.2)) → Rp K G (.ref a) (.ins C ds)
inductive Rps (K : PySem.W.Frag) (G : Hp) : List V → List D → Prop
  | nil : Rps K G [] []
  | cons {v : V} {vs : List V} {d : D} {ds : List D} : Rp K G v d → Rps K G vs ds → Rps K G (v :: vs) (d :: ds)
end

theorem rd_mono {G G' : Hp} (e : Ex G G') {a : Addr} {u : HO} (h : Rd G a u) : Rd G' a u := by
  rcases h with h | ⟨o, h⟩
  · exact .inl (e _ _ h)
  · exact .inr ⟨o, e _ _ h⟩
section
variable {K : PySem.W.Frag} {G G' G1 G2 H H' H1 H2 : Hp}
mutual
theorem Rp.mono (e : Ex G G') : ∀ {v : V} {d : D}, Rp K G v d → Rp K G' v d
  | _, _, .non => .non
  | _, _, .bl b => .bl b
  | _, _, .int i => .int i
  | _, _, .str x => .str x
  | _, _, .lst h r => .lst (e _ _ h) (Rps.mono e r)
  | _, _, .tup h r => .tup (e _ _ h) (Rps.mono e r)
  | _, _, .dic h k r => .dic (e _ _ h) k (Rps.mono e r)
  | _, _, .dit h k r => .dit (rd_mono e h) k (Rps.mono e r)
  | _, _, .ins h k r => .ins (e _ _ h) k (Rps.mono e r)
theorem Rps.mono (e : Ex G G') : ∀ {vs : List V} {ds : List D}, Rps K G vs ds → Rps K G' vs ds
  | _, _, .nil => .nil
  | _, _, .cons h r => .cons (Rp.mono e h) (Rps.mono e r)
end
theorem Rps.length : ∀ {vs : List V} {ds : List D}, Rps K G vs ds → vs.length = ds.length
  | _, _, .nil => rfl
  | _, _, .cons _ r => by rw [List.length_cons, List.length_cons, r.length]
theorem Rps.get : ∀ {vs : List V} {ds : List D} {i : Nat} {d : D}, Rps K G vs ds → ds[i]? = some d → ∃ v, vs[i]? = some v ∧ Rp K G v d
  | _, _, _, _, .nil, e => by simp at e
  | _, _, 0, _, .cons h _, e => by
    simp at e
    subst e
    exact ⟨_, rfl, h⟩
  | _, _, i + 1, _, .cons _ r, e => by
    obtain ⟨v, h1, h2⟩ := r.get (i := i) (by simpa using e)
    exact ⟨v, by simpa using h1, h2⟩
theorem Rps.getV : ∀ {vs : List V} {ds : List D} {i : Nat} {v : V}, Rps K G vs ds → vs[i]? = some v → ∃ d, ds[i]? = some d ∧ Rp K G v d
  | _, _, _, _, .nil, e => by simp at e
  | _, _, 0, _, .cons h _, e => by
    simp at e
    subst e
    exact ⟨_, rfl, h⟩
  | _, _, i + 1, _, .cons _ r, e => by
    obtain ⟨v, h1, h2⟩ := r.getV (i := i) (by simpa using e)
    exact ⟨v, by simpa using h1, h2⟩
theorem Rps.append : ∀ {vs ws : List V} {ds es : List D}, Rps K G vs ds → Rps K G ws es → Rps K G (vs ++ ws) (ds ++ es)
  | _, _, _, _, .nil, s => s
  | _, _, _, _, .cons h r, s => .cons h (r.append s)
theorem Rps.one {v : V} {d : D} (h : Rp K G v d) : Rps K G [v] [d] := .cons h .nil
theorem Rps.take : ∀ {vs : List V} {ds : List D} (n : Nat), Rps K G vs ds → Rps K G (vs.take n) (ds.take n)
  | _, _, 0, _ => .nil
  | _, _, _ + 1, .nil => .nil
  | _, _, n + 1, .cons h r => .cons h (r.take n)
theorem Rps.drop : ∀ {vs : List V} {ds : List D} (n : Nat), Rps K G vs ds → Rps K G (vs.drop n) (ds.drop n)
  | _, _, 0, r => r
  | _, _, _ + 1, .nil => .nil
  | _, _, n + 1, .cons _ r => r.drop n

/-- what a step that only makes new things leaves: the tree part grows by new addresses alone -/
structure Ext (G H G' H' : Hp) : Prop where
  gg : Ex G G'
  gh : Ex G' H'
  hh : Ex H H'
  fr : ∀ a o, H a = some o → G' a = G a
theorem Ext.refl (h : Ex G H) : Ext G H G H := ⟨.refl _, h, .refl _, fun _ _ _ => rfl⟩
theorem Ext.trans (a : Ext G H G1 H1) (b : Ext G1 H1 G2 H2) : Ext G H G2 H2 := ⟨a.gg.trans b.gg, b.gh, a.hh.trans b.hh, fun x o e => (b.fr x o (a.hh x o e)).trans (a.fr x o e)⟩
theorem Ext.new {p : Addr} {o : HO} (h : Ex G H) (hp : H p = none) : Ext G H (upd G p o) (upd H p o) := by
  refine ⟨.new (Evl.fresh_back h hp), fun a u e => ?_, .new hp, fun a u e => ?_⟩
  · by_cases z : a = p
    · subst z
      rw [upd_same] at e ⊢
      exact e
    · rw [upd_ne z] at e ⊢
      exact h _ _ e
  · rw [upd_ne (ne_of_none e hp)]
end

/-- a slot: a tree, or a thing under way that this slot alone has -/
inductive Sl where
  | pur (d : D) | own (d : D)
  /-- a thing at this very address, of which no more is told here -/
  | ptr (a : Addr)
abbrev En := List (Option Sl)

def OwnAt (K : PySem.W.Frag) (G H : Hp) (a : Addr) : D → Prop
  | .lst ds => ∃ xs, H a = some (.lst xs) ∧ Rps K G xs ds
  | .dic ds => ∃ kvs : List (Key × V), H a = some (.dK kvs) ∧ kvs.map (·.1) = ds.map (·.1) ∧ Rps K G (kvs.map (·.2)) (ds.map (·.2))
  | .dit ds => ∃ kvs : List (List Key × V), H a = some (.dT kvs) ∧ kvs.map (·.1) = ds.map (·.1) ∧ Rps K G (kvs.map (·.2)) (ds.map (·.2))
  | _ => False

/-- B: what stood at the def's entry -/
structure Rel (K : PySem.W.Frag) (B G : Hp) (ρ : En) (σ : L2.St) (H : Hp) : Prop where
  ex : Ex G H
  len : σ.length = ρ.length
  pur : ∀ (i : Nat) (d : D), ρ[i]? = some (some (.pur d)) → ∃ v, σ[i]? = some (some v) ∧ Rp K G v d
  own : ∀ (i : Nat) (d : D), ρ[i]? = some (some (.own d)) → ∃ a, σ[i]? = some (some (.ref a)) ∧ G a = none ∧ B a = none ∧ OwnAt K G H a d
  ptr : ∀ (i : Nat) (a : Addr), ρ[i]? = some (some (.ptr a)) → σ[i]? = some (some (.ref a))
  uni : ∀ (i j : Nat) (d e : D) (a : Addr), ρ[i]? = some (some (.own d)) → ρ[j]? = some (some (.own e)) → σ[i]? = some (some (.ref a)) → σ[j]? = some (some (.ref a)) → i = j

section
variable {K : PySem.W.Frag} {B G G' G1 G2 H H' H1 H2 : Hp} {ρ : En} {σ : L2.St}
theorem OwnAt.ex {a : Addr} {d : D} (o : OwnAt K G H a d) (g : Ex G G') (h : ∀ u, H a = some u → H' a = some u) : OwnAt K G' H' a d := by
  cases d with
  | lst ds =>
    obtain ⟨xs, e, r⟩ := o
    exact ⟨xs, h _ e, r.mono g⟩
  | dic ds =>
    obtain ⟨xs, e, k, r⟩ := o
    exact ⟨xs, h _ e, k, r.mono g⟩
  | dit ds =>
    obtain ⟨xs, e, k, r⟩ := o
    exact ⟨xs, h _ e, k, r.mono g⟩
  | _ => exact o
theorem OwnAt.some {a : Addr} {d : D} (o : OwnAt K G H a d) : ∃ u, H a = some u := by
  cases d with
  | lst ds => obtain ⟨xs, e, _⟩ := o; exact ⟨_, e⟩
  | dic ds => obtain ⟨xs, e, _⟩ := o; exact ⟨_, e⟩
  | dit ds => obtain ⟨xs, e, _⟩ := o; exact ⟨_, e⟩
  | _ => exact o.elim
theorem Rel.ext (R : Rel K B G ρ σ H) (x : Ext G H G' H') : Rel K B G' ρ σ H' where
  ex := x.gh
  len := R.len
  pur := fun i d e => by
    obtain ⟨v, h1, h2⟩ := R.pur i d e
    exact ⟨v, h1, h2.mono x.gg⟩
  own := fun i d e => by
    obtain ⟨a, h1, h2, h3, h4⟩ := R.own i d e
    obtain ⟨u, hu⟩ := h4.some
    exact ⟨a, h1, (x.fr a u hu).trans h2, h3, h4.ex x.gg fun u e => x.hh _ _ e⟩
  ptr := R.ptr
  uni := R.uni
theorem Rel.set (R : Rel K B G ρ σ H) {i : Nat} {v : V} {d : D} (h : Rp K G v d) : Rel K B G (ρ.set i (some (.pur d))) (σ.set i (some v)) H where
  ex := R.ex
  len := by rw [List.length_set, List.length_set, R.len]
  pur := fun j e hj => by
    by_cases z : i = j
    · subst z
      by_cases hl : i < ρ.length
      · rw [List.getElem?_set_self hl] at hj
        cases hj
        exact ⟨v, by rw [List.getElem?_set_self (R.len ▸ hl)], h⟩
      · rw [List.getElem?_eq_none (by rw [List.length_set]; omega)] at hj
        cases hj
    · rw [List.getElem?_set_ne z] at hj
      obtain ⟨w, h1, h2⟩ := R.pur j e hj
      exact ⟨w, by rw [List.getElem?_set_ne z]; exact h1, h2⟩
  own := fun j e hj => by
    by_cases z : i = j
    · subst z
      by_cases hl : i < ρ.length
      · rw [List.getElem?_set_self hl] at hj
        cases hj
      · rw [List.getElem?_eq_none (by rw [List.length_set]; omega)] at hj
        cases hj
    · rw [List.getElem?_set_ne z] at hj
      obtain ⟨a, h1, h2⟩ := R.own j e hj
      exact ⟨a, by rw [List.getElem?_set_ne z]; exact h1, h2⟩
  ptr := fun j e hj => by
    by_cases z : i = j
    · subst z
      by_cases hl : i < ρ.length
      · rw [List.getElem?_set_self hl] at hj
        cases hj
      · rw [List.getElem?_eq_none (by rw [List.length_set]; omega)] at hj
        cases hj
    · rw [List.getElem?_set_ne z] at hj ⊢
      exact R.ptr j e hj
  uni := fun j k d1 d2 a hj hk sj sk => by
    have nj : ∀ j e, (ρ.set i (some (Sl.pur d)))[j]? = some (some (.own e)) → i ≠ j := fun j e hj z => by
      subst z
      by_cases hl : i < ρ.length
      · rw [List.getElem?_set_self hl] at hj
        cases hj
      · rw [List.getElem?_eq_none (by rw [List.length_set]; omega)] at hj
        cases hj
    have n1 := nj j _ hj
    have n2 := nj k _ hk
    rw [List.getElem?_set_ne n1] at hj sj
    rw [List.getElem?_set_ne n2] at hk sk
    exact R.uni j k d1 d2 a hj hk sj sk
/-- a slot emptied -/
theorem Rel.unset (R : Rel K B G ρ σ H) {i : Nat} {x : Option V} : Rel K B G (ρ.set i none) (σ.set i x) H where
  ex := R.ex
  len := by rw [List.length_set, List.length_set, R.len]
  pur := fun j e hj => by
    by_cases z : i = j
    · subst z
      by_cases hl : i < ρ.length
      · rw [List.getElem?_set_self hl] at hj
        cases hj
      · rw [List.getElem?_eq_none (by rw [List.length_set]; omega)] at hj
        cases hj
    · rw [List.getElem?_set_ne z] at hj
      obtain ⟨w, h1, h2⟩ := R.pur j e hj
      exact ⟨w, by rw [List.getElem?_set_ne z]; exact h1, h2⟩
  own := fun j e hj => by
    by_cases z : i = j
    · subst z
      by_cases hl : i < ρ.length
      · rw [List.getElem?_set_self hl] at hj
        cases hj
      · rw [List.getElem?_eq_none (by rw [List.length_set]; omega)] at hj
        cases hj
    · rw [List.getElem?_set_ne z] at hj
      obtain ⟨a, h1, h2⟩ := R.own j e hj
      exact ⟨a, by rw [List.getElem?_set_ne z]; exact h1, h2⟩
  ptr := fun j e hj => by
    by_cases z : i = j
    · subst z
      by_cases hl : i < ρ.length
      · rw [List.getElem?_set_self hl] at hj
        cases hj
      · rw [List.getElem?_eq_none (by rw [List.length_set]; omega)] at hj
        cases hj
    · rw [List.getElem?_set_ne z] at hj ⊢
      exact R.ptr j e hj
  uni := fun j k d1 d2 a hj hk sj sk => by
    have nj : ∀ j e, (ρ.set i none)[j]? = some (some (Sl.own e)) → i ≠ j := fun j e hj z => by
      subst z
      by_cases hl : i < ρ.length
      · rw [List.getElem?_set_self hl] at hj
        cases hj
      · rw [List.getElem?_eq_none (by rw [List.length_set]; omega)] at hj
        cases hj
    have n1 := nj j _ hj
    have n2 := nj k _ hk
    rw [List.getElem?_set_ne n1] at hj sj
    rw [List.getElem?_set_ne n2] at hk sk
    exact R.uni j k d1 d2 a hj hk sj sk
theorem Rel.setPtr (R : Rel K B G ρ σ H) {i : Nat} {a : Addr} : Rel K B G (ρ.set i (some (.ptr a))) (σ.set i (some (.ref a))) H where
  ex := R.ex
  len := by rw [List.length_set, List.length_set, R.len]
  pur := fun j e hj => by
    by_cases z : i = j
    · subst z
      by_cases hl : i < ρ.length
      · rw [List.getElem?_set_self hl] at hj
        cases hj
      · rw [List.getElem?_eq_none (by rw [List.length_set]; omega)] at hj
        cases hj
    · rw [List.getElem?_set_ne z] at hj
      obtain ⟨w, h1, h2⟩ := R.pur j e hj
      exact ⟨w, by rw [List.getElem?_set_ne z]; exact h1, h2⟩
  own := fun j e hj => by
    by_cases z : i = j
    · subst z
      by_cases hl : i < ρ.length
      · rw [List.getElem?_set_self hl] at hj
        cases hj
      · rw [List.getElem?_eq_none (by rw [List.length_set]; omega)] at hj
        cases hj
    · rw [List.getElem?_set_ne z] at hj
      obtain ⟨a, h1, h2⟩ := R.own j e hj
      exact ⟨a, by rw [List.getElem?_set_ne z]; exact h1, h2⟩
  ptr := fun j e hj => by
    by_cases z : i = j
    · subst z
      by_cases hl : i < ρ.length
      · rw [List.getElem?_set_self hl] at hj
        cases hj
        rw [List.getElem?_set_self (R.len ▸ hl)]
      · rw [List.getElem?_eq_none (by rw [List.length_set]; omega)] at hj
        cases hj
    · rw [List.getElem?_set_ne z] at hj ⊢
      exact R.ptr j e hj
  uni := fun j k d1 d2 b hj hk sj sk => by
    have nj : ∀ j e, (ρ.set i (some (Sl.ptr a)))[j]? = some (some (.own e)) → i ≠ j := fun j e hj z => by
      subst z
      by_cases hl : i < ρ.length
      · rw [List.getElem?_set_self hl] at hj
        cases hj
      · rw [List.getElem?_eq_none (by rw [List.length_set]; omega)] at hj
        cases hj
    have n1 := nj j _ hj
    have n2 := nj k _ hk
    rw [List.getElem?_set_ne n1] at hj sj
    rw [List.getElem?_set_ne n2] at hk sk
    exact R.uni j k d1 d2 b hj hk sj sk
/-- slots wiped for a comprehension -/
def wipeE (ρ : En) : List Nat → En
  | [] => ρ
  | v :: vs => (wipeE ρ vs).set v none
theorem Rel.wipe (R : Rel K B G ρ σ H) : ∀ vs : List Nat, Rel K B G (wipeE ρ vs) (L2.wipe σ vs) H
  | [] => R
  | _ :: vs => (R.wipe vs).unset
/-- all that is under way, frozen -/
def frz (ρ : En) : En := ρ.map fun o => o.map fun w => match w with
  | .pur d => .pur d
  | .own d => .pur d
  | .ptr a => .ptr a
end

/-! ### what a reading denotes -/
abbrev FE := En → Option D
abbrev FT := En → Option Bool
abbrev FA := En → Option (List D)
abbrev FO := En → Option (Option Int)
def Den (K : PySem.W.Frag) (t : TE) (f : FE) : Prop := ∀ (B G : Hp) (ρ : En) (σ : L2.St) (H : Hp) (d : D) (Q : VK), Rel K B G ρ σ H → f ρ = some d → (∀ v H' G', Ext G H G' H' → Rp K G' v d → Q v H') → t σ H Q
def DenT (K : PySem.W.Frag) (t : TT) (f : FT) : Prop := ∀ (B G : Hp) (ρ : En) (σ : L2.St) (H : Hp) (b : Bool) (Q : Bool → Hp → Prop), Rel K B G ρ σ H → f ρ = some b → (∀ H' G', Ext G H G' H' → Q b H') → t σ H Q
def DenA (K : PySem.W.Frag) (t : TA) (f : FA) : Prop := ∀ (B G : Hp) (ρ : En) (σ : L2.St) (H : Hp) (ds : List D) (Q : List V → Hp → Prop), Rel K B G ρ σ H → f ρ = some ds → (∀ vs H' G', Ext G H G' H' → Rps K G' vs ds → Q vs H') → t σ H Q
def DenO (K : PySem.W.Frag) (t : TO) (f : FO) : Prop := ∀ (B G : Hp) (ρ : En) (σ : L2.St) (H : Hp) (o : Option Int) (Q : Option Int → Hp → Prop), Rel K B G ρ σ H → f ρ = some o → (∀ H' G', Ext G H G' H' → Q o H') → t σ H Q
/-- an operation on values; a one-place one; a call; a slice -/
def OpD (K : PySem.W.Frag) (r : R2) (g : D → D → Option D) : Prop := ∀ (G H : Hp) (x y : V) (dx dy d : D) (Q : VK), Ex G H → Rp K G x dx → Rp K G y dy → g dx dy = some d → (∀ v H' G', Ext G H G' H' → Rp K G' v d → Q v H') → r x y H Q
def UnD (K : PySem.W.Frag) (r : V → Hp → VK → Prop) (g : D → Option D) : Prop := ∀ (G H : Hp) (x : V) (dx d : D) (Q : VK), Ex G H → Rp K G x dx → g dx = some d → (∀ v H' G', Ext G H G' H' → Rp K G' v d → Q v H') → r x H Q
def CaD (K : PySem.W.Frag) (r : List V → Hp → VK → Prop) (g : List D → Option D) : Prop := ∀ (G H : Hp) (xs : List V) (ds : List D) (d : D) (Q : VK), Ex G H → Rps K G xs ds → g ds = some d → (∀ v H' G', Ext G H G' H' → Rp K G' v d → Q v H') → r xs H Q
def SlD (K : PySem.W.Frag) (r : V → Option Int → Option Int → Hp → VK → Prop) (g : D → Option Int → Option Int → Option D) : Prop := ∀ (G H : Hp) (x : V) (dx d : D) (l u : Option Int) (Q : VK), Ex G H → Rp K G x dx → g dx l u = some d → (∀ v H' G', Ext G H G' H' → Rp K G' v d → Q v H') → r x l u H Q
def MtD (K : PySem.W.Frag) (T : String) (r : V → List V → Hp → VK → Prop) (g : D → List D → Option D) : Prop := ∀ (G H : Hp) (x : V) (xs : List V) (dx : D) (ds : List D) (d : D) (Q : VK), Ex G H → Rp K G x dx → Rps K G xs ds → g dx ds = some d → (∀ v H' G', Ext G H G' H' → Rp K G' v d → Q v H') → r x xs H Q

def fVar (i : Nat) : FE := fun ρ => match ρ[i]? with
  | some (some (.pur d)) => some d
  | _ => none
def fC (d : D) : FE := fun _ => some d
def fOp (g : D → D → Option D) (fa fb : FE) : FE := fun ρ => (fa ρ).bind fun x => (fb ρ).bind fun y => g x y
def fUn (g : D → Option D) (fa : FE) : FE := fun ρ => (fa ρ).bind g
def fNil : FA := fun _ => some []
def fCons (fa : FE) (fr : FA) : FA := fun ρ => (fa ρ).bind fun x => (fr ρ).bind fun r => some (x :: r)
def fCall (g : List D → Option D) (fa : FA) : FE := fun ρ => (fa ρ).bind g
def fTup (fa : FA) : FE := fun ρ => (fa ρ).bind fun ds => if ds.length ≤ 100000 then some (.tup ds) else none
def fLst (fa : FA) : FE := fun ρ => (fa ρ).bind fun ds => if ds.length ≤ 100000 then some (.lst ds) else none
def asB : D → Option Bool
  | .bl b => some b
  | _ => none
def fTest (fa : FE) : FT := fun ρ => (fa ρ).bind asB
def fAndT (a b : FT) : FT := fun ρ => (a ρ).bind fun c => if c = true then b ρ else some false
def fOrT (a b : FT) : FT := fun ρ => (a ρ).bind fun c => if c = true then some true else b ρ
def fNotT (a : FT) : FT := fun ρ => (a ρ).map (!·)
def fAndV (a b : FE) : FE := fun ρ => (a ρ).bind fun x => (asB x).bind fun c => if c = true then b ρ else some (.bl false)
def fOrV (a b : FE) : FE := fun ρ => (a ρ).bind fun x => (asB x).bind fun c => if c = true then some (.bl true) else b ρ
def fNotV (a : FE) : FE := fun ρ => (a ρ).bind fun x => (asB x).map fun c => .bl (!c)
def fIfE (t : FT) (a b : FE) : FE := fun ρ => (t ρ).bind fun c => if c = true then a ρ else b ρ
def fOn : FO := fun _ => some none
def asI : D → Option Int
  | .int i => some i
  | _ => none
def fOs (a : FE) : FO := fun ρ => (a ρ).bind fun x => (asI x).map some
def fSl (g : D → Option Int → Option Int → Option D) (a : FE) (l u : FO) : FE := fun ρ => (a ρ).bind fun x => (l ρ).bind fun i => (u ρ).bind fun j => g x i j

section
variable {K : PySem.W.Frag} {ta tb tc te : TE} {fa fb fc : FE} {t u : TT} {f g : FT} {tl : TA} {fl : FA}
theorem some_bind {α β : Type} {o : Option α} {f : α → Option β} {b : β} (h : o.bind f = some b) : ∃ a, o = some a ∧ f a = some b := Option.bind_eq_some_iff.mp h
theorem den_var {i : Nat} : Den K (tVar i) (fVar i) := fun B G ρ σ H d Q R e k => by
  unfold fVar at e
  split at e
  · rename_i d' h
    cases e
    obtain ⟨v, h1, h2⟩ := R.pur i _ h
    exact ⟨v, h1, k v H G (.refl R.ex) h2⟩
  · cases e
theorem den_non : Den K (tC .non) (fC .non) := fun B G ρ σ H d Q R e k => by
  cases e
  exact k _ H G (.refl R.ex) .non
theorem den_bl {b : Bool} : Den K (tC (.bl b)) (fC (.bl b)) := fun B G ρ σ H d Q R e k => by
  cases e
  exact k _ H G (.refl R.ex) (.bl b)
theorem den_int {i : Int} : Den K (tC (.int i)) (fC (.int i)) := fun B G ρ σ H d Q R e k => by
  cases e
  exact k _ H G (.refl R.ex) (.int i)
theorem den_str {x : Str} : Den K (tC (.str x)) (fC (.str x)) := fun B G ρ σ H d Q R e k => by
  cases e
  exact k _ H G (.refl R.ex) (.str x)
theorem den_op {r : R2} {g : D → D → Option D} (ho : OpD K r g) (ha : Den K ta fa) (hb : Den K tb fb) : Den K (tOp r ta tb) (fOp g fa fb) := fun B G ρ σ H d Q R e k => by
  obtain ⟨x, ea, e⟩ := some_bind e
  obtain ⟨y, eb, e⟩ := some_bind e
  exact ha B G ρ σ H x _ R ea fun v H1 G1 x1 r1 => hb B G1 ρ σ H1 y _ (R.ext x1) eb fun w H2 G2 x2 r2 => ho G2 H2 v w x y d Q x2.gh (r1.mono x2.gg) r2 e fun v' H' G' x3 r3 => k v' H' G' ((x1.trans x2).trans x3) r3
theorem den_un {r : V → Hp → VK → Prop} {g : D → Option D} (ho : UnD K r g) (ha : Den K ta fa) : Den K (tUn r ta) (fUn g fa) := fun B G ρ σ H d Q R e k => by
  obtain ⟨x, ea, e⟩ := some_bind e
  exact ha B G ρ σ H x _ R ea fun v H1 G1 x1 r1 => ho G1 H1 v x d Q x1.gh r1 e fun v' H' G' x3 r3 => k v' H' G' (x1.trans x3) r3
theorem den_nil : DenA K tNil fNil := fun B G ρ σ H ds Q R e k => by
  cases e
  exact k _ H G (.refl R.ex) .nil
theorem den_cons (ha : Den K ta fa) (hl : DenA K tl fl) : DenA K (tCons ta tl) (fCons fa fl) := fun B G ρ σ H ds Q R e k => by
  obtain ⟨x, ea, e⟩ := some_bind e
  obtain ⟨y, eb, e⟩ := some_bind e
  cases e
  exact ha B G ρ σ H x _ R ea fun v H1 G1 x1 r1 => hl B G1 ρ σ H1 y _ (R.ext x1) eb fun vs H2 G2 x2 r2 => k _ H2 G2 (x1.trans x2) (.cons (r1.mono x2.gg) r2)
theorem den_cb {r : List V → Hp → VK → Prop} {g : List D → Option D} (hc : CaD K r g) (hl : DenA K tl fl) : Den K (tCB r tl) (fCall g fl) := fun B G ρ σ H d Q R e k => by
  obtain ⟨x, ea, e⟩ := some_bind e
  exact hl B G ρ σ H x _ R ea fun vs H1 G1 x1 r1 => hc G1 H1 vs x d Q x1.gh r1 e fun v' H' G' x3 r3 => k v' H' G' (x1.trans x3) r3
theorem den_tup (hl : DenA K tl fl) : Den K (tTup tl) (fTup fl) := fun B G ρ σ H d Q R e k => by
  obtain ⟨x, ea, e⟩ := some_bind e
  split at e
  · rename_i hz
    cases e
    exact hl B G ρ σ H x _ R ea fun vs H1 G1 x1 r1 => ⟨Nat.le_trans (Nat.le_trans (Nat.le_of_eq r1.length) hz) (by decide), fun p np => k _ _ _ (x1.trans (.new x1.gh np)) (.tup upd_same (r1.mono (Ext.new x1.gh np).gg))⟩
  · cases e
theorem den_lst (hl : DenA K tl fl) : Den K (tLst tl) (fLst fl) := fun B G ρ σ H d Q R e k => by
  obtain ⟨x, ea, e⟩ := some_bind e
  split at e
  · rename_i hz
    cases e
    exact hl B G ρ σ H x _ R ea fun vs H1 G1 x1 r1 => ⟨Nat.le_trans (Nat.le_trans (Nat.le_of_eq r1.length) hz) (by decide), fun p np => k _ _ _ (x1.trans (.new x1.gh np)) (.lst upd_same (r1.mono (Ext.new x1.gh np).gg))⟩
  · cases e
theorem asB_rp {G : Hp} {v : V} {d : D} {b : Bool} (r : Rp K G v d) (e : asB d = some b) : v = .bl b := by
  cases r <;> cases e
  rfl
theorem asI_rp {G : Hp} {v : V} {d : D} {b : Int} (r : Rp K G v d) (e : asI d = some b) : v = .int b := by
  cases r <;> cases e
  rfl
theorem den_test (ha : Den K ta fa) : DenT K (tTest ta) (fTest fa) := fun B G ρ σ H b Q R e k => by
  obtain ⟨x, ea, e⟩ := some_bind e
  exact ha B G ρ σ H x _ R ea fun v H1 G1 x1 r1 => ⟨b, asB_rp r1 e, k H1 G1 x1⟩
theorem den_tb (ha : Den K ta fa) : DenT K (tB ta) (fTest fa) := fun B G ρ σ H b Q R e k => by
  obtain ⟨x, ea, e⟩ := some_bind e
  exact ha B G ρ σ H x _ R ea fun v H1 G1 x1 r1 => ⟨b, asB_rp r1 e, k H1 G1 x1⟩
theorem den_andT (ha : DenT K t f) (hb : DenT K u g) : DenT K (tAnd t u) (fAndT f g) := fun B G ρ σ H b Q R e k => by
  obtain ⟨c, ea, e⟩ := some_bind e
  refine ha B G ρ σ H c _ R ea fun H1 G1 x1 => ?_
  by_cases z : c = true
  · rw [if_pos z] at e ⊢
    exact hb B G1 ρ σ H1 b _ (R.ext x1) e fun H2 G2 x2 => k H2 G2 (x1.trans x2)
  · rw [if_neg z] at e ⊢
    cases e
    exact k H1 G1 x1
theorem den_orT (ha : DenT K t f) (hb : DenT K u g) : DenT K (tOr t u) (fOrT f g) := fun B G ρ σ H b Q R e k => by
  obtain ⟨c, ea, e⟩ := some_bind e
  refine ha B G ρ σ H c _ R ea fun H1 G1 x1 => ?_
  by_cases z : c = true
  · rw [if_pos z] at e ⊢
    cases e
    exact k H1 G1 x1
  · rw [if_neg z] at e ⊢
    exact hb B G1 ρ σ H1 b _ (R.ext x1) e fun H2 G2 x2 => k H2 G2 (x1.trans x2)
theorem den_notT (ha : DenT K t f) : DenT K (tNot t) (fNotT f) := fun B G ρ σ H b Q R e k => by
  obtain ⟨c, ea, e⟩ := Option.map_eq_some_iff.mp e
  subst e
  exact ha B G ρ σ H c _ R ea fun H1 G1 x1 => k H1 G1 x1
theorem den_andV (ha : Den K ta fa) (hb : Den K tb fb) : Den K (tAndV ta tb) (fAndV fa fb) := fun B G ρ σ H d Q R e k => by
  obtain ⟨x, ea, e⟩ := some_bind e
  obtain ⟨c, ec, e⟩ := some_bind e
  refine ha B G ρ σ H x _ R ea fun v H1 G1 x1 r1 => ⟨c, asB_rp r1 ec, ?_⟩
  by_cases z : c = true
  · rw [if_pos z] at e ⊢
    exact hb B G1 ρ σ H1 d _ (R.ext x1) e fun w H2 G2 x2 r2 => k w H2 G2 (x1.trans x2) r2
  · rw [if_neg z] at e ⊢
    cases e
    exact k _ H1 G1 x1 (.bl _)
theorem den_orV (ha : Den K ta fa) (hb : Den K tb fb) : Den K (tOrV ta tb) (fOrV fa fb) := fun B G ρ σ H d Q R e k => by
  obtain ⟨x, ea, e⟩ := some_bind e
  obtain ⟨c, ec, e⟩ := some_bind e
  refine ha B G ρ σ H x _ R ea fun v H1 G1 x1 r1 => ⟨c, asB_rp r1 ec, ?_⟩
  by_cases z : c = true
  · rw [if_pos z] at e ⊢
    cases e
    exact k _ H1 G1 x1 (.bl _)
  · rw [if_neg z] at e ⊢
    exact hb B G1 ρ σ H1 d _ (R.ext x1) e fun w H2 G2 x2 r2 => k w H2 G2 (x1.trans x2) r2
theorem den_notV (ha : Den K ta fa) : Den K (tNotV ta) (fNotV fa) := fun B G ρ σ H d Q R e k => by
  obtain ⟨x, ea, e⟩ := some_bind e
  obtain ⟨c, ec, e⟩ := Option.map_eq_some_iff.mp e
  subst e
  exact ha B G ρ σ H x _ R ea fun v H1 G1 x1 r1 => ⟨c, asB_rp r1 ec, k _ H1 G1 x1 (.bl _)⟩
theorem den_ifE (ht : DenT K t f) (ha : Den K ta fa) (hb : Den K tb fb) : Den K (tIf t ta tb) (fIfE f fa fb) := fun B G ρ σ H d Q R e k => by
  obtain ⟨c, ec, e⟩ := some_bind e
  refine ht B G ρ σ H c _ R ec fun H1 G1 x1 => ?_
  by_cases z : c = true
  · rw [if_pos z] at e ⊢
    exact ha B G1 ρ σ H1 d _ (R.ext x1) e fun w H2 G2 x2 r2 => k w H2 G2 (x1.trans x2) r2
  · rw [if_neg z] at e ⊢
    exact hb B G1 ρ σ H1 d _ (R.ext x1) e fun w H2 G2 x2 r2 => k w H2 G2 (x1.trans x2) r2
theorem den_on : DenO K tNoPart fOn := fun B G ρ σ H o Q R e k => by
  cases e
  exact k H G (.refl R.ex)
theorem den_os (ha : Den K ta fa) : DenO K (tPart ta) (fOs fa) := fun B G ρ σ H o Q R e k => by
  obtain ⟨x, ea, e⟩ := some_bind e
  obtain ⟨i, ei, e⟩ := Option.map_eq_some_iff.mp e
  subst e
  exact ha B G ρ σ H x _ R ea fun v H1 G1 x1 r1 => ⟨i, asI_rp r1 ei, k H1 G1 x1⟩
theorem den_sl {r : V → Option Int → Option Int → Hp → VK → Prop} {g : D → Option Int → Option Int → Option D} {tl th : TO} {fl fh : FO} (hs : SlD K r g) (ha : Den K ta fa) (hl : DenO K tl fl) (hh : DenO K th fh) : Den K (tSl r ta tl th) (fSl g fa fl fh) := fun B G ρ σ H d Q R e k => by
  obtain ⟨x, ea, e⟩ := some_bind e
  obtain ⟨i, ei, e⟩ := some_bind e
  obtain ⟨j, ej, e⟩ := some_bind e
  exact ha B G ρ σ H x _ R ea fun v H1 G1 x1 r1 => hl B G1 ρ σ H1 i _ (R.ext x1) ei fun H2 G2 x2 => hh B G2 ρ σ H2 j _ ((R.ext x1).ext x2) ej fun H3 G3 x3 =>
    hs G3 H3 v x d i j Q x3.gh (r1.mono (x2.gg.trans x3.gg)) e fun v' H' G' x4 r4 => k v' H' G' (((x1.trans x2).trans x3).trans x4) r4
end
end DL
end

section
set_option Elab.async false
set_option linter.all false
set_option maxRecDepth 100000
/-! DL2: operations on trees. -/
namespace DL
open PySem PySem.Spec PyProof.Rows L2
open Evl (Ex)

section
variable {K : PySem.W.Frag} {G G' H H' : Hp}
/-! ### ints -/
def gI0 (g : Int → Int → D) : D → D → Option D
  | .int i, .int j => some (g i j)
  | _, _ => none
def gIc (C : Int → Int → Bool) (g : Int → Int → D) : D → D → Option D
  | .int i, .int j => if C i j = true then some (g i j) else none
  | _, _ => none
theorem opd_I0 {g : Int → Int → V} {g' : Int → Int → D} (h : ∀ i j G, Rp K G (g i j) (g' i j)) : OpD K (rI0 g) (gI0 g') := fun G H x y dx dy d Q e rx ry eg k => by
  cases rx <;> cases ry <;> cases eg
  exact ⟨_, _, rfl, rfl, k _ H G (.refl e) (h _ _ _)⟩
theorem opd_Ic {C : Int → Int → Prop} {C' : Int → Int → Bool} {g : Int → Int → V} {g' : Int → Int → D} (hC : ∀ i j, C' i j = true → C i j) (h : ∀ i j G, Rp K G (g i j) (g' i j)) : OpD K (rI C g) (gIc C' g') := fun G H x y dx dy d Q e rx ry eg k => by
  cases rx <;> cases ry <;> first
    | (simp only [gIc] at eg; done)
    | skip
  all_goals try cases eg
  rename_i i j
  unfold gIc at eg
  simp only at eg
  split at eg
  · rename_i hc
    cases eg
    exact ⟨_, _, rfl, rfl, hC _ _ hc, k _ H G (.refl e) (h _ _ _)⟩
  · cases eg
def gAdd := gI0 fun i j => .int (i + j)
def gSub := gI0 fun i j => .int (i - j)
def gLt := gI0 fun i j => .bl (decide (i < j))
def gLe := gI0 fun i j => .bl (decide (i ≤ j))
def gGt := gI0 fun i j => .bl (decide (j < i))
def gGe := gI0 fun i j => .bl (decide (j ≤ i))
def gAnd := gI0 fun i j => .int (Builtin.bitAnd i j)
def gOr := gI0 fun i j => .int (Builtin.bitOr i j)
def gMod := gIc (fun _ j => decide (0 < j)) fun i j => .int (i % j)
def gDiv := gIc (fun _ j => decide (0 < j ∧ j < 1073741824)) fun i j => .int (i / j)
def gMul := gIc (fun i j => decide ((-(2 ^ 64) < i ∧ i < 2 ^ 64) ∨ (-(2 ^ 64) < j ∧ j < 2 ^ 64))) fun i j => .int (i * j)
def gShr := gIc (fun _ j => decide (0 ≤ j)) fun i j => .int (i / 2 ^ j.toNat)
def gShl := gIc (fun i j => decide (0 ≤ j ∧ j ≤ 1000000 ∧ i.natAbs < 2 ^ 64)) fun i j => .int (i * 2 ^ j.toNat)
theorem opd_add : OpD K (rI0 fun i j => .int (i + j)) gAdd := opd_I0 fun _ _ _ => .int _
theorem opd_sub : OpD K (rI0 fun i j => .int (i - j)) gSub := opd_I0 fun _ _ _ => .int _
theorem opd_lt : OpD K (rI0 fun i j => .bl (decide (i < j))) gLt := opd_I0 fun _ _ _ => .bl _
theorem opd_le : OpD K (rI0 fun i j => .bl (decide (i ≤ j))) gLe := opd_I0 fun _ _ _ => .bl _
theorem opd_gt : OpD K (rI0 fun i j => .bl (decide (j < i))) gGt := opd_I0 fun _ _ _ => .bl _
theorem opd_ge : OpD K (rI0 fun i j => .bl (decide (j ≤ i))) gGe := opd_I0 fun _ _ _ => .bl _
theorem opd_and : OpD K (rI0 fun i j => .int (Builtin.bitAnd i j)) gAnd := opd_I0 fun _ _ _ => .int _
theorem opd_or : OpD K (rI0 fun i j => .int (Builtin.bitOr i j)) gOr := opd_I0 fun _ _ _ => .int _
theorem opd_mod : OpD K (rI (fun _ j => 0 < j) fun i j => .int (i % j)) gMod := opd_Ic (fun _ _ h => of_decide_eq_true h) fun _ _ _ => .int _
theorem opd_div : OpD K (rI CDiv fun i j => .int (i / j)) gDiv := opd_Ic (fun i j h => (of_decide_eq_true h : 0 < j ∧ j < 1073741824)) fun _ _ _ => .int _
theorem opd_mul : OpD K (rI CMul fun i j => .int (i * j)) gMul := opd_Ic (fun i j h => (of_decide_eq_true h : (-(2 ^ 64) < i ∧ i < 2 ^ 64) ∨ (-(2 ^ 64) < j ∧ j < 2 ^ 64))) fun _ _ _ => .int _
theorem opd_shr : OpD K (rI (fun _ j => 0 ≤ j) fun i j => .int (i / 2 ^ j.toNat)) gShr := opd_Ic (fun _ _ h => of_decide_eq_true h) fun _ _ _ => .int _
theorem opd_shl : OpD K (rI CPow fun i j => .int (i * 2 ^ j.toNat)) gShl := opd_Ic (fun i j h => (of_decide_eq_true h : 0 ≤ j ∧ j ≤ 1000000 ∧ i.natAbs < 2 ^ 64)) fun _ _ _ => .int _
def gNeg : D → Option D
  | .int i => some (.int (-i))
  | _ => none
theorem und_neg : UnD K (rU fun i => .int (-i)) gNeg := fun G H x dx d Q e rx eg k => by
  cases rx <;> cases eg
  exact ⟨_, rfl, k _ H G (.refl e) (.int _)⟩
/-! ### == -/
def scalD : D → D → Bool
  | .non, .non => true | .non, .int _ => true | .int _, .non => true | .non, .bl _ => true | .bl _, .non => true | .non, .str _ => true | .str _, .non => true
  | .int _, .int _ => true | .bl _, .bl _ => true | .str _, .str _ => true
  | .int _, .str _ => true | .str _, .int _ => true | .bl _, .str _ => true | .str _, .bl _ => true
  | _, _ => false
def eqSD : D → D → Bool
  | .non, .non => true
  | .int i, .int j => decide (i = j)
  | .bl i, .bl j => decide (i = j)
  | .str i, .str j => decide (i = j)
  | _, _ => false
theorem scal_rp {x y : V} {dx dy : D} (rx : Rp K G x dx) (ry : Rp K G y dy) (h : scalD dx dy = true) : scal x y = true ∧ decide (x = y) = eqSD dx dy := by
  cases rx <;> cases ry <;> first
    | (refine ⟨rfl, ?_⟩; simp [eqSD]; done)
    | (simp [scalD] at h; done)
mutual
def toPy : D → Option PyData
  | .non => some .none
  | .bl b => some (.bool b)
  | .int i => some (.int i)
  | .str x => some (.str x)
  | .lst ds => (toPys ds).map .list
  | .tup ds => (toPys ds).map .tuple
  | _ => none
def toPys : List D → Option (List PyData)
  | [] => some []
  | d :: ds => (toPy d).bind fun p => (toPys ds).bind fun ps => some (p :: ps)
end
mutual
theorem toPy_rp : ∀ {v : V} {d : D} {p : PyData}, Rp K G v d → toPy d = some p → Ex G H → Dp K H v p
  | _, _, _, .non, e, _ => by
    unfold toPy at e
    cases e
    exact .non
  | _, _, _, .bl b, e, _ => by
    unfold toPy at e
    cases e
    exact .bl b
  | _, _, _, .int b, e, _ => by
    unfold toPy at e
    cases e
    exact .int b
  | _, _, _, .str b, e, _ => by
    unfold toPy at e
    cases e
    exact .str b
  | _, _, _, .lst h r, e, x => by
    unfold toPy at e
    obtain ⟨ps, e1, rfl⟩ := Option.map_eq_some_iff.mp e
    exact .lst (.inl (.inl (x _ _ h))) (toPys_rp r e1 x)
  | _, _, _, .tup h r, e, x => by
    unfold toPy at e
    obtain ⟨ps, e1, rfl⟩ := Option.map_eq_some_iff.mp e
    exact .tup (.inl (.inl (x _ _ h))) (toPys_rp r e1 x)
  | _, _, _, .dic _ _ _, e, _ => by
    unfold toPy at e
    cases e
  | _, _, _, .dit _ _ _, e, _ => by
    unfold toPy at e
    cases e
  | _, _, _, .ins _ _ _, e, _ => by
    unfold toPy at e
    cases e
theorem toPys_rp : ∀ {vs : List V} {ds : List D} {ps : List PyData}, Rps K G vs ds → toPys ds = some ps → Ex G H → DpAll K H vs ps
  | _, _, _, .nil, e, _ => by
    unfold toPys at e
    cases e
    exact .nil
  | _, _, _, .cons h r, e, x => by
    unfold toPys at e
    obtain ⟨p, e1, e⟩ := some_bind e
    obtain ⟨ps, e2, e⟩ := some_bind e
    cases e
    exact .cons (toPy_rp h e1 x) (toPys_rp r e2 x)
end
/-- == by what it is of -/
def eqD (x y : D) : Option Bool := if scalD x y = true then some (eqSD x y) else (toPy x).bind fun p => (toPy y).bind fun q => if (SeqAt.shaped p && SeqAt.shaped q) = true then some (PyData.eqv p q) else none
def gEq (x y : D) : Option D := (eqD x y).map .bl
def gNe (x y : D) : Option D := (eqD x y).map fun b => .bl (!b)
def rEQ (K : PySem.W.Frag) : R2 := fun x y H Q => rEq x y H Q ∨ rEqD K x y H Q
def rNE (K : PySem.W.Frag) : R2 := fun x y H Q => rNe x y H Q ∨ rNeD K x y H Q
theorem op_EQ {X : Cx} (hu : X.A.units + 64 < cLine) : OpR X (compareOp .Eq) (rEQ X.K) := OpR.or op_eq (op_eqD hu)
theorem op_NE {X : Cx} (hu : X.A.units + 64 < cLine) : OpR X (compareOp .NotEq) (rNE X.K) := OpR.or op_ne (op_neD hu)
theorem eqD_rp {x y : V} {dx dy : D} {b : Bool} (e : Ex G H) (rx : Rp K G x dx) (ry : Rp K G y dy) (h : eqD dx dy = some b) : (scal x y = true ∧ decide (x = y) = b) ∨ ∃ p q, Dp K H x p ∧ Dp K H y q ∧ SeqAt.shaped p = true ∧ SeqAt.shaped q = true ∧ PyData.eqv p q = b := by
  unfold eqD at h
  split at h
  · rename_i hs
    cases h
    exact .inl (scal_rp rx ry hs)
  · obtain ⟨p, e1, h⟩ := some_bind h
    obtain ⟨q, e2, h⟩ := some_bind h
    split at h
    · rename_i hs
      cases h
      exact .inr ⟨p, q, toPy_rp rx e1 e, toPy_rp ry e2 e, (Bool.and_eq_true_iff.mp hs).1, (Bool.and_eq_true_iff.mp hs).2, rfl⟩
    · cases h
theorem opd_eq : OpD K (rEQ K) gEq := fun G H x y dx dy d Q e rx ry eg k => by
  obtain ⟨b, eb, rfl⟩ := Option.map_eq_some_iff.mp eg
  rcases eqD_rp e rx ry eb with ⟨h1, h2⟩ | ⟨p, q, h1, h2, h3, h4, h5⟩
  · exact .inl ⟨h1, by rw [h2]; exact k _ H G (.refl e) (.bl b)⟩
  · exact .inr ⟨p, q, h1, h2, h3, h4, by rw [h5]; exact k _ H G (.refl e) (.bl b)⟩
theorem opd_ne : OpD K (rNE K) gNe := fun G H x y dx dy d Q e rx ry eg k => by
  obtain ⟨b, eb, rfl⟩ := Option.map_eq_some_iff.mp eg
  rcases eqD_rp e rx ry eb with ⟨h1, h2⟩ | ⟨p, q, h1, h2, h3, h4, h5⟩
  · exact .inl ⟨h1, by rw [h2]; exact k _ H G (.refl e) (.bl _)⟩
  · exact .inr ⟨p, q, h1, h2, h3, h4, by rw [h5]; exact k _ H G (.refl e) (.bl _)⟩
def isNon : D → Bool
  | .non => true
  | _ => false
def gIsN (x y : D) : Option D := if isNon y = true then some (.bl (isNon x)) else none
def gNotN (x y : D) : Option D := if isNon y = true then some (.bl (!isNon x)) else none
theorem isNon_rp {x : V} {dx : D} (rx : Rp K G x dx) : decide (x = .non) = isNon dx := by
  cases rx <;> rfl
theorem opd_isN : OpD K (fun x y H Q => y = .non ∧ Q (.bl (decide (x = .non))) H) gIsN := fun G H x y dx dy d Q e rx ry eg k => by
  unfold gIsN at eg
  split at eg
  · rename_i h
    cases eg
    rw [← isNon_rp ry] at h
    refine ⟨of_decide_eq_true h, ?_⟩
    rw [isNon_rp rx]
    exact k _ H G (.refl e) (.bl _)
  · cases eg
theorem opd_notN : OpD K (fun x y H Q => y = .non ∧ Q (.bl (!decide (x = .non))) H) gNotN := fun G H x y dx dy d Q e rx ry eg k => by
  unfold gNotN at eg
  split at eg
  · rename_i h
    cases eg
    rw [← isNon_rp ry] at h
    refine ⟨of_decide_eq_true h, ?_⟩
    rw [isNon_rp rx]
    exact k _ H G (.refl e) (.bl _)
  · cases eg
/-! ### in -/
def flatD : D → Bool
  | .non => true | .bl _ => true | .int _ => true | .str _ => true
  | _ => false
def eqFD : D → D → Bool
  | .non, .non => true
  | .bl a, .bl b => a == b
  | .bl a, .int b => (if a then 1 else 0) == b
  | .int a, .bl b => a == (if b then 1 else 0)
  | .int a, .int b => a == b
  | .str a, .str b => a == b
  | _, _ => false
theorem flat_rp {x : V} {dx : D} (rx : Rp K G x dx) : flatV x = flatD dx := by
  cases rx <;> rfl
theorem eqF_rp {x y : V} {dx dy : D} (rx : Rp K G x dx) (ry : Rp K G y dy) : eqV x y = eqFD dx dy := by
  cases rx <;> cases ry <;> rfl
theorem flats_rp : ∀ {xs : List V} {ds : List D}, Rps K G xs ds → xs.all flatV = ds.all flatD
  | _, _, .nil => rfl
  | _, _, .cons h r => by rw [List.all_cons, List.all_cons, flat_rp h, flats_rp r]
theorem inV_rp {x : V} {dx : D} (rx : Rp K G x dx) : ∀ {xs : List V} {ds : List D}, Rps K G xs ds → inV x xs = ds.any fun y => eqFD y dx
  | _, _, .nil => rfl
  | _, _, .cons h r => by
    have z := inV_rp rx r
    unfold inV at z ⊢
    rw [List.any_cons, List.any_cons, eqF_rp h rx, z]
def seqD : D → Option (List D)
  | .lst ds => some ds
  | .tup ds => some ds
  | _ => none
theorem seqD_rp {y : V} {dy : D} {ds : List D} (ry : Rp K G y dy) (h : seqD dy = some ds) (e : Ex G H) : ∃ p xs, y = .ref p ∧ (SqL K H p xs ∨ SqT K H p xs) ∧ Rps K G xs ds := by
  cases ry <;> cases h
  · rename_i a xs h1 h2
    exact ⟨a, xs, rfl, .inl (.inl (.inl (e _ _ h1))), h2⟩
  · rename_i a xs h1 h2
    exact ⟨a, xs, rfl, .inr (.inl (.inl (e _ _ h1))), h2⟩
def gIn (neg : Bool) (x y : D) : Option D := (seqD y).bind fun ds => if (flatD x && ds.all flatD) = true then some (.bl (if neg then !(ds.any fun z => eqFD z x) else ds.any fun z => eqFD z x)) else none
theorem opd_in {neg : Bool} : OpD K (rIn K neg) (gIn neg) := fun G H x y dx dy d Q e rx ry eg k => by
  obtain ⟨ds, e1, eg⟩ := some_bind eg
  split at eg
  · rename_i hf
    cases eg
    obtain ⟨p, xs, rfl, hp, r⟩ := seqD_rp ry e1 e
    obtain ⟨h1, h2⟩ := Bool.and_eq_true_iff.mp hf
    refine ⟨p, xs, rfl, hp, by rw [flat_rp rx]; exact h1, by rw [flats_rp r]; exact h2, ?_⟩
    rw [inV_rp rx r]
    exact k _ H G (.refl e) (.bl _)
  · cases eg
/-- a tree in a list of trees -/
def gInD (neg : Bool) (x y : D) : Option D := match y with
  | .lst ds => (toPy x).bind fun p => (toPys ds).bind fun ps => if (SeqAt.shaped p && SeqAt.shaped (.list ps)) = true then some (.bl (if neg then !(ps.any fun z => PyData.eqv z p) else ps.any fun z => PyData.eqv z p)) else none
  | _ => none
theorem gInD_rp {x y : V} {dx dy : D} {d : D} {neg : Bool} (e : Ex G H) (rx : Rp K G x dx) (ry : Rp K G y dy) (eg : gInD neg dx dy = some d) : ∃ p ps, Dp K H x p ∧ Dp K H y (.list ps) ∧ SeqAt.shaped p = true ∧ SeqAt.shaped (.list ps) = true ∧ d = .bl (if neg then !(ps.any fun z => PyData.eqv z p) else ps.any fun z => PyData.eqv z p) := by
  cases ry <;> first
    | (unfold gInD at eg; cases eg; done)
    | skip
  rename_i a xs ds h1 h2
  unfold gInD at eg
  simp only at eg
  obtain ⟨p, e1, eg⟩ := some_bind eg
  obtain ⟨ps, e2, eg⟩ := some_bind eg
  split at eg
  · rename_i hs
    cases eg
    exact ⟨p, ps, toPy_rp rx e1 e, .lst (.inl (.inl (e _ _ h1))) (toPys_rp h2 e2 e), (Bool.and_eq_true_iff.mp hs).1, (Bool.and_eq_true_iff.mp hs).2, rfl⟩
  · cases eg
theorem opd_inD : OpD K (rInD K) (gInD false) := fun G H x y dx dy d Q e rx ry eg k => by
  obtain ⟨p, ps, h1, h2, h3, h4, rfl⟩ := gInD_rp e rx ry eg
  exact ⟨p, ps, h1, h2, h3, h4, k _ H G (.refl e) (.bl _)⟩
theorem opd_notInD : OpD K (rNotInD K) (gInD true) := fun G H x y dx dy d Q e rx ry eg k => by
  obtain ⟨p, ps, h1, h2, h3, h4, rfl⟩ := gInD_rp e rx ry eg
  exact ⟨p, ps, h1, h2, h3, h4, k _ H G (.refl e) (.bl _)⟩
/-- a sign in a text -/
def gInS (x y : D) : Option D := match x, y with
  | .str c, .str z => if c.cps.size = 1 then some (.bl (decide (c.cps.toList.headD 0 ∈ z.cps.toList))) else none
  | _, _ => none
theorem opd_inS : OpD K rInS gInS := fun G H x y dx dy d Q e rx ry eg k => by
  cases rx <;> cases ry <;> first
    | (unfold gInS at eg; cases eg; done)
    | skip
  rename_i c z
  unfold gInS at eg
  simp only at eg
  split at eg
  · rename_i h
    cases eg
    obtain ⟨⟨l⟩⟩ := c
    cases l with
    | nil => cases h
    | cons a r =>
      cases r with
      | nil => exact ⟨a, z, rfl, rfl, k _ H G (.refl e) (.bl _)⟩
      | cons b r => simp at h
  · cases eg
/-! ### + of texts, lists, tuples -/
def gCatS (x y : D) : Option D := match x, y with
  | .str i, .str j => if i.length + j.length ≤ 100000 then some (.str (i ++ j)) else none
  | _, _ => none
theorem opd_catS : OpD K (fun x y H Q => ∃ i j, x = .str i ∧ y = .str j ∧ i.length + j.length ≤ sizeLine ∧ Q (.str (i ++ j)) H) gCatS := fun G H x y dx dy d Q e rx ry eg k => by
  cases rx <;> cases ry <;> first
    | (unfold gCatS at eg; cases eg; done)
    | skip
  unfold gCatS at eg
  simp only at eg
  split at eg
  · rename_i h
    cases eg
    exact ⟨_, _, rfl, rfl, Nat.le_trans h (by decide), k _ H G (.refl e) (.str _)⟩
  · cases eg
def gCatL (x y : D) : Option D := match x, y with
  | .lst i, .lst j => if i.length + j.length ≤ 100000 then some (.lst (i ++ j)) else none
  | _, _ => none
theorem opd_catL : OpD K rCat gCatL := fun G H x y dx dy d Q e rx ry eg k => by
  cases rx <;> cases ry <;> first
    | (unfold gCatL at eg; cases eg; done)
    | skip
  rename_i a xs ds h1 r1 b ys es h2 r2
  unfold gCatL at eg
  simp only at eg
  split at eg
  · rename_i h
    cases eg
    refine ⟨a, b, xs, ys, rfl, rfl, e _ _ h1, e _ _ h2, ?_, fun p np => k _ _ _ (.new e np) (.lst upd_same ((r1.append r2).mono (Ext.new e np).gg))⟩
    rw [r1.length, r2.length]
    exact Nat.le_trans h (by decide)
  · cases eg
/-! ### items, slices -/
theorem atI_rp {xs : List V} {ds : List D} {i : Int} {d : D} (r : Rps K G xs ds) (h : atI ds i = some d) : ∃ v, atI xs i = some v ∧ Rp K G v d := by
  unfold atI at h ⊢
  obtain ⟨j, e1, e2⟩ := some_bind h
  rw [r.length, e1]
  exact r.get e2
def gIxL (x y : D) : Option D := match x, y with
  | .lst ds, .int i => atI ds i
  | _, _ => none
def gIxT (x y : D) : Option D := match x, y with
  | .tup ds, .int i => atI ds i
  | _, _ => none
def gIxS (x y : D) : Option D := match x, y with
  | .str z, .int i => if z.length ≤ 100000 then (atI z.cps.toList i).map fun c => .str ⟨#[c]⟩ else none
  | _, _ => none
theorem opd_ixL : OpD K (rIxL K) gIxL := fun G H x y dx dy d Q e rx ry eg k => by
  cases rx <;> cases ry <;> first
    | (unfold gIxL at eg; cases eg; done)
    | skip
  rename_i a xs ds h1 r1 i
  obtain ⟨v, h2, r2⟩ := atI_rp r1 (show atI ds i = some d from eg)
  exact ⟨a, xs, i, v, rfl, rfl, .inl (.inl (e _ _ h1)), h2, k _ H G (.refl e) r2⟩
theorem opd_ixT : OpD K (rIxT K) gIxT := fun G H x y dx dy d Q e rx ry eg k => by
  cases rx <;> cases ry <;> first
    | (unfold gIxT at eg; cases eg; done)
    | skip
  rename_i a xs ds h1 r1 i
  obtain ⟨v, h2, r2⟩ := atI_rp r1 (show atI ds i = some d from eg)
  exact ⟨a, xs, i, v, rfl, rfl, .inl (.inl (e _ _ h1)), h2, k _ H G (.refl e) r2⟩
theorem opd_ixS : OpD K rIxS gIxS := fun G H x y dx dy d Q e rx ry eg k => by
  cases rx <;> cases ry <;> first
    | (unfold gIxS at eg; cases eg; done)
    | skip
  rename_i z i
  unfold gIxS at eg
  simp only at eg
  split at eg
  · rename_i h
    obtain ⟨c, h2, rfl⟩ := Option.map_eq_some_iff.mp eg
    exact ⟨z, i, c, rfl, rfl, Nat.le_trans h (by decide), h2, k _ H G (.refl e) (.str _)⟩
  · cases eg
def cutD (ds : List D) (lo hi : Option Int) : List D := (ds.drop (HT.sIx ds.length 0 lo)).take (HT.sIx ds.length ds.length hi - HT.sIx ds.length 0 lo)
theorem cut_rp {xs : List V} {ds : List D} {lo hi : Option Int} (r : Rps K G xs ds) : Rps K G (cutV xs lo hi) (cutD ds lo hi) := by
  unfold cutV cutD
  rw [r.length]
  exact (r.drop _).take _
def gSlL (x : D) (lo hi : Option Int) : Option D := match x with
  | .lst ds => some (.lst (cutD ds lo hi))
  | _ => none
theorem sld_list : SlD K (rSlL K) gSlL := fun G H x dx d lo hi Q e rx eg k => by
  cases rx <;> cases eg
  rename_i a xs ds h1 r1
  exact ⟨a, xs, rfl, .inl (.inl (e _ _ h1)), fun p np => k _ _ _ (.new e np) (.lst upd_same ((cut_rp r1).mono (Ext.new e np).gg))⟩
def gSlT (x : D) (lo hi : Option Int) : Option D := match x with
  | .tup ds => some (.tup (cutD ds lo hi))
  | _ => none
theorem sld_tup : SlD K (rSlA K) gSlT := fun G H x dx d lo hi Q e rx eg k => by
  cases rx <;> cases eg
  rename_i a xs ds h1 r1
  refine ⟨a, xs, rfl, .inl (.inl (e _ _ h1)), fun hw => k _ H G (.refl e) ?_, fun _ p np => k _ _ _ (.new e np) (.tup upd_same ((cut_rp r1).mono (Ext.new e np).gg))⟩
  have z : cutD ds lo hi = ds := by
    unfold cutD
    rw [← r1.length, hw.1, hw.2, List.drop_zero, Nat.sub_zero, r1.length, List.take_length]
  rw [z]
  exact .tup h1 r1
def gSlS (x : D) (lo hi : Option Int) : Option D := match x with
  | .str z => if z.length ≤ 100000 then some (.str (cutS z lo hi)) else none
  | _ => none
theorem sld_str : SlD K rSlS gSlS := fun G H x dx d lo hi Q e rx eg k => by
  cases rx <;> first
    | (unfold gSlS at eg; cases eg; done)
    | skip
  unfold gSlS at eg
  simp only at eg
  split at eg
  · rename_i h
    cases eg
    exact ⟨_, rfl, Nat.le_trans h (by decide), k _ H G (.refl e) (.str _)⟩
  · cases eg
/-! ### len, list, tuple, all, any, isinstance -/
def gLenQ : List D → Option D
  | [x] => (seqD x).map fun ds => .int (ds.length : Nat)
  | _ => none
theorem cad_lenQ : CaD K (fun xs H Q => ∃ p ys, xs = [.ref p] ∧ (SqL K H p ys ∨ SqT K H p ys) ∧ Q (.int ys.length) H) gLenQ := fun G H xs ds d Q e r eg k => by
  cases r with
  | nil => cases eg
  | cons rx rt =>
    cases rt with
    | cons _ _ => cases eg
    | nil =>
      obtain ⟨ds, e1, rfl⟩ := Option.map_eq_some_iff.mp eg
      obtain ⟨p, ys, rfl, hp, r⟩ := seqD_rp rx e1 e
      refine ⟨p, ys, rfl, hp, ?_⟩
      rw [r.length]
      exact k _ H G (.refl e) (.int _)
def gLenS : List D → Option D
  | [.str z] => if z.length ≤ 100000 then some (.int (z.length : Nat)) else none
  | _ => none
theorem cad_lenS : CaD K (fun xs H Q => ∃ z, xs = [.str z] ∧ z.length ≤ sizeLine ∧ Q (.int z.length) H) gLenS := fun G H xs ds d Q e r eg k => by
  unfold gLenS at eg
  split at eg
  · rename_i z
    split at eg
    · rename_i h
      cases eg
      cases r with
      | cons rx rt =>
        cases rx
        cases rt
        exact ⟨z, rfl, Nat.le_trans h (by decide), k _ H G (.refl e) (.int _)⟩
    · cases eg
  · cases eg
def gLenD : List D → Option D
  | [.dic kvs] => some (.int (kvs.length : Nat))
  | _ => none
theorem cad_lenD : CaD K (fun xs H Q => ∃ a kvs, xs = [V.ref a] ∧ H a = some (.dK kvs) ∧ Q (.int kvs.length) H) gLenD := fun G H xs ds d Q e r eg k => by
  unfold gLenD at eg
  split at eg
  · cases eg
    cases r with
    | cons rx rt =>
      cases rx
      cases rt
      rename_i a kvs h1 h2 h3
      refine ⟨a, kvs, rfl, e _ _ h1, ?_⟩
      have z := congrArg List.length h2
      rw [List.length_map, List.length_map] at z
      rw [z]
      exact k _ H G (.refl e) (.int _)
  · cases eg
def gListOf : List D → Option D
  | [x] => (seqD x).map .lst
  | _ => none
theorem cad_list : CaD K (fun xs H Q => ∃ p ys, xs = [.ref p] ∧ (SqL K H p ys ∨ SqT K H p ys) ∧ ∀ l, H l = none → Q (.ref l) (upd H l (.lst ys))) gListOf := fun G H xs ds d Q e r eg k => by
  cases r with
  | nil => cases eg
  | cons rx rt =>
    cases rt with
    | cons _ _ => cases eg
    | nil =>
      obtain ⟨ds, e1, rfl⟩ := Option.map_eq_some_iff.mp eg
      obtain ⟨p, ys, rfl, hp, r⟩ := seqD_rp rx e1 e
      exact ⟨p, ys, rfl, hp, fun l nl => k _ _ _ (.new e nl) (.lst upd_same (r.mono (Ext.new e nl).gg))⟩
def gTupOf : List D → Option D
  | [x] => (seqD x).map .tup
  | _ => none
theorem cad_tuple : CaD K (fun xs H Q => ∃ p ys, xs = [.ref p] ∧ ((SqL K H p ys ∧ ∀ l, H l = none → Q (.ref l) (upd H l (.tup ys))) ∨ (SqT K H p ys ∧ Q (.ref p) H))) gTupOf := fun G H xs ds d Q e r eg k => by
  cases r with
  | nil => cases eg
  | cons rx rt =>
    cases rt with
    | cons _ _ => cases eg
    | nil =>
      obtain ⟨ds, e1, rfl⟩ := Option.map_eq_some_iff.mp eg
      cases rx <;> cases e1
      · rename_i a xs h1 r1
        exact ⟨a, xs, rfl, .inl ⟨.inl (.inl (e _ _ h1)), fun l nl => k _ _ _ (.new e nl) (.tup upd_same (r1.mono (Ext.new e nl).gg))⟩⟩
      · rename_i a xs h1 r1
        exact ⟨a, xs, rfl, .inr ⟨.inl (.inl (e _ _ h1)), k _ _ _ (.refl e) (.tup h1 r1)⟩⟩
def bools : List D → Option (List Bool)
  | [] => some []
  | .bl b :: r => (bools r).map (b :: ·)
  | _ => none
theorem bools_rp : ∀ {xs : List V} {ds : List D} {bs : List Bool}, Rps K G xs ds → bools ds = some bs → xs = bs.map V.bl
  | _, _, _, .nil, e => by
    cases e
    rfl
  | _, _, _, .cons h r, e => by
    cases h <;> first
      | (unfold bools at e; cases e; done)
      | skip
    unfold bools at e
    obtain ⟨bs, e1, rfl⟩ := Option.map_eq_some_iff.mp e
    rw [bools_rp r e1]
    rfl
def gAll : List D → Option D
  | [.lst ds] => (bools ds).map fun bs => .bl (bs.all id)
  | _ => none
def gAny : List D → Option D
  | [.lst ds] => (bools ds).map fun bs => .bl (bs.any id)
  | _ => none
theorem cad_all : CaD K (rAll K) gAll := fun G H xs ds d Q e r eg k => by
  unfold gAll at eg
  split at eg
  · obtain ⟨bs, e1, rfl⟩ := Option.map_eq_some_iff.mp eg
    cases r with
    | cons rx rt =>
      cases rx
      cases rt
      rename_i a xs h1 r1
      refine ⟨a, bs, rfl, ?_, k _ H G (.refl e) (.bl _)⟩
      rw [← bools_rp r1 e1]
      exact .inl (.inl (e _ _ h1))
  · cases eg
theorem cad_any : CaD K (rAny K) gAny := fun G H xs ds d Q e r eg k => by
  unfold gAny at eg
  split at eg
  · obtain ⟨bs, e1, rfl⟩ := Option.map_eq_some_iff.mp eg
    cases r with
    | cons rx rt =>
      cases rx
      cases rt
      rename_i a xs h1 r1
      refine ⟨a, bs, rfl, ?_, k _ H G (.refl e) (.bl _)⟩
      rw [← bools_rp r1 e1]
      exact .inl (.inl (e _ _ h1))
  · cases eg
/-- the built-in class of a tree -/
def clsD : D → Option String
  | .non => some "NoneType" | .bl _ => some "bool" | .int _ => some "int" | .str _ => some "str" | .lst _ => some "list" | .tup _ => some "tuple" | .dic _ => some "dict" | .dit _ => none
  | .ins _ _ => none
theorem cls_rp {x : V} {dx : D} {c : String} (rx : Rp K G x dx) (h : clsD dx = some c) (e : Ex G H) : TyX K H x (.type c) := by
  cases rx <;> cases h
  · exact .base .non
  · exact .base (.bl _)
  · exact .base (.int _)
  · exact .base (.str _)
  · rename_i h1 _
    exact .base (.lst (e _ _ h1))
  · rename_i h1 _
    exact .base (.tup (e _ _ h1))
  · rename_i h1 _ _
    exact .base (.dK (e _ _ h1))
/-- isinstance by the two classes' names -/
def isiD (a b : String) : Option Bool :=
  if a = b then some true else if (a = "bool" ∧ b = "int") then some true else if (["NoneType", "bool", "int", "str", "list", "tuple", "dict"].contains a && ["bool", "int", "str", "list", "tuple", "dict"].contains b) = true then some false else none
theorem isiD_ok : (["NoneType", "bool", "int", "str", "list", "tuple", "dict"].all fun a => ["bool", "int", "str", "list", "tuple", "dict"].all fun b => decide (isiD a b = kitB a b)) = true := by decide +kernel
def fIsi (c : String) (fa : FE) : FE := fun ρ => (fa ρ).bind fun x => (clsD x).bind fun a => if (["bool", "int", "str", "list", "tuple", "dict"].contains c) = true then (isiD a c).map .bl else none
theorem den_isi {ta : TE} {fa : FE} {c : String} (ha : Den K ta fa) : Den K (tCB (rIsi K) (tCons ta (tCons (tC (.ty c)) tNil))) (fIsi c fa) := fun B G ρ σ H d Q R e k => by
  obtain ⟨x, ea, e⟩ := some_bind e
  obtain ⟨a, ec, e⟩ := some_bind e
  split at e
  · rename_i hc
    obtain ⟨b, eb, rfl⟩ := Option.map_eq_some_iff.mp e
    refine ha B G ρ σ H x _ R ea fun v H1 G1 x1 r1 => ?_
    have hk : kitB a c = some b := by
      have ha : a ∈ ["NoneType", "bool", "int", "str", "list", "tuple", "dict"] := by
        cases x <;> cases ec <;> decide
      have z := List.all_eq_true.mp (List.all_eq_true.mp isiD_ok a ha) c (List.contains_iff_mem.mp hc)
      rw [← of_decide_eq_true z]
      exact eb
    exact ⟨v, .ty c, .type a, .type c, b, rfl, .ty c, cls_rp r1 ec x1.gh, kit_ty hk, k _ H1 G1 x1 (.bl b)⟩
  · cases e
/-! ### dicts -/
def keyD : D → Option Key
  | .int i => some (.inl i)
  | .str x => some (.inr x)
  | _ => none
theorem keyD_rp {x : V} {dx : D} {k : Key} (rx : Rp K G x dx) (h : keyD dx = some k) : x = kV k := by
  cases rx <;> cases h <;> rfl
def keysD : List D → Option (List Key)
  | [] => some []
  | d :: r => (keyD d).bind fun k => (keysD r).bind fun ks => some (k :: ks)
theorem keysD_rp : ∀ {xs : List V} {ds : List D} {ks : List Key}, Rps K G xs ds → keysD ds = some ks → xs = ks.map kV
  | _, _, _, .nil, e => by
    cases e
    rfl
  | _, _, _, .cons h r, e => by
    unfold keysD at e
    obtain ⟨k, e1, e⟩ := some_bind e
    obtain ⟨ks, e2, e⟩ := some_bind e
    cases e
    rw [keyD_rp h e1, keysD_rp r e2]
    rfl
def valD {κ : Type} [DecidableEq κ] (kvs : List (κ × D)) (k : κ) : Option D := (kvs.find? fun kv => decide (kv.1 = k)).map (·.2)
theorem val_rp {κ : Type} [DecidableEq κ] : ∀ {kvs : List (κ × V)} {ds : List (κ × D)} {k : κ}, kvs.map (·.1) = ds.map (·.1) → Rps K G (kvs.map (·.2)) (ds.map (·.2)) → (valD ds k = none ∧ valV kvs k = none) ∨ ∃ v d, valD ds k = some d ∧ valV kvs k = some v ∧ Rp K G v d
  | [], [], _, _, _ => .inl ⟨rfl, rfl⟩
  | [], _ :: _, _, h, _ => by cases h
  | _ :: _, [], _, h, _ => by cases h
  | (k1, v) :: kvs, (k2, d) :: ds, k, h, r => by
    injection h with h1 h2
    have h1 : k1 = k2 := h1
    subst h1
    cases r with
    | cons rv r =>
      unfold valD valV
      rw [List.find?_cons, List.find?_cons]
      by_cases z : k1 = k
      · subst z
        simp only [decide_true]
        exact .inr ⟨v, d, rfl, rfl, rv⟩
      · simp only [decide_eq_false z]
        exact val_rp h2 r
/-- what a dict has at a key -/
def dgetD (x y : D) : Option (Option D) := match x with
  | .dic kvs => (keyD y).map (valD kvs)
  | .dit kvs => match y with
    | .tup ks => (keysD ks).map (valD kvs)
    | _ => none
  | _ => none
theorem dget_rp {x y : V} {dx dy : D} {o : Option D} (rx : Rp K G x dx) (ry : Rp K G y dy) (h : dgetD dx dy = some o) (e : Ex G H) : ∃ a ov, x = .ref a ∧ DGet H a y ov ∧ ((o = none ∧ ov = none) ∨ ∃ v d, o = some d ∧ ov = some v ∧ Rp K G v d) := by
  cases rx <;> first
    | (unfold dgetD at h; cases h; done)
    | skip
  · rename_i a kvs ds h1 h2 h3
    unfold dgetD at h
    obtain ⟨k, e1, e2⟩ := Option.map_eq_some_iff.mp h
    obtain rfl := keyD_rp ry e1
    refine ⟨a, _, rfl, .k (e _ _ h1), ?_⟩
    rcases val_rp (k := k) h2 h3 with ⟨z1, z2⟩ | ⟨v, d, z1, z2, z3⟩
    · exact .inl ⟨e2.symm.trans z1, z2⟩
    · exact .inr ⟨v, d, e2.symm.trans z1, z2, z3⟩
  · rename_i a kvs ds h1 h2 h3
    cases ry <;> first
      | (unfold dgetD at h; cases h; done)
      | skip
    rename_i b xs es h4 h5
    unfold dgetD at h
    obtain ⟨k, e1, e2⟩ := Option.map_eq_some_iff.mp h
    obtain rfl := keysD_rp h5 e1
    refine ⟨a, _, rfl, .inr ⟨_, _, _, rd_mono e h1, rfl, e _ _ h4, rfl⟩, ?_⟩
    rcases val_rp (k := k) h2 h3 with ⟨z1, z2⟩ | ⟨v, d, z1, z2, z3⟩
    · exact .inl ⟨e2.symm.trans z1, z2⟩
    · exact .inr ⟨v, d, e2.symm.trans z1, z2, z3⟩
def gDGet (x y : D) : Option D := (dgetD x y).bind id
def gDIn (y x : D) : Option D := (dgetD x y).map fun o => .bl o.isSome
theorem den_dget {td ty : TE} {fd fy : FE} (hd : Den K td fd) (hy : Den K ty fy) : Den K (tDGet td ty) (fOp gDGet fd fy) := fun B G ρ σ H d Q R e k => by
  obtain ⟨x, ea, e⟩ := some_bind e
  obtain ⟨y, eb, e⟩ := some_bind e
  obtain ⟨o, eo, e⟩ := some_bind e
  refine hd B G ρ σ H x _ R ea fun v H1 G1 x1 r1 => hy B G1 ρ σ H1 y _ (R.ext x1) eb fun w H2 G2 x2 r2 => ?_
  obtain ⟨a, ov, rfl, g, z | ⟨v, d', z1, z2, z3⟩⟩ := dget_rp (r1.mono x2.gg) r2 eo x2.gh
  · rw [z.1] at e
    cases e
  · subst z1 z2
    cases e
    exact ⟨a, v, rfl, g, k _ H2 G2 (x1.trans x2) z3⟩
theorem den_din {td ty : TE} {fd fy : FE} (hy : Den K ty fy) (hd : Den K td fd) : Den K (tDIn ty td) (fOp gDIn fy fd) := fun B G ρ σ H d Q R e k => by
  obtain ⟨y, eb, e⟩ := some_bind e
  obtain ⟨x, ea, e⟩ := some_bind e
  obtain ⟨o, eo, rfl⟩ := Option.map_eq_some_iff.mp e
  refine hy B G ρ σ H y _ R eb fun w H1 G1 x1 r1 => hd B G1 ρ σ H1 x _ (R.ext x1) ea fun v H2 G2 x2 r2 => ?_
  obtain ⟨a, ov, rfl, g, z | ⟨v, d', z1, z2, z3⟩⟩ := dget_rp r2 (r1.mono x2.gg) eo x2.gh
  · obtain ⟨rfl, rfl⟩ := z
    exact ⟨a, _, rfl, g, k _ H2 G2 (x1.trans x2) (.bl _)⟩
  · subst z1 z2
    exact ⟨a, _, rfl, g, k _ H2 G2 (x1.trans x2) (.bl _)⟩
/-! ### truth -/
def truD : D → Option Bool
  | .non => some false
  | .bl b => some b
  | .int i => some (i != 0)
  | .str y => if y.length ≤ 100000 then some ((y.length : Int) != 0) else none
  | .lst ds => some (!ds.isEmpty)
  | .tup ds => some (!ds.isEmpty)
  | .dic kvs => some (!kvs.isEmpty)
  | _ => none
theorem empty_rp {xs : List V} {ds : List D} (r : Rps K G xs ds) : xs.isEmpty = ds.isEmpty := by
  cases r <;> rfl
theorem tru_rp {x : V} {dx : D} {b : Bool} (rx : Rp K G x dx) (h : truD dx = some b) (e : Ex G H) : TruV K x H b := by
  cases rx <;> first
    | (unfold truD at h; cases h; first | rfl | done)
    | skip
  · unfold truD at h
    simp only at h
    split at h
    · rename_i hz
      cases h
      exact ⟨Nat.le_trans hz (by decide), rfl⟩
    · cases h
  · rename_i a xs ds h1 r
    unfold truD at h
    cases h
    exact .inl ⟨xs, .inl (.inl (e _ _ h1)), by rw [empty_rp r]⟩
  · rename_i a xs ds h1 r
    unfold truD at h
    cases h
    exact .inr (.inl ⟨xs, .inl (.inl (e _ _ h1)), by rw [empty_rp r]⟩)
  · rename_i a kvs ds h1 h2 r
    unfold truD at h
    cases h
    refine .inr (.inr ⟨kvs, e _ _ h1, ?_⟩)
    cases kvs <;> cases ds <;> first | rfl | cases h2
def fOrU (a b : FE) : FE := fun ρ => (a ρ).bind fun x => (truD x).bind fun c => if c = true then some x else b ρ
theorem den_orU {ta tb : TE} {fa fb : FE} (ha : Den K ta fa) (hb : Den K tb fb) : Den K (tOrT K ta tb) (fOrU fa fb) := fun B G ρ σ H d Q R e k => by
  obtain ⟨x, ea, e⟩ := some_bind e
  obtain ⟨c, ec, e⟩ := some_bind e
  refine ha B G ρ σ H x _ R ea fun v H1 G1 x1 r1 => ⟨c, tru_rp r1 ec x1.gh, ?_⟩
  by_cases z : c = true
  · rw [if_pos z] at e ⊢
    cases e
    exact k v H1 G1 x1 r1
  · rw [if_neg z] at e ⊢
    exact hb B G1 ρ σ H1 d _ (R.ext x1) e fun w H2 G2 x2 r2 => k w H2 G2 (x1.trans x2) r2
/-! ### a < b < c -/
def fChain (g g' : D → D → Option D) (a b c : FE) : FE := fun ρ => (a ρ).bind fun x => (b ρ).bind fun y => (g x y).bind fun z => (asB z).bind fun k => if k = true then (c ρ).bind fun w => g' y w else some (.bl false)
theorem den_chain {r r' : R2} {g g' : D → D → Option D} {ta tb tc : TE} {fa fb fc : FE} (ho : OpD K r g) (ho' : OpD K r' g') (ha : Den K ta fa) (hb : Den K tb fb) (hc : Den K tc fc) : Den K (tChain r r' ta tb tc) (fChain g g' fa fb fc) := fun B G ρ σ H d Q R e k => by
  obtain ⟨x, ea, e⟩ := some_bind e
  obtain ⟨y, eb, e⟩ := some_bind e
  obtain ⟨z, ez, e⟩ := some_bind e
  obtain ⟨c, ec, e⟩ := some_bind e
  refine ha B G ρ σ H x _ R ea fun v H1 G1 x1 r1 => hb B G1 ρ σ H1 y _ (R.ext x1) eb fun w H2 G2 x2 r2 => ho G2 H2 v w x y z _ x2.gh (r1.mono x2.gg) r2 ez fun v' H3 G3 x3 r3 => ⟨c, asB_rp r3 ec, ?_⟩
  by_cases q : c = true
  · rw [if_pos q] at e ⊢
    obtain ⟨u, eu, e⟩ := some_bind e
    exact hc B G3 ρ σ H3 u _ (((R.ext x1).ext x2).ext x3) eu fun w' H4 G4 x4 r4 => ho' G4 H4 w w' y u d Q x4.gh (r2.mono (x3.gg.trans x4.gg)) r4 e fun v5 H5 G5 x5 r5 => k v5 H5 G5 ((((x1.trans x2).trans x3).trans x4).trans x5) r5
  · rw [if_neg q] at e ⊢
    cases e
    exact k _ H3 G3 ((x1.trans x2).trans x3) (.bl _)
end
end DL
end

section
set_option Elab.async false
set_option linter.all false
set_option maxRecDepth 100000
/-! DL3: what is walked, comprehensions, calls, statements, defs. -/
namespace DL
open PySem PySem.Spec PyProof.Rows L2
open Evl (Ex)

/-! ### what is walked -/
/-- the walk J gives the trees ds, one a turn -/
def Src (K : PySem.W.Frag) (J : It) (G : Hp) (ds : List D) : Prop := Walk J ds.length (fun H => Ex G H) (fun i H x H' => ∃ d, ds[i]? = some d ∧ ∀ Gi, Ex G Gi → Ex Gi H → ∃ G', Ext Gi H G' H' ∧ Rp K G' x d)
def DenI (K : PySem.W.Frag) (wi : TI) (fs : FA) : Prop := ∀ (B G : Hp) (ρ : En) (σ : L2.St) (H : Hp) (ds : List D) (R : It → Hp → Prop), Rel K B G ρ σ H → fs ρ = some ds → (∀ J H1 G1, Ext G H G1 H1 → Src K J G1 ds → R J H1) → wi σ H R
section
variable {K : PySem.W.Frag} {B G G' H H' : Hp} {ta te : TE} {fa fe : FE} {tl : TA} {fl : FA}
theorem Src.mono {J : It} {ds : List D} (s : Src K J G ds) (e : Ex G G') : Src K J G' ds :=
  Walk.mono s (fun H h => e.trans h) fun i H x H' hi h ⟨d, e1, y⟩ => ⟨d, e1, fun Gi g1 g2 => y Gi (e.trans g1) g2⟩
theorem src_at {J : It} {xs : List V} {ds : List D} {S : Hp → Prop} (w : Walk J xs.length S (YAt xs)) (hS : ∀ H, Ex G H → S H) (r : Rps K G xs ds) : Src K J G ds := by
  unfold Src
  rw [← r.length]
  refine Walk.mono w hS fun i H x H' hi h ⟨e, y⟩ => ?_
  subst e
  obtain ⟨d, e1, r1⟩ := r.getV y
  exact ⟨d, e1, fun Gi g1 g2 => ⟨Gi, .refl g2, r1.mono g1⟩⟩
def lstOf : D → Option (List D)
  | .lst ds => some ds
  | _ => none
def tupOf : D → Option (List D)
  | .tup ds => some ds
  | _ => none
def iL (fa : FE) : FA := fun ρ => (fa ρ).bind lstOf
def iT (fa : FE) : FA := fun ρ => (fa ρ).bind tupOf
theorem den_iL (ha : Den K ta fa) : DenI K (iList K ta) (iL fa) := fun B G ρ σ H ds R Re e k => by
  obtain ⟨x, ea, e⟩ := some_bind e
  refine ha B G ρ σ H x _ Re ea fun v H1 G1 x1 r1 => ?_
  cases r1 <;> cases e
  rename_i a xs h1 r1
  exact ⟨a, rfl, ⟨xs, .inl (.inl (x1.gh _ _ h1))⟩, k _ H1 G1 x1 (src_at (walk_list (K := K)) (fun H h => .inl (.inl (h _ _ h1))) r1)⟩
theorem den_iT (ha : Den K ta fa) : DenI K (iTup K ta) (iT fa) := fun B G ρ σ H ds R Re e k => by
  obtain ⟨x, ea, e⟩ := some_bind e
  refine ha B G ρ σ H x _ Re ea fun v H1 G1 x1 r1 => ?_
  cases r1 <;> cases e
  rename_i a xs h1 r1
  exact ⟨a, rfl, ⟨xs, .inl (.inl (x1.gh _ _ h1))⟩, k _ H1 G1 x1 (src_at (walk_tup (K := K)) (fun H h => .inl (.inl (h _ _ h1))) r1)⟩
/-- lo, lo + 1, .. -/
def upTo (lo : Int) (n : Nat) : List D := (List.range n).map fun (i : Nat) => .int (lo + (i : Int))
theorem src_fn {J : It} {n : Nat} {f : Nat → V} {g : Nat → D} (w : Walk J n (fun _ => True) (YFn f)) (h : ∀ i G, Rp K G (f i) (g i)) : Src K J G ((List.range n).map g) := by
  unfold Src
  rw [List.length_map, List.length_range]
  refine Walk.mono w (fun _ _ => trivial) fun i H x H' hi _ ⟨e, y⟩ => ?_
  subst e y
  refine ⟨g i, ?_, fun Gi g1 g2 => ⟨Gi, .refl g2, h i Gi⟩⟩
  rw [List.getElem?_map, List.getElem?_range hi]
  rfl
def iR1 (fl : FA) : FA := fun ρ => (fl ρ).bind fun xs => match xs with
  | [.int j] => if -(2 ^ 62) ≤ j ∧ j < 2 ^ 62 then some (upTo 0 j.toNat) else none
  | _ => none
def iR2 (fl : FA) : FA := fun ρ => (fl ρ).bind fun xs => match xs with
  | [.int i, .int j] => if -(2 ^ 62) ≤ i ∧ i < 2 ^ 62 ∧ -(2 ^ 62) ≤ j ∧ j < 2 ^ 62 then some (upTo i (j - i).toNat) else none
  | _ => none
theorem den_iR1 (ha : DenA K tl fl) : DenI K (iRng1 tl) (iR1 fl) := fun B G ρ σ H ds R Re e k => by
  obtain ⟨xs, ea, e⟩ := some_bind e
  refine ha B G ρ σ H xs _ Re ea fun vs H1 G1 x1 r1 => ?_
  split at e
  · rename_i j
    split at e
    · rename_i hj
      cases e
      cases r1 with
      | cons r2 r3 =>
        cases r2
        cases r3
        exact ⟨j, rfl, hj.1, hj.2, k _ H1 G1 x1 (src_fn walk_range fun i G => .int _)⟩
    · cases e
  · cases e
theorem den_iR2 (ha : DenA K tl fl) : DenI K (iRng2 tl) (iR2 fl) := fun B G ρ σ H ds R Re e k => by
  obtain ⟨xs, ea, e⟩ := some_bind e
  refine ha B G ρ σ H xs _ Re ea fun vs H1 G1 x1 r1 => ?_
  split at e
  · rename_i i j
    split at e
    · rename_i hj
      cases e
      cases r1 with
      | cons r2 r3 =>
        cases r2
        cases r3 with
        | cons r4 r5 =>
          cases r4
          cases r5
          exact ⟨i, j, rfl, hj, k _ H1 G1 x1 (src_fn walk_range fun i G => .int _)⟩
    · cases e
  · cases e
def signs (x : Str) : List D := x.cps.toList.map fun c => .str ⟨#[c]⟩
def strOf : D → Option Str
  | .str x => some x
  | _ => none
def iS (fa : FE) : FA := fun ρ => (fa ρ).bind fun x => (strOf x).map signs
theorem den_iS (ha : Den K ta fa) : DenI K (iStr ta) (iS fa) := fun B G ρ σ H ds R Re e k => by
  obtain ⟨x, ea, e⟩ := some_bind e
  obtain ⟨z, ez, rfl⟩ := Option.map_eq_some_iff.mp e
  refine ha B G ρ σ H x _ Re ea fun v H1 G1 x1 r1 => ?_
  cases r1 <;> cases ez
  refine ⟨z, rfl, k _ H1 G1 x1 ?_⟩
  unfold Src signs
  rw [List.length_map, Array.length_toList]
  refine Walk.mono walk_str (fun _ _ => trivial) fun i H x H' hi _ ⟨e, c, hc, y⟩ => ?_
  subst e y
  refine ⟨.str ⟨#[c]⟩, ?_, fun Gi g1 g2 => ⟨Gi, .refl g2, .str _⟩⟩
  rw [List.getElem?_map, Array.getElem?_toList, hc]
  rfl
/-- pairs of a place and an item -/
def nums (ds : List D) : List D := (List.range ds.length).map fun i => .tup [.int (i : Nat), ds.getD i .non]
theorem src_pair {J : It} {n : Nat} {S : Hp → Prop} {xs : List V} {ds : List D} (w : Walk J n S (YPair (fun i => some (.int (i : Nat))) (fun i => xs[i]?))) (hn : n = xs.length) (hS : ∀ H, Ex G H → S H) (r : Rps K G xs ds) : Src K J G (nums ds) := by
  unfold Src nums
  rw [List.length_map, List.length_range, ← r.length, ← hn]
  refine Walk.mono w hS fun i H x H' hi h y => ?_
  obtain ⟨T, a, b, rfl, hT, rfl, e1, e2⟩ := y
  cases e1
  obtain ⟨d, e3, r3⟩ := r.getV e2
  refine ⟨.tup [.int (i : Nat), d], ?_, fun Gi g1 g2 => ⟨_, .new g2 hT, .tup upd_same (.cons (.int _) (.cons (r3.mono (g1.trans (Ext.new g2 hT).gg)) .nil))⟩⟩
  rw [List.getElem?_map, List.getElem?_range (by omega)]
  show some (D.tup [.int (i : Nat), ds.getD i .non]) = _
  rw [List.getD_eq_getElem?_getD, e3]
  rfl
def iE (fl : FA) : FA := fun ρ => (fl ρ).bind fun xs => match xs with
  | [.lst ds] => some (nums ds)
  | _ => none
theorem den_iE (ha : DenA K tl fl) : DenI K (iEnum K tl) (iE fl) := fun B G ρ σ H ds R Re e k => by
  obtain ⟨xs, ea, e⟩ := some_bind e
  refine ha B G ρ σ H xs _ Re ea fun vs H1 G1 x1 r1 => ?_
  split at e
  · cases e
    cases r1 with
    | cons r2 r3 =>
      cases r2
      cases r3
      rename_i a ys h1 r1
      exact ⟨a, ys, rfl, .inl (.inl (x1.gh _ _ h1)), k _ H1 G1 x1 (src_pair (walk_enum (K := K)) rfl (fun H h => .inl (.inl (h _ _ h1))) r1)⟩
  · cases e
end

/-! ### targets -/
/-- how a target takes a tree into the slots -/
def DenG (K : PySem.W.Frag) (g : TG) (m : D → En → Option En) : Prop := ∀ (B G : Hp) (ρ ρ' : En) (σ : L2.St) (H : Hp) (v : V) (d : D) (Q : L2.St → Hp → Prop), Rel K B G ρ σ H → Rp K G v d → m d ρ = some ρ' → (∀ σ', Rel K B G ρ' σ' H → Q σ' H) → g v σ H Q
def DenGs (K : PySem.W.Frag) (g : TGs) (m : List D → En → Option En) : Prop := ∀ (B G : Hp) (ρ ρ' : En) (σ : L2.St) (H : Hp) (vs : List V) (ds : List D) (Q : L2.St → Hp → Prop), Rel K B G ρ σ H → Rps K G vs ds → m ds ρ = some ρ' → (∀ σ', Rel K B G ρ' σ' H → Q σ' H) → g vs σ H Q
def mName (i : Nat) : D → En → Option En := fun d ρ => some (ρ.set i (some (.pur d)))
def mNil : List D → En → Option En
  | [], ρ => some ρ
  | _, _ => none
def mCons (m : D → En → Option En) (ms : List D → En → Option En) : List D → En → Option En
  | d :: r, ρ => (m d ρ).bind (ms r)
  | [], _ => none
def mTup (n : Nat) (ms : List D → En → Option En) : D → En → Option En
  | .tup ds, ρ => if ds.length = n then ms ds ρ else none
  | _, _ => none
section
variable {K : PySem.W.Frag}
theorem den_gName {i : Nat} : DenG K (gName i) (mName i) := fun B G ρ ρ' σ H v d Q R r e k => by
  cases e
  exact k _ (R.set r)
theorem den_gNil : DenGs K gNil mNil := fun B G ρ ρ' σ H vs ds Q R r e k => by
  cases r with
  | nil =>
    cases e
    exact ⟨rfl, k _ R⟩
  | cons _ _ => cases e
theorem den_gCons {g : TG} {gs : TGs} {m : D → En → Option En} {ms : List D → En → Option En} (hg : DenG K g m) (hs : DenGs K gs ms) : DenGs K (gCons g gs) (mCons m ms) := fun B G ρ ρ' σ H vs ds Q R r e k => by
  cases r with
  | nil => cases e
  | cons r1 r2 =>
    obtain ⟨ρ1, e1, e2⟩ := some_bind e
    exact ⟨_, _, rfl, hg B G ρ ρ1 σ H _ _ _ R r1 e1 fun σ1 R1 => hs B G ρ1 ρ' σ1 H _ _ _ R1 r2 e2 k⟩
theorem den_gTup {n : Nat} {gs : TGs} {ms : List D → En → Option En} (hs : DenGs K gs ms) : DenG K (gTup K n gs) (mTup n ms) := fun B G ρ ρ' σ H v d Q R r e k => by
  cases r <;> first
    | (unfold mTup at e; cases e; done)
    | skip
  rename_i a xs ds h1 r1
  unfold mTup at e
  simp only at e
  split at e
  · rename_i hn
    exact ⟨a, xs, rfl, .inl (.inl (R.ex _ _ h1)), by rw [r1.length, hn], hs B G ρ ρ' σ H xs ds _ R r1 e k⟩
  · cases e
end

/-! ### comprehensions -/
def DenTs (K : PySem.W.Frag) (t : TT) (f : FT) : Prop := DenT K t f
/-- one turn: the target, the test, the element -/
def turnF (m : D → En → Option En) (ft : FT) (fe : FE) (ρ : En) (d : D) : Option (Option D) := (m d ρ).bind fun ρ' => (ft ρ').bind fun b => if b = true then (fe ρ').map some else some none
def goF (m : D → En → Option En) (ft : FT) (fe : FE) (ρ : En) : List D → Option (List D)
  | [] => some []
  | d :: ds => (turnF m ft fe ρ d).bind fun o => (goF m ft fe ρ ds).bind fun r => some (o.toList ++ r)
def fLc (fs : FA) (m : D → En → Option En) (ft : FT) (fe : FE) (vs : List Nat) : FE := fun ρ => (fs ρ).bind fun ds => if ds.length ≤ 100000 then (goF m ft fe (wipeE ρ vs) ds).map .lst else none
/-- the target touches the comprehension's own slots alone -/
def Own (g : TG) (vs : List Nat) : Prop := ∀ (v : V) (σ : L2.St) (H : Hp) (Q : L2.St → Hp → Prop), g v σ H Q → g v σ H fun σ2 H2 => wipe σ2 vs = wipe σ vs ∧ Q σ2 H2
def Owns (g : TGs) (vs : List Nat) : Prop := ∀ (v : List V) (σ : L2.St) (H : Hp) (Q : L2.St → Hp → Prop), g v σ H Q → g v σ H fun σ2 H2 => wipe σ2 vs = wipe σ vs ∧ Q σ2 H2
theorem wipe_set {σ : L2.St} {i : Nat} {x : Option V} : ∀ {vs : List Nat}, i ∈ vs → wipe (σ.set i x) vs = wipe σ vs
  | v :: vs, h => by
    unfold wipe
    by_cases z : i ∈ vs
    · rw [wipe_set z]
    · have e : i = v := (List.mem_cons.mp h).resolve_right z
      subst e
      have comm : ∀ ws : List Nat, i ∉ ws → wipe (σ.set i x) ws = (wipe σ ws).set i x := by
        intro ws
        induction ws with
        | nil => intro _; rfl
        | cons w ws ih =>
          intro hw
          unfold wipe
          rw [ih fun q => hw (List.mem_cons_of_mem _ q), List.set_comm _ _ (fun q => hw (by rw [q]; exact List.mem_cons_self))]
      rw [comm vs z, List.set_set]
theorem wipe_wipe {σ : L2.St} {vs : List Nat} : ∀ ws : List Nat, (∀ w ∈ ws, w ∈ vs) → wipe (wipe σ ws) vs = wipe σ vs
  | [], _ => rfl
  | w :: ws, h => by
    show wipe ((wipe σ ws).set w none) vs = _
    rw [wipe_set (h w List.mem_cons_self), wipe_wipe ws fun q hq => h q (List.mem_cons_of_mem _ hq)]
theorem own_name {i : Nat} {vs : List Nat} (h : i ∈ vs) : Own (gName i) vs := fun v σ H Q q => ⟨wipe_set h, q⟩
theorem own_nil {vs : List Nat} : Owns gNil vs := fun v σ H Q q => ⟨q.1, rfl, q.2⟩
section
variable {K : PySem.W.Frag}
theorem own_cons {g : TG} {gs : TGs} {vs : List Nat} (h : Own g vs) (hs : Owns gs vs) (mono : ∀ v σ H (Q Q' : L2.St → Hp → Prop), (∀ σ H, Q σ H → Q' σ H) → g v σ H Q → g v σ H Q') (monos : ∀ v σ H (Q Q' : L2.St → Hp → Prop), (∀ σ H, Q σ H → Q' σ H) → gs v σ H Q → gs v σ H Q') : Owns (gCons g gs) vs := fun v σ H Q q => by
  obtain ⟨x, r, rfl, q⟩ := q
  refine ⟨x, r, rfl, mono _ _ _ _ _ (fun σ2 H2 z => ?_) (h _ _ _ _ q)⟩
  obtain ⟨e1, z⟩ := z
  exact monos _ _ _ _ _ (fun σ3 H3 z => ⟨z.1.trans e1, z.2⟩) (hs _ _ _ _ z)
theorem own_two {i j : Nat} {vs : List Nat} {n : Nat} (h1 : i ∈ vs) (h2 : j ∈ vs) : Own (gTup K n (gCons (gName i) (gCons (gName j) gNil))) vs := fun v σ H Q q => by
  obtain ⟨a, xs, e1, e2, e3, x, r, rfl, y, r2, rfl, rfl, q⟩ := q
  exact ⟨a, _, e1, e2, e3, x, _, rfl, y, _, rfl, rfl, by rw [wipe_set h2, wipe_set h1], q⟩
theorem own_three {i j k : Nat} {vs : List Nat} {n : Nat} (h1 : i ∈ vs) (h2 : j ∈ vs) (h3 : k ∈ vs) : Own (gTup K n (gCons (gName i) (gCons (gName j) (gCons (gName k) gNil)))) vs := fun v σ H Q q => by
  obtain ⟨a, xs, e1, e2, e3, x, r, rfl, y, r2, rfl, z, r3, rfl, rfl, q⟩ := q
  exact ⟨a, _, e1, e2, e3, x, _, rfl, y, _, rfl, z, _, rfl, rfl, by rw [wipe_set h3, wipe_set h2, wipe_set h1], q⟩

theorem den_tYes : DenT K tYes (fun _ => some true) := fun B G ρ σ H b Q R e k => by
  cases e
  exact k H G (.refl R.ex)
theorem goF_get {m : D → En → Option En} {ft : FT} {fe : FE} {ρ : En} : ∀ {ds : List D} {r : List D} {i : Nat} {d : D}, goF m ft fe ρ ds = some r → ds[i]? = some d → ∃ o p q, turnF m ft fe ρ d = some o ∧ goF m ft fe ρ (ds.take i) = some p ∧ goF m ft fe ρ (ds.take (i + 1)) = some (p ++ o.toList) ∧ r = (p ++ o.toList) ++ q
  | [], _, _, _, _, e2 => by simp at e2
  | d :: ds, r, 0, x, e1, e2 => by
    simp at e2
    subst e2
    unfold goF at e1
    obtain ⟨o, h1, e1⟩ := some_bind e1
    obtain ⟨q, h2, e1⟩ := some_bind e1
    cases e1
    refine ⟨o, [], q, h1, rfl, ?_, rfl⟩
    rw [List.take_succ_cons, List.take_zero]
    unfold goF
    rw [h1]
    show some (o.toList ++ []) = _
    rw [List.append_nil, List.nil_append]
  | d :: ds, r, i + 1, x, e1, e2 => by
    unfold goF at e1
    obtain ⟨o, h1, e1⟩ := some_bind e1
    obtain ⟨r', h2, e1⟩ := some_bind e1
    cases e1
    obtain ⟨o2, p, q, g1, g2, g3, g4⟩ := goF_get (i := i) h2 (by simpa using e2)
    refine ⟨o2, o.toList ++ p, q, g1, ?_, ?_, ?_⟩
    · rw [List.take_succ_cons]
      unfold goF
      rw [h1, g2]
      rfl
    · rw [List.take_succ_cons]
      unfold goF
      rw [h1, g3]
      show some (o.toList ++ (p ++ o2.toList)) = _
      rw [List.append_assoc]
    · rw [g4]
      simp
theorem goF_len {m : D → En → Option En} {ft : FT} {fe : FE} {ρ : En} : ∀ {ds : List D} {r : List D}, goF m ft fe ρ ds = some r → r.length ≤ ds.length
  | [], _, e => by
    cases e
    exact Nat.le_refl _
  | d :: ds, r, e => by
    unfold goF at e
    obtain ⟨o, h1, e⟩ := some_bind e
    obtain ⟨r', h2, e⟩ := some_bind e
    cases e
    have := goF_len h2
    rw [List.length_append, List.length_cons]
    cases o <;> simp <;> omega
theorem den_lc {wi : TI} {fs : FA} {g : TG} {m : D → En → Option En} {tt : TT} {ft : FT} {te : TE} {fe : FE} {vs : List Nat} (hi : DenI K wi fs) (hg : DenG K g m) (ho : Own g vs) (ht : DenT K tt ft) (he : Den K te fe) :
    Den K (tLc wi g tt te vs) (fLc fs m ft fe vs) := fun B G ρ σ H d Q R e k => by
  obtain ⟨ds, e1, e⟩ := some_bind e
  split at e
  · rename_i hz
    obtain ⟨r, e2, rfl⟩ := Option.map_eq_some_iff.mp e
    refine hi B G ρ σ H ds _ R e1 fun J H1 G1 x1 src D hD => ?_
    refine lc_it src (fun i H' => ∃ G' xs r', Ext G1 H1 G' H' ∧ G' D = none ∧ H' D = some (.lst xs) ∧ goF m ft fe (wipeE ρ vs) (ds.take i) = some r' ∧ Rps K G' xs r') ?_ ?_ ?_ ?_
    · refine ⟨G1, [], [], ⟨.refl _, fun a o h => ?_, .new hD, fun _ _ _ => rfl⟩, Evl.fresh_back x1.gh hD, upd_same, by rw [List.take_zero]; rfl, .nil⟩
      rw [upd_ne (ne_of_none (x1.gh _ _ h) hD)]
      exact x1.gh _ _ h
    · rintro i H' hi ⟨G', xs, r', x, _⟩
      exact x.gg.trans x.gh
    · rintro i v H2 H3 hi ⟨G2, xs, r', x2, g2, h2, e3, r2⟩ ⟨d, e4, y⟩
      obtain ⟨o, p, q, t1, t2, t3, t4⟩ := goF_get e2 e4
      rw [e3] at t2
      cases t2
      obtain ⟨G3, x3, r3⟩ := y G2 x2.gg x2.gh
      obtain ⟨ρ', m1, t1⟩ := some_bind t1
      obtain ⟨b, b1, t1⟩ := some_bind t1
      have R2 : Rel K B G3 (wipeE ρ vs) (wipe σ vs) H3 := by
        have R1 : Rel K B G1 ρ σ H1 := R.ext x1
        have rel2 : Rel K B G2 ρ σ H2 := R1.ext x2
        exact (rel2.ext x3).wipe vs
      have base : ∀ G4 H4, Ext G3 H3 G4 H4 → Ext G1 H1 G4 H4 ∧ G4 D = none ∧ H4 D = some (.lst xs) := fun G4 H4 x4 => by
        have z := (x3.trans x4).fr D _ h2
        exact ⟨(x2.trans x3).trans x4, z.trans g2, (x3.trans x4).hh _ _ h2⟩
      have own := ho v (wipe σ vs) H3 (fun σ2 H4 => tt σ2 H4 fun b H5 => if b = true then te σ2 H5 fun y H6 => ∃ acc, H6 D = some (.lst acc) ∧ acc.length < sizeLine ∧ ∃ G' xs r', Ext G1 H1 G' (upd H6 D (.lst (acc ++ [y]))) ∧ G' D = none ∧ upd H6 D (.lst (acc ++ [y])) D = some (.lst xs) ∧ goF m ft fe (wipeE ρ vs) (ds.take (i + 1)) = some r' ∧ Rps K G' xs r' else ∃ G' xs r', Ext G1 H1 G' H5 ∧ G' D = none ∧ H5 D = some (.lst xs) ∧ goF m ft fe (wipeE ρ vs) (ds.take (i + 1)) = some r' ∧ Rps K G' xs r') (hg B G3 _ ρ' _ H3 v d _ R2 r3 m1 ?_)
      · rw [wipe_wipe vs fun _ h => h] at own
        exact own
      · intro σ2 R3
        refine ht B G3 ρ' σ2 H3 b _ R3 b1 fun H4 G4 x4 => ?_
        by_cases hb : b = true
        · rw [if_pos hb] at t1 ⊢
          obtain ⟨y, y1, rfl⟩ := Option.map_eq_some_iff.mp t1
          refine he B G4 ρ' σ2 H4 y _ (R3.ext x4) y1 fun v H5 G5 x5 r5 => ?_
          obtain ⟨q1, q2, q3⟩ := base G5 H5 (x4.trans x5)
          have hlen : xs.length ≤ 99999 := by
            have w1 := goF_len e3
            rw [List.length_take] at w1
            have w2 := r2.length
            omega
          refine ⟨xs, q3, Nat.lt_of_le_of_lt hlen (by decide), G5, xs ++ [v], r' ++ [y], ⟨q1.gg, fun a u ha => ?_, fun a u ha => ?_, q1.fr⟩, q2, upd_same, t3, ((r2.mono x3.gg).mono (x4.trans x5).gg).append (.one r5)⟩
          · have ne : a ≠ D := fun z => by
              rw [z, q2] at ha
              cases ha
            rw [upd_ne ne]
            exact q1.gh _ _ ha
          · rw [upd_ne (ne_of_none ha hD)]
            exact q1.hh _ _ ha
        · rw [if_neg hb] at t1 ⊢
          cases t1
          obtain ⟨q1, q2, q3⟩ := base G4 H4 x4
          refine ⟨G4, xs, r', q1, q2, q3, ?_, (r2.mono x3.gg).mono x4.gg⟩
          rw [t3]
          show some (r' ++ []) = _
          rw [List.append_nil]
    · rintro H' ⟨G', xs, r', x, g', h', e3, r3⟩
      rw [List.take_length, e2] at e3
      cases e3
      have ex2 : Ext G1 H1 (upd G' D (.lst xs)) H' := by
        refine ⟨fun a u ha => ?_, fun a u ha => ?_, x.hh, fun a u ha => ?_⟩
        · rw [upd_ne (ne_of_none (x1.gh _ _ ha) hD)]
          exact x.gg _ _ ha
        · by_cases z : a = D
          · subst z
            rw [upd_same] at ha
            cases ha
            exact h'
          · rw [upd_ne z] at ha
            exact x.gh _ _ ha
        · rw [upd_ne (ne_of_none ha hD)]
          exact x.fr _ _ ha
      exact k _ H' _ (x1.trans ex2) (.lst upd_same (r3.mono (.new g')))
  · cases e
end
end DL
end

section
set_option Elab.async false
set_option linter.all false
set_option maxRecDepth 100000
/-! DL4: calls, fields, methods, statements, defs. -/
namespace DL
open PySem PySem.Spec PyProof.Rows L2
open Evl (Ex)
section
variable {K : PySem.W.Frag}
/-! ### calls -/
/-- the promise of a def that is the function fn of trees -/
def spF (K : PySem.W.Frag) (n : Nat) (fn : List D → Option D) : Sp := fun vs H Q _ => vs.length = n ∧ ∃ (G : Hp) (ds : List D) (d : D), Ex G H ∧ Rps K G vs ds ∧ fn ds = some d ∧ ∀ v H' G', Ext G H G' H' → Rp K G' v d → Q v H'
def fCallN (n : Nat) (fn : List D → Option D) (fl : FA) : FE := fun ρ => (fl ρ).bind fun ds => if ds.length = n then fn ds else none
theorem den_call {n : Nat} {fn : List D → Option D} {E : XK} {t : TA} {fl : FA} (ha : DenA K t fl) : Den K (tCall (spF K n fn) [] E t) (fCallN n fn fl) := fun B G ρ σ H d Q R e k => by
  obtain ⟨ds, ea, e⟩ := some_bind e
  split at e
  · rename_i hn
    refine ha B G ρ σ H ds _ R ea fun vs H1 G1 x1 r1 => ?_
    rw [List.append_nil]
    exact ⟨by rw [r1.length, hn], G1, ds, d, x1.gh, r1, e, fun v H' G' x2 r2 => k v H' G' (x1.trans x2) r2⟩
  · cases e
/-! ### fields -/
theorem lookup_rp {G : Hp} {f : Str} : ∀ {fs : List (Str × V)} {ds : List (Str × D)}, fs.map (·.1) = ds.map (·.1) → Rps K G (fs.map (·.2)) (ds.map (·.2)) → (ds.lookup f = none ∧ fs.lookup f = none) ∨ ∃ v d, ds.lookup f = some d ∧ fs.lookup f = some v ∧ Rp K G v d
  | [], [], _, _ => .inl ⟨rfl, rfl⟩
  | [], _ :: _, h, _ => by cases h
  | _ :: _, [], h, _ => by cases h
  | (k1, v) :: fs, (k2, d) :: ds, h, r => by
    injection h with h1 h2
    have h1 : k1 = k2 := h1
    subst h1
    cases r with
    | cons rv r =>
      rw [List.lookup_cons, List.lookup_cons]
      cases z : f == k1 with
      | true => exact .inr ⟨v, d, rfl, rfl, rv⟩
      | false => exact lookup_rp h2 r
def fFld (C : Addr) (f : Str) (fa : FE) : FE := fun ρ => (fa ρ).bind fun x => match x with
  | .ins C' ds => if C' = C then ds.lookup f else none
  | _ => none
theorem den_fld {ta : TE} {fa : FE} {C : Addr} {f : Str} (cl : Cls K C) (na : NoAttr K C f) (ha : Den K ta fa) : Den K (tFld K ta f) (fFld C f fa) := fun B G ρ σ H d Q R e k => by
  obtain ⟨x, ea, e'⟩ := some_bind e
  clear e
  refine ha B G ρ σ H x _ R ea fun v H1 G1 x1 r1 => ?_
  split at e'
  · split at e'
    · rename_i hC
      subst hC
      cases r1
      rename_i a dx fs h1 h2 h3
      rcases lookup_rp (f := f) h2 h3 with ⟨z1, z2⟩ | ⟨v, d', z1, z2, z3⟩
      · rw [z1] at e'
        cases e'
      · rw [z1] at e'
        cases e'
        exact ⟨a, _, dx, fs, v, rfl, x1.gh _ _ h1, cl, na, z2, k _ H1 G1 x1 z3⟩
    · cases e'
  · cases e'
/-- o.m(..) -/
def fMeth (C : Addr) (m : Str) (n : Nat) (fn : List D → Option D) (fa : FE) (fl : FA) : FE := fun ρ => (fa ρ).bind fun x => match x with
  | .ins C' ds => if C' = C ∧ (ds.map (·.1)).contains m = false then (fl ρ).bind fun xs => if xs.length + 1 = n then fn (.ins C' ds :: xs) else none else none
  | _ => none
theorem lookup_none {V : Type} {m : Str} : ∀ {fs : List (Str × V)}, (fs.map (·.1)).contains m = false → fs.lookup m = none
  | [], _ => rfl
  | (k, v) :: fs, h => by
    rw [List.map_cons, List.contains_cons, Bool.or_eq_false_iff] at h
    rw [List.lookup_cons, h.1]
    exact lookup_none h.2
theorem den_meth {ta : TE} {fa : FE} {t : TA} {fl : FA} {C : Addr} {m : Str} {n : Nat} {fn : List D → Option D} {E : XK} (ha : Den K ta fa) (hl : DenA K t fl) : Den K (tMeth C m (spF K n fn) [] E ta t) (fMeth C m n fn fa fl) := fun B G ρ σ H d Q R e k => by
  obtain ⟨x, ea, e'⟩ := some_bind e
  clear e
  refine ha B G ρ σ H x _ R ea fun v H1 G1 x1 r1 => ?_
  split at e'
  · split at e'
    · rename_i hC
      obtain ⟨hC, hm⟩ := hC
      subst hC
      obtain ⟨xs, el, e'⟩ := some_bind e'
      split at e'
      · rename_i hn
        have r1' := r1
        cases r1
        rename_i a dx fs h1 h2 h3
        refine ⟨a, dx, fs, rfl, x1.gh _ _ h1, lookup_none (by rw [h2]; exact hm), ?_⟩
        refine hl B G1 ρ σ H1 xs _ (R.ext x1) el fun vs H2 G2 x2 r2 => ?_
        rw [List.append_nil]
        exact ⟨by rw [List.length_cons, r2.length, hn], G2, _, d, x2.gh, .cons (r1'.mono x2.gg) r2, e', fun v H' G' x3 r3 => k v H' G' ((x1.trans x2).trans x3) r3⟩
      · cases e'
    · cases e'
  · cases e'
end

/-! ### a block of the for kind within a comprehension: two clauses -/
def LcSt (K : PySem.W.Frag) (G1 H1 : Hp) (D : Addr) (r : List DL.D) (H' : Hp) : Prop := ∃ G' xs, Ext G1 H1 G' H' ∧ G' D = none ∧ H' D = some (.lst xs) ∧ Rps K G' xs r
theorem lc_in {J : It} {n : Nat} {G : Hp → Prop} {Y : Nat → Hp → V → Hp → Prop} (w : Walk J n G Y) {g : TG} {tt : TT} {te : TE} {vs : List Nat} {σ : L2.St} {H4 : Hp} {D : Addr} {Qd : Hp → Prop} (Pv : Nat → Hp → Prop) (h0 : Pv 0 H4) (hG : ∀ i H, i ≤ n → Pv i H → G H)
    (hs : ∀ i x H H', i < n → Pv i H → Y i H x H' → g x (wipe σ vs) H' fun σ2 H2 => wipe σ2 vs = wipe σ vs ∧ tt σ2 H2 fun b H3 =>
      if b = true then te σ2 H3 fun y H4 => ∃ acc, H4 D = some (.lst acc) ∧ acc.length < sizeLine ∧ Pv (i + 1) (upd H4 D (.lst (acc ++ [y]))) else Pv (i + 1) H3) (hd : ∀ H, Pv n H → Qd H) :
    ∃ W : Nat → Nat → Hp → Prop, (∃ m, W 0 m H4) ∧ ∀ i m H, W i m H →
      (J.stop i H ∧ Qd H) ∨ (J.go i H ∧ ∃ Nx : Hp → Prop, (∀ H', Nx H' → ∃ m', m' < m ∧ W (i + 1) m' H') ∧ ∀ x H', J.yld i H x H' → g x (wipe σ vs) H' fun σ2 H2 => wipe σ2 vs = wipe σ vs ∧ tt σ2 H2 fun b H3 =>
        if b = true then te σ2 H3 fun y H4 => ∃ acc, H4 D = some (.lst acc) ∧ acc.length < sizeLine ∧ Nx (upd H4 D (.lst (acc ++ [y]))) else Nx H3) := by
  refine ⟨fun i m H => m = n - i ∧ i ≤ n ∧ Pv i H, ⟨n, by simp, Nat.zero_le _, h0⟩, ?_⟩
  rintro i m H ⟨rfl, hi, p⟩
  have q := hG i H hi p
  by_cases hlt : i < n
  · refine .inr ⟨w.goes i H hlt q, Pv (i + 1), fun H' p' => ⟨n - (i + 1), by omega, rfl, hlt, p'⟩, fun x H' y => hs i x H H' hlt p (w.yields i H x H' hlt q y)⟩
  · have e : i = n := by omega
    subst e
    exact .inl ⟨w.stops H q, hd H p⟩
section
variable {K : PySem.W.Frag}
theorem Rel.baseD {B G H : Hp} {ρ : En} {σ : L2.St} {D : Addr} {o : HO} (R : Rel K B G ρ σ H) (h : H D = none) : Rel K (upd B D o) G ρ σ H where
  ex := R.ex
  len := R.len
  pur := R.pur
  own := fun i d e => by
    obtain ⟨a, h1, h2, h3, h4⟩ := R.own i d e
    obtain ⟨u, hu⟩ := h4.some
    exact ⟨a, h1, h2, by rw [upd_ne (ne_of_none hu h)]; exact h3, h4⟩
  ptr := R.ptr
  uni := R.uni
theorem Rel.unbase {B G H : Hp} {ρ : En} {σ : L2.St} {D : Addr} {o : HO} (R : Rel K (upd B D o) G ρ σ H) (h : B D = none) : Rel K B G ρ σ H where
  ex := R.ex
  len := R.len
  pur := R.pur
  own := fun i d e => by
    obtain ⟨a, h1, h2, h3, h4⟩ := R.own i d e
    have ne : a ≠ D := fun z => by
      rw [z, upd_same] at h3
      cases h3
    rw [upd_ne ne] at h3
    exact ⟨a, h1, h2, h3, h4⟩
  ptr := R.ptr
  uni := R.uni
theorem Rel.mutD {B G H : Hp} {ρ : En} {σ : L2.St} {D : Addr} {b o : HO} (R : Rel K B G ρ σ H) (hb : B D = some b) (hg : G D = none) : Rel K B G ρ σ (upd H D o) where
  ex := fun a u ha => by
    have ne : a ≠ D := fun z => by
      rw [z, hg] at ha
      cases ha
    rw [upd_ne ne]
    exact R.ex _ _ ha
  len := R.len
  pur := R.pur
  own := fun i d e => by
    obtain ⟨a, h1, h2, h3, h4⟩ := R.own i d e
    have ne : a ≠ D := fun z => by
      rw [z, hb] at h3
      cases h3
    exact ⟨a, h1, h2, h3, h4.ex (.refl _) fun u hu => by rw [upd_ne ne]; exact hu⟩
  ptr := R.ptr
  uni := R.uni
/-- one turn of a clause that adds to the list at D, the heap's part apart -/
theorem lc_turn {B G1 H1 G2 H2 H3 : Hp} {D : Addr} {b0 : HO} {ρ : En} {σ : L2.St} {vs : List Nat} {g : TG} {m : DL.D → En → Option En} {tt : TT} {ft : FT} {te : TE} {fe : FE} {x : V} {d : DL.D} {o : Option DL.D} {xs : List V} {r' : List DL.D} (hg : DenG K g m) (ho : Own g vs) (ht : DenT K tt ft) (he : Den K te fe)
    (hD : H1 D = none) (hB : B D = some b0) (R : Rel K B G2 ρ σ H2) (x2 : Ext G1 H1 G2 H2) (g2 : G2 D = none) (h2 : H2 D = some (.lst xs)) (r2 : Rps K G2 xs r') (hlen : o.isSome = true → r'.length < 100000)
    (y : ∃ G', Ext G2 H2 G' H3 ∧ Rp K G' x d) (t1 : turnF m ft fe (wipeE ρ vs) d = some o) {Nx : Hp → Prop} (hN : ∀ G' H' xs', Ext G1 H1 G' H' → Ex G2 G' → G' D = none → H' D = some (.lst xs') → Rps K G' xs' (r' ++ o.toList) → (∀ ρ0 σ0, Rel K B G2 ρ0 σ0 H2 → Rel K B G' ρ0 σ0 H') → Nx H') :
    g x (wipe σ vs) H3 fun σ2 H2 => wipe σ2 vs = wipe σ vs ∧ tt σ2 H2 fun b H3 => if b = true then te σ2 H3 fun y H4 => ∃ acc, H4 D = some (.lst acc) ∧ acc.length < sizeLine ∧ Nx (upd H4 D (.lst (acc ++ [y]))) else Nx H3 := by
  obtain ⟨G3, x3, r3⟩ := y
  obtain ⟨ρ', m1, t1⟩ := some_bind t1
  obtain ⟨b, b1, t1⟩ := some_bind t1
  have R2 : Rel K B G3 (wipeE ρ vs) (wipe σ vs) H3 := (R.ext x3).wipe vs
  have base : ∀ G4 H4, Ext G3 H3 G4 H4 → Ext G1 H1 G4 H4 ∧ G4 D = none ∧ H4 D = some (.lst xs) := fun G4 H4 x4 => by
    have z := (x3.trans x4).fr D _ h2
    exact ⟨(x2.trans x3).trans x4, z.trans g2, (x3.trans x4).hh _ _ h2⟩
  have own := ho x (wipe σ vs) H3 (fun σ2 H4 => tt σ2 H4 fun b H5 => if b = true then te σ2 H5 fun y H6 => ∃ acc, H6 D = some (.lst acc) ∧ acc.length < sizeLine ∧ Nx (upd H6 D (.lst (acc ++ [y]))) else Nx H5) (hg B G3 _ ρ' _ H3 x d _ R2 r3 m1 ?_)
  · rw [wipe_wipe vs fun _ h => h] at own
    exact own
  · intro σ2 R3
    refine ht B G3 ρ' σ2 H3 b _ R3 b1 fun H4 G4 x4 => ?_
    by_cases hb : b = true
    · rw [if_pos hb] at t1 ⊢
      obtain ⟨y, y1, rfl⟩ := Option.map_eq_some_iff.mp t1
      refine he B G4 ρ' σ2 H4 y _ (R3.ext x4) y1 fun v H5 G5 x5 r5 => ?_
      obtain ⟨q1, q2, q3⟩ := base G5 H5 (x4.trans x5)
      have hl : xs.length < 100000 := by
        rw [r2.length]
        exact hlen rfl
      refine ⟨xs, q3, Nat.lt_of_lt_of_le hl (by decide), hN G5 _ (xs ++ [v]) ⟨q1.gg, fun a u ha => ?_, fun a u ha => ?_, q1.fr⟩ (x3.gg.trans (x4.gg.trans x5.gg)) q2 upd_same (((r2.mono x3.gg).mono (x4.trans x5).gg).append (.one r5)) (fun ρ0 σ0 R0 => (((R0.ext x3).ext x4).ext x5).mutD hB q2)⟩
      · have ne : a ≠ D := fun z => by
          rw [z, q2] at ha
          cases ha
        rw [upd_ne ne]
        exact q1.gh _ _ ha
      · rw [upd_ne (ne_of_none ha hD)]
        exact q1.hh _ _ ha
    · rw [if_neg hb] at t1 ⊢
      cases t1
      obtain ⟨q1, q2, q3⟩ := base G4 H4 x4
      refine hN G4 H4 xs q1 (x3.gg.trans x4.gg) q2 q3 ?_ fun ρ0 σ0 R0 => (R0.ext x3).ext x4
      show Rps K G4 xs (r' ++ [])
      rw [List.append_nil]
      exact (r2.mono x3.gg).mono x4.gg
theorem lcst_new {G1 H1 : Hp} {D : Addr} (e : Ex G1 H1) (hD : H1 D = none) : LcSt K G1 H1 D [] (upd H1 D (.lst [])) := by
  refine ⟨G1, [], ⟨.refl _, fun a o h => ?_, .new hD, fun _ _ _ => rfl⟩, Evl.fresh_back e hD, upd_same, .nil⟩
  rw [upd_ne (ne_of_none (e _ _ h) hD)]
  exact e _ _ h
theorem lcst_end {G H G1 H1 H' : Hp} {D : Addr} {r : List DL.D} (x1 : Ext G H G1 H1) (hD : H1 D = none) (h : LcSt K G1 H1 D r H') : ∃ G', Ext G H G' H' ∧ Rp K G' (.ref D) (.lst r) := by
  obtain ⟨G', xs, x, g', h', r3⟩ := h
  have ex2 : Ext G1 H1 (upd G' D (.lst xs)) H' := by
    refine ⟨fun a u ha => ?_, fun a u ha => ?_, x.hh, fun a u ha => ?_⟩
    · rw [upd_ne (ne_of_none (x1.gh _ _ ha) hD)]
      exact x.gg _ _ ha
    · by_cases z : a = D
      · subst z
        rw [upd_same] at ha
        cases ha
        exact h'
      · rw [upd_ne z] at ha
        exact x.gh _ _ ha
    · rw [upd_ne (ne_of_none ha hD)]
      exact x.fr _ _ ha
  exact ⟨_, x1.trans ex2, .lst upd_same (r3.mono (.new g'))⟩
def turn2 (m : D → En → Option En) (ft : FT) (fs1 : FA) (m1 : D → En → Option En) (ft1 : FT) (fe : FE) (vs1 : List Nat) (ρ : En) (d : D) : Option (List D) :=
  (m d ρ).bind fun ρ' => (ft ρ').bind fun b => if b = true then (fs1 ρ').bind fun ds1 => goF m1 ft1 fe (wipeE ρ' vs1) ds1 else some []
def goL (f : D → Option (List D)) : List D → Option (List D)
  | [] => some []
  | d :: ds => (f d).bind fun a => (goL f ds).bind fun r => some (a ++ r)
def fLc2 (fs : FA) (m : D → En → Option En) (ft : FT) (fs1 : FA) (m1 : D → En → Option En) (ft1 : FT) (fe : FE) (vs vs1 : List Nat) : FE := fun ρ => (fs ρ).bind fun ds => (goL (turn2 m ft fs1 m1 ft1 fe vs1 (wipeE ρ vs)) ds).bind fun r => if r.length ≤ 100000 then some (.lst r) else none
theorem goL_get {f : D → Option (List D)} : ∀ {ds : List D} {r : List D} {i : Nat} {d : D}, goL f ds = some r → ds[i]? = some d → ∃ o p q, f d = some o ∧ goL f (ds.take i) = some p ∧ goL f (ds.take (i + 1)) = some (p ++ o) ∧ r = (p ++ o) ++ q
  | [], _, _, _, _, e2 => by simp at e2
  | d :: ds, r, 0, x, e1, e2 => by
    simp at e2
    subst e2
    unfold goL at e1
    obtain ⟨o, h1, e1⟩ := some_bind e1
    obtain ⟨q, h2, e1⟩ := some_bind e1
    cases e1
    refine ⟨o, [], q, h1, rfl, ?_, rfl⟩
    rw [List.take_succ_cons, List.take_zero]
    unfold goL
    rw [h1]
    show some (o ++ []) = _
    rw [List.append_nil, List.nil_append]
  | d :: ds, r, i + 1, x, e1, e2 => by
    unfold goL at e1
    obtain ⟨o, h1, e1⟩ := some_bind e1
    obtain ⟨r', h2, e1⟩ := some_bind e1
    cases e1
    obtain ⟨o2, p, q, g1, g2, g3, g4⟩ := goL_get (i := i) h2 (by simpa using e2)
    refine ⟨o2, o ++ p, q, g1, ?_, ?_, ?_⟩
    · rw [List.take_succ_cons]
      unfold goL
      rw [h1, g2]
      rfl
    · rw [List.take_succ_cons]
      unfold goL
      rw [h1, g3]
      show some (o ++ (p ++ o2)) = _
      rw [List.append_assoc]
    · rw [g4]
      simp
theorem den_lc2 {wi wi1 : TI} {fs fs1 : FA} {g g1 : TG} {m m1 : D → En → Option En} {tt tt1 : TT} {ft ft1 : FT} {te : TE} {fe : FE} {vs vs1 : List Nat} (hi : DenI K wi fs) (hg : DenG K g m) (ho : Own g vs) (ht : DenT K tt ft) (hi1 : DenI K wi1 fs1) (hg1 : DenG K g1 m1) (ho1 : Own g1 vs1) (ht1 : DenT K tt1 ft1) (he : Den K te fe) :
    Den K (tLc2 wi g tt wi1 g1 tt1 te vs vs1) (fLc2 fs m ft fs1 m1 ft1 fe vs vs1) := fun B G ρ σ H d Q R e k => by
  obtain ⟨ds, e1, e⟩ := some_bind e
  obtain ⟨r, e2, e⟩ := some_bind e
  split at e
  · rename_i hz
    cases e
    refine hi B G ρ σ H ds _ R e1 fun J H1 G1 x1 src D hD => ?_
    have RB : Rel K (upd B D (.lst [])) G1 ρ σ H1 := (R.ext x1).baseD hD
    have hB : upd B D (.lst []) D = some (.lst []) := upd_same
    generalize upd B D (.lst []) = B' at RB hB
    refine ⟨fun i n H' => n = ds.length - i ∧ i ≤ ds.length ∧ ∃ r', goL (turn2 m ft fs1 m1 ft1 fe vs1 (wipeE ρ vs)) (ds.take i) = some r' ∧ ∃ G' xs, Ext G1 H1 G' H' ∧ G' D = none ∧ H' D = some (.lst xs) ∧ Rps K G' xs r' ∧ Rel K B' G' ρ σ H', ⟨ds.length, by simp, Nat.zero_le _, [], by rw [List.take_zero]; rfl, ?_⟩, ?_⟩
    · refine ⟨G1, [], ⟨.refl _, fun a o h => ?_, .new hD, fun _ _ _ => rfl⟩, Evl.fresh_back x1.gh hD, upd_same, .nil, RB.mutD hB (Evl.fresh_back x1.gh hD)⟩
      rw [upd_ne (ne_of_none (x1.gh _ _ h) hD)]
      exact x1.gh _ _ h
    rintro i n H2 ⟨rfl, hi, r', e3, G2, xs, x2, g2, h2, r2, RR⟩
    have gH : Ex G1 H2 := x2.gg.trans x2.gh
    by_cases hlt : i < ds.length
    · refine .inr ⟨src.goes i H2 hlt gH, fun H' => ∃ r', goL (turn2 m ft fs1 m1 ft1 fe vs1 (wipeE ρ vs)) (ds.take (i + 1)) = some r' ∧ ∃ G' xs, Ext G1 H1 G' H' ∧ G' D = none ∧ H' D = some (.lst xs) ∧ Rps K G' xs r' ∧ Rel K B' G' ρ σ H', fun H' p' => ⟨ds.length - (i + 1), by omega, rfl, hlt, p'⟩, fun v H3 yl => ?_⟩
      obtain ⟨d, e4, y⟩ := src.yields i H2 v H3 hlt gH yl
      obtain ⟨o, p, q, t1, t2, t3, t4⟩ := goL_get e2 e4
      rw [e3] at t2
      cases t2
      obtain ⟨G3, x3, r3⟩ := y G2 x2.gg x2.gh
      obtain ⟨ρ', m1', t1⟩ := some_bind t1
      obtain ⟨b, b1, t1⟩ := some_bind t1
      have R2 : Rel K B' G3 (wipeE ρ vs) (wipe σ vs) H3 := (RR.ext x3).wipe vs
      have own := ho v (wipe σ vs) H3 (fun σ2 H2 => tt σ2 H2 fun b H3 => if b = true then wi1 σ2 H3 fun J1 H4 => ∃ W1 : Nat → Nat → Hp → Prop, (∃ m, W1 0 m H4) ∧ ∀ j k H, W1 j k H →
          (J1.stop j H ∧ ∃ r', goL (turn2 m ft fs1 m1 ft1 fe vs1 (wipeE ρ vs)) (ds.take (i + 1)) = some r' ∧ ∃ G' xs, Ext G1 H1 G' H ∧ G' D = none ∧ H D = some (.lst xs) ∧ Rps K G' xs r' ∧ Rel K B' G' ρ σ H) ∨ (J1.go j H ∧ ∃ Nx1 : Hp → Prop, (∀ H', Nx1 H' → ∃ k', k' < k ∧ W1 (j + 1) k' H') ∧ ∀ x H', J1.yld j H x H' → g1 x (wipe σ2 vs1) H' fun σ3 H5 => wipe σ3 vs1 = wipe σ2 vs1 ∧ tt1 σ3 H5 fun b H6 =>
            if b = true then te σ3 H6 fun y H7 => ∃ acc, H7 D = some (.lst acc) ∧ acc.length < sizeLine ∧ Nx1 (upd H7 D (.lst (acc ++ [y]))) else Nx1 H6)
        else ∃ r', goL (turn2 m ft fs1 m1 ft1 fe vs1 (wipeE ρ vs)) (ds.take (i + 1)) = some r' ∧ ∃ G' xs, Ext G1 H1 G' H3 ∧ G' D = none ∧ H3 D = some (.lst xs) ∧ Rps K G' xs r' ∧ Rel K B' G' ρ σ H3) (hg B' G3 _ ρ' _ H3 v d _ R2 r3 m1' ?_)
      · rw [wipe_wipe vs fun _ h => h] at own
        exact own
      · intro σ2 R3
        refine ht B' G3 ρ' σ2 H3 b _ R3 b1 fun H4 G4 x4 => ?_
        by_cases hb : b = true
        · rw [if_pos hb] at t1 ⊢
          obtain ⟨ds1, d1, t1⟩ := some_bind t1
          refine hi1 B' G4 ρ' σ2 H4 ds1 _ (R3.ext x4) d1 fun J1 H5 G5 x5 src1 => ?_
          have x35 := (x3.trans x4).trans x5
          refine lc_in src1 (fun j H' => ∃ r1, goF m1 ft1 fe (wipeE ρ' vs1) (ds1.take j) = some r1 ∧ ∃ G' xs', Ext G1 H1 G' H' ∧ Ex G5 G' ∧ G' D = none ∧ H' D = some (.lst xs') ∧ Rps K G' xs' (r' ++ r1) ∧ Rel K B' G' ρ' σ2 H' ∧ Rel K B' G' ρ σ H') ?_ ?_ ?_ ?_
          · refine ⟨[], by rw [List.take_zero]; rfl, G5, xs, x2.trans x35, .refl _, (x35.fr D _ h2).trans g2, x35.hh _ _ h2, ?_, (R3.ext x4).ext x5, RR.ext x35⟩
            rw [List.append_nil]
            exact r2.mono x35.gg
          · rintro j H' hj ⟨r1, _, G', xs', x', gg, _⟩
            exact gg.trans x'.gh
          · rintro j v' H6 H7 hj ⟨r1, f1, G6, xs6, x6, gg6, g6, h6, r6, R6, R6'⟩ ⟨d', f4, y'⟩
            obtain ⟨o', p', q', u1, u2, u3, u4⟩ := goF_get t1 f4
            rw [f1] at u2
            cases u2
            refine lc_turn (B := B') (D := D) hg1 ho1 ht1 he hD hB R6 x6 g6 h6 r6 (fun ho' => ?_) (y' G6 gg6 x6.gh) u1 fun G' H' xs' z1 z2 z3 z4 z5 z6 => ⟨r1 ++ o'.toList, u3, G', xs', z1, gg6.trans z2, z3, z4, by rw [← List.append_assoc]; exact z5, z6 _ _ R6, z6 _ _ R6'⟩
            cases o' with
            | none => cases ho'
            | some y =>
              have w1 := hz
              rw [t4, u4] at w1
              simp only [List.length_append, Option.toList, List.length_cons, List.length_nil] at w1
              rw [List.length_append]
              omega
          · rintro H' ⟨r1, f1, G', xs', z1, z2, z3, z4, z5, z6, z7⟩
            rw [List.take_length, t1] at f1
            cases f1
            exact ⟨_, t3, G', xs', z1, z3, z4, z5, z7⟩
        · rw [if_neg hb] at t1 ⊢
          cases t1
          have x34 := x3.trans x4
          exact ⟨r', by rw [t3, List.append_nil], G4, xs, x2.trans x34, (x34.fr D _ h2).trans g2, x34.hh _ _ h2, r2.mono x34.gg, RR.ext x34⟩
    · have ei : i = ds.length := by omega
      subst ei
      refine .inl ⟨src.stops H2 gH, ?_⟩
      rw [List.take_length, e2] at e3
      cases e3
      obtain ⟨G', x', r'⟩ := lcst_end x1 hD ⟨G2, xs, x2, g2, h2, r2⟩
      exact k _ H2 G' x' r'
  · cases e
end
end DL
end

section
set_option Elab.async false
set_option linter.all false
set_option maxRecDepth 100000
/-! DL5: statements, defs. -/
namespace DL
open PySem PySem.Spec PyProof.Rows L2
open Evl (Ex)
inductive Ctl where
  | nx (ρ : En) | rt (d : D) | bk (ρ : En) | ct (ρ : En)
abbrev FS := En → Option Ctl
section
variable {K : PySem.W.Frag}
def Aft (K : PySem.W.Frag) (B G0 : Hp) (E : Ends) : Ctl → Prop
  | .nx ρ => ∀ σ' H' G', Rel K B G' ρ σ' H' → Ext G0 B G' H' → E.nx σ' H'
  | .rt d => ∀ v H' G', Ext G0 B G' H' → Rp K G' v d → E.rt v H'
  | .bk ρ => ∀ σ' H' G', Rel K B G' ρ σ' H' → Ext G0 B G' H' → E.bk σ' H'
  | .ct ρ => ∀ σ' H' G', Rel K B G' ρ σ' H' → Ext G0 B G' H' → E.ct σ' H'
def DenS (K : PySem.W.Frag) (t : TS) (m : FS) : Prop := ∀ (B G0 G : Hp) (ρ : En) (σ : L2.St) (H : Hp) (E : Ends) (c : Ctl), Rel K B G ρ σ H → Ext G0 B G H → m ρ = some c → Aft K B G0 E c → t E σ H
def sNext : FS := fun ρ => some (.nx ρ)
def sSeq (m n : FS) : FS := fun ρ => (m ρ).bind fun c => match c with
  | .nx ρ' => n ρ'
  | c => some c
theorem den_next : DenS K tNext sNext := fun B G0 G ρ σ H E c R x e k => by
  cases e
  exact k σ H G R x
theorem den_seq {t u : TS} {m n : FS} (ht : DenS K t m) (hu : DenS K u n) : DenS K (tSeq t u) (sSeq m n) := fun B G0 G ρ σ H E c R x e k => by
  obtain ⟨c1, e1, e2⟩ := some_bind e
  refine ht B G0 G ρ σ H _ c1 R x e1 ?_
  cases c1 with
  | nx ρ' => exact fun σ' H' G' R' x' => hu B G0 G' ρ' σ' H' E c R' x' e2 k
  | rt d =>
    cases e2
    exact k
  | bk ρ' =>
    cases e2
    exact k
  | ct ρ' =>
    cases e2
    exact k
def sNever : FS := fun _ => none
theorem den_never : DenS K tNever sNever := fun B G0 G ρ σ H E c R x e k => by cases e
theorem den_break : DenS K tBreak (fun ρ => some (.bk ρ)) := fun B G0 G ρ σ H E c R x e k => by
  cases e
  exact k σ H G R x
theorem den_cont : DenS K tCont (fun ρ => some (.ct ρ)) := fun B G0 G ρ σ H E c R x e k => by
  cases e
  exact k σ H G R x
def sDrop (fe : FE) : FS := fun ρ => (fe ρ).map fun _ => .nx ρ
theorem den_drop {te : TE} {fe : FE} (he : Den K te fe) : DenS K (tDrop te) (sDrop fe) := fun B G0 G ρ σ H E c R x e k => by
  obtain ⟨d, e1, rfl⟩ := Option.map_eq_some_iff.mp e
  exact he B G ρ σ H d _ R e1 fun v H1 G1 x1 r1 => k σ H1 G1 (R.ext x1) (x.trans x1)
/-- all under way become trees -/
theorem Rel.frz {B G H : Hp} {ρ : En} {σ : L2.St} (R : Rel K B G ρ σ H) : ∃ G', Rel K B G' (DL.frz ρ) σ H ∧ Ex G G' ∧ ∀ a o, B a = some o → G' a = G a := by
  classical
  let P : Addr → Prop := fun a => ∃ (i : Nat) (d : D), ρ[i]? = some (some (Sl.own d)) ∧ σ[i]? = some (some (V.ref a))
  let G' : Hp := fun a => if P a then H a else G a
  have gg : Ex G G' := fun a o h => by
    show (if P a then H a else G a) = some o
    split
    · exact R.ex _ _ h
    · exact h
  have gh : Ex G' H := fun a o h => by
    have h' : (if P a then H a else G a) = some o := h
    split at h'
    · exact h'
    · exact R.ex _ _ h'
  refine ⟨G', ⟨gh, ?_, fun i d e => ?_, fun i d e => ?_, fun i a e => ?_, fun i j d e a h1 => ?_⟩, gg, fun a o h => ?_⟩
  · unfold DL.frz
    rw [List.length_map]
    exact R.len
  · unfold DL.frz at e
    rw [List.getElem?_map] at e
    cases q : ρ[i]? with
    | none =>
      rw [q] at e
      cases e
    | some w =>
      rw [q] at e
      cases w with
      | none => cases e
      | some w =>
        cases w with
        | pur d' =>
          cases e
          obtain ⟨v, h1, h2⟩ := R.pur i _ q
          exact ⟨v, h1, h2.mono gg⟩
        | own d' =>
          cases e
          obtain ⟨a, h1, h2, h3, h4⟩ := R.own i _ q
          refine ⟨.ref a, h1, ?_⟩
          have ha : ∀ u, H a = some u → G' a = some u := fun u hu => by
            show (if P a then H a else G a) = some u
            rw [if_pos ⟨i, d, q, h1⟩]
            exact hu
          cases d with
          | lst ds =>
            obtain ⟨xs, e1, r⟩ := h4
            exact .lst (ha _ e1) (r.mono gg)
          | dic ds =>
            obtain ⟨xs, e1, k, r⟩ := h4
            exact .dic (ha _ e1) k (r.mono gg)
          | dit ds =>
            obtain ⟨xs, e1, k, r⟩ := h4
            exact .dit (.inl (ha _ e1)) k (r.mono gg)
          | _ => exact h4.elim
        | ptr a => cases e
  · exfalso
    unfold DL.frz at e
    rw [List.getElem?_map] at e
    cases q : ρ[i]? with
    | none =>
      rw [q] at e
      cases e
    | some w =>
      rw [q] at e
      cases w with
      | none => cases e
      | some w => cases w <;> cases e
  · unfold DL.frz at e
    rw [List.getElem?_map] at e
    cases q : ρ[i]? with
    | none =>
      rw [q] at e
      cases e
    | some w =>
      rw [q] at e
      cases w with
      | none => cases e
      | some w =>
        cases w <;> cases e
        exact R.ptr i _ q
  · exfalso
    unfold DL.frz at h1
    rw [List.getElem?_map] at h1
    cases q : ρ[i]? with
    | none =>
      rw [q] at h1
      cases h1
    | some w =>
      rw [q] at h1
      cases w with
      | none => cases h1
      | some w => cases w <;> cases h1
  · show (if P a then H a else G a) = G a
    rw [if_neg]
    · rintro ⟨i, d, h1, h2⟩
      obtain ⟨a', g1, g2, g3, g4⟩ := R.own i d h1
      rw [h2] at g1
      cases g1
      rw [g3] at h
      cases h
def sRet (fe : FE) : FS := fun ρ => (fe (frz ρ)).map .rt
theorem den_ret {te : TE} {fe : FE} (he : Den K te fe) : DenS K (tRet te) (sRet fe) := fun B G0 G ρ σ H E c R x e k => by
  obtain ⟨d, e1, rfl⟩ := Option.map_eq_some_iff.mp e
  obtain ⟨G', R', g', f'⟩ := R.frz
  have x' : Ext G0 B G' H := ⟨x.gg.trans g', R'.ex, x.hh, fun a o h => (f' a o h).trans (x.fr a o h)⟩
  exact he B G' _ σ H d _ R' e1 fun v H1 G1 x1 r1 => k v H1 G1 (x'.trans x1) r1
theorem den_retN : DenS K tRetN (fun _ => some (.rt .non)) := fun B G0 G ρ σ H E c R x e k => by
  cases e
  exact k _ H G x .non
/-- a scalar read off what is under way -/
def flatS : D → Bool
  | .non => true | .bl _ => true | .int _ => true | .str _ => true
  | _ => false
def fScal (fe : FE) : FE := fun ρ => (fe (frz ρ)).bind fun d => if flatS d = true then some d else none
theorem den_scal {te : TE} {fe : FE} (he : Den K te fe) : Den K te (fScal fe) := fun B G ρ σ H d Q R e k => by
  obtain ⟨d', e1, e⟩ := some_bind e
  split at e
  · rename_i hf
    cases e
    obtain ⟨G', R', g', f'⟩ := R.frz
    refine he B G' _ σ H d _ R' e1 fun v H1 G1 x1 r1 => k v H1 G ⟨.refl _, R.ex.trans x1.hh, x1.hh, fun _ _ _ => rfl⟩ ?_
    cases r1 <;> first
      | (cases hf; done)
      | constructor
  · cases e
def sIf (ft : FT) (m n : FS) : FS := fun ρ => (ft ρ).bind fun b => if b = true then m ρ else n ρ
theorem den_ifS {tc : TT} {ft : FT} {t u : TS} {m n : FS} (hc : DenT K tc ft) (ht : DenS K t m) (hu : DenS K u n) : DenS K (tIfS tc t u) (sIf ft m n) := fun B G0 G ρ σ H E c R x e k => by
  obtain ⟨b, e1, e2⟩ := some_bind e
  refine hc B G ρ σ H b _ R e1 fun H1 G1 x1 => ?_
  by_cases z : b = true
  · rw [if_pos z] at e2 ⊢
    exact ht B G0 G1 ρ σ H1 E c (R.ext x1) (x.trans x1) e2 k
  · rw [if_neg z] at e2 ⊢
    exact hu B G0 G1 ρ σ H1 E c (R.ext x1) (x.trans x1) e2 k
def sAsg (fe : FE) (m : D → En → Option En) : FS := fun ρ => (fe ρ).bind fun d => (m d ρ).map .nx
theorem den_asg {te : TE} {fe : FE} {g : TG} {m : D → En → Option En} (he : Den K te fe) (hg : DenG K g m) : DenS K (tAsg te g) (sAsg fe m) := fun B G0 G ρ σ H E c R x e k => by
  obtain ⟨d, e1, e⟩ := some_bind e
  obtain ⟨ρ', e2, rfl⟩ := Option.map_eq_some_iff.mp e
  exact he B G ρ σ H d _ R e1 fun v H1 G1 x1 r1 => hg B G1 ρ ρ' σ H1 v d _ (R.ext x1) r1 e2 fun σ' R' => k σ' H1 G1 R' (x.trans x1)
def sAsg2 (fe : FE) (m n : D → En → Option En) : FS := fun ρ => (fe ρ).bind fun d => (m d ρ).bind fun ρ' => (n d ρ').map .nx
theorem den_asg2 {te : TE} {fe : FE} {g g2 : TG} {m n : D → En → Option En} (he : Den K te fe) (hg : DenG K g m) (hg2 : DenG K g2 n) : DenS K (tAsg2 te g g2) (sAsg2 fe m n) := fun B G0 G ρ σ H E c R x e k => by
  obtain ⟨d, e1, e⟩ := some_bind e
  obtain ⟨ρ', e2, e⟩ := some_bind e
  obtain ⟨ρ2, e3, rfl⟩ := Option.map_eq_some_iff.mp e
  exact he B G ρ σ H d _ R e1 fun v H1 G1 x1 r1 => hg B G1 ρ ρ' σ H1 v d _ (R.ext x1) r1 e2 fun σ' R' => hg2 B G1 ρ' ρ2 σ' H1 v d _ R' r1 e3 fun σ2 R2 => k σ2 H1 G1 R2 (x.trans x1)
def sAug (g : D → D → Option D) (i : Nat) (fe : FE) : FS := fun ρ => (fVar i ρ).bind fun x => (fe ρ).bind fun y => (g x y).map fun z => .nx (ρ.set i (some (.pur z)))
theorem den_aug {i : Nat} {te : TE} {fe : FE} {ti : TIp} {g : D → D → Option D} (ho : OpD K ti g) (he : Den K te fe) : DenS K (tAug i te ti) (sAug g i fe) := fun B G0 G ρ σ H E c R x e k => by
  obtain ⟨d, e1, e⟩ := some_bind e
  obtain ⟨y, e2, e⟩ := some_bind e
  obtain ⟨z, e3, rfl⟩ := Option.map_eq_some_iff.mp e
  have hi : ρ[i]? = some (some (.pur d)) := by
    unfold fVar at e1
    split at e1
    · cases e1
      assumption
    · cases e1
  obtain ⟨v, h1, h2⟩ := R.pur i d hi
  refine ⟨v, h1, he B G ρ σ H y _ R e2 fun w H1 G1 x1 r1 => ho G1 H1 v w d y z _ x1.gh (h2.mono x1.gg) r1 e3 fun v' H2 G2 x2 r2 => ?_⟩
  exact k _ H2 G2 (((R.ext x1).ext x2).set r2) (x.trans (x1.trans x2))
/-! ### things under way -/
theorem Rel.setOwn {B G H : Hp} {ρ : En} {σ : L2.St} {i : Nat} {a : Addr} {d : D} (R : Rel K B G ρ σ H) (hg : G a = none) (hb : B a = none) (ho : OwnAt K G H a d) (hn : ∀ j e, j ≠ i → ρ[j]? = some (some (.own e)) → σ[j]? ≠ some (some (.ref a))) : Rel K B G (ρ.set i (some (.own d))) (σ.set i (some (.ref a))) H where
  ex := R.ex
  len := by rw [List.length_set, List.length_set, R.len]
  pur := fun j e hj => by
    by_cases z : i = j
    · subst z
      by_cases hl : i < ρ.length
      · rw [List.getElem?_set_self hl] at hj
        cases hj
      · rw [List.getElem?_eq_none (by rw [List.length_set]; omega)] at hj
        cases hj
    · rw [List.getElem?_set_ne z] at hj
      obtain ⟨w, h1, h2⟩ := R.pur j e hj
      exact ⟨w, by rw [List.getElem?_set_ne z]; exact h1, h2⟩
  own := fun j e hj => by
    by_cases z : i = j
    · subst z
      by_cases hl : i < ρ.length
      · rw [List.getElem?_set_self hl] at hj
        cases hj
        exact ⟨a, by rw [List.getElem?_set_self (R.len ▸ hl)], hg, hb, ho⟩
      · rw [List.getElem?_eq_none (by rw [List.length_set]; omega)] at hj
        cases hj
    · rw [List.getElem?_set_ne z] at hj
      obtain ⟨w, h1, h2⟩ := R.own j e hj
      exact ⟨w, by rw [List.getElem?_set_ne z]; exact h1, h2⟩
  ptr := fun j e hj => by
    by_cases z : i = j
    · subst z
      by_cases hl : i < ρ.length
      · rw [List.getElem?_set_self hl] at hj
        cases hj
      · rw [List.getElem?_eq_none (by rw [List.length_set]; omega)] at hj
        cases hj
    · rw [List.getElem?_set_ne z] at hj ⊢
      exact R.ptr j e hj
  uni := fun j k d1 d2 b hj hk sj sk => by
    by_cases z1 : i = j
    · by_cases z2 : i = k
      · exact z1.symm.trans z2
      · exfalso
        subst z1
        have hl : i < ρ.length := by
          by_cases hl : i < ρ.length
          · exact hl
          · rw [List.getElem?_eq_none (by rw [List.length_set]; omega)] at hj
            cases hj
        rw [List.getElem?_set_self (R.len ▸ hl)] at sj
        cases sj
        rw [List.getElem?_set_ne z2] at hk sk
        exact hn k d2 (Ne.symm z2) hk sk
    · rw [List.getElem?_set_ne z1] at hj sj
      by_cases z2 : i = k
      · exfalso
        subst z2
        have hl : i < ρ.length := by
          by_cases hl : i < ρ.length
          · exact hl
          · rw [List.getElem?_eq_none (by rw [List.length_set]; omega)] at hk
            cases hk
        rw [List.getElem?_set_self (R.len ▸ hl)] at sk
        cases sk
        exact hn j d1 (Ne.symm z1) hj sj
      · rw [List.getElem?_set_ne z2] at hk sk
        exact R.uni j k d1 d2 b hj hk sj sk
/-- a new thing that no slot has yet -/
theorem Rel.newOwn {B G0 G H : Hp} {ρ : En} {σ : L2.St} {i : Nat} {p : Addr} {o : HO} {d : D} (R : Rel K B G ρ σ H) (x : Ext G0 B G H) (hp : H p = none) (ho : OwnAt K G (upd H p o) p d) : Rel K B G (ρ.set i (some (.own d))) (σ.set i (some (.ref p))) (upd H p o) ∧ Ext G0 B G (upd H p o) := by
  have gp := Evl.fresh_back R.ex hp
  have bp := Evl.fresh_back x.hh hp
  have R1 : Rel K B G ρ σ (upd H p o) := by
    refine ⟨fun a u ha => ?_, R.len, R.pur, fun j e hj => ?_, R.ptr, R.uni⟩
    · rw [upd_ne (ne_of_none (R.ex _ _ ha) hp)]
      exact R.ex _ _ ha
    · obtain ⟨a, h1, h2, h3, h4⟩ := R.own j e hj
      obtain ⟨u, hu⟩ := h4.some
      exact ⟨a, h1, h2, h3, h4.ex (.refl _) fun w hw => by rw [upd_ne (ne_of_none hw hp)]; exact hw⟩
  refine ⟨R1.setOwn gp bp ho fun j e _ hj sj => ?_, ⟨x.gg, fun a u ha => ?_, fun a u ha => ?_, x.fr⟩⟩
  · obtain ⟨a, h1, h2, h3, h4⟩ := R.own j e hj
    rw [h1] at sj
    cases sj
    obtain ⟨u, hu⟩ := h4.some
    rw [hp] at hu
    cases hu
  · rw [upd_ne (ne_of_none (R.ex _ _ ha) hp)]
    exact R.ex _ _ ha
  · rw [upd_ne (ne_of_none (x.hh _ _ ha) hp)]
    exact x.hh _ _ ha
/-- a thing under way changed -/
theorem Rel.chgOwn {B G0 G H : Hp} {ρ : En} {σ : L2.St} {i : Nat} {a : Addr} {o : HO} {d d' : D} (R : Rel K B G ρ σ H) (x : Ext G0 B G H) (hi : ρ[i]? = some (some (.own d))) (hs : σ[i]? = some (some (.ref a))) (ho : OwnAt K G (upd H a o) a d') : Rel K B G (ρ.set i (some (.own d'))) σ (upd H a o) ∧ Ext G0 B G (upd H a o) := by
  obtain ⟨a', h1, h2, h3, h4⟩ := R.own i d hi
  rw [hs] at h1
  cases h1
  have gne : ∀ b u, G b = some u → b ≠ a := fun b u hb z => by
    rw [z, h2] at hb
    cases hb
  have bne : ∀ b u, B b = some u → b ≠ a := fun b u hb z => by
    rw [z, h3] at hb
    cases hb
  have one : ∀ j e, j ≠ i → ρ[j]? = some (some (.own e)) → σ[j]? ≠ some (some (.ref a)) := fun j e nj hj sj => nj (R.uni j i e d a hj hi sj hs)
  have R1 : Rel K B G (ρ.set i none) (σ.set i none) (upd H a o) := by
    refine ⟨fun b u hb => ?_, by rw [List.length_set, List.length_set, R.len], (R.unset (i := i) (x := none)).pur, fun j e hj => ?_, (R.unset (i := i) (x := none)).ptr, (R.unset (i := i) (x := none)).uni⟩
    · rw [upd_ne (gne _ _ hb)]
      exact R.ex _ _ hb
    · obtain ⟨b, g1, g2, g3, g4⟩ := (R.unset (i := i) (x := none)).own j e hj
      have nj : i ≠ j := fun z => by
        subst z
        by_cases hl : i < ρ.length
        · rw [List.getElem?_set_self hl] at hj
          cases hj
        · rw [List.getElem?_eq_none (by rw [List.length_set]; omega)] at hj
          cases hj
      have nb : b ≠ a := fun z => by
        subst z
        rw [List.getElem?_set_ne nj] at hj g1
        exact one j e (Ne.symm nj) hj g1
      exact ⟨b, g1, g2, g3, g4.ex (.refl _) fun w hw => by rw [upd_ne nb]; exact hw⟩
  have R2 := R1.setOwn (i := i) (a := a) h2 h3 ho fun j e nj hj => by
    rw [List.getElem?_set_ne (Ne.symm nj)] at hj ⊢
    exact one j e nj hj
  rw [List.set_set, List.set_set] at R2
  have es : σ.set i (some (.ref a)) = σ := by
    apply List.ext_getElem?
    intro j
    by_cases z : i = j
    · subst z
      have hl : i < σ.length := (List.getElem?_eq_some_iff.mp hs).1
      rw [List.getElem?_set_self hl, hs]
    · rw [List.getElem?_set_ne z]
  rw [es] at R2
  refine ⟨R2, ⟨x.gg, fun b u hb => ?_, fun b u hb => ?_, x.fr⟩⟩
  · rw [upd_ne (gne _ _ hb)]
    exact R.ex _ _ hb
  · rw [upd_ne (bne _ _ hb)]
    exact x.hh _ _ hb
def sOwnL (i : Nat) : FS := fun ρ => some (.nx (ρ.set i (some (.own (.lst [])))))
def sOwnK (i : Nat) : FS := fun ρ => some (.nx (ρ.set i (some (.own (.dic [])))))
def sOwnT (i : Nat) : FS := fun ρ => some (.nx (ρ.set i (some (.own (.dit [])))))
theorem den_ownL {i : Nat} : DenS K (tAsg (tLst tNil) (gName i)) (sOwnL i) := fun B G0 G ρ σ H E c R x e k => by
  cases e
  refine ⟨by show 0 ≤ sizeLine; decide, fun p np => ?_⟩
  obtain ⟨R', x'⟩ := R.newOwn (i := i) (o := .lst []) (d := .lst []) x np ⟨[], upd_same, .nil⟩
  exact k _ _ G R' x'
theorem den_ownK {i : Nat} : DenS K (tAsg tDNewK (gName i)) (sOwnK i) := fun B G0 G ρ σ H E c R x e k => by
  cases e
  intro p np
  obtain ⟨R', x'⟩ := R.newOwn (i := i) (o := .dK []) (d := .dic []) x np ⟨[], upd_same, rfl, .nil⟩
  exact k _ _ G R' x'
theorem den_ownT {i : Nat} : DenS K (tAsg tDNewT (gName i)) (sOwnT i) := fun B G0 G ρ σ H E c R x e k => by
  cases e
  intro p np
  obtain ⟨R', x'⟩ := R.newOwn (i := i) (o := .dT []) (d := .dit []) x np ⟨[], upd_same, rfl, .nil⟩
  exact k _ _ G R' x'
/-- xs.append(e) of a list under way -/
def sApp (i : Nat) (fe : FE) : FS := fun ρ => match ρ[i]? with
  | some (some (.own (.lst ds))) => (fe ρ).bind fun d => if ds.length < 100000 then some (.nx (ρ.set i (some (.own (.lst (ds ++ [d])))))) else none
  | _ => none
theorem den_app {i : Nat} {te : TE} {fe : FE} (he : Den K te fe) : DenS K (tDrop (tBM K "list" rAppend (tVar i) (tCons te tNil))) (sApp i fe) := fun B G0 G ρ σ H E c R x e k => by
  unfold sApp at e
  split at e
  · rename_i ds hi
    obtain ⟨d, e1, e⟩ := some_bind e
    split at e
    · rename_i hl
      cases e
      obtain ⟨a, h1, h2, h3, xs, h4, r4⟩ := R.own i _ hi
      refine ⟨_, h1, .inl ⟨rfl, _, .inl (.inl h4)⟩, he B G ρ σ H d _ R e1 fun v H1 G1 x1 r1 => ?_⟩
      have R1 := R.ext x1
      have e4 := x1.hh _ _ h4
      refine ⟨a, xs, v, rfl, rfl, e4, Nat.lt_of_lt_of_le (by rw [r4.length]; exact hl) (by decide), ?_⟩
      obtain ⟨R', x'⟩ := R1.chgOwn (o := .lst (xs ++ [v])) (d' := .lst (ds ++ [d])) (x.trans x1) hi h1 ⟨_, upd_same, (r4.mono x1.gg).append (.one r1)⟩
      exact k _ _ G1 R' x'
    · cases e
  · cases e
/-- d[k] = v of a dict under way -/
def putD {κ : Type} [DecidableEq κ] (kvs : List (κ × D)) (k : κ) (v : D) : List (κ × D) :=
  if (kvs.any fun kv => decide (kv.1 = k)) = true then kvs.map (fun kv => if kv.1 = k then (kv.1, v) else kv) else kvs ++ [(k, v)]
theorem any_rp {κ : Type} [DecidableEq κ] {k : κ} : ∀ {kvs : List (κ × V)} {ds : List (κ × D)}, kvs.map (·.1) = ds.map (·.1) → (kvs.any fun kv => decide (kv.1 = k)) = ds.any fun kv => decide (kv.1 = k)
  | [], [], _ => rfl
  | [], _ :: _, h => by cases h
  | _ :: _, [], h => by cases h
  | (k1, v) :: kvs, (k2, d) :: ds, h => by
    injection h with h1 h2
    have h1 : k1 = k2 := h1
    subst h1
    rw [List.any_cons, List.any_cons, any_rp h2]
theorem put_rp {κ : Type} [DecidableEq κ] {G : Hp} {k : κ} {v : V} {d : D} {kvs : List (κ × V)} {ds : List (κ × D)} (h : kvs.map (·.1) = ds.map (·.1)) (r : Rps K G (kvs.map (·.2)) (ds.map (·.2))) (rv : Rp K G v d) :
    (putK kvs k v).map (·.1) = (putD ds k d).map (·.1) ∧ Rps K G ((putK kvs k v).map (·.2)) ((putD ds k d).map (·.2)) := by
  unfold putK putD
  rw [any_rp h]
  split
  · have aux : ∀ {kvs : List (κ × V)} {ds : List (κ × D)}, kvs.map (·.1) = ds.map (·.1) → Rps K G (kvs.map (·.2)) (ds.map (·.2)) →
        (kvs.map (fun kv => if kv.1 = k then (kv.1, v) else kv)).map (·.1) = (ds.map (fun kv => if kv.1 = k then (kv.1, d) else kv)).map (·.1) ∧ Rps K G ((kvs.map (fun kv => if kv.1 = k then (kv.1, v) else kv)).map (·.2)) ((ds.map (fun kv => if kv.1 = k then (kv.1, d) else kv)).map (·.2)) := by
      intro kvs
      induction kvs with
      | nil =>
        intro ds h r
        cases ds with
        | nil => exact ⟨rfl, .nil⟩
        | cons _ _ => cases h
      | cons q kvs ih =>
        intro ds h r
        cases ds with
        | nil => cases h
        | cons q2 ds =>
          obtain ⟨k1, v1⟩ := q
          obtain ⟨k2, d1⟩ := q2
          injection h with h1 h2
          have h1 : k1 = k2 := h1
          subst h1
          cases r with
          | cons r1 r2 =>
            obtain ⟨i1, i2⟩ := ih h2 r2
            by_cases z : k1 = k
            · simp only [List.map_cons, z, if_true]
              exact ⟨by rw [i1], .cons rv i2⟩
            · simp only [List.map_cons, z, if_false]
              exact ⟨by rw [i1], .cons r1 i2⟩
    exact aux h r
  · simp only [List.map_append, List.map_cons, List.map_nil]
    exact ⟨by rw [h], r.append (.one rv)⟩
def sPut (i : Nat) (fk fv : FE) : FS := fun ρ => (fv ρ).bind fun v => (fk ρ).bind fun k => match ρ[i]? with
  | some (some (.own (.dic kvs))) => (keyD k).bind fun k => if kvs.length < 100000 then some (.nx (ρ.set i (some (.own (.dic (putD kvs k v)))))) else none
  | some (some (.own (.dit kvs))) => match k with
    | .tup ks => (keysD ks).bind fun k => if kvs.length < 100000 then some (.nx (ρ.set i (some (.own (.dit (putD kvs k v)))))) else none
    | _ => none
  | _ => none
theorem den_put {i : Nat} {ty tv : TE} {fk fv : FE} (hk : Den K ty fk) (hv : Den K tv fv) : DenS K (sDPut (tVar i) ty tv) (sPut i fk fv) := fun B G0 G ρ σ H E c R x e k => by
  obtain ⟨v, e1, e⟩ := some_bind e
  obtain ⟨y, e2, e⟩ := some_bind e
  refine hv B G ρ σ H v _ R e1 fun u H1 G1 x1 r1 => ?_
  have R1 := R.ext x1
  split at e
  · rename_i kvs hi
    obtain ⟨kk, e3, e⟩ := some_bind e
    split at e
    · rename_i hl
      cases e
      obtain ⟨a, h1, h2, h3, xs, h4, q4, r4⟩ := R1.own i _ hi
      refine ⟨_, h1, hk B G1 ρ σ H1 y _ R1 e2 fun w H2 G2 x2 r2 => ?_⟩
      obtain rfl := keyD_rp r2 e3
      have e4 := x2.hh _ _ h4
      have hlen : xs.length < sizeLine := by
        have z := congrArg List.length q4
        rw [List.length_map, List.length_map] at z
        exact Nat.lt_of_lt_of_le (by rw [z]; exact hl) (by decide)
      refine ⟨a, _, rfl, .k e4 hlen, ?_⟩
      obtain ⟨p1, p2⟩ := put_rp (k := kk) q4 (r4.mono x2.gg) (r1.mono x2.gg)
      obtain ⟨R', x'⟩ := (R1.ext x2).chgOwn (d' := .dic (putD kvs kk v)) ((x.trans x1).trans x2) hi h1 ⟨_, upd_same, p1, p2⟩
      exact k _ _ G2 R' x'
    · cases e
  · rename_i kvs hi
    split at e
    · rename_i ks
      obtain ⟨kk, e3, e⟩ := some_bind e
      split at e
      · rename_i hl
        cases e
        obtain ⟨a, h1, h2, h3, xs, h4, q4, r4⟩ := R1.own i _ hi
        refine ⟨_, h1, hk B G1 ρ σ H1 _ _ R1 e2 fun w H2 G2 x2 r2 => ?_⟩
        have r2' := r2
        cases r2
        rename_i b ys g1 g2
        obtain rfl := keysD_rp g2 e3
        have e4 := x2.hh _ _ h4
        have hlen : xs.length < sizeLine := by
          have z := congrArg List.length q4
          rw [List.length_map, List.length_map] at z
          exact Nat.lt_of_lt_of_le (by rw [z]; exact hl) (by decide)
        refine ⟨a, _, rfl, .t e4 (x2.gh _ _ g1) hlen, ?_⟩
        obtain ⟨p1, p2⟩ := put_rp (k := kk) q4 (r4.mono x2.gg) (r1.mono x2.gg)
        obtain ⟨R', x'⟩ := (R1.ext x2).chgOwn (d' := .dit (putD kvs kk v)) ((x.trans x1).trans x2) hi h1 ⟨_, upd_same, p1, p2⟩
        exact k _ _ G2 R' x'
      · cases e
    · cases e
  · cases e
/-! ### for -/
def forM (m : D → En → Option En) (mb : FS) : List D → FS
  | [], ρ => some (.nx ρ)
  | d :: ds, ρ => (m d ρ).bind fun ρ1 => (mb ρ1).bind fun c => match c with
    | .nx ρ2 => forM m mb ds ρ2
    | .ct ρ2 => forM m mb ds ρ2
    | .bk ρ2 => some (.nx ρ2)
    | .rt d => some (.rt d)
def sFor (fs : FA) (m : D → En → Option En) (mb : FS) : FS := fun ρ => (fs ρ).bind fun ds => forM m mb ds ρ
theorem den_for {wi : TI} {fs : FA} {g : TG} {m : D → En → Option En} {tb : TS} {mb : FS} (hi : DenI K wi fs) (hg : DenG K g m) (hb : DenS K tb mb) : DenS K (tFor wi g tb) (sFor fs m mb) := fun B G0 G ρ σ H E c R x e k => by
  obtain ⟨ds, e1, e⟩ := some_bind e
  refine hi B G ρ σ H ds _ R e1 fun J H1 G1 x1 src => ?_
  refine for_it src (fun i σ' H' => ∃ ρ' G', Rel K B G' ρ' σ' H' ∧ Ext G0 B G' H' ∧ Ex G1 G' ∧ forM m mb (ds.drop i) ρ' = some c) ⟨ρ, G1, R.ext x1, x.trans x1, .refl _, e⟩ ?_ ?_ ?_
  · rintro i σ' H' _ ⟨ρ', G', R', x', g', _⟩
    exact g'.trans R'.ex
  · rintro i v σ' H2 H3 hi ⟨ρ', G', R', x', g', e'⟩ ⟨d, e4, y⟩
    obtain ⟨G3, x3, r3⟩ := y G' g' R'.ex
    have ed : ds.drop i = d :: ds.drop (i + 1) := by
      obtain ⟨h1, h2⟩ := List.getElem?_eq_some_iff.mp e4
      rw [List.drop_eq_getElem_cons h1, h2]
    rw [ed] at e'
    unfold forM at e'
    obtain ⟨ρ1, m1, e'⟩ := some_bind e'
    obtain ⟨c1, b1, e'⟩ := some_bind e'
    refine hg B G3 ρ' ρ1 σ' H3 v d _ (R'.ext x3) r3 m1 fun σ2 R2 => ?_
    have g3 : Ex G1 G3 := g'.trans x3.gg
    have x4 := x'.trans x3
    have back : ∀ G' H', Ext G3 B G' H' → Ext G0 B G' H' := fun G' H' z => ⟨x4.gg.trans z.gg, z.gh, z.hh, fun a o h => (z.fr a o h).trans (x4.fr a o h)⟩
    refine hb B G3 G3 ρ1 σ2 H3 _ c1 R2 ⟨.refl _, x4.gh, x4.hh, fun _ _ _ => rfl⟩ b1 ?_
    cases c1 with
    | nx ρ2 => exact fun σ5 H5 G5 R5 x5 => ⟨ρ2, G5, R5, back _ _ x5, g3.trans x5.gg, e'⟩
    | ct ρ2 => exact fun σ5 H5 G5 R5 x5 => ⟨ρ2, G5, R5, back _ _ x5, g3.trans x5.gg, e'⟩
    | rt d =>
      cases e'
      exact fun v H5 G5 x5 r5 => k v H5 G5 (back _ _ x5) r5
    | bk ρ2 =>
      cases e'
      exact fun σ5 H5 G5 R5 x5 => k σ5 H5 G5 R5 (back _ _ x5)
  · rintro σ' H' ⟨ρ', G', R', x', g', e'⟩
    rw [List.drop_length] at e'
    cases e'
    exact k σ' H' G' R' x'
end
end DL
end

section
set_option Elab.async false
set_option linter.all false
set_option maxRecDepth 100000
set_option maxHeartbeats 4000000
/-! Sets of ints: walks in any order, &, -, ==. -/
namespace KW
open PySem PySem.Spec PyProof.Rows L2
section
variable {P : Program} {w : World} {A : Around} {E : Value → Shared → Prop} {s : Shared} {a : Addr} {o : Obj} {es : Array (Int × Value)} {ep : Nat} {t : SetTable}

theorem walk_at {Q : Array (Int × Value) → Shared → Prop} (ho : s.heap.get? a = some o) (hd : o.data = .set es ep t) (hf : t.fits es.size = true)
    (hl : w.params.followText "set-order" = true ∨ t.led = true) (hQ : ∀ (es' : Array (Int × Value)) d, es'.toList.Perm es.toList → Q es' { s with drawn := d }) :
    wpAny (model P w) A (setWalk a) Q E s := by
  unfold setWalk
  refine wpAny_bind (wpAny_setState_of ho hd hf ?_)
  dsimp only
  refine wpAny_bind (wpAny_byText ?_)
  cases hb : w.params.followText "set-order" with
  | true =>
    refine wp_if_pos rfl ?_
    exact wpAny_bind (wpAny_askSetting (wpAny_pure (hQ _ s.drawn (pick_perm _ _))))
  | false =>
    have hled : t.led = true := hl.resolve_left (by rw [hb]; exact Bool.false_ne_true)
    refine wp_if_neg Bool.false_ne_true ?_
    try refine wpAny_bind (wpAny_pure ?_)
    cases hdr : (!t.plain && decide (es.size > 1)) with
    | true =>
      refine wp_if_pos (by show (!t.plain && decide (es.size > 1)) = true; exact hdr) ?_
      refine wpAny_bind (drawOrder_at _ _ _ _ (by rw [Array.length_toList]; exact Nat.le_refl _) fun ys d hp => wpAny_pure (hQ _ d ?_))
      simpa using hp
    | false =>
      refine wp_if_neg (by show ¬ ((!t.plain && decide (es.size > 1)) = true); rw [hdr]; exact Bool.false_ne_true) ?_
      try refine wpAny_bind (wpAny_pure ?_)
      refine wpAny_bind (wpAny_of_eq (a := ()) ?_ ?_)
      · show (if (!t.led && decide (es.size > 1)) = true then unsupported "set:maker-not-led" else pure ()) = pure ()
        rw [hled] <;> rfl
      · exact wpAny_pure (hQ es s.drawn (List.Perm.refl _))

theorem quiet_at {Q : Bool → Shared → Prop} (sets : List Addr) (h : ∀ a ∈ sets, ∃ S n, SetR w s.heap a S n) (hQ : Q true s) :
    wpAny (model P w) A (setsQuiet sets) Q E s := by
  unfold setsQuiet
  refine wpAny_bind (wpAny_forIn_list _ (fun rest b s' => b.1 = none ∧ s' = s ∧ ∀ a ∈ rest, a ∈ sets) _ ?_ ?_ _ _ ⟨rfl, rfl, fun _ h => h⟩)
  · rintro x rest b s' ⟨hb, rfl, hm⟩
    obtain ⟨S, n, o, es, ep, t, ho, hx, hd, g, nd, hmm, hbb, hf, hn, _⟩ := h x (hm x List.mem_cons_self)
    refine wpAny_bind (wpAny_setEntries_of ho hd hf ?_)
    refine wpAny_bind (MeetsSeq2.wpAny_forIn_array _ (fun rest b s2 => b.1 = none ∧ s2 = s' ∧ ∀ e ∈ rest, e ∈ es.toList) _ ?_ ?_ _ _ ⟨rfl, rfl, fun _ h => h⟩)
    · rintro ⟨hh, v⟩ rest2 b2 s2 ⟨hb2, rfl, hm2⟩
      obtain ⟨k, tk, e1, _⟩ := g (hh, v) (hm2 _ List.mem_cons_self)
      dsimp only at e1
      subst e1
      dsimp only
      wp_walk
      exact ⟨rfl, rfl, fun e he => hm2 e (List.mem_cons_of_mem _ he)⟩
    · rintro ⟨b2, u2⟩ s2 ⟨hb2, rfl, _⟩
      dsimp only at hb2
      subst hb2
      exact wpAny_pure ⟨rfl, rfl, fun e he => hm e (List.mem_cons_of_mem _ he)⟩
  · rintro ⟨b, u⟩ s' ⟨hb, rfl, _⟩
    dsimp only at hb
    subst hb
    exact wpAny_pure hQ

/-- the table's marks changed, the members as they were -/
theorem SetR.marks {h : Heap} {r : Addr} {S : Int → Bool} {n : Nat} {o : Obj} {es : Array (Int × Value)} {ep : Nat} {t t' : SetTable} (R : SetR w h r S n) (ho : h.get? r = some o) (hd : o.data = .set es ep t)
    (hp : t'.place = t.place) (hm : t'.mask = t.mask) (hdm : t'.dummies = t.dummies) (hl : t.led = true → t'.led = true) :
    SetR w (h.update r (Obj.putSet es t')) r S n := by
  obtain ⟨o2, es2, ep2, t2, ho2, hx, hd2, g, nd, hmm, hbb, hf, hn, hr, hl2⟩ := R
  rw [ho] at ho2
  cases ho2
  rw [hd] at hd2
  cases hd2
  refine ⟨_, es, ep + 1, t', store_at ho hd, hx, rfl, g, nd, hmm, hbb, ?_, hn, by rw [hp]; exact hr, hl2.imp id hl⟩
  have q : t'.fits es.size = t.fits es.size := by
    unfold SetTable.fits SetTable.fill
    rw [hp, hm, hdm]
  rw [q]
  exact hf

/-- the walk of a set that nobody sees, to fill the set r with -/
theorem unseen_at {r : Addr} {S Sr : Int → Bool} {n nr : Nat} {others : List Addr} {Q : Array (Int × Value) → Shared → Prop} (ho : s.heap.get? a = some o) (hd : o.data = .set es ep t)
    (R : SetR w s.heap a S n) (Rr : SetR w s.heap r Sr nr) (ne : r ≠ a) (hs : ∀ b ∈ others, ∃ S n, SetR w s.heap b S n)
    (hQ : ∀ (es' : Array (Int × Value)) d h', es'.toList.Perm es.toList → Heap.SameBut r s.heap h' → SetR w h' r Sr nr → Q es' { s with heap := h', drawn := d }) :
    wpAny (model P w) A (setWalkUnseen a others (some r)) Q E s := by
  have R0 := R
  obtain ⟨o2, es2, ep2, t2, ho2, hx, hd2, g, nd, hmm, hbb, hf, hn, hr, hl2⟩ := R
  rw [ho] at ho2
  cases ho2
  rw [hd] at hd2
  cases hd2
  have hQ0 : ∀ (es' : Array (Int × Value)) d, es'.toList.Perm es.toList → Q es' { s with drawn := d } := fun es' d p => hQ es' d s.heap p (Heap.SameBut.refl r s.heap) Rr
  unfold setWalkUnseen
  refine wpAny_bind (wpAny_setState_of ho hd hf ?_)
  dsimp only
  refine wpAny_bind (wpAny_byText ?_)
  by_cases hc : (w.params.followText "set-order" || t.led && t.plain || decide (es.size ≤ 1)) = true
  · refine wp_if_pos hc ?_
    exact walk_at ho hd hf hl2 hQ0
  · refine wp_if_neg hc ?_
    try refine wpAny_bind (wpAny_pure ?_)
    refine wpAny_bind (quiet_at _ (fun b hb => ?_) ?_)
    · rcases List.mem_cons.mp hb with e | e
      · rw [e]
        exact ⟨S, n, R0⟩
      · exact hs b e
    · refine wp_if_neg (by decide) ?_
      try refine wpAny_bind (wpAny_pure ?_)
      refine wpAny_bind (wpAny_rule ?_)
      have Rr0 := Rr
      obtain ⟨o3, es3, ep3, t3, ho3, hx3, hd3, g3, nd3, hmm3, hbb3, hf3, hn3, hr3, hl3⟩ := Rr
      try dsimp only
      refine wpAny_bind (wpAny_setState_of ho3 hd3 hf3 ?_)
      try dsimp only
      have hled : t.led = true := by
        rcases hl2 with z | z
        · rw [z] at hc
          exact absurd rfl hc
        · exact z
      split
      · refine wpAny_bind (wpAny_storeSet_of ho3 hd3 ?_ (fits_of_scanBound hbb3))
        refine wpAny_pure (hQ es s.drawn _ (List.Perm.refl _) (Heap.SameBut.update _ r _) ?_)
        exact SetR.marks Rr0 ho3 hd3 rfl rfl rfl (fun z => by rw [z, hled] <;> rfl)
      · try refine wpAny_bind (wpAny_pure ?_)
        exact wpAny_pure (hQ0 es s.drawn (List.Perm.refl _))

theorem perm_nodup {l l' : List Int} (h1 : l.Nodup) (h2 : l'.Nodup) (h : ∀ k, k ∈ l ↔ k ∈ l') : l.length = l'.length :=
  Nat.le_antisymm (List.Nodup.length_le_of_subset h1 fun k hk => (h k).1 hk) (List.Nodup.length_le_of_subset h2 fun k hk => (h k).2 hk)
theorem SetR.count {h : Heap} {S : Int → Bool} {n : Nat} (R : SetR w h a S n) {l : List Int} (nd : l.Nodup) (hm : ∀ k, S k = true ↔ k ∈ l) : n = l.length := by
  obtain ⟨o2, es2, ep2, t2, ho2, hx, hd2, g, nd2, hmm, hbb, hf, hn, hr, hl2⟩ := R
  have q := perm_nodup nd2 nd (fun k => (hmm k).symm.trans (hm k))
  rw [List.length_map, Array.length_toList] at q
  omega

theorem SetR.ty {h : Heap} {S : Int → Bool} {n : Nat} {s : Shared} (R : SetR w s.heap a S n) : s.TypeIs (.ref a) "set" := by
  obtain ⟨o2, es2, ep2, t2, ho2, hx, hd2, _⟩ := R
  exact ⟨o2, ho2, hx.1⟩

theorem anySet_at {S : Int → Bool} {n : Nat} {Q : Bool → Shared → Prop} (R : SetR w s.heap a S n) (hQ : Q true s) : wpAny (model P w) A (Builtin.Frozenset.isAnySet (.ref a)) Q E s := by
  unfold Builtin.Frozenset.isAnySet
  have hT : s.TypeIs (.ref a) "set" := SetR.ty (h := s.heap) R
  unfold orM
  refine wpAny_bind (wpAny_isInstance hT sub_set_self ?_)
  exact wpAny_pure hQ
theorem base_at {S : Int → Bool} {n : Nat} {Q : Value → Shared → Prop} (R : SetR w s.heap a S n) (hQ : Q (.type "set") s) : wpAny (model P w) A (Builtin.Frozenset.baseOf a) Q E s := by
  unfold Builtin.Frozenset.baseOf
  have hT : s.TypeIs (.ref a) "set" := SetR.ty (h := s.heap) R
  refine wpAny_bind (wpAny_isInstance hT sub_set_self ?_)
  exact wpAny_pure hQ
theorem size_at {S : Int → Bool} {n : Nat} {Q : Nat → Shared → Prop} (R : SetR w s.heap a S n) (hQ : Q n s) : wpAny (model P w) A (Builtin.Frozenset.sizeOf a) Q E s := by
  obtain ⟨o2, es2, ep2, t2, ho2, hx, hd2, g, nd2, hmm, hbb, hf, hn, hr, hl2⟩ := R
  subst hn
  unfold Builtin.Frozenset.sizeOf
  exact wpAny_bind (wpAny_setEntries_of ho2 hd2 hf (wpAny_pure hQ))
theorem newSet_at {Q : Value → Shared → Prop} (hQ : SetR w (s.heap.push { cls := .type "set", dict := none, data := .set #[] 0 (.fresh 0 0 (!w.params.followText "set-order")) }) s.heap.objs.size (fun _ => false) 0 →
      Q (.ref s.heap.objs.size) { s with heap := s.heap.push { cls := .type "set", dict := none, data := .set #[] 0 (.fresh 0 0 (!w.params.followText "set-order")) } }) :
    wpAny (model P w) A (newSet (.type "set")) Q E s := by
  unfold newSet setsByText
  refine wpAny_bind (wpAny_bind (wpAny_askSetting (wpAny_pure ?_)))
  dsimp only
  simp only [newObj]
  exact wpAny_bind (wpAny_alloc (wpAny_pure (hQ (setR_fresh w))))

theorem epoch_at {Q : Nat → Shared → Prop} (ho : s.heap.get? a = some o) (hd : o.data = .set es ep t) (hf : t.fits es.size = true) (h : Q ep s) : wpAny (model P w) A (setEpoch a) Q E s := wpAny_setEpoch_of ho hd hf h
theorem unchanged_at {id : String} {Q : Unit → Shared → Prop} (ho : s.heap.get? a = some o) (hd : o.data = .set es ep t) (hf : t.fits es.size = true) (h : Q () s) :
    wpAny (model P w) A (Builtin.Frozenset.unchanged id a ep) Q E s := by
  unfold Builtin.Frozenset.unchanged
  refine wpAny_bind (wpAny_setEpoch_of ho hd hf ?_)
  refine wp_if_neg (by simp) ?_
  exact wpAny_pure h

/-- what is kept while r is filled -/
def Only1 (r : Addr) (s s' : Shared) : Prop := ∃ h' d tk, s' = { s with heap := h', drawn := d, toks := tk } ∧ Heap.SameBut r s.heap h'

/-- the members of one set, in any order, that are (or are not) in another, laid into r -/
theorem pick_loop {id : String} {x y r : Addr} {Sx Sy : Int → Bool} {nx ny : Nat} {ox : Obj} {esx : Array (Int × Value)} {epx : Nat} {tx : SetTable} {keep : Bool → Bool}
    (hox : s.heap.get? x = some ox) (hdx : ox.data = .set esx epx tx) (Rx : SetR w s.heap x Sx nx) (Ry : SetR w s.heap y Sy ny) (nrx : r ≠ x) (nry : r ≠ y) (hb : nx + 1 < scanBound)
    {f : Int × Value → Unit → Sem (ForInStep Unit)}
    (hfE : ∀ (s : Shared) (k : Int) (tk : Tok) (Q : ForInStep Unit → Shared → Prop) (Sr : Int → Bool) (c : Nat), s.heap.get? x = some ox → SetR w s.heap y Sy ny → SetR w s.heap r Sr c → c + 1 < scanBound →
      (∀ s' c', Only1 r s s' → SetR w s'.heap r (fun j => Sr j || (decide (j = k) && keep (Sy k))) c' → c' ≤ c + 1 → Q (.yield ()) s') → wpAny (model P w) A (f (hashInt k, .int k tk) ()) Q E s)
    (es' : Array (Int × Value)) (pm : es'.toList.Perm esx.toList) (R0 : SetR w s.heap r (fun _ => false) 0) {Q : Unit → Shared → Prop}
    (hQ : ∀ s' c, Only1 r s s' → SetR w s'.heap r (fun k => Sx k && keep (Sy k)) c → Q () s') :
    wpAny (model P w) A (forIn es' () f) Q E s := by
  obtain ⟨o2, es2, ep2, t2, ho2, hx, hd2, g, nd2, hmm, hbb, hf, hn, hr, hl2⟩ := Rx
  rw [hox] at ho2
  cases ho2
  rw [hdx] at hd2
  cases hd2
  have gg : ∀ e ∈ es'.toList, GoodE e := fun e he => g e (pm.mem_iff.mp he)
  have hln : es'.toList.length = nx := by rw [pm.length_eq, Array.length_toList, hn]
  refine MeetsSeq2.wpAny_forIn_array _ (fun rest b s' => ∃ (done : List (Int × Value)) (c : Nat), es'.toList = done ++ rest ∧ Only1 r s s' ∧ c ≤ done.length ∧ SetR w s'.heap r (fun k => decide (k ∈ done.map keyOf) && keep (Sy k)) c) _ ?_ ?_ es' () ⟨[], 0, rfl, ⟨s.heap, s.drawn, s.toks, rfl, Heap.SameBut.refl r s.heap⟩, Nat.le_refl _, ?_⟩
  · rintro e rest b s' ⟨done, c, he, ⟨h', d, tk, rfl, sb⟩, hc, Rr⟩
    obtain ⟨k, tk2, e2, e1⟩ := gg e (by rw [he]; simp)
    obtain ⟨e1', e2'⟩ := e
    dsimp only at e1 e2
    subst e1
    subst e2
    have hlen : done.length + (rest.length + 1) = nx := by
      have := congrArg List.length he
      rw [List.length_append, List.length_cons, hln] at this
      omega
    refine hfE _ k tk2 _ _ c ((sb.2 x nrx.symm).trans hox) (Ry.at fun o q => (sb.2 y nry.symm).trans q) Rr (by omega) fun s'' c' h2 R2 hc' => ?_
    obtain ⟨h2', d2, tk3, rfl, sb2⟩ := h2
    refine ⟨done ++ [(hashInt k, .int k tk2)], c', by rw [he, List.append_assoc]; rfl, ⟨h2', d2, tk3, rfl, sb.trans sb2⟩, by rw [List.length_append]; show c' ≤ done.length + 1; omega, R2.congr fun j => ?_⟩
    rw [List.map_append]
    show (decide (j ∈ done.map keyOf ++ [k]) && keep (Sy j)) = ((decide (j ∈ done.map keyOf) && keep (Sy j)) || (decide (j = k) && keep (Sy k)))
    by_cases hj : j = k
    · subst hj
      simp
    · have e1 : decide (j ∈ done.map keyOf ++ [k]) = decide (j ∈ done.map keyOf) := decide_eq_decide.mpr (by simp [hj])
      rw [e1, decide_eq_false hj]
      simp
  · rintro ⟨⟩ s' ⟨done, c, he, hO, hc, Rr⟩
    rw [List.append_nil] at he
    refine hQ s' c hO (Rr.congr fun k => ?_)
    have q : decide (k ∈ done.map keyOf) = Sx k := by
      rw [← he]
      have hk := hmm k
      have hp : k ∈ es'.toList.map keyOf ↔ k ∈ esx.toList.map keyOf := (pm.map keyOf).mem_iff
      cases hS : Sx k with
      | true => exact decide_eq_true (hp.2 (hk.1 hS))
      | false =>
        refine decide_eq_false (fun z => ?_)
        rw [hk.2 (hp.1 z)] at hS
        cases hS
    rw [q]
  · exact R0.congr (fun k => by simp)

theorem turn_at {id : String} {x y r : Addr} {Sy Sr : Int → Bool} {ny c : Nat} {ox : Obj} {esx : Array (Int × Value)} {epx : Nat} {tx : SetTable} {keep : Bool → Bool} {k : Int} {tk : Tok} {Q : ForInStep Unit → Shared → Prop}
    {g : Option Nat → Bool} (hg : ∀ r : Option Nat, g r = keep r.isSome)
    (hox : s.heap.get? x = some ox) (hdx : ox.data = .set esx epx tx) (hfx : tx.fits esx.size = true) (nrx : r ≠ x) (Ry : SetR w s.heap y Sy ny) (Rr : SetR w s.heap r Sr c) (hc : c + 1 < scanBound)
    (hQ : ∀ s' c', Only1 r s s' → SetR w s'.heap r (fun j => Sr j || (decide (j = k) && keep (Sy k))) c' → c' ≤ c + 1 → Q (.yield ()) s') :
    wpAny (model P w) A (do
      holding [Value.int k tk] (do
        let there ← setFind y (.int k tk) (hashInt k)
        if g there = true then do let _ ← setAddHashed r (.int k tk) (hashInt k); pure PUnit.unit
        else pure PUnit.unit)
      Builtin.Frozenset.unchanged id x epx
      pure (ForInStep.yield ())) Q E s := by
  have hfin : ∀ (s' : Shared) (c' : Nat), Only1 r s s' → SetR w s'.heap r (fun j => Sr j || (decide (j = k) && keep (Sy k))) c' → c' ≤ c + 1 →
      wpAny (model P w) A (do Builtin.Frozenset.unchanged id x epx; pure (ForInStep.yield ())) Q E s' := fun s' c' hO R' hc' => by
    have hO2 := hO
    obtain ⟨h', d, tk', rfl, sb⟩ := hO2
    exact wpAny_bind (unchanged_at ((sb.2 x nrx.symm).trans hox) hdx hfx (wpAny_pure (hQ _ c' hO R' hc')))
  refine wpAny_bind (wpAny_holding ?_)
  have hS : s.heap.SetOf (intKind P w) y Sy ny := Ry.setOf
  refine wpAny_bind (wpAny_setFind_of (knd := intKind P w) (k := k) (intKind_is P w k tk) rfl hS fun r' hr' => ?_)
  cases hb : g r' with
  | true =>
    refine wp_if_pos rfl ?_
    have hk : keep (Sy k) = true := by
      rw [← hr', ← hg]
      exact hb
    refine wpAny_bind (setR_add_hashed Rr hc fun h' sb R' => wpAny_pure ?_)
    refine hfin _ _ ⟨h', s.drawn, s.toks, rfl, sb⟩ (R'.congr fun j => ?_) (by split <;> omega)
    rw [hk, Bool.and_true]
  | false =>
    refine wp_if_neg Bool.false_ne_true ?_
    have hk : keep (Sy k) = false := by
      rw [← hr', ← hg]
      exact hb
    refine wpAny_pure (hfin s c ⟨s.heap, s.drawn, s.toks, rfl, Heap.SameBut.refl r s.heap⟩ (Rr.congr fun j => ?_) (Nat.le_succ _))
    rw [hk, Bool.and_false, Bool.or_false]

/-- a new set behind what was -/
def NewAt (s : Shared) (r : Addr) (s' : Shared) : Prop := ∃ h' d tk, s' = { s with heap := h', drawn := d, toks := tk } ∧ s.heap.objs.size ≤ r ∧ ∀ b u, s.heap.get? b = some u → h'.get? b = some u

theorem inter_at {id : String} {b : Addr} {Sa Sb : Int → Bool} {na nb : Nat} {Q : Value → Shared → Prop} (Ra : SetR w s.heap a Sa na) (Rb : SetR w s.heap b Sb nb) (ne : a ≠ b) (ha : na + 1 < scanBound) (hb : nb + 1 < scanBound)
    (hQ : ∀ s' r c, NewAt s r s' → SetR w s'.heap r (fun k => Sa k && Sb k) c → Q (.ref r) s') :
    wpAny (model P w) A (Builtin.Frozenset.intersection id a (.ref b)) Q E s := by
  unfold Builtin.Frozenset.intersection
  refine wp_if_neg (by
    show ¬ ((Value.ref b == Value.ref a) = true)
    intro z
    have := beq_iff_eq.mp z
    injection this with q
    exact ne q.symm) ?_
  try refine wpAny_bind (wpAny_pure ?_)
  refine wpAny_bind (base_at Ra ?_)
  refine wpAny_bind (newSet_at fun R0 => ?_)
  have kp : ∀ c u, s.heap.get? c = some u → (s.heap.push { cls := .type "set", dict := none, data := .set #[] 0 (.fresh 0 0 (!w.params.followText "set-order")) }).get? c = some u := fun c u e => Heap.get?_push_of_some _ e
  have Ra1 := Ra.at fun o e => kp _ o e
  have Rb1 := Rb.at fun o e => kp _ o e
  have nra : s.heap.objs.size ≠ a := Nat.ne_of_gt Ra.lt
  have nrb : s.heap.objs.size ≠ b := Nat.ne_of_gt Rb.lt
  generalize hr : s.heap.objs.size = r at *
  generalize hhp : (s.heap.push { cls := .type "set", dict := none, data := .set #[] 0 (.fresh 0 0 (!w.params.followText "set-order")) }) = hp at *
  have hend : ∀ (s' : Shared) (c : Nat), Only1 r { s with heap := hp } s' → SetR w s'.heap r (fun k => Sa k && Sb k) c → Q (.ref r) s' := fun s' c hO R' => by
    obtain ⟨h', d, tk, rfl, sb⟩ := hO
    refine hQ _ r c ⟨h', d, tk, rfl, Nat.le_of_eq hr, fun c u e => ?_⟩ R'
    exact (sb.2 c (by rw [← hr]; exact Nat.ne_of_lt (Heap.lt_size e))).trans (kp c u e)
  unfold Builtin.Frozenset.addrOf
  dsimp only
  refine wpAny_bind (wpAny_pure ?_)
  refine wpAny_bind (wpAny_holding ?_)
  refine wpAny_bind (anySet_at Rb1 ?_)
  refine wp_if_pos rfl ?_
  refine wpAny_bind (wpAny_pure ?_)
  refine wpAny_bind (size_at Rb1 ?_)
  refine wpAny_bind (size_at Ra1 ?_)
  have common : ∀ (x y : Addr) (Sx Sy : Int → Bool) (nx ny : Nat), SetR w hp x Sx nx → SetR w hp y Sy ny → r ≠ x → r ≠ y → nx + 1 < scanBound → (∀ k, (Sx k && Sy k) = (Sa k && Sb k)) →
      wpAny (model P w) A (do
        let was ← setEpoch x
        let l ← setWalkUnseen x [y, r] (some r)
        forIn l PUnit.unit fun z __s => do
          holding [z.snd] (do
              let there ← setFind y z.snd z.fst
              if there.isSome = true then do
                  let _ ← setAddHashed r z.snd z.fst
                  pure ()
                else pure ())
          Builtin.Frozenset.unchanged id x was
          pure (ForInStep.yield PUnit.unit)
        pure ()) (fun _ s' => Q (.ref r) s') E { s with heap := hp } := fun x y Sx Sy nx ny Rx Ry nrx nry hnx hS => by
    have Rw := Rx
    obtain ⟨ox, esx, epx, tx, hox, hx, hdx, g, nd2, hmm, hbb, hf, hn, hrr, hl2⟩ := Rx
    refine wpAny_bind (wpAny_setEpoch_of hox hdx hf ?_)
    refine wpAny_bind (unseen_at hox hdx Rw R0 nrx (fun c hc => ?_) fun es' d h' pm sb Rr => ?_)
    · rcases List.mem_cons.mp hc with e | e
      · rw [e]
        exact ⟨_, _, Ry⟩
      · rw [List.mem_singleton.mp e]
        exact ⟨_, _, R0⟩
    · refine wpAny_bind (pick_loop (P := P) (id := id) (keep := fun b => b) (x := x) (y := y) (r := r) ((sb.2 x nrx.symm).trans hox) hdx (Rw.at fun o q => (sb.2 x nrx.symm).trans q) (Ry.at fun o q => (sb.2 y nry.symm).trans q) nrx nry hnx ?_ es' pm Rr ?_)
      · intro s1 k tk Q1 Sr c h1 Ry1 Rr1 hc1 hQ1
        exact turn_at (g := fun o => o.isSome) (keep := fun b => b) (fun _ => rfl) h1 hdx hf nrx Ry1 Rr1 hc1 hQ1
      · intro s2 c hO R2
        obtain ⟨h2, d2, tk2, rfl, sb2⟩ := hO
        exact wpAny_pure (hend _ c ⟨h2, d2, tk2, rfl, sb.trans sb2⟩ (R2.congr fun k => (hS k).symm))
  by_cases hlt : nb > na
  · rw [if_pos hlt]
    exact wpAny_mono (common a b Sa Sb na nb Ra1 Rb1 nra nrb ha fun _ => rfl) (fun _ s' q => wpAny_pure q) fun _ _ q => q
  · rw [if_neg hlt]
    exact wpAny_mono (common b a Sb Sa nb na Rb1 Ra1 nrb nra hb fun k => Bool.and_comm _ _) (fun _ s' q => wpAny_pure q) fun _ _ q => q

theorem diff_at {id : String} {b : Addr} {Sa Sb : Int → Bool} {na nb : Nat} {Q : Value → Shared → Prop} (Ra : SetR w s.heap a Sa na) (Rb : SetR w s.heap b Sb nb) (ha : na + 1 < scanBound) (hab : na / 4 ≤ nb)
    (hQ : ∀ s' r c, NewAt s r s' → SetR w s'.heap r (fun k => Sa k && !Sb k) c → Q (.ref r) s') :
    wpAny (model P w) A (Builtin.Frozenset.difference id a (.ref b)) Q E s := by
  unfold Builtin.Frozenset.difference
  refine wpAny_bind (anySet_at Rb ?_)
  refine wp_if_neg (by decide) ?_
  try refine wpAny_bind (wpAny_pure ?_)
  unfold Builtin.Frozenset.addrOf
  dsimp only
  refine wp_if_neg (by simp) ?_
  refine wp_if_pos rfl ?_
  refine wpAny_bind (size_at Rb ?_)
  refine wpAny_bind (size_at Ra ?_)
  refine wp_if_neg (Nat.not_lt.mpr hab) ?_
  try refine wpAny_bind (wpAny_pure ?_)
  refine wpAny_bind (base_at Ra ?_)
  refine wpAny_bind (newSet_at fun R0 => ?_)
  have kp : ∀ c u, s.heap.get? c = some u → (s.heap.push { cls := .type "set", dict := none, data := .set #[] 0 (.fresh 0 0 (!w.params.followText "set-order")) }).get? c = some u := fun c u e => Heap.get?_push_of_some _ e
  have Ra1 := Ra.at fun o e => kp _ o e
  have Rb1 := Rb.at fun o e => kp _ o e
  have nra : s.heap.objs.size ≠ a := Nat.ne_of_gt Ra.lt
  have nrb : s.heap.objs.size ≠ b := Nat.ne_of_gt Rb.lt
  generalize hr : s.heap.objs.size = r at *
  generalize hhp : (s.heap.push { cls := .type "set", dict := none, data := .set #[] 0 (.fresh 0 0 (!w.params.followText "set-order")) }) = hp at *
  have hend : ∀ (s' : Shared) (c : Nat), Only1 r { s with heap := hp } s' → SetR w s'.heap r (fun k => Sa k && !Sb k) c → Q (.ref r) s' := fun s' c hO R' => by
    obtain ⟨h', d, tk, rfl, sb⟩ := hO
    refine hQ _ r c ⟨h', d, tk, rfl, Nat.le_of_eq hr, fun c u e => ?_⟩ R'
    exact (sb.2 c (by rw [← hr]; exact Nat.ne_of_lt (Heap.lt_size e))).trans (kp c u e)
  dsimp only
  refine wpAny_bind (wpAny_pure ?_)
  have Rw := Ra1
  obtain ⟨ox, esx, epx, tx, hox, hx, hdx, g, nd2, hmm, hbb, hf, hn, hrr, hl2⟩ := Ra1
  refine wpAny_bind (wpAny_setEpoch_of hox hdx hf ?_)
  refine wpAny_bind (wpAny_holding ?_)
  simp only [if_true, pure_bind]
  refine wpAny_bind (unseen_at hox hdx Rw R0 nra (fun c hc => ?_) fun es' d h' pm sb Rr => ?_)
  · rcases List.mem_cons.mp hc with e | e
    · rw [e]
      exact ⟨_, _, Rb1⟩
    · rw [List.mem_singleton.mp e]
      exact ⟨_, _, R0⟩
  · refine wpAny_bind (pick_loop (P := P) (id := id) (keep := fun b => !b) (x := a) (y := b) (r := r) ((sb.2 a nra.symm).trans hox) hdx (Rw.at fun o q => (sb.2 a nra.symm).trans q) (Rb1.at fun o q => (sb.2 b nrb.symm).trans q) nra nrb ha ?_ es' pm Rr ?_)
    · intro s1 k tk Q1 Sr c h1 Ry1 Rr1 hc1 hQ1
      exact turn_at (g := fun o => !o.isSome) (keep := fun b => !b) (fun _ => rfl) h1 hdx hf nra Ry1 Rr1 hc1 hQ1
    · intro s2 c hO R2
      obtain ⟨h2, d2, tk2, rfl, sb2⟩ := hO
      refine wpAny_pure ?_
      exact wpAny_pure (hend _ c ⟨h2, d2, tk2, rfl, sb.trans sb2⟩ R2)

theorem entry_set_and : entryFor table "set.__and__" = some Builtin.«frozenset.__and__» :=
  entryFor_alias (id' := "frozenset.__and__") (by kernel_rfl) rfl (by decide +kernel) (by kernel_rfl)
theorem entry_set_sub : entryFor table "set.__sub__" = some Builtin.«frozenset.__sub__» :=
  entryFor_alias (id' := "frozenset.__sub__") (by kernel_rfl) rfl (by decide +kernel) (by kernel_rfl)
theorem entry_set_eq : entryFor table "set.__eq__" = some Builtin.«frozenset.__eq__» :=
  entryFor_alias (id' := "frozenset.__eq__") (by kernel_rfl) rfl (by decide +kernel) (by kernel_rfl)

theorem and_at {b : Addr} {Sa Sb : Int → Bool} {na nb : Nat} {Q : Value → Shared → Prop} (Ra : SetR w s.heap a Sa na) (Rb : SetR w s.heap b Sb nb) (ne : a ≠ b) (ha : na + 1 < scanBound) (hb : nb + 1 < scanBound)
    (hQ : ∀ s' r c, NewAt s r s' → SetR w s'.heap r (fun k => Sa k && Sb k) c → Q (.ref r) s') :
    wpAny (model P w) A (binaryOp .BitAnd (.ref a) (.ref b)) Q E s := by
  have hT : s.TypeIs (.ref a) "set" := SetR.ty (h := s.heap) Ra
  have hT2 : s.TypeIs (.ref b) "set" := SetR.ty (h := s.heap) Rb
  refine wpAny_binaryOp_same hT hT2 F.fills_set_and F.slot_set_and (wpAny_call_entry F.slot_set_and hT entry_set_and ?_ (F.args_set_and_2 _ _))
  unfold Builtin.«frozenset.__and__»
  show wpAny _ _ (do
    let (self, other) ← Builtin.Frozenset.slot1 "__and__" ⟨[.ref a, .ref b], []⟩
    let (l, r) := if false = true then (other, self) else (self, other)
    if !(← Builtin.Frozenset.isAnySet l <&&> Builtin.Frozenset.isAnySet r) then rule s!"frozenset.{"__and__"}.declined"; return ← ret .notImplemented
    ret (← Builtin.Frozenset.intersection s!"frozenset.{"__and__"}" (← Builtin.Frozenset.addrOf l) r)) _ _ _
  refine wpAny_bind (m := Builtin.Frozenset.slot1 "__and__" _) (wpAny_of_eq (a := (Value.ref a, Value.ref b)) (by rfl) ?_)
  dsimp only
  unfold andM
  simp only [Bool.false_eq_true, if_false]
  refine wpAny_bind (wpAny_bind (anySet_at Ra (anySet_at Rb ?_)))
  refine wp_if_neg (by decide) ?_
  unfold Builtin.Frozenset.addrOf
  dsimp only
  refine wpAny_bind (wpAny_pure ?_)
  refine wpAny_bind (inter_at Ra Rb ne ha hb fun s' r c hN R' => ?_)
  exact wpAny_pure ⟨_, rfl, (fun z => by cases z), hQ s' r c hN R'⟩

theorem sub_at {b : Addr} {Sa Sb : Int → Bool} {na nb : Nat} {Q : Value → Shared → Prop} (Ra : SetR w s.heap a Sa na) (Rb : SetR w s.heap b Sb nb) (ha : na + 1 < scanBound) (hab : na / 4 ≤ nb)
    (hQ : ∀ s' r c, NewAt s r s' → SetR w s'.heap r (fun k => Sa k && !Sb k) c → Q (.ref r) s') :
    wpAny (model P w) A (binaryOp .Sub (.ref a) (.ref b)) Q E s := by
  have hT : s.TypeIs (.ref a) "set" := SetR.ty (h := s.heap) Ra
  have hT2 : s.TypeIs (.ref b) "set" := SetR.ty (h := s.heap) Rb
  refine wpAny_binaryOp_same hT hT2 F.fills_set_sub F.slot_set_sub (wpAny_call_entry F.slot_set_sub hT entry_set_sub ?_ (F.args_set_sub_2 _ _))
  unfold Builtin.«frozenset.__sub__»
  show wpAny _ _ (do
    let (self, other) ← Builtin.Frozenset.slot1 "__sub__" ⟨[.ref a, .ref b], []⟩
    let (l, r) := if false = true then (other, self) else (self, other)
    if !(← Builtin.Frozenset.isAnySet l <&&> Builtin.Frozenset.isAnySet r) then rule s!"frozenset.{"__sub__"}.declined"; return ← ret .notImplemented
    ret (← Builtin.Frozenset.difference s!"frozenset.{"__sub__"}" (← Builtin.Frozenset.addrOf l) r)) _ _ _
  refine wpAny_bind (m := Builtin.Frozenset.slot1 "__sub__" _) (wpAny_of_eq (a := (Value.ref a, Value.ref b)) (by rfl) ?_)
  dsimp only
  unfold andM
  simp only [Bool.false_eq_true, if_false]
  refine wpAny_bind (wpAny_bind (anySet_at Ra (anySet_at Rb ?_)))
  refine wp_if_neg (by decide) ?_
  unfold Builtin.Frozenset.addrOf
  dsimp only
  refine wpAny_bind (wpAny_pure ?_)
  refine wpAny_bind (diff_at Ra Rb ha hab fun s' r c hN R' => ?_)
  exact wpAny_pure ⟨_, rfl, (fun z => by cases z), hQ s' r c hN R'⟩

end
end KW
end

section
set_option Elab.async false
set_option linter.all false
set_option maxRecDepth 100000
set_option maxHeartbeats 4000000
namespace KW
open PySem PySem.Spec PyProof.Rows L2
section
variable {P : Program} {w : World} {A : Around} {E : Value → Shared → Prop} {s : Shared} {a : Addr} {o : Obj} {es : Array (Int × Value)} {ep : Nat} {t : SetTable}
theorem subset_at {id : String} {b : Addr} {Sa Sb : Int → Bool} {na nb : Nat} {Q : Bool → Shared → Prop} (Ra : SetR w s.heap a Sa na) (Rb : SetR w s.heap b Sb nb) (hab : na = nb)
    (hQ : ∀ c : Bool, (c = true ↔ ∀ k, Sa k = true → Sb k = true) → Q c s) :
    wpAny (model P w) A (Builtin.Frozenset.subsetOf id a b) Q E s := by
  unfold Builtin.Frozenset.subsetOf
  refine wpAny_bind (size_at Ra ?_)
  refine wpAny_bind (size_at Rb ?_)
  refine wp_if_neg (by omega) ?_
  have Rw := Ra
  have Rw2 := Rb
  obtain ⟨ox, esx, epx, tx, hox, hx, hdx, g, nd2, hmm, hbb, hf, hn, hrr, hl2⟩ := Ra
  obtain ⟨oy, esy, epy, ty, hoy, hy, hdy, gy, ndy, hmy, hby, hfy, hny, hry, hly⟩ := Rb
  refine wpAny_bind (wpAny_setEpoch_of hox hdx hf ?_)
  refine wpAny_bind (m := Builtin.Frozenset.walkUnseen a b) ?_
  unfold Builtin.Frozenset.walkUnseen
  refine wpAny_bind (wpAny_setEntries_of hox hdx hf ?_)
  refine wpAny_bind (wpAny_setEntries_of hoy hdy hfy ?_)
  refine wpAny_bind (wpAny_forIn_list _ (fun rest b s' => b.1 = none ∧ s' = s ∧ ∀ e ∈ rest, GoodE e) _ ?_ ?_ _ _ ⟨rfl, rfl, ?_⟩)
  · rintro ⟨hh, v⟩ rest2 b2 s2 ⟨hb2, rfl, hm2⟩
    obtain ⟨k, tk, e1, _⟩ := hm2 (hh, v) List.mem_cons_self
    dsimp only at e1
    subst e1
    dsimp only
    unfold Builtin.Frozenset.quietEq
    dsimp only
    refine wpAny_bind (wpAny_pure ?_)
    refine wp_if_neg (by decide) ?_
    exact wpAny_pure ⟨rfl, rfl, fun e he => hm2 e (List.mem_cons_of_mem _ he)⟩
  · rintro ⟨b2, u2⟩ s2 ⟨hb2, rfl, _⟩
    dsimp only at hb2
    subst hb2
    refine wpAny_pure ?_
    refine wpAny_bind (wpAny_forIn_list _ (fun rest b s' => b.1 = none ∧ s' = s2 ∧ (∃ done, esx.toList = done ++ rest ∧ ∀ e ∈ done, Sb (keyOf e) = true)) _ ?_ ?_ _ _ ⟨rfl, rfl, [], rfl, fun e he => by cases he⟩)
    · rintro ⟨hh, v⟩ rest2 b2 s3 ⟨hb2, rfl, done, he, hd⟩
      obtain ⟨k, tk, e1, e2⟩ := g (hh, v) (by rw [he]; simp)
      dsimp only at e1 e2
      subst e1
      subst e2
      have hk : k ∈ esx.toList.map keyOf := by
        rw [he, List.map_append]
        exact List.mem_append_right _ (List.mem_cons_self ..)
      have hS : s3.heap.SetOf (intKind P w) b Sb nb := Rw2.setOf
      refine wpAny_bind (wpAny_holding (wpAny_setFind_of (knd := intKind P w) (k := k) (intKind_is P w k tk) rfl hS fun r' hr' => ?_))
      cases hz : Sb k with
      | false =>
        rw [hz] at hr'
        refine wp_if_pos (by cases r' <;> simp_all) ?_
        refine wpAny_pure ?_
        refine wpAny_pure (hQ false ⟨(fun z => by cases z), fun z => ?_⟩)
        rw [z k ((hmm k).2 hk)] at hz
        cases hz
      | true =>
        rw [hz] at hr'
        refine wp_if_neg (by cases r' <;> simp_all) ?_
        refine wpAny_bind (unchanged_at hox hdx hf (wpAny_pure ⟨rfl, rfl, done ++ [(hashInt k, .int k tk)], by rw [he, List.append_assoc]; rfl, fun e h => ?_⟩))
        rcases List.mem_append.mp h with z | z
        · exact hd e z
        · rw [List.mem_singleton.mp z]
          exact hz
    · rintro ⟨b3, u3⟩ s3 ⟨hb3, rfl, done, he, hd⟩
      dsimp only at hb3
      subst hb3
      rw [List.append_nil] at he
      refine wpAny_pure (hQ true ⟨fun _ k hk => ?_, fun _ => rfl⟩)
      obtain ⟨e, he2, hke⟩ := List.mem_map.mp ((hmm k).1 hk)
      rw [← hke]
      exact hd e (by rw [← he]; exact he2)
  · intro e he
    rcases List.mem_append.mp he with z | z
    · exact g e z
    · exact gy e z

theorem sub_set_fz : isSubtype (.type "set") (.type "frozenset") = pure false := by rw [isSubtype_type]; kernel_rfl
theorem SetR.keys {h : Heap} {S : Int → Bool} {n : Nat} (R : SetR w h a S n) : ∃ l : List Int, l.Nodup ∧ l.length = n ∧ ∀ k, S k = true ↔ k ∈ l := by
  obtain ⟨o2, es2, ep2, t2, ho2, hx, hd2, g, nd2, hmm, hbb, hf, hn, hr, hl2⟩ := R
  exact ⟨_, nd2, by rw [List.length_map, Array.length_toList]; exact hn, hmm⟩
theorem whole_of {la lb : List Int} (na : la.Nodup) (nb : lb.Nodup) (hl : la.length = lb.length) (h : ∀ k ∈ la, k ∈ lb) : ∀ k ∈ lb, k ∈ la := fun k hk => by
  by_cases c : k ∈ la
  · exact c
  · have q := List.Nodup.length_le_of_subset (List.nodup_cons.mpr ⟨c, na⟩) (l₂ := lb) (fun j hj => by
      rcases List.mem_cons.mp hj with e | e
      · rw [e]
        exact hk
      · exact h j e)
    rw [List.length_cons] at q
    omega
theorem equal_at {b : Addr} {Sa Sb : Int → Bool} {na nb : Nat} {Q : Value → Shared → Prop} (Ra : SetR w s.heap a Sa na) (Rb : SetR w s.heap b Sb nb) (hu : A.units < cLine)
    (hQ : ∀ c : Bool, (c = true ↔ ∀ k, Sa k = Sb k) → Q (.bool c) s) :
    wpAny (model P w) A (compareOp .Eq (.ref a) (.ref b)) Q E s := by
  have hT : s.TypeIs (.ref a) "set" := SetR.ty (h := s.heap) Ra
  have hT2 : s.TypeIs (.ref b) "set" := SetR.ty (h := s.heap) Rb
  show wpAny _ _ (richCompare .Eq (.ref a) (.ref b)) _ _ _
  refine wpAny_richCompare_same_room hT hT2 F.slot_set_eq (wpAny_call_entry F.slot_set_eq hT entry_set_eq ?_ (F.args_set_eq_2 _ _)) hu
  unfold Builtin.«frozenset.__eq__»
  show wpAny _ _ (Builtin.Frozenset.slot1 "__eq__" ⟨[.ref a, .ref b], []⟩ >>= _) _ _ _
  refine wpAny_bind (m := Builtin.Frozenset.slot1 "__eq__" _) (wpAny_of_eq (a := (Value.ref a, Value.ref b)) (by rfl) ?_)
  dsimp only
  refine wpAny_bind (anySet_at Rb ?_)
  refine wp_if_neg (by decide) ?_
  unfold Builtin.Frozenset.addrOf
  dsimp only
  refine wpAny_bind (wpAny_pure ?_)
  refine wpAny_bind (wpAny_pure ?_)
  refine wpAny_bind (size_at Ra ?_)
  refine wpAny_bind (size_at Rb ?_)
  obtain ⟨la, nda, lla, hma⟩ := SetR.keys Ra
  obtain ⟨lb, ndb, llb, hmb⟩ := SetR.keys Rb
  by_cases hne : na = nb
  · refine wpAny_bind ?_
    refine wp_if_neg (by rw [hne]; simp) ?_
    unfold andM
    refine wpAny_bind (wpAny_bind (wpAny_isInstance hT sub_set_fz (wpAny_pure ?_)))
    refine wp_if_neg (by decide) ?_
    refine subset_at Ra Rb hne fun c hc => wpAny_pure ⟨_, rfl, (fun z => by cases z), hQ c (hc.trans ⟨fun h k => ?_, fun h k hk => by rw [← h k]; exact hk⟩)⟩
    have hl : la.length = lb.length := by omega
    have sub : ∀ k ∈ la, k ∈ lb := fun k hk => (hmb k).1 (h k ((hma k).2 hk))
    cases hz : Sb k with
    | true => exact (hma k).2 (whole_of nda ndb hl sub k ((hmb k).1 hz))
    | false =>
      cases hy : Sa k with
      | true => rw [h k hy] at hz; cases hz
      | false => rfl
  · refine wpAny_bind ?_
    refine wp_if_pos (by simpa using hne) ?_
    refine wpAny_pure (wpAny_pure ⟨_, rfl, (fun z => by cases z), hQ false ⟨(fun z => by cases z), fun h => ?_⟩⟩)
    refine absurd ?_ hne
    rw [← lla, ← llb]
    exact perm_nodup nda ndb fun k => by rw [← hma k, ← hmb k, h k]

/-! ### set(list) -/
abbrev nuS (w : World) : Obj := { cls := .type "set", dict := none, data := .set #[] 0 (.fresh 0 0 (!w.params.followText "set-order")) }
/-- what a loop of set.update leaves at S -/
def LoopGives (P : Program) (w : World) (items : Array Value) (Good : Heap → Addr → Prop) : Prop :=
  ∀ (A1 : Around) (I : Addr) (fp wr : List Addr) (G : Array GenState → Array GenState → Prop) (Sx : Nat → Shared → Prop) (R : Result → Shared → Prop) (S : Addr) (s : Shared),
    WalksS P w A1.in1 I fp wr G items.size (fun i v => items[i]? = some v) Sx → S ∉ fp → Sx 0 s → s.heap.get? S = some (nuS w) →
    (∀ s', Moved (S :: wr) G s s' → Good s'.heap S → R (.ok (.ret .none)) s') → codeAny (model P w) A1 (.builtin "set.update.loop" ⟨[.ref S, .ref I], []⟩) R s

theorem set_of_list {l : Addr} {items : Array Value} {Good : Heap → Addr → Prop} {Q : Value → Shared → Prop} (hh : A.handled = none) (hl : s.heap.IsList l items) (loop : LoopGives P w items Good)
    (h : ∀ (h' : Heap) (tk : Nat), Good h' s.heap.objs.size → (∀ b o, s.heap.get? b = some o → h'.get? b = some o) → Q (.ref s.heap.objs.size) { s with heap := h', toks := tk }) :
    wpAny (model P w) A (call (.type "set") [.ref l]) Q E s := by
  obtain ⟨c0, tl0, hmro⟩ := PySem.F.called_set.mro
  have hmade := PySem.F.called_set.made
  have hsub := PySem.F.called_set.sub
  have g1 := PySem.F.called_set.notType
  have g2 := PySem.F.called_set.canCreate
  have g3 := PySem.F.typeCall_set_1 (.ref l)
  refine wpAny_call (codeAny_of_tree ?_)
  show wpAny _ _ (callAny (.type "set") ⟨[.ref l], []⟩) _ _ s
  refine wpAny_pure ⟨Code.quiet_builtin _ (by decide +kernel), codeAny_builtin PySem.F.entry_type_call ?_⟩
  rw [Around.under_plain (weight_type_call_type "set" [.ref l] []) rfl]
  repeat (any_goals (first | assumption | wp_step))
  refine codeAny_mono (code_set_led1 (.ref l) (E := E) (Q₁ := fun obj z => obj = .ref s.heap.objs.size ∧ z = { s with heap := s.heap.push (nuS w) }) ⟨rfl, rfl⟩) fun r z hr => ?_
  cases r with
  | error e => exact hr
  | ok fl =>
    cases fl with
    | ret obj =>
      obtain ⟨rfl, rfl⟩ := hr
      have hS : (s.heap.push (nuS w)).get? s.heap.objs.size = some (nuS w) := Heap.get?_push_size _ rfl
      have hT : Shared.TypeIs { s with heap := s.heap.push (nuS w) } (.ref s.heap.objs.size) "set" := ⟨_, hS, rfl⟩
      have g4 := PySem.F.called_set.init.lookup
      have g5 := PySem.F.called_set.init.bind (.ref s.heap.objs.size)
      repeat (any_goals (first | assumption | wp_step))
      refine codeAny_mono (codeAny_call_builtin (R := wants (fun r z => r = .none ∧ ∃ h' tk, z = { s with heap := h', toks := tk } ∧ Good h' s.heap.objs.size ∧ (∀ b o, s.heap.get? b = some o → h'.get? b = some o)) E)
        PySem.F.called_set.init.plain PySem.F.entry_set_init (check_set_init_1 hT ?_)) fun r2 z2 hr2 => ?_
      · obtain ⟨ol, hol, hcl, nl, hdl⟩ := hl
        obtain ⟨c1, d1, k1, s1⟩ := ol
        simp only at hcl hdl
        subst hcl
        subst hdl
        have hol2 : (s.heap.push (nuS w)).get? l = some { cls := .type "list", dict := d1, data := .seq items nl, slots := s1 } := Heap.get?_push_of_some _ hol
        have i1 := PySem.F.sub_list_set
        have i2 := PySem.F.sub_list_frozenset
        have i3 : (Value.type "list" == Value.type "dict") = false := by decide
        have hl1 : (s.heap.push (nuS w)).IsList l items := ⟨_, hol2, rfl, nl, rfl⟩
        unfold Builtin.«set.__init__» noKeywords Builtin.Frozenset.updateFrom
        generalize hPI : pyIter = PI
        wp_walk
        subst hPI
        refine wpAny_pyIter_list hl1 (wpAny_bind (wpAny_runValue ?_))
        have lS : l < s.heap.objs.size := Heap.lt_size hol
        have h3 : A.in1.in1.in1.handled = none := by simp [hh]
        have nI : l ≠ (s.heap.push (nuS w)).objs.size := by
          rw [Heap.size_push]
          exact Nat.ne_of_lt (Nat.lt_succ_of_lt lS)
        have nS : s.heap.objs.size ∉ [(s.heap.push (nuS w)).objs.size, l] := by
          rw [Heap.size_push]
          simp only [List.mem_cons, List.not_mem_nil, or_false, not_or]
          exact ⟨Nat.ne_of_lt (Nat.lt_succ_self _), Nat.ne_of_gt lS⟩
        refine loop _ _ _ _ _ _ _ s.heap.objs.size _ ((Walks.list h3 _ l nI items).toS) nS ⟨⟨_, Heap.get?_push_size _ rfl, rfl, rfl⟩, (hl1.push _)⟩ (Heap.get?_push_of_some _ hS) fun s' hm hG => ?_
        obtain ⟨h', g', d', tk', os'⟩ := s'
        have eg : g' = s.gens := hm.gens
        have ed : d' = s.drawn := hm.drawn
        have eo : os' = s.os := hm.os
        subst eg
        subst ed
        subst eo
        refine wpAny_pure (wpAny_pure ⟨rfl, h', tk', rfl, hG, fun b o e => ?_⟩)
        have b0 : b < s.heap.objs.size := Heap.lt_size e
        have b2 : b ≠ (s.heap.push (nuS w)).objs.size := by
          rw [Heap.size_push]
          exact Nat.ne_of_lt (Nat.lt_succ_of_lt b0)
        refine hm.heap b o ?_ (Heap.get?_push_of_some _ (Heap.get?_push_of_some _ e))
        simp only [List.mem_cons, List.not_mem_nil, or_false, not_or]
        exact ⟨Nat.ne_of_lt b0, b2⟩
      · cases r2 with
        | error e => exact hr2
        | ok fl2 =>
          cases fl2 with
          | ret r =>
            obtain ⟨rfl, h', tk, rfl, hG, hk⟩ := hr2
            repeat (any_goals (first | assumption | wp_step))
            exact h _ _ hG hk
          | _ => exact hr2.elim
    | _ => exact hr.elim
end
end KW
end

section
set_option Elab.async false
set_option linter.all false
set_option maxRecDepth 100000
set_option maxHeartbeats 4000000
namespace KW
open PySem PySem.Spec PyProof.Rows L2
section
variable {P : Program} {w : World} {A : Around} {E : Value → Shared → Prop} {s : Shared} {a : Addr}
/-- how many unlike ones -/
def dcount {α : Type} [DecidableEq α] : List α → Nat
  | [] => 0
  | x :: r => (if x ∈ r then 0 else 1) + dcount r
theorem dcount_le {α : Type} [DecidableEq α] : ∀ l : List α, dcount l ≤ l.length
  | [] => Nat.le_refl _
  | x :: r => by
    have := dcount_le r
    show (if x ∈ r then 0 else 1) + dcount r ≤ r.length + 1
    split <;> omega
theorem dcount_nodup {α : Type} [DecidableEq α] : ∀ l : List α, (dcount l = l.length ↔ l.Nodup)
  | [] => ⟨fun _ => List.nodup_nil, fun _ => rfl⟩
  | x :: r => by
    have ih := dcount_nodup r
    have h2 := dcount_le r
    rw [List.nodup_cons]
    show (if x ∈ r then 0 else 1) + dcount r = r.length + 1 ↔ _
    constructor
    · intro h
      split at h
      · omega
      · rename_i hn
        exact ⟨hn, ih.1 (by omega)⟩
    · rintro ⟨hn, nd⟩
      rw [if_neg hn, ih.2 nd]
      omega
/-- behind one more at the end -/
theorem dcount_more {α : Type} [DecidableEq α] (x : α) : ∀ l : List α, dcount (l ++ [x]) = dcount l + (if x ∈ l then 0 else 1)
  | [] => by simp [dcount]
  | y :: r => by
    have ih := dcount_more x r
    show (if y ∈ r ++ [x] then 0 else 1) + dcount (r ++ [x]) = (if y ∈ r then 0 else 1) + dcount r + (if x ∈ y :: r then 0 else 1)
    rw [ih]
    by_cases e : x = y
    · subst e
      by_cases hx : x ∈ r
      · simp [hx]
      · simp [hx]
        omega
    · have e2 : ¬ y = x := fun z => e z.symm
      by_cases hy : y ∈ r <;> by_cases hx : x ∈ r <;> simp [hy, hx, e, e2] <;> omega

/-- set(..) of ints -/
theorem loop_ints {items : Array Value} {ns : List Int} (hi : IntsAre items.toList ns) (hb : ns.length + 1 < scanBound) :
    LoopGives P w items (fun h S => ∃ c, SetR w h S (fun j => decide (j ∈ ns)) c) := by
  intro A1 I fp wr G Sx R S s W hSf h0 hS hR
  have hsz : items.size = ns.length := by
    have q := IntsAre.length hi
    rw [Array.length_toList] at q
    exact q
  have hval : ∀ (i : Nat) (v : Value), items[i]? = some v → ∃ k t, ns[i]? = some k ∧ v = .int k t := fun i v hv => by
    have hlt : i < ns.length := by
      rw [← hsz]
      exact (Array.getElem?_eq_some_iff.mp hv).1
    obtain ⟨t, e⟩ := PyProof.Rows.IntsAre.int_at hi i v (by rw [Array.getElem?_toList]; exact hv)
    refine ⟨ns[i], t, List.getElem?_eq_getElem hlt, ?_⟩
    rw [e, List.getD_eq_getElem?_getD, List.getElem?_eq_getElem hlt] <;> rfl
  exact set_update_ints W S hSf ns hsz hb hval (items.size - 0) 0 s rfl (Nat.zero_le _) h0 ⟨0, Nat.le_refl _, setR_new_at hS⟩ fun s' c hm _ R' => hR s' hm ⟨c, R'⟩

theorem strs_val : ∀ {us : List Value} {xs : List Str}, StrsAre us xs → ∀ (i : Nat) (v : Value), us[i]? = some v → ∃ x t, xs[i]? = some x ∧ v = .str x t
  | _, _, .nil, i, v, h => by simp at h
  | _, _, .cons n t hr, 0, v, h => by
    simp at h
    exact ⟨n, t, rfl, h.symm⟩
  | _, _, .cons n t hr, i + 1, v, h => by
    simp only [List.getElem?_cons_succ] at h
    exact strs_val hr i v h
theorem strs_len : ∀ {us : List Value} {xs : List Str}, StrsAre us xs → us.length = xs.length
  | _, _, .nil => rfl
  | _, _, .cons _ _ h => congrArg (· + 1) (strs_len h)

/-- set(..) of texts: how many unlike ones -/
theorem loop_strs {items : Array Value} {xs : List Str} (hi : StrsAre items.toList xs) (hb : xs.length + 1 < scanBound) :
    LoopGives P w items (fun h S => h.SetOf (PySem.strKind P w) S (fun j => decide (j ∈ xs)) (dcount xs)) := by
  intro A1 I fp wr G Sx R S s W hSf h0 hS hR
  have hsz : items.size = xs.length := by
    have q := strs_len hi
    rw [Array.length_toList] at q
    exact q
  have hSw : S ∉ wr := fun h => hSf (W.sub _ h)
  have up : ∀ b ∈ wr, b ∈ S :: wr := fun b hb => List.mem_cons_of_mem _ hb
  have go : ∀ (k i : Nat) (z : Shared), items.size - i = k → i ≤ items.size → Sx i z → Moved (S :: wr) G s z → z.heap.SetOf (PySem.strKind P w) S (fun j => decide (j ∈ xs.take i)) (dcount (xs.take i)) →
      codeAny (model P w) A1 (.builtin "set.update.loop" ⟨[.ref S, .ref I], []⟩) R z := by
    intro k
    induction k with
    | zero =>
      intro i z hk hle hst hm hz
      have hin : i = items.size := by omega
      refine codeAny_builtin F.entry_set_update_loop ?_
      rw [Around.under_plainId F.plain_set_update_loop _]
      show wpAny _ A1.in1 (pyNext (.ref I) >>= _) _ _ z
      subst hin
      refine wpAny_bind (W.done z _ _ hst fun z' hm' => wpAny_pure (hR z' (Moved.trans W.gtrans hm (hm'.mono up)) ?_))
      rw [hsz, List.take_length] at hz
      obtain ⟨o, es, ep, t, ho, rest⟩ := hz
      exact ⟨o, es, ep, t, hm'.heap S _ hSw ho, rest⟩
    | succ k ih =>
      intro i z hk hle hst hm hz
      have hlt : i < items.size := by omega
      refine codeAny_builtin F.entry_set_update_loop ?_
      rw [Around.under_plainId F.plain_set_update_loop _]
      show wpAny _ A1.in1 (pyNext (.ref I) >>= _) _ _ z
      refine wpAny_bind (W.item i z _ _ hlt hst fun v z' hP hst' hm' => ?_)
      obtain ⟨x, t, hx, rfl⟩ := strs_val hi i v (by rw [Array.getElem?_toList]; exact hP)
      have hz' : z'.heap.SetOf (PySem.strKind P w) S (fun j => decide (j ∈ xs.take i)) (dcount (xs.take i)) := by
        obtain ⟨o, es, ep, tb, ho, rest⟩ := hz
        exact ⟨o, es, ep, tb, hm'.heap S _ hSw ho, rest⟩
      have hd1 := dcount_le (xs.take i)
      have hd2 : (xs.take i).length ≤ xs.length := by
        rw [List.length_take]
        exact Nat.min_le_right _ _
      show wpAny _ A1.in1 (holding [Value.str x t] (setAdd S (.str x t)) >>= _) _ _ z'
      refine wpAny_bind (wpAny_holding ?_)
      unfold setAdd
      refine wpAny_holding (wpAny_bind ((PySem.strKind P w).pyHash (k := x) (strKind_is _ _ _ _) ?_))
      refine wpAny_setAddHashed_of (knd := PySem.strKind P w) (s := { z' with toks := z'.toks + 1 }) (strKind_is _ _ _ _) rfl hz' (by omega) fun h' sb h2 => ?_
      have et : xs.take (i + 1) = xs.take i ++ [x] := by rw [List.take_add_one, hx]; rfl
      have h3 : h'.SetOf (PySem.strKind P w) S (fun j => decide (j ∈ xs.take (i + 1))) (dcount (xs.take (i + 1))) := by
        refine SetOf_congr h2 (fun j => ?_) ?_
        · rw [et]
          by_cases e1 : j ∈ xs.take i <;> by_cases e2 : j = x <;> simp [e1, e2]
        · rw [et, dcount_more]
          by_cases e1 : x ∈ xs.take i <;> simp [e1]
      refine wpAny_pure ⟨plainId_quiet F.plain_set_update_loop _, ih (i + 1) _ (by omega) hlt (W.frame _ z' _ _ hst' (Nat.le_succ _) fun b hb o e => ?_) (Moved.trans W.gtrans hm ((hm'.mono up).then_heap (Nat.le_succ _) fun b o hb e => ?_)) h3⟩
      · rw [sb.2 b (fun q => hSf (by rw [← q]; exact hb))]
        exact e
      · rw [sb.2 b (fun q => hb (by rw [q]; exact List.mem_cons_self))]
        exact e
  refine go (items.size - 0) 0 s rfl (Nat.zero_le _) h0 (Moved.refl W.grefl) ?_
  refine ⟨_, #[], 0, _, hS, ⟨rfl, rfl, rfl⟩, rfl, (fun e he => by simp at he), (fun k => by simp), (by decide), (by rfl), rfl⟩
end
end KW
end

section
set_option Elab.async false
set_option linter.all false
set_option maxRecDepth 100000
set_option maxHeartbeats 4000000
namespace KW
open PySem PySem.Spec PyProof.Rows L2
section
variable {X : Cx}
/-- the invariant behind a new object -/
theorem inv_new {pins : List (Addr × Obj)} {σ : L2.St} {H : Hp} {s s' : Shared} {r : Addr} {o : HO} (I : Inv X pins σ H s) (hN : NewAt s r s') (new : ∀ H', ObjOk X.prog X.w H' s'.heap r o) : Inv X pins σ (upd H r o) s' ∧ H r = none := by
  obtain ⟨h', d, tk, rfl, hr, k⟩ := hN
  have hn : H r = none := I.hok.fresh hr
  exact ⟨I.call (g' := s.gens) (ch := []) (Un.laid k hr hn) (I.hok.laid k hr (new _)) I.bare (fun _ z => nomatch z), hn⟩
/-- set(xs), xs a list of ints -/
def rSetI (K : PySem.W.Frag) (w : World) : List V → Hp → VK → Prop := fun xs H Q => ∃ (l : Addr) (ns : List Int), xs = [.ref l] ∧ SqL K H l (ns.map V.int) ∧ ns.length ≤ 1000 ∧
  ∀ p c, H p = none → (ns.Nodup → c = ns.length) → Q (.ref p) (upd H p (SetO w p (fun j => decide (j ∈ ns)) c))
theorem cr_setI (hc : X.calm = true) : CallR X (.type "set") (rSetI X.K X.w) := by
  intro pins s σ H xs us Q I r h
  obtain ⟨l, ns, rfl, hl, hz, q⟩ := h
  rw [Vals.ref1 r]
  obtain ⟨its, r2, pl, hz2⟩ := I.list hl
  refine set_of_list (I.ok.hd hc) pl.isList (loop_ints (ns := ns) (by simpa using ints_of_vals r2) (by unfold scanBound; omega)) fun h' tk ⟨c, R⟩ k => ?_
  obtain ⟨J, hn⟩ := inv_new (o := SetO X.w s.heap.objs.size (fun j => decide (j ∈ ns)) c) I (s' := { s with heap := h', toks := tk }) ⟨h', s.drawn, tk, rfl, Nat.le_refl _, k⟩ (fun _ => setO_new R)
  exact ⟨.ref _, _, J, rfl, q _ c hn fun nd => SetR.count R nd fun k => decide_eq_true_iff⟩
/-- a & b, a - b -/
def rAndS (w : World) : R2 := fun x y H Q => ∃ (a b : Addr) (Sa Sb : Int → Bool) (na nb : Nat), x = .ref a ∧ y = .ref b ∧ a ≠ b ∧ H a = some (SetO w a Sa na) ∧ H b = some (SetO w b Sb nb) ∧ na ≤ 1000 ∧ nb ≤ 1000 ∧
  ∀ p c, H p = none → Q (.ref p) (upd H p (SetO w p (fun k => Sa k && Sb k) c))
theorem op_andS : OpR X (binaryOp .BitAnd) (rAndS X.w) := by
  intro pins s σ H x y v u Q I rx ry h
  obtain ⟨a, b, Sa, Sb, na, nb, rfl, rfl, ne, ha, hb, h1, h2, q⟩ := h
  cases rx
  cases ry
  refine and_at (setO_get I ha) (setO_get I hb) ne (by unfold scanBound; omega) (by unfold scanBound; omega) fun s' r c hN R => ?_
  obtain ⟨J, hn⟩ := inv_new (o := SetO X.w r (fun k => Sa k && Sb k) c) I hN (fun _ => setO_new R)
  exact ⟨.ref r, _, J, rfl, q r c hn⟩
def rSubS (w : World) : R2 := fun x y H Q => ∃ (a b : Addr) (Sa Sb : Int → Bool) (na nb : Nat), x = .ref a ∧ y = .ref b ∧ H a = some (SetO w a Sa na) ∧ H b = some (SetO w b Sb nb) ∧ na ≤ 1000 ∧ na / 4 ≤ nb ∧
  ∀ p c, H p = none → Q (.ref p) (upd H p (SetO w p (fun k => Sa k && !Sb k) c))
theorem op_subS : OpR X (binaryOp .Sub) (rSubS X.w) := by
  intro pins s σ H x y v u Q I rx ry h
  obtain ⟨a, b, Sa, Sb, na, nb, rfl, rfl, ha, hb, h1, h2, q⟩ := h
  cases rx
  cases ry
  refine sub_at (setO_get I ha) (setO_get I hb) (by unfold scanBound; omega) h2 fun s' r c hN R => ?_
  obtain ⟨J, hn⟩ := inv_new (o := SetO X.w r (fun k => Sa k && !Sb k) c) I hN (fun _ => setO_new R)
  exact ⟨.ref r, _, J, rfl, q r c hn⟩
/-- a == b -/
def rEqS (w : World) : R2 := fun x y H Q => ∃ (a b : Addr) (Sa Sb : Int → Bool) (na nb : Nat), x = .ref a ∧ y = .ref b ∧ H a = some (SetO w a Sa na) ∧ H b = some (SetO w b Sb nb) ∧
  ∀ c : Bool, (c = true ↔ ∀ k, Sa k = Sb k) → Q (.bl c) H
theorem op_eqS (hu : X.A.units < cLine) : OpR X (compareOp .Eq) (rEqS X.w) := by
  intro pins s σ H x y v u Q I rx ry h
  obtain ⟨a, b, Sa, Sb, na, nb, rfl, rfl, ha, hb, q⟩ := h
  cases rx
  cases ry
  exact equal_at (setO_get I ha) (setO_get I hb) hu fun c hc => ⟨.bl c, H, I, rfl, q c hc⟩
/-- len(a) -/
def rLenSI (w : World) : List V → Hp → VK → Prop := fun xs H Q => ∃ (a : Addr) (S : Int → Bool) (n : Nat) (l : List Int), xs = [.ref a] ∧ H a = some (SetO w a S n) ∧ l.Nodup ∧ (∀ k, S k = true ↔ k ∈ l) ∧ (l.length = n → Q (.int l.length) H)
theorem cr_lenSI : CallR X (.builtin "len") (rLenSI X.w) := by
  intro pins s σ H xs us Q I r h
  obtain ⟨a, S, n, l, rfl, ha, nd, hm, q⟩ := h
  rw [Vals.ref1 r]
  have R := setO_get I ha
  have hn := SetR.count R nd hm
  obtain ⟨o2, es2, ep2, t2, ho2, hx, hd2, g, nd2, hmm, hbb, hf, hn2, hr, hl2⟩ := R
  refine call_len_set ho2 hx hd2 hf (by unfold scanBound at hbb; omega) ⟨.int l.length, H, I.tok _, ⟨_, by rw [hn2, hn]⟩, q hn.symm⟩
/-- the number that the heap knows of -/
theorem cnt {w : World} {H : Hp} {a : Addr} {S : Int → Bool} {n : Nat} {P : Program} {h : Heap} (ok : HOk P w H h) (ha : H a = some (SetO w a S n)) {l : List Int} (nd : l.Nodup) (hm : ∀ k, S k = true ↔ k ∈ l) : n = l.length :=
  SetR.count ((ok a _ ha).1) nd hm
/-- set(xs), xs a list of texts; its len -/
def SetSO (P : Program) (w : World) (a : Addr) (xs : List Str) : HO := .ext fun h => h.SetOf (PySem.strKind P w) a (fun j => decide (j ∈ xs)) (dcount xs)
def rSetS (K : PySem.W.Frag) (P : Program) (w : World) : List V → Hp → VK → Prop := fun vs H Q => ∃ (l : Addr) (xs : List Str), vs = [.ref l] ∧ SqL K H l (xs.map V.str) ∧ xs.length ≤ 1000 ∧ ∀ p, H p = none → Q (.ref p) (upd H p (SetSO P w p xs))
theorem cr_setS (hc : X.calm = true) : CallR X (.type "set") (rSetS X.K X.prog X.w) := by
  intro pins s σ H xs us Q I r h
  obtain ⟨l, ns, rfl, hl, hz, q⟩ := h
  rw [Vals.ref1 r]
  obtain ⟨its, r2, pl, hz2⟩ := I.list hl
  refine set_of_list (I.ok.hd hc) pl.isList (loop_strs (xs := ns) (by simpa using strsAre_of r2) (by unfold scanBound; omega)) fun h' tk R k => ?_
  obtain ⟨J, hn⟩ := inv_new (o := SetSO X.prog X.w s.heap.objs.size ns) I (s' := { s with heap := h', toks := tk }) ⟨h', s.drawn, tk, rfl, Nat.le_refl _, k⟩ (fun _ => by
    have ⟨o, es, ep, t, ho, rest⟩ := R
    exact ⟨R, ⟨o, ho⟩, fun h1 h2 p k => by
      obtain ⟨o, es, ep, t, ho, rest⟩ := p
      exact ⟨o, es, ep, t, k o ho, rest⟩⟩)
  exact ⟨.ref _, _, J, rfl, q _ hn⟩
def rLenSS (P : Program) (w : World) : List V → Hp → VK → Prop := fun vs H Q => ∃ (a : Addr) (xs : List Str), vs = [.ref a] ∧ H a = some (SetSO P w a xs) ∧ Q (.int (dcount xs)) H
theorem cr_lenSS : CallR X (.builtin "len") (rLenSS X.prog X.w) := by
  intro pins s σ H xs us Q I r h
  obtain ⟨a, l, rfl, ha, q⟩ := h
  rw [Vals.ref1 r]
  have R : s.heap.SetOf (PySem.strKind X.prog X.w) a (fun j => decide (j ∈ l)) (dcount l) := (I.hok a _ ha).1
  obtain ⟨o, es, ep, t, ho, hx, hd, he, hm, hb, hf, hn⟩ := R
  refine call_len_set ho hx hd hf (by unfold scanBound at hb; omega) ⟨.int (dcount l), H, I.tok _, ⟨_, by rw [hn]⟩, q⟩
end
end KW
end

section
set_option Elab.async false
set_option linter.all false
set_option maxRecDepth 100000
set_option maxHeartbeats 4000000
/-! Own exceptions over any built-in base, whose __init__ calls the base's (built-in or own). -/
namespace KW
open PySem PySem.Spec PyProof.Rows L2
/-- own classes, then the tail T -/
def refsT (T : List Value) : List Value → Bool
  | .ref _ :: r => refsT T r
  | l => l == T
/-- what is asked of a built-in base -/
structure BaseOk (B newId initId : String) (T : List Value) : Prop where
  F : ExcBaseFacts B newId initId T
  pass : ∀ self : Value, PySem.refuseLoop self "__setattr__" T = pure ()
  ne : T.isEmpty = false
  obj : T.contains (.type "object") = true
theorem refsT_or {T : List Value} : ∀ l : List Value, refsT T l = true → (∃ c r, l = .ref c :: r ∧ refsT T r = true) ∨ l = T
  | .ref c :: r, e => .inl ⟨c, r, rfl, e⟩
  | [], e => .inr (beq_iff_eq.mp e)
  | .none :: _, e | .ellipsis :: _, e | .notImplemented :: _, e | .bool _ :: _, e | .int _ _ :: _, e | .float _ _ :: _, e | .str _ _ :: _, e | .bytes _ _ :: _, e | .type _ :: _, e | .builtin _ :: _, e => .inr (beq_iff_eq.mp e)
section
variable {B newId initId : String} {T : List Value}
theorem refsT_pass (b : BaseOk B newId initId T) (self : Value) : ∀ l : List Value, refsT T l = true → PySem.refuseLoop self "__setattr__" l = pure () := by
  intro l
  induction l with
  | nil =>
    intro e
    rcases refsT_or [] e with ⟨c, r', q, _⟩ | q
    · cases q
    · rw [q]
      exact b.pass self
  | cons a r ih =>
    intro e
    rcases refsT_or (a :: r) e with ⟨c, r', q, h⟩ | q
    · obtain ⟨rfl, rfl⟩ := List.cons.inj q
      rw [PySem.refuseLoop_ref]
      exact ih h
    · rw [q]
      exact b.pass self
theorem refsT_has (X : String) : ∀ l : List Value, refsT T l = true → l.contains (.type X) = T.contains (.type X) := by
  intro l
  induction l with
  | nil =>
    intro e
    rcases refsT_or [] e with ⟨c, r', q, _⟩ | q
    · cases q
    · rw [q]
  | cons a r ih =>
    intro e
    rcases refsT_or (a :: r) e with ⟨c, r', q, h⟩ | q
    · obtain ⟨rfl, rfl⟩ := List.cons.inj q
      rw [List.contains_cons, ih h]
      rfl
    · rw [q]
theorem refsT_ne (b : BaseOk B newId initId T) : ∀ l : List Value, refsT T l = true → l.isEmpty = false := fun l e => by
  rcases refsT_or l e with ⟨c, r', q, h⟩ | q
  · rw [q]
    rfl
  · rw [q]
    exact b.ne
end
theorem base_VE : BaseOk "ValueError" "ValueError.__new__" "ValueError.__init__" [.type "ValueError", .type "Exception", .type "BaseException", .type "object"] where
  F := F.excBase_ValueError
  pass := fun self => by kernel_rfl
  ne := rfl
  obj := by decide +kernel
theorem base_LE : BaseOk "LookupError" "LookupError.__new__" "LookupError.__init__" [.type "LookupError", .type "Exception", .type "BaseException", .type "object"] where
  F := F.excBase_LookupError
  pass := fun self => by kernel_rfl
  ne := rfl
  obj := by decide +kernel
theorem base_RE : BaseOk "RuntimeError" "RuntimeError.__new__" "RuntimeError.__init__" [.type "RuntimeError", .type "Exception", .type "BaseException", .type "object"] where
  F := F.excBase_RuntimeError
  pass := fun self => by kernel_rfl
  ne := rfl
  obj := by decide +kernel

/-! ### self.name = v -/
section
open Builtin Builtin.ObjectAttr
variable {prog : Program} {w : World} {A : Around} {E : Value → Shared → Prop} {R : Result → Shared → Prop} {hp : Heap} {g : Array GenState} {dr : Drawn} {t : Nat} {os : OsState} {B newId initId : String} {T : List Value}
variable {K : W.Frag} {name : Str} {tk : Tok} {v : Value} {x C : Addr} {fv : Array Value} {cd : ClassData}
/-- up to the own dict's store -/
theorem osa_upto (b : BaseOk B newId initId T) {ox : Obj} {od : Option Obj} (X : K.In hp) (I : W.InstAt hp x ox C od) (hcd : W.clsIn K C = some cd) (hm : refsT T cd.mro = true) (ha : W.findIn K (.ref C) name = some none)
    (hq : wpAny (model prog w) A.in1 (storeInOwnDict (.ref x) (.ref C) (.str name tk) name v false) (fun fin s' => ∃ r, fin = .done (.ret r) ∧ R (.ok (.ret r)) s') (fun e s' => R (.error e) s') ⟨hp, g, dr, t, os⟩) :
    codeAny (model prog w) A (.call (.builtin "object.__setattr__") ⟨[.ref x, .str name tk, v], []⟩) R ⟨hp, g, dr, t, os⟩ := by
  have SF := F.store_object
  have ne := refsT_ne b _ hm
  have hob : cd.mro.contains (.type "object") = true := (refsT_has "object" _ hm).trans b.obj
  have isO : W.Looks (model prog w) hp (isInstance (.ref x) (.type "object")) true :=
    I.type.andThen (W.looks_mroIn X (by unfold W.mroIn; rw [hcd, Option.bind_some, if_neg (by rw [ne]; decide), hob]))
  refine codeAny_call_builtin SF.slot.plain SF.entry (@W.check_slot (model prog w) _ _ ⟨hp, g, dr, t, os⟩ "object.__setattr__" "object" "__setattr__" (.ref x) [.str name tk, v] [] _ SF.kind SF.split isO (SF.args _ _ _) ?_)
  have inMro : W.Looks (model prog w) hp (mroOf (.ref C)) cd.mro := (W.looks_clsIn X hcd).andThen .now
  have noTaker : W.Looks (model prog w) hp (storeTaker? none) none := .now
  rw [W.osa_eq, refuse_eq]
  refine wpAny_bind (wpAny_bind (I.type.at (wpAny_bind (inMro.at ?_))))
  rw [refsT_pass b _ _ hm]
  refine wpAny_pure (wpAny_bind (I.type.at (wpAny_bind ((W.looks_findIn X ha).at (wpAny_bind (noTaker.at ?_))))))
  refine wpAny_mono hq (fun fin s' hf => ?_) fun _ _ hf => hf
  obtain ⟨r, rfl, hr⟩ := hf
  exact hr
theorem osa_first (b : BaseOk B newId initId T) (X : K.In hp) (hx : hp.get? x = some { cls := .ref C, data := .fields fv }) (hcd : W.clsIn K C = some cd) (hm : refsT T cd.mro = true) (hh : cd.hasDict = true) (ha : W.findIn K (.ref C) name = some none)
    (hq : ∀ h' tk' dx, (∀ b o, b ≠ x → hp.get? b = some o → h'.get? b = some o) → hp.objs.size ≤ dx → dx ≠ x → h'.get? x = some { cls := .ref C, dict := some dx, data := .fields fv } →
      h'.Ns1 dx (fun y => if y = name then some v else none) → R (.ok (.ret .none)) ⟨h', g, dr, tk', os⟩) :
    codeAny (model prog w) A (.call (.builtin "object.__setattr__") ⟨[.ref x, .str name tk, v], []⟩) R ⟨hp, g, dr, t, os⟩ := by
  have hcls : W.Looks (model prog w) hp (classData C) cd := W.looks_clsIn X hcd
  have nxs : x ≠ hp.objs.size := Nat.ne_of_lt (Heap.lt_size hx)
  refine osa_upto b (od := none) X ⟨hx, rfl, rfl, trivial⟩ hcd hm ha ?_
  obtain ⟨nm, bs, mro, ns, qn, hd, sn, sb, ab, col, dl⟩ := cd
  dsimp only at hh
  subst hh
  unfold storeInOwnDict ownDictForStores
  repeat (first | with_reducible refine PySem.HandSPX.store_in_new ?_ ?_ | with_reducible refine wpAny_loadPart_at hx ?_ | with_reducible refine hcls.at ?_ | wp_step)
  · exact ⟨_, #[], _, (Heap.get?_update_ne _ _ _ _ nxs.symm).trans (Heap.get?_push_at rfl rfl), rfl, (fun e he => absurd he (by simp)), fun _ => rfl⟩
  · intro h' tk' hn' hs
    have hx1 : (hp.push { cls := .type "dict", data := .dict #[] }).get? x = some { cls := .ref C, data := .fields fv } := Heap.get?_push_of_some _ hx
    refine ⟨_, rfl, hq h' tk' hp.objs.size (fun c o hb ho => ?_) (Nat.le_refl _) nxs.symm ?_ hn'⟩
    · exact (hs.2 c (Nat.ne_of_lt (Heap.lt_size ho))).trans ((Heap.get?_update_ne _ _ _ _ hb).trans (Heap.get?_push_of_some _ ho))
    · exact (hs.2 x nxs).trans (Heap.get?_update_self _ hx1 rfl)
theorem osa_next {dx : Addr} {m0 : Str → Option Value} {nl : List Str} (b : BaseOk B newId initId T) (X : K.In hp) (hx : hp.get? x = some { cls := .ref C, dict := some dx, data := .fields fv }) (hns : hp.Ns1 dx m0) (hw : Within m0 nl) (hz : nl.length ≤ 1000)
    (hcd : W.clsIn K C = some cd) (hm : refsT T cd.mro = true) (hh : cd.hasDict = true) (ha : W.findIn K (.ref C) name = some none)
    (hq : ∀ h' tk', (∀ b o, b ≠ dx → hp.get? b = some o → h'.get? b = some o) → h'.Ns1 dx (fun y => if y = name then some v else m0 y) → R (.ok (.ret .none)) ⟨h', g, dr, tk', os⟩) :
    codeAny (model prog w) A (.call (.builtin "object.__setattr__") ⟨[.ref x, .str name tk, v], []⟩) R ⟨hp, g, dr, t, os⟩ := by
  have hcls : W.Looks (model prog w) hp (classData C) cd := W.looks_clsIn X hcd
  obtain ⟨oD, eD, pD, hoD, hdD, _⟩ := hns.count hw
  refine osa_upto b (od := some oD) X ⟨hx, rfl, rfl, hoD⟩ hcd hm ha ?_
  obtain ⟨nm, bs, mro, ns, qn, hd, sn, sb, ab, col, dl⟩ := cd
  dsimp only at hh
  subst hh
  unfold storeInOwnDict ownDictForStores
  repeat (first | with_reducible refine PySem.OEX.store_in_old hns hw hz ?_ | with_reducible refine wpAny_loadPart_at hx ?_ | with_reducible refine hcls.at ?_ | wp_step)
  intro h' tk' hn' hs
  exact ⟨_, rfl, hq h' tk' (fun c o hb ho => (hs.2 c hb).trans ho) hn'⟩
end

/-- what the written part says of an own exception class over the base B -/
structure OxC (K : PySem.W.Frag) (newId : String) (T : List Value) (C : Addr) : Prop where
  cls : ∃ nm q N bs bm sn sub ab col dd k0 k1 k2 k3 k5, K.lookup C = some (excClassObj nm q C N bs bm true sn sub ab col dd k0 k1 k2 k3 k5 newId) ∧ refsT T bm = true
  sa : PySem.W.findIn K (.ref C) "__setattr__" = some (some (.builtin "object.__setattr__"))
  exC : PySem.W.subIn K (.ref C) (.type "BaseException") = some true
  tyC : PySem.W.typeIn K (.ref C) = some (.type "type")
  kC : PySem.W.keepIn K (.ref C) = true
section
variable {X : Cx} {pins : List (Addr × Obj)} {σ : L2.St} {H : Hp} {s : Shared} {a C dx : Addr} {f : Str} {y : V} {u : Value} {fs : List (Str × V)} {Q : Unit → Shared → Prop} {E : Value → Shared → Prop} {A : Around} {B newId initId : String} {T : List Value}
theorem fld_first (b : BaseOk B newId initId T) (O : OxC X.K newId T C) (I : Inv X pins σ H s) (e : H a = some (exo a C none)) (hno : PySem.W.findIn X.K (.ref C) f = some none) (ry : RelV y u)
    (h : ∀ dx s', H dx = none → dx ≠ a → Inv X pins σ (upd (upd H dx (exd dx [(f, y)])) a (exo a C (some dx))) s' → Q () s') : wpAny (model X.prog X.w) A (setAttr (.ref a) f u) Q E s := by
  obtain ⟨nm, q, N, bs, bm, sn, sub, ab, col, dd, k0, k1, k2, k3, k5, hC, hbm⟩ := O.cls
  have hcl : PySem.W.clsIn X.K C = some { name := nm, bases := bs, mro := .ref C :: bm, ns := N, qualname := q, hasDict := true, slotNames := sn, subclasses := sub, abstract := ab, collection := col, hasDel := false } := by
    unfold PySem.W.clsIn
    rw [hC] <;> rfl
  obtain ⟨t1, ho⟩ := exo_at I.hok e
  obtain ⟨hp, g, d, t, os⟩ := s
  refine PySem.W.set_plain I.kIn (od := none) ⟨ho, rfl, rfl, trivial⟩ O.sa ?_
  refine osa_first b I.kIn ho hcl (show refsT T (.ref C :: bm) = true from hbm) rfl hno (fun h' tk' dx k dn dne hx hn => ?_)
  have hnd : H dx = none := I.hok.fresh dn
  have ndx : ∀ {c : Addr} {o : Obj}, hp.get? c = some o → c ≠ dx := fun {c o} q => Nat.ne_of_lt (Nat.lt_of_lt_of_le (Heap.lt_size q) dn)
  have na : ∀ {c : Addr}, H c = none → c ≠ a := fun {c} n z => by
    rw [z, e] at n
    cases n
  have un : Un X.fs [] H (upd (upd H dx (exd dx [(f, y)])) a (exo a C (some dx))) hp h' :=
    ⟨fun c o q n _ _ => k c o (na n) q, fun c o q n _ _ => ⟨o.slots, k c o (na n) q⟩,
      fun c o q n _ => by
        rw [upd_ne (na n), upd_ne (ndx q)]
        exact n,
      fun c o q _ => by
        by_cases hc : c = a
        · exact ⟨_, by rw [hc]; exact hx⟩
        · exact ⟨o, k c o hc q⟩,
      fun c xs q => by
        rw [upd_ne (at_ne e q exo_tup), upd_ne (ne_of_none q hnd)]
        exact q,
      fun c o v q => by
        rw [upd_ne (at_ne e q exo_frz), upd_ne (ne_of_none q hnd)]
        exact q,
      fun c ps q => ⟨#[], by rw [upd_ne (at_ne e q exo_tbl), upd_ne (ne_of_none q hnd), q]; simp⟩⟩
  refine h dx _ hnd dne (I.un (t' := tk') un fun c o q => ?_)
  by_cases hca : c = a
  · subst hca
    rw [upd_same] at q
    cases q
    exact exo_ok hx
  · rw [upd_ne hca] at q
    by_cases hcd : c = dx
    · subst hcd
      rw [upd_same] at q
      cases q
      exact exd_ok hn (relO_put (fs := []) ry fun g => True.intro)
    · rw [upd_ne hcd] at q
      refine (I.hok c o q).stay (fun c2 v hc z => k c2 v ?_ z) (fun c2 hc => ?_) (fun c2 xs hc => ?_)
      · rcases hc with hc | hc
        · rw [hc]
          exact hca
        · exact at_ne e hc exo_own
      · rw [upd_ne (at_ne e hc exo_own), upd_ne (ne_of_none hc hnd)]
        exact hc
      · rw [upd_ne (at_ne e hc exo_tup), upd_ne (ne_of_none hc hnd)]
        exact hc
theorem fld_next (b : BaseOk B newId initId T) (O : OxC X.K newId T C) (I : Inv X pins σ H s) (e : H a = some (exo a C (some dx))) (ed : H dx = some (exd dx fs)) (hl : fs.length ≤ 900) (hno : PySem.W.findIn X.K (.ref C) f = some none) (ry : RelV y u)
    (h : ∀ s', Inv X pins σ (upd H dx (exd dx ((f, y) :: fs))) s' → Q () s') : wpAny (model X.prog X.w) A (setAttr (.ref a) f u) Q E s := by
  obtain ⟨nm, q, N, bs, bm, sn, sub, ab, col, dd, k0, k1, k2, k3, k5, hC, hbm⟩ := O.cls
  have hcl : PySem.W.clsIn X.K C = some { name := nm, bases := bs, mro := .ref C :: bm, ns := N, qualname := q, hasDict := true, slotNames := sn, subclasses := sub, abstract := ab, collection := col, hasDel := false } := by
    unfold PySem.W.clsIn
    rw [hC] <;> rfl
  obtain ⟨t1, ho⟩ := exo_at I.hok e
  obtain ⟨mA, hns, rel⟩ := exd_at I.hok ed
  have hw := within_of rel
  obtain ⟨hp, g, d, t, os⟩ := s
  obtain ⟨oD, _, _, hoD, _, _⟩ := hns.count hw
  refine PySem.W.set_plain I.kIn (od := some oD) ⟨ho, rfl, rfl, hoD⟩ O.sa ?_
  refine osa_next b I.kIn ho hns hw (by rw [List.length_map]; omega) hcl (show refsT T (.ref C :: bm) = true from hbm) rfl hno (fun h' tk' k hn => ?_)
  have there : ∃ o, h'.get? dx = some o := by
    obtain ⟨o, _, _, e', _⟩ := hn
    exact ⟨o, e'⟩
  exact h _ (I.write (t' := tk') (x := dx) (e := dx) (o := exd dx ((f, y) :: fs)) (by rw [ed]; exact True.intro) (.inl rfl) k there (exd_ok hn (relO_put ry rel)))
/-- B.__init__(self, ..) -/
theorem binit_ok {us : List Value} {Q : Value → Shared → Prop} (b : BaseOk B newId initId T) (O : OxC X.K newId T C) (I : Inv X pins σ H s) (e : H a = some (exo a C none)) (hl : us.length ≤ sizeLine) (h : ∀ s', Inv X pins σ H s' → Q .none s') :
    wpAny (model X.prog X.w) A (call (.builtin initId) (.ref a :: us)) Q E s := by
  obtain ⟨nm, q, N, bs, bm, sn, sub, ab, col, dd, k0, k1, k2, k3, k5, hC, hbm⟩ := O.cls
  obtain ⟨t1, ho⟩ := exo_at I.hok e
  obtain ⟨hp, g, d, t, os⟩ := s
  refine wpAny_call (PySem.HandSPX.init_base b.F (fun Y => refsT_has Y bm hbm) (I.kIn _ _ hC) ho hl fun h' t2 k hx => ?_)
  have J := I.write (t' := t) (x := a) (e := a) (o := exo a C none) (by rw [e]; exact True.intro) (.inl rfl) k ⟨_, hx⟩ (exo_ok hx)
  have eu : upd H a (exo a C none) = H := funext fun c => by
    by_cases hc : c = a
    · rw [hc, upd_same, e]
    · rw [upd_ne hc]
  rw [eu] at J
  exact h _ J
end
end KW
end

section
set_option Elab.async false
set_option linter.all false
set_option maxRecDepth 100000
set_option maxHeartbeats 4000000
namespace KW
open PySem PySem.Spec PyProof.Rows L2
/-- B.__init__(self, ..), B a built-in -/
def tBI (K : PySem.W.Frag) (newId : String) (T : List Value) (ta : TA) : TE := fun σ H Q => ta σ H fun vs H1 => ∃ (a C : Addr) (ws : List V), vs = .ref a :: ws ∧ ws.length ≤ 1000 ∧ OxC K newId T C ∧ H1 a = some (exo a C none) ∧ Q .non H1
/-- self.f = e -/
def tFx (K : PySem.W.Frag) (newId : String) (T : List Value) (f : Str) (to te : TE) : TS := fun D σ H => te σ H fun y H1 => to σ H1 fun x H2 => ∃ a C : Addr, x = .ref a ∧ OxC K newId T C ∧ PySem.W.findIn K (.ref C) f = some none ∧
  ((H2 a = some (exo a C none) ∧ ∀ dx, H2 dx = none → dx ≠ a → D.nx σ (upd (upd H2 dx (exd dx [(f, y)])) a (exo a C (some dx)))) ∨
    ∃ (dx : Addr) (fs : List (Str × V)), H2 a = some (exo a C (some dx)) ∧ H2 dx = some (exd dx fs) ∧ fs.length ≤ 900 ∧ D.nx σ (upd H2 dx (exd dx ((f, y) :: fs))))
section
variable {X : Cx} {o e : Expr} {es : List Expr} {to te : TE} {ta : TA} {f : Str} {p p' p1 p2 pos : Pos} {B newId initId : String} {T : List Value}
theorem pe_binit {x : Str} {pl : Sem Bool} (b : BaseOk B newId initId T) (hg : Gl X x) (hm : X.mg x = none) (hv : bootBuiltins x = some (.type B)) (ht : typeOf (.type B) = pure (.type "type")) (hs : Manifest.isStub B = false)
    (vV : PySem.W.findCls X.K (.type B) (.type "type") "__init__" = some (.val (.builtin initId))) (ha : PA X (e :: es) ta)
    (hc : eval (.Call (.Attribute (.Name x p1) "__init__" p2) (e :: es) [] pos) X.env = (do
      let ov ← eval (.Name x p1) X.env
      standAt p2.atName
      let (f, first) ← holding [ov] (getMethod ov "__init__" pl)
      callWith pos f first (backTo pos (starEach (e :: es) X.env)) (backToKw pos (keywordEach [] X.env))) := by rfl)
    (hd1 : x ≠ "__name__" := by decide) (hd2 : (x == ("__debug__" : Str)) = false := by decide) (hh : PySem.W.handedIn (.builtin initId) = true := by decide +kernel)
    (he : starEach (e :: es) X.env = (false, eval e X.env) :: starEach es X.env := by rfl) (hpl : (backTo pos (starEach es X.env)).any (·.1) = false := by rfl) :
    PE X (.Call (.Attribute (.Name x p1) "__init__" p2) (e :: es) [] pos) (tBI X.K newId T ta) := by
  refine ⟨fun pins s σ H Q I h => ?_⟩
  refine PySem.W.methodCall_KW (ld_blt I hg hm hv ?_ hd1 hd2) hc
  obtain ⟨m, fr⟩ := I.fr
  refine PySem.W.method_type fr I.ok.mod.kin ht hs vV hh ?_
  show wpAny _ _ (callWith pos (Value.builtin initId) [] (backTo pos (starEach (e :: es) X.env)) []) _ _ _
  refine PyProof.Rows.callWith_method1 (thn (ha.run pos pins _ σ H _ (I.tok _) h) fun us s1 ⟨vs, H1, I1, r1, a, C, ws, ev, hl, O, ea, q⟩ => ?_) he hpl
  subst ev
  cases r1 with
  | @cons _ u0 _ ur ra rr =>
    obtain rfl : u0 = Value.ref a := ra
    have hlen : ur.length ≤ sizeLine := by
      rw [← Paired.length rr, sizeLine_eq]
      omega
    exact binit_ok b O I1 ea hlen fun s' J => ⟨.non, H1, J, rfl, q⟩
/-- D.__init__(self, ..), D an own class -/
theorem pe_oinit {CX : CXT} {x : Str} {pl : Sem Bool} {C fI : Addr} {mc : Value} {k : Nat} {fd : FuncData} {ps : List Str} {sp : Sp} {ds : List Value} {dvs : List V} {E : XK} (F : FnOk X.prog X.w X.K X.mg X.base CX k fI fd ps sp) (hr : Room k X.A)
    (hg : Gl X x) (hm : X.mg x = some (.ref C)) (r : ClX.CRead X.K C mc) (hf : PySem.W.findCls X.K (.ref C) mc "__init__" = some (.val (.ref fI))) (hk : PySem.W.keepIn X.K (.ref fI) = true) (hb : Binds X.K fd ps ds) (hd : Vals dvs ds) (hx : Passes CX X E) (ha : PA X (e :: es) ta)
    (hc : eval (.Call (.Attribute (.Name x p1) "__init__" p2) (e :: es) [] pos) X.env = (do
      let ov ← eval (.Name x p1) X.env
      standAt p2.atName
      let (f, first) ← holding [ov] (getMethod ov "__init__" pl)
      callWith pos f first (backTo pos (starEach (e :: es) X.env)) (backToKw pos (keywordEach [] X.env))) := by rfl)
    (hdb : (x == ("__debug__" : Str)) = false := by decide) (he : starEach (e :: es) X.env = (false, eval e X.env) :: starEach es X.env := by rfl) (hpl : (backTo pos (starEach es X.env)).any (·.1) = false := by rfl) :
    PE X (.Call (.Attribute (.Name x p1) "__init__" p2) (e :: es) [] pos) (tCall sp dvs E ta) := by
  refine ⟨fun pins s σ H Q I h => ?_⟩
  refine PySem.W.methodCall_KW (ld_glob I hg hm ?_ hdb) hc
  refine PySem.W.method_cls I.kIn r.ga (PySem.W.cls_value I.kIn r.rd hf rfl ?_)
  have I0 := I.tok (s.toks + 1)
  refine PySem.W.callWith_K (h₀ := X.base) I0.ok.mod.kin hk (thn (ha.run pos pins _ σ H _ I0 h) fun us s1 ⟨vs, H1, I1, r1, q⟩ => ⟨I1.kIn, ?_⟩) he hpl
  exact run_fn F hr hb hd hx I1 r1 q
theorem ps_fx (b : BaseOk B newId initId T) (ho : PE X o to) (he : PE X e te) (hs : swapsWith e (some (.Attribute o f p')) pos.line X.env = pure false := by rfl) : PS X (.Assign [.Attribute o f p'] e pos) (tFx X.K newId T f to te) := by
  refine ⟨fun pins s σ H D I h => ?_⟩
  refine plainObj_wpAny_Assign_Attribute (thn (he.run pins s σ H _ I h) fun v s1 ⟨y, H1, I1, r1, q1⟩ => thn (ho.run pins s1 σ H1 _ I1 q1) fun u s2 ⟨x, H2, I2, r2, a, C, ex, O, hno, q⟩ => ?_) hs
  subst ex
  obtain rfl : u = Value.ref a := r2
  rcases q with ⟨ea, q⟩ | ⟨dx, fs, ea, ed, hl, q⟩
  · exact fld_first b O I2 ea hno r1 fun dx s' n ne J => ⟨σ, _, J, q dx n ne⟩
  · exact fld_next b O I2 ea ed hl hno r1 fun s' J => ⟨σ, _, J, q⟩
/-- C(e, ..): C's own __init__ keeps sp -/
theorem pmk_ox {CX : CXT} {x : Str} {C fI : Addr} {k : Nat} {fd : FuncData} {ps : List Str} {sp : Sp} {ds : List Value} {dvs : List V} (b : BaseOk B newId initId T) (O : OxC X.K newId T C) (iC : PySem.W.findIn X.K (.ref C) "__init__" = some (some (.ref fI)))
    (tI : PySem.W.typeIn X.K (.ref fI) = some (.type "function")) (F1 : FnOk X.prog X.w X.K X.mg X.base CX k fI fd ps sp) (hr : Room (k + 1) X.A) (hb : Binds X.K fd ps ds) (hd : Vals dvs ds) (hx : Passes CX X (fun _ _ _ => False)) (hg : Gl X x) (hm : X.mg x = some (.ref C))
    (ha : PA X (e :: es) ta) (hdb : (x == ("__debug__" : Str)) = false := by decide) (he : starEach (e :: es) X.env = (false, eval e X.env) :: starEach es X.env := by rfl) (hpl : (backTo pos (starEach es X.env)).any (·.1) = false := by rfl) :
    PMk X (.Call (.Name x p) (e :: es) [] pos) (tMkO C sp dvs ta) := by
  intro pins s σ H Q I h
  obtain ⟨nm, q, N, bs, bm, sn, sub, ab, col, dd, k0, k1, k2, k3, k5, hC, hbm⟩ := O.cls
  refine wpAny_Call_Name_kw (ld_glob I hg hm ?_ hdb)
  refine PySem.W.callWith_K (h₀ := X.base) I.ok.mod.kin O.kC (thn (ha.run pos pins s σ H _ I h) fun us s1 ⟨vs, H1, I1, r1, hz, q1⟩ => ⟨I1.kIn, ?_⟩) he hpl
  show wpAny _ _ (call (.ref C) us) _ _ _
  obtain ⟨hp, g, dr, tk, os⟩ := s1
  have up1 : hp.objs.size ≤ hp.objs.size + 1 := Nat.le_succ _
  have hq := q1 (hp.objs.size + 1) (I1.hok.fresh up1)
  generalize hp2e : (hp.push (PySem.W.kdv_tup us)).push (PySem.HandSPX.excO C hp.objs.size) = hp2
  have kk : ∀ c o, hp.get? c = some o → hp2.get? c = some o := fun c o e => by
    rw [← hp2e]
    exact Heap.get?_push_of_some _ (Heap.get?_push_of_some _ e)
  have hget : hp2.get? (hp.objs.size + 1) = some (PySem.HandSPX.excO C hp.objs.size) := by
    rw [← hp2e]
    heap_get
  have I2 : Inv X pins σ (upd H1 (hp.objs.size + 1) (exo (hp.objs.size + 1) C none)) ⟨hp2, g, dr, tk, os⟩ := I1.laid (t' := tk) (a := hp.objs.size + 1) (h' := hp2) kk up1 (exo_ok hget)
  have r2 : Vals (V.ref (hp.objs.size + 1) :: (vs ++ dvs)) (Value.ref (hp.objs.size + 1) :: (us ++ ds)) := .cons rfl (r1.append hd)
  have hl : (Value.ref (hp.objs.size + 1) :: us ++ ds).length = ps.length := by
    have e := r2.length
    rw [F1.len _ _ _ _ hq] at e
    exact e.symm
  have hus : us.length ≤ sizeLine := by
    rw [← Paired.length r1, sizeLine_eq]
    omega
  refine wpAny_call (PySem.HandSPX.call_own b.F (fun Y => refsT_has Y bm hbm) (I1.kIn _ _ hC) (PySem.W.looks_findIn I1.kIn iC) (fun self => PySem.W.bind_fn I1.kIn self tI) hus ?_)
  rw [hp2e]
  refine codeAny_mono (F1.run _ X.stack _ _ ⟨Value.ref (hp.objs.size + 1) :: us, []⟩ (Value.ref (hp.objs.size + 1) :: (us ++ ds)) _ _ (fun _ _ _ => False) (hr.make C us []) (I2.env0.make C us []) (hb _ (Value.ref (hp.objs.size + 1) :: us) I2.kIn hl) r2 hq) fun r s' hq' => ?_
  cases r with
  | error er => exact hx pins σ _ _ er s' I2 hq'
  | ok fl =>
    cases fl with
    | ret u =>
      obtain ⟨v, H2, os2, bare2, un2, hok2, rv, ev, d, fs, ea, ed, hd1, q2⟩ := hq'
      subst ev
      obtain ⟨h2, g2, d2, t2, os'⟩ := s'
      exact ⟨rv, mk_end (raises_own O.exC O.tyC) I1 up1 kk un2 hok2 os2 bare2 ea ed hd1 q2⟩
    | next => exact False.elim hq'
    | brk => exact False.elim hq'
    | cont => exact False.elim hq'
end
end KW
end

section
set_option Elab.async false
set_option linter.all false
set_option maxRecDepth 100000
set_option maxHeartbeats 1000000
namespace KW
open PySem PySem.Spec PyProof.Rows L2
/-- the table at a of the written part has v under the tuple key ks -/
def KTab (K : PySem.W.Frag) (P : Program) (w : World) (a : Addr) (ks : List Key) (v : V) : Prop :=
  ∃ (xs : List (List Key × Addr × Value)) (p : Addr × Value), (∀ h : Heap, K.In h → h.DictOfH (tupleKind (mixKind P w)) a xs) ∧ atKey xs ks = some p ∧ RelV v p.2
def rIxTab (K : PySem.W.Frag) (P : Program) (w : World) : R2 := fun x y H Q => ∃ (a b : Addr) (ks : List Key) (v : V), x = .ref a ∧ y = .ref b ∧ H b = some (.tup (ks.map kV)) ∧ KTab K P w a ks v ∧ Q v H
section
variable {X : Cx}
theorem ix_tab (hu : X.A.units + 1 < cLine) : IxR X (rIxTab X.K X.prog X.w) := by
  intro value slice pins s σ H x y v u Q I rx ry h hs
  obtain ⟨a, b, ks, r, rfl, rfl, hb, ⟨xs, p, hd, hk, rv⟩, q⟩ := h
  obtain rfl : v = Value.ref a := rx
  obtain rfl : u = Value.ref b := ry
  have hm := hd _ I.kIn
  have hroom : (tupleKind (mixKind X.prog X.w)).room X.A.in1 := tupleKind_room_in1 hu
  exact tail_any hm.typeIs slot_dict_getitem.lookup (wpAny_getItem_heap hroom (key_of I.hok hb) hm hk ⟨r, H, I.tok _, rv, q⟩) hs
end
/-- an int as a test -/
def tInt (ta : TE) : TT := fun σ H Q => ta σ H fun x H' => ∃ i : Int, x = .int i ∧ Q (i != 0) H'
theorem pt_int {X : Cx} {a : Expr} {ta : TE} (ha : PE X a ta) (he : ∀ whole, isTrue a X.env whole = (do let v ← whole; standAt a.pos; holding [v] (truthy v))) : PT X a (tInt ta) := by
  refine ⟨fun pins s σ H Q I h => ?_⟩
  refine isTrue_plain (thn (ha.run pins s σ H _ I h) fun v s1 ⟨x, H1, I1, r1, i, ex, q1⟩ => ?_) (he _)
  subst ex
  exact tru_ok pins s1 σ H1 _ v Q I1 r1 ⟨_, rfl, q1⟩
theorem eqvAll_ints : ∀ l m : List Int, PyData.eqvAll (l.map PyData.int) (m.map PyData.int) = decide (l = m)
  | [], [] => by simp [PyData.eqvAll]
  | [], y :: m => by simp [PyData.eqvAll]
  | x :: l, [] => by simp [PyData.eqvAll]
  | x :: l, y :: m => by
    have ih := eqvAll_ints l m
    rw [List.map_cons, List.map_cons]
    show (PyData.eqv (.int x) (.int y) && PyData.eqvAll (l.map PyData.int) (m.map PyData.int)) = _
    rw [ih]
    by_cases e : x = y <;> by_cases e2 : l = m <;> simp [PyData.eqv, e, e2]
theorem eqv_ints (l m : List Int) : PyData.eqv (.tuple (l.map PyData.int)) (.tuple (m.map PyData.int)) = decide (l = m) := by
  rw [← eqvAll_ints l m]
  simp [PyData.eqv]
theorem lay_ints : ∀ l : List Int, PyData.canLayAll0 (l.map PyData.int) = true
  | [] => by simp [PyData.canLayAll0]
  | x :: r => by
    have ih := lay_ints r
    simp [PyData.canLayAll0, PyData.canLay0, ih]
theorem depth_ints : ∀ l : List Int, PyData.depthAll (l.map PyData.int) = 0
  | [] => by simp [PyData.depthAll]
  | x :: r => by
    have ih := depth_ints r
    simp [PyData.depthAll, PyData.depth, ih]
theorem shaped_ints (l : List Int) : SeqAt.shaped (.tuple (l.map PyData.int)) = true := by
  unfold SeqAt.shaped
  simp [PyData.canLay0, PyData.depth, lay_ints, depth_ints]
theorem dp_ints {K : PySem.W.Frag} {H : Hp} : ∀ l : List Int, DpAll K H (l.map V.int) (l.map PyData.int)
  | [] => .nil
  | x :: r => .cons (.int x) (dp_ints r)
theorem fne {K : PySem.W.Frag} {x y q q' : Str} {st st' : Stmt} {f f' : Addr} {fd fd' : FuncData} (F : Fun K x q st f fd) (F' : Fun K y q' st' f' fd') (h : x ≠ y) : f ≠ f' := fun e => by
  obtain ⟨oc, od, kV, doc, pm, an, cdv, ct, osl, rfl, lk, _⟩ := F.ex
  obtain ⟨oc2, od2, kV2, doc2, pm2, an2, cdv2, ct2, osl2, rfl, lk2, _⟩ := F'.ex
  rw [e, lk2] at lk
  injection lk with z
  injection z with _ _ z3 _
  injection z3 with z4
  apply h
  have := congrArg FuncData.name z4
  exact this.symm
end KW
end

section
set_option Elab.async false
set_option linter.all false
set_option maxRecDepth 100000
set_option maxHeartbeats 1000000
namespace KW
open PySem PySem.Spec PyProof.Rows L2
/-- dict(zip(xs, ys)), keys ints or texts -/
def tDz (K : PySem.W.Frag) (ta : TA) : TE := fun σ H Q => ta σ H fun vs H1 => ∃ (a b : Addr) (xs ys : List V) (kvs : List (Key × V)), vs = [.ref a, .ref b] ∧ SqL K H1 a xs ∧ SqL K H1 b ys ∧ xs.zip ys = kvs.map (fun kv => (kV kv.1, kv.2)) ∧
  ∀ p, H1 p = none → Q (.ref p) (upd H1 p (.dK (mergeK [] kvs)))
/-- the pairs on the heap's side -/
theorem zip_kv : ∀ {xs ys : List V} {us ws : List Value} {kvs : List (Key × V)}, Vals xs us → Vals ys ws → xs.zip ys = kvs.map (fun kv => (kV kv.1, kv.2)) →
    ∃ prs : List (Key × Value), KV kvs prs ∧ prs.length = min us.length ws.length ∧ ∀ (i : Nat) (k v : Value), us[i]? = some k → ws[i]? = some v → ∃ q, prs[i]? = some (q, v) ∧ keyIs q k = true
  | _, _, _, _, kvs, .nil, r, e => by
    rw [List.zip_nil_left] at e
    have z : kvs = [] := by
      cases kvs with
      | nil => rfl
      | cons _ _ => cases e
    subst z
    exact ⟨[], .nil, by simp, fun i k v h => by simp at h⟩
  | _, _, _, _, kvs, .cons r t, .nil, e => by
    rw [List.zip_nil_right] at e
    have z : kvs = [] := by
      cases kvs with
      | nil => rfl
      | cons _ _ => cases e
    subst z
    exact ⟨[], .nil, by simp, fun i k v _ h => by simp at h⟩
  | x :: xs, y :: ys, u :: us, w :: ws, kvs, .cons r t, .cons r' t', e => by
    cases kvs with
    | nil => cases e
    | cons kv kvs =>
      rw [List.zip_cons_cons, List.map_cons] at e
      injection e with e1 e2
      injection e1 with e3 e4
      obtain ⟨prs, h1, h2, h3⟩ := zip_kv t t' e2
      subst e3
      subst e4
      refine ⟨(kv.1, w) :: prs, .cons ⟨rfl, r'⟩ h1, by simp only [List.length_cons]; omega, fun i k v hk hv => ?_⟩
      cases i with
      | zero =>
        have hk' : u = k := by simpa using hk
        have hv' : w = v := by simpa using hv
        subst hk'
        subst hv'
        refine ⟨kv.1, rfl, ?_⟩
        obtain ⟨key, vv⟩ := kv
        cases key with
        | inl n =>
          obtain ⟨tk, rfl⟩ := r
          exact keyIs_int n tk
        | inr z =>
          obtain ⟨tk, rfl⟩ := r
          exact keyIs_str z tk
      | succ i => exact h3 i k v (by simpa using hk) (by simpa using hv)
section
variable {X : Cx}
theorem pe_dictzip {e e2 : Expr} {ta : TA} {p p2 q pos : Pos} (hc : X.calm = true) (hg : Gl X "dict") (hm : X.mg "dict" = none) (hg2 : Gl X "zip") (hm2 : X.mg "zip" = none) (ha : PA X [e, e2] ta)
    (na : starEach [Expr.Call (.Name "zip" p2) [e, e2] [] q] X.env = (false, eval (.Call (.Name "zip" p2) [e, e2] [] q) X.env) :: starEach [] X.env := by rfl)
    (hs : starEach [e, e2] X.env = (false, eval e X.env) :: starEach [e2] X.env := by rfl) (hpl : (backTo q (starEach [e2] X.env)).any (·.1) = false := by rfl) :
    PE X (.Call (.Name "dict" p) [.Call (.Name "zip" p2) [e, e2] [] q] [] pos) (tDz X.K ta) := by
  refine ⟨fun pins s σ H Q I h => ?_⟩
  refine Call_ (ld_blt I hg hm (by decide +kernel : bootBuiltins "dict" = some (.type "dict")) ?_)
  refine PyProof.Rows.callWith_type1 (PyProof.Rows.args_cons ?_ na) na rfl
  refine Call_ (ld_blt I hg2 hm2 PyProof.Rows.boot_zip (PyProof.Rows.callWith_type1 (thn (ha.run q pins s σ H _ I h) fun us s1 ⟨vs, H1, I1, r1, q1⟩ => ?_) hs hpl))
  obtain ⟨a, b, xs, ys, kvs, ex, hqx, hqy, hz, q1⟩ := q1
  subst ex
  cases r1 with
  | cons r rr =>
    cases rr with
    | cons r' rr =>
      cases rr
      cases r
      cases r'
      obtain ⟨its, rv, pl1, hz1⟩ := I1.list hqx
      obtain ⟨its2, rv2, pl2, _⟩ := I1.list hqy
      have la : a < s1.heap.objs.size := pl1.lt
      have lb : b < s1.heap.objs.size := pl2.lt
      refine call_zip_2 pl1.isList pl2.isList fun h' kz kI kO k1 k2 hsz hk => PyProof.Rows.args_nil ?_
      obtain ⟨prs, rel, hl, hp⟩ := zip_kv rv rv2 hz
      have hn : min its.toArray.size its2.toArray.size ≤ sizeLine := by
        have z := rv.length
        rw [List.size_toArray]
        omega
      refine PySem.call_dict_pairs (knd := mixKind X.prog X.w) (kvs := prs) (PairArg.zip (s1.heap.objs.size + 4) (s1.heap.objs.size + 2) (s1.heap.objs.size + 3) s1.heap.objs.size (s1.heap.objs.size + 1) a b (PySem.W.ktu_apart s1.heap.objs.size a b la lb) its.toArray its2.toArray)
        (I1.ok.hd hc) ⟨kz, kI, ⟨_, _, kO⟩, k1, k2, pl1.isList.at fun o z => hk _ o z, pl2.isList.at fun o z => hk _ o z⟩ ⟨by simpa using hl, fun i key v hv => ?_⟩ hn fun h2 tk hd2 kk => ?_
      · obtain ⟨q2, e1, e2⟩ := hp i key v (by simpa using hv.1) (by simpa using hv.2)
        exact ⟨q2, e1, e2⟩
      · have big : s1.heap.objs.size ≤ h'.objs.size := by omega
        have keep : ∀ c o, s1.heap.get? c = some o → h2.get? c = some o := fun c o z => by
          have lc : c < s1.heap.objs.size := Heap.lt_size z
          refine kk c o ?_ (hk c o z)
          have up : ∀ n : Nat, c ≠ s1.heap.objs.size + n := fun n => Nat.ne_of_lt (Nat.lt_of_lt_of_le lc (Nat.le_add_right _ _))
          simp only [List.mem_cons, List.not_mem_nil, or_false, not_or]
          exact ⟨up 4, up 3, up 0, up 1⟩
        have hmod : (h'.objs.size == sysModules) = false := beq_eq_false_iff_ne.mpr (Nat.ne_of_gt (Nat.lt_of_lt_of_le I1.big big))
        have hlen : (mergeK [] kvs).length ≤ sizeLine := by
          refine Nat.le_trans (length_mergeK kvs []) ?_
          rw [List.length_nil, Nat.zero_add, rel.length, hl]
          simpa using hn
        exact ⟨.ref h'.objs.size, upd H1 h'.objs.size (.dK (mergeK [] kvs)), I1.laid (t' := tk) keep big (show ObjOk X.prog X.w _ _ _ (.dK (mergeK [] kvs)) from ⟨hlen, hmod, merged [] prs, KV.merge rel .nil, hd2⟩), rfl, q1 _ (I1.hok.fresh big)⟩
end
end KW
end

section
set_option Elab.async false
set_option linter.all false
set_option maxRecDepth 100000
/-! DL6: defs; dict comprehensions, displays; sets on the way. -/
namespace DL
open PySem PySem.Spec PyProof.Rows L2 KW
open Evl (Ex)
section
variable {K : PySem.W.Frag}
/-! ### a def -/
def env0 (n : Nat) (ds : List D) : En := ds.map (fun d => some (.pur d)) ++ List.replicate (n - ds.length) none
def runF (n : Nat) (m : FS) (ds : List D) : Option D := match m (env0 n ds) with
  | some (.rt d) => some d
  | some (.nx _) => some .non
  | _ => none
theorem rel_start {G H : Hp} {N : List Str} {vs : List V} {ds : List D} (e : Ex G H) (r : Rps K G vs ds) : Rel K H G (env0 N.length ds) (L2.start N vs) H := by
  have hl := r.length
  have get : ∀ (i : Nat) (w : Sl), (env0 N.length ds)[i]? = some (some w) → ∃ d, w = .pur d ∧ ds[i]? = some d := fun i w h => by
    unfold env0 at h
    by_cases z : i < ds.length
    · rw [List.getElem?_append_left (by rw [List.length_map]; exact z), List.getElem?_map, List.getElem?_eq_getElem z] at h
      cases h
      exact ⟨_, rfl, List.getElem?_eq_getElem z⟩
    · rw [List.getElem?_append_right (by rw [List.length_map]; omega)] at h
      obtain ⟨h1, h2⟩ := List.getElem?_eq_some_iff.mp h
      rw [List.getElem_replicate] at h2
      cases h2
  refine ⟨e, ?_, fun i d h => ?_, fun i d h => ?_, fun i a h => ?_, fun i j d e a h => ?_⟩
  · unfold L2.start env0
    rw [List.length_append, List.length_append, List.length_map, List.length_map, List.length_replicate, List.length_replicate, hl]
  · obtain ⟨d', e1, e2⟩ := get i _ h
    cases e1
    obtain ⟨v, h1, h2⟩ := r.get e2
    refine ⟨v, ?_, h2⟩
    have hi : i < vs.length := (List.getElem?_eq_some_iff.mp h1).1
    unfold L2.start
    rw [List.getElem?_append_left (by rw [List.length_map]; exact hi), List.getElem?_map, h1]
    rfl
  · obtain ⟨d', e1, _⟩ := get i _ h
    cases e1
  · obtain ⟨d', e1, _⟩ := get i _ h
    cases e1
  · obtain ⟨d', e1, _⟩ := get i _ h
    cases e1
theorem fn_den {P : Program} {w : World} {mg : Str → Option Value} {base : Heap} {x qual : Str} {st : Stmt} {f : Addr} {fd : FuncData} {N ps : List Str} {k : Nat} {m : FS} (F : Fun K x qual st f fd) (S : FnScope N ps (defScope st))
    (hbody : ∀ (cdv : Value) (A : Around) (outer : List Env) (s : Shared) (H : Hp) (E : XK), Room k (A.deeper (envOfC qual (defScope st) s.heap.objs.size f cdv)) →
      ∃ t, PSs (cxOf CX0 P w K mg base N qual (defScope st) f cdv A outer s H E).nox (defBody st) t ∧ DenS K t m) : FnOk P w K mg base CX0 (k + 1) f fd ps (spF K ps.length (runF N.length m)) := by
  refine F.ok S (fun vs H Q E h => h.1) (fun cdv A outer s H vs Q E hr h => ?_)
  obtain ⟨hl, G, ds, d, e, r, ef, kk⟩ := h
  obtain ⟨t, p, den⟩ := hbody cdv A outer s H E hr
  refine ⟨t, p, ?_⟩
  unfold runF at ef
  split at ef
  · rename_i d' hm
    cases ef
    exact den H G G _ _ H _ _ (rel_start e r) ⟨.refl _, e, .refl _, fun _ _ _ => rfl⟩ hm fun v H' G' x r => kk v H' G' x r
  · rename_i ρ' hm
    cases ef
    exact den H G G _ _ H _ _ (rel_start e r) ⟨.refl _, e, .refl _, fun _ _ _ => rfl⟩ hm fun σ' H' G' R x => kk _ H' G' x .non
  · cases ef
/-! ### d.bit_length() -/
def gBits : D → Option D
  | .int i => some (.int (Builtin.Int.intBits i : Nat))
  | _ => none
theorem den_bits {ta : TE} {fa : FE} (ha : Den K ta fa) : Den K (tBits ta) (fUn gBits fa) := fun B G ρ σ H d Q R e k => by
  obtain ⟨x, ea, e⟩ := some_bind e
  refine ha B G ρ σ H x _ R ea fun v H1 G1 x1 r1 => ?_
  cases r1 <;> cases e
  exact ⟨_, rfl, k _ H1 G1 x1 (.int _)⟩
/-! ### len(set(texts)) -/
def strsD : List D → Option (List Str)
  | [] => some []
  | .str x :: r => (strsD r).map (x :: ·)
  | _ => none
theorem strs_rp {G : Hp} : ∀ {xs : List V} {ds : List D} {zs : List Str}, Rps K G xs ds → strsD ds = some zs → xs = zs.map V.str
  | _, _, _, .nil, e => by
    cases e
    rfl
  | _, _, _, .cons h r, e => by
    cases h <;> first
      | (unfold strsD at e; cases e; done)
      | skip
    unfold strsD at e
    obtain ⟨bs, e1, rfl⟩ := Option.map_eq_some_iff.mp e
    rw [strs_rp r e1]
    rfl
def intsD : List D → Option (List Int)
  | [] => some []
  | .int x :: r => (intsD r).map (x :: ·)
  | _ => none
theorem ints_rp {G : Hp} : ∀ {xs : List V} {ds : List D} {zs : List Int}, Rps K G xs ds → intsD ds = some zs → xs = zs.map V.int
  | _, _, _, .nil, e => by
    cases e
    rfl
  | _, _, _, .cons h r, e => by
    cases h <;> first
      | (unfold intsD at e; cases e; done)
      | skip
    unfold intsD at e
    obtain ⟨bs, e1, rfl⟩ := Option.map_eq_some_iff.mp e
    rw [ints_rp r e1]
    rfl
def gLenSet : D → Option D
  | .lst ds => (strsD ds).bind fun xs => if xs.length ≤ 1000 then some (.int (dcount xs : Nat)) else none
  | _ => none
theorem den_lenSet {P : Program} {w : World} {ta : TE} {fa : FE} (ha : Den K ta fa) : Den K (tCB (rLenSS P w) (tCons (tCB (rSetS K P w) (tCons ta tNil)) tNil)) (fUn gLenSet fa) := fun B G ρ σ H d Q R e k => by
  obtain ⟨x, ea, e⟩ := some_bind e
  refine ha B G ρ σ H x _ R ea fun v H1 G1 x1 r1 => ?_
  cases r1 <;> first
    | (unfold gLenSet at e; cases e; done)
    | skip
  rename_i a xs ds h1 r1
  unfold gLenSet at e
  obtain ⟨zs, e1, e⟩ := some_bind e
  split at e
  · rename_i hz
    cases e
    obtain rfl := strs_rp r1 e1
    refine ⟨a, zs, rfl, .inl (.inl (x1.gh _ _ h1)), hz, fun p np => ⟨p, zs, rfl, upd_same, k _ _ G1 ⟨x1.gg, fun b u hb => ?_, x1.hh.trans (.new np), x1.fr⟩ (.int _)⟩⟩
    rw [upd_ne (ne_of_none (x1.gh _ _ hb) np)]
    exact x1.gh _ _ hb
  · cases e
/-! ### {k: v for ..} -/
def turnK (m : D → En → Option En) (ft : FT) (fk fv : FE) (ρ : En) (d : D) : Option (Option (Key × D)) := (m d ρ).bind fun ρ' => (ft ρ').bind fun b => if b = true then (fk ρ').bind fun y => (fv ρ').bind fun z => (keyD y).map fun k => some (k, z) else some none
def goK (m : D → En → Option En) (ft : FT) (fk fv : FE) (ρ : En) : List D → List (Key × D) → Option (List (Key × D))
  | [], acc => some acc
  | d :: ds, acc => (turnK m ft fk fv ρ d).bind fun o => goK m ft fk fv ρ ds (match o with | some (k, v) => putD acc k v | none => acc)
def fDc (fs : FA) (m : D → En → Option En) (ft : FT) (fk fv : FE) (vs : List Nat) : FE := fun ρ => (fs ρ).bind fun ds => if ds.length ≤ 100000 then (goK m ft fk fv (wipeE ρ vs) ds []).map .dic else none
theorem putD_len {κ : Type} [DecidableEq κ] {kvs : List (κ × D)} {k : κ} {v : D} : (putD kvs k v).length ≤ kvs.length + 1 := by
  unfold putD
  split
  · rw [List.length_map]
    exact Nat.le_succ _
  · rw [List.length_append]
    exact Nat.le_refl _
theorem den_dc {wi : TI} {fs : FA} {g : TG} {m : D → En → Option En} {tt : TT} {ft : FT} {tk tv : TE} {fk fv : FE} {vs : List Nat} (hi : DenI K wi fs) (hg : DenG K g m) (ho : Own g vs) (ht : DenT K tt ft) (hk : Den K tk fk) (hv : Den K tv fv) :
    Den K (tDc wi g tt tk tv vs) (fDc fs m ft fk fv vs) := fun B G ρ σ H d Q R e k => by
  obtain ⟨ds, e1, e⟩ := some_bind e
  split at e
  · rename_i hz
    obtain ⟨r, e2, rfl⟩ := Option.map_eq_some_iff.mp e
    refine hi B G ρ σ H ds _ R e1 fun J H1 G1 x1 src D hD => ?_
    refine ⟨fun i n H' => n = ds.length - i ∧ i ≤ ds.length ∧ ∃ (G' : Hp) (kvs : List (Key × V)) (acc : List (Key × DL.D)), Ext G1 H1 G' H' ∧ G' D = none ∧ H' D = some (.dK kvs) ∧ goK m ft fk fv (wipeE ρ vs) (ds.drop i) acc = some r ∧ kvs.map (·.1) = acc.map (·.1) ∧ Rps K G' (kvs.map (·.2)) (acc.map (·.2)) ∧ acc.length ≤ i,
      ⟨ds.length, by simp, Nat.zero_le _, G1, [], [], ⟨.refl _, fun a o h => ?_, .new hD, fun _ _ _ => rfl⟩, Evl.fresh_back x1.gh hD, upd_same, e2, rfl, .nil, Nat.le_refl _⟩, ?_⟩
    · rw [upd_ne (ne_of_none (x1.gh _ _ h) hD)]
      exact x1.gh _ _ h
    rintro i n H2 ⟨rfl, hi, G2, kvs, acc, x2, g2, h2, e3, q2, r2, l2⟩
    have gH : Ex G1 H2 := x2.gg.trans x2.gh
    by_cases hlt : i < ds.length
    · refine .inr ⟨src.goes i H2 hlt gH, _, fun H' p' => ⟨ds.length - (i + 1), by omega, rfl, hlt, p'⟩, fun v H3 yl => ?_⟩
      obtain ⟨d, e4, y⟩ := src.yields i H2 v H3 hlt gH yl
      obtain ⟨G3, x3, r3⟩ := y G2 x2.gg x2.gh
      have ed : ds.drop i = d :: ds.drop (i + 1) := by
        obtain ⟨h1, h2⟩ := List.getElem?_eq_some_iff.mp e4
        rw [List.drop_eq_getElem_cons h1, h2]
      rw [ed] at e3
      unfold goK at e3
      obtain ⟨o, t1, e3⟩ := some_bind e3
      obtain ⟨ρ', m1, t1⟩ := some_bind t1
      obtain ⟨b, b1, t1⟩ := some_bind t1
      have R2 : Rel K B G3 (wipeE ρ vs) (wipe σ vs) H3 := (((R.ext x1).ext x2).ext x3).wipe vs
      have own := ho v (wipe σ vs) H3 _ (hg B G3 _ ρ' _ H3 v d (fun σ2 H3 => tt σ2 H3 fun b H3 => if b = true then tk σ2 H3 fun y H4 => tv σ2 H4 fun z H5 => ∃ kvs k, y = kV k ∧ H5 D = some (.dK kvs) ∧ kvs.length < sizeLine ∧ (∃ (G' : Hp) (kvs' : List (Key × V)) (acc : List (Key × DL.D)), Ext G1 H1 G' (upd H5 D (.dK (putK kvs k z))) ∧ G' D = none ∧ (upd H5 D (.dK (putK kvs k z))) D = some (.dK kvs') ∧ goK m ft fk fv (wipeE ρ vs) (ds.drop (i + 1)) acc = some r ∧ kvs'.map (·.1) = acc.map (·.1) ∧ Rps K G' (kvs'.map (·.2)) (acc.map (·.2)) ∧ acc.length ≤ i + 1) else (∃ (G' : Hp) (kvs' : List (Key × V)) (acc : List (Key × DL.D)), Ext G1 H1 G' H3 ∧ G' D = none ∧ H3 D = some (.dK kvs') ∧ goK m ft fk fv (wipeE ρ vs) (ds.drop (i + 1)) acc = some r ∧ kvs'.map (·.1) = acc.map (·.1) ∧ Rps K G' (kvs'.map (·.2)) (acc.map (·.2)) ∧ acc.length ≤ i + 1)) R2 r3 m1 ?_)
      · rw [wipe_wipe vs fun _ h => h] at own
        exact own
      · intro σ2 R3
        refine ht B G3 ρ' σ2 H3 b _ R3 b1 fun H4 G4 x4 => ?_
        have x34 := x3.trans x4
        by_cases hb : b = true
        · rw [if_pos hb] at t1 ⊢
          obtain ⟨y, y1, t1⟩ := some_bind t1
          obtain ⟨z, z1, t1⟩ := some_bind t1
          obtain ⟨kk, k1, rfl⟩ := Option.map_eq_some_iff.mp t1
          refine hk B G4 ρ' σ2 H4 y _ (R3.ext x4) y1 fun v1 H5 G5 x5 r5 => hv B G5 ρ' σ2 H5 z _ ((R3.ext x4).ext x5) z1 fun v2 H6 G6 x6 r6 => ?_
          obtain rfl := keyD_rp r5 k1
          have x36 := (x34.trans x5).trans x6
          have e6 := x36.hh _ _ h2
          have g6 := (x36.fr D _ h2).trans g2
          have hl : kvs.length < sizeLine := by
            have w := congrArg List.length q2
            rw [List.length_map, List.length_map] at w
            exact Nat.lt_of_lt_of_le (by omega : kvs.length < 100000) (by decide)
          obtain ⟨p1, p2⟩ := put_rp (k := kk) q2 (r2.mono x36.gg) r6
          have xx := x2.trans x36
          refine ⟨kvs, kk, rfl, e6, hl, G6, _, putD acc kk z, ⟨xx.gg, fun a u ha => ?_, fun a u ha => ?_, xx.fr⟩, g6, upd_same, e3, p1, p2, Nat.le_trans putD_len (by omega)⟩
          · have ne : a ≠ D := fun z => by
              rw [z, g6] at ha
              cases ha
            rw [upd_ne ne]
            exact xx.gh _ _ ha
          · rw [upd_ne (ne_of_none ha hD)]
            exact xx.hh _ _ ha
        · rw [if_neg hb] at t1 ⊢
          cases t1
          exact ⟨G4, kvs, acc, x2.trans x34, (x34.fr D _ h2).trans g2, x34.hh _ _ h2, e3, q2, r2.mono x34.gg, by omega⟩
    · have ei : i = ds.length := by omega
      subst ei
      refine .inl ⟨src.stops H2 gH, ?_⟩
      rw [List.drop_length] at e3
      cases e3
      have ex2 : Ext G1 H1 (upd G2 D (.dK kvs)) H2 := by
        refine ⟨fun a u ha => ?_, fun a u ha => ?_, x2.hh, fun a u ha => ?_⟩
        · rw [upd_ne (ne_of_none (x1.gh _ _ ha) hD)]
          exact x2.gg _ _ ha
        · by_cases z : a = D
          · subst z
            rw [upd_same] at ha
            cases ha
            exact h2
          · rw [upd_ne z] at ha
            exact x2.gh _ _ ha
        · rw [upd_ne (ne_of_none ha hD)]
          exact x2.fr _ _ ha
      exact k _ H2 _ (x1.trans ex2) (.dic upd_same q2 (r2.mono (.new g2)))
  · cases e
end
end DL
end

section
set_option Elab.async false
set_option linter.all false
set_option maxRecDepth 100000
/-! enumerate(tuple), list(range(n)) for the hand layer. -/
namespace KW
open PySem PySem.Spec PyProof.Rows L2
set_option maxHeartbeats 1000000 in
theorem meets_enum_newB {v : Value} {o : Obj} {H : Heap → Prop} (B : Begins v o H) :
    Meets (Builtin.«enumerate.__new__» ⟨[.type "enumerate", v], []⟩) (fun _ R s => H s.heap ∧
      R (.ok (.ret (.ref (s.heap.push o).objs.size))) { s with heap := (s.heap.push o).push { cls := .type "enumerate", data := .fields #[.none, .bool false, .ref s.heap.objs.size, rawInt 0, .none, .none] } }) :=
  .of_wp fun prog w A R s h => by
    obtain ⟨hp, g, d, tk, os⟩ := s
    obtain ⟨h1, h⟩ := h
    have hsub := sub_enumerate
    have q1 : ∀ {A' : Around} {E : Value → Shared → Prop} {Q : Value → Shared → Prop}, Q (.ref hp.objs.size) ⟨hp.push o, g, d, tk, os⟩ → wpAny (model prog w) A' (pyIter v) Q E ⟨hp, g, d, tk, os⟩ :=
      fun q => B.iter prog w _ _ ⟨hp, g, d, tk, os⟩ _ h1 q
    wp_walk using q1
    refine wpAny_stack_any fun st => wpAny_pure ?_
    split
    · rename_i c _ _ _ _ _
      cases (c == Value.type "enumerate")
      · wp_walk using q1
        exact ⟨_, rfl, h⟩
      · wp_walk using q1
        exact ⟨_, rfl, h⟩
    · wp_walk using q1
      exact ⟨_, rfl, h⟩
theorem call_enum_tuple {prog : Program} {w : World} {A : Around} {E : Value → Shared → Prop} {s : Shared} {t : Addr} {items : Array Value} {Q : Value → Shared → Prop} (hT : s.heap.IsTuple t items)
    (h : ∀ h', IsEnum h' (s.heap.objs.size + 1) s.heap.objs.size 0 .none → h'.IsTupleIter s.heap.objs.size t 0 → h'.objs.size = s.heap.objs.size + 2 →
      (∀ b o, s.heap.get? b = some o → h'.get? b = some o) → Q (.ref (s.heap.objs.size + 1)) { s with heap := h' }) :
    wpAny (model prog w) A (call (.type "enumerate") [.ref t]) Q E s := by
  refine callType_new F.called_enumerate (by decide) (F.typeCall_enumerate_1 _) (F.newCall_enumerate_1 _) (fun obj => F.args_object_init_2 obj _) F.entry_enumerate_new
    (meets_enum_newB (begins_tuple t items)) ⟨hT, ?_⟩
  have hz : (s.heap.push { cls := .type "tuple_iterator", data := .fields #[.ref t, .int 0 0] }).objs.size = s.heap.objs.size + 1 := Heap.size_push ..
  show _ ∧ _
  rw [hz]
  have he : IsEnum ((s.heap.push { cls := .type "tuple_iterator", data := .fields #[.ref t, .int 0 0] }).push
      { cls := .type "enumerate", data := .fields #[.none, .bool false, .ref s.heap.objs.size, rawInt 0, .none, .none] }) (s.heap.objs.size + 1) s.heap.objs.size 0 .none := by
    have := Heap.get?_push_size (s.heap.push { cls := .type "tuple_iterator", data := .fields #[.ref t, .int 0 0] })
      (o := { cls := .type "enumerate", data := .fields #[.none, .bool false, .ref s.heap.objs.size, rawInt 0, .none, .none] }) rfl
    rw [hz] at this
    exact this
  refine ⟨⟨_, he, rfl⟩, h _ he ⟨_, Heap.get?_push_of_some _ (Heap.get?_push_size _ rfl), rfl, rfl⟩ (by rw [Heap.size_push, hz]) fun b o x => Heap.get?_push_of_some _ (Heap.get?_push_of_some _ x)⟩
/-- the tuple at a, each item in a new pair -/
def IteT (K : PySem.W.Frag) (a : Addr) : It :=
  ⟨fun i H => ∃ (xs : List V) (x : V), SqT K H a xs ∧ xs[i]? = some x, fun i H v H' => ∃ T x, v = .ref T ∧ H T = none ∧ H' = upd H T (.tup [.int (i : Nat), x]) ∧ ∀ xs, SqT K H a xs → xs[i]? = some x, fun i H => ∃ xs : List V, SqT K H a xs ∧ xs.length = i⟩
theorem turn_enumT {P : Program} {w : World} {K : PySem.W.Frag} {elts : List Expr} {kk : Nat} {tpos : Pos} (a e it : Addr) :
    Turn P w K (.Tuple elts kk tpos) (IteT K a) [e, it] e (fun i h => (∃ old, IsEnum h e it ((i : Nat) : Int) old) ∧ h.IsTupleIter it a i ∧ e ≠ it) where
  mem := by simp
  obj := fun i h st b hb => by
    obtain ⟨⟨old, he⟩, ⟨o, ho, hc, hd⟩, _⟩ := st
    have e' : b = e ∨ b = it := by simpa using hb
    rcases e' with z | z
    · rw [z]
      exact ⟨_, he, fun v q => nomatch q⟩
    · rw [z]
      exact ⟨o, ho, fun v q => by rw [hd] at q; cases q⟩
  keep := fun i h h' st k => by
    obtain ⟨⟨old, he⟩, ⟨o, ho, r⟩, hne⟩ := st
    exact ⟨⟨old, k e (by simp) _ he⟩, ⟨o, k it (by simp) o ho, r⟩, hne⟩
  item := by
    intro X hP hw hK hc i pins s σ H E I hf st hg
    subst hP hw hK
    obtain ⟨⟨old, he⟩, hit, hne⟩ := st
    obtain ⟨xs, x, hq, hx⟩ := hg
    obtain ⟨its, rv, p, hz⟩ := I.tuple hq
    obtain ⟨u, hu, ru⟩ := rv.get hx
    have hel : e < s.heap.objs.size := Heap.lt_size he
    have hil : it < s.heap.objs.size := by
      obtain ⟨_, q, _⟩ := hit
      exact Heap.lt_size q
    have hx' : its.toArray[i]? = some u := by simpa using hu
    have hlt : i < its.toArray.size := (Array.getElem?_eq_some_iff.mp hx').1
    have hnt : a ≠ it := fun z => by
      obtain ⟨o, q1, q2, _⟩ := hit
      obtain ⟨o2, w1, w2, _⟩ := p
      rw [z, q1] at w1
      cases w1
      rw [q2] at w2
      injection w2 with w2
      exact absurd w2 (by decide)
    have het : e ∉ [it, a] := fun z => by
      have z' : e = it ∨ e = a := by simpa using z
      rcases z' with z | z
      · exact hne z
      · obtain ⟨o2, w1, w2, _⟩ := p
        have he' : s.heap.get? e = some _ := he
        rw [z, w1] at he'
        have w3 := congrArg Obj.cls (Option.some.inj he')
        rw [w2] at w3
        injection w3 with w3
        exact absurd w3 (by decide)
    refine wpAny_pyNext_enum_itemD (Draws.tuple (show X.A.in1.handled = none from I.ok.hd hc) it a hnt its.toArray) he ⟨hit, p⟩ hlt hne het fun x' h' tk hP ho hst hT hsz hk => ?_
    have exx : x' = u := by
      have z : its.toArray[i]? = some x' := hP
      rw [hx'] at z
      exact (Option.some.inj z).symm
    subst exx
    refine ⟨_, rfl, wpAny_letOwnedTupleGo_enum (s := { s with heap := h', toks := tk + 1 }) ho fun h'' he' sb => ?_⟩
    have hT2 : h''.get? s.heap.objs.size = some { cls := .type "tuple", data := .seq #[.int i tk, x'] } := (sb.2 _ (Nat.ne_of_gt hel)).trans hT
    have new : ObjOk X.prog X.w (upd H s.heap.objs.size (.tup [.int (i : Nat), x])) h'' s.heap.objs.size (.tup [.int (i : Nat), x]) :=
      ⟨by show 2 ≤ sizeLine; decide, [.int i tk, x'], .cons ⟨_, rfl⟩ (.cons ru .nil), ⟨_, hT2, rfl, _, rfl⟩⟩
    have I1 : Inv X pins σ (upd H s.heap.objs.size (.tup [.int (i : Nat), x])) { s with heap := h'', toks := tk + 1 } :=
      I.turnedNew (ch := [e, it]) (fun b ob hb q => (sb.2 b (fun z => hb (by simp [z]))).trans (hk b ob (fun z => hb (by simp [z])) (fun z => hb (by simp [z])) q)) hf (Nat.le_refl _) new
    refine ⟨.ref s.heap.objs.size, _, I1, rfl, ⟨_, x, rfl, I.hok.fresh (Nat.le_refl _), rfl, fun ys hy => ?_⟩, ⟨⟨x', ?_⟩, ?_, hne⟩, fun b hb => ?_⟩
    · rw [I.tuple_inj hy hq]
      exact hx
    · have e1 : ((i + 1 : Nat) : Int) = (i : Int) + 1 := by omega
      rw [e1]
      exact he'
    · obtain ⟨⟨o, q1, q2⟩, _⟩ := hst
      exact ⟨o, (sb.2 it (Ne.symm hne)).trans q1, q2⟩
    · have hb' : b < s.heap.objs.size := by
        have e' : b = e ∨ b = it := by simpa using hb
        rcases e' with z | z
        · rw [z]
          exact hel
        · rw [z]
          exact hil
      rw [upd_ne (Nat.ne_of_lt hb')]
      exact (hf b hb).1
  done := by
    intro X hP hw hK hc i pins s σ H E I hf st hg
    subst hP hw hK
    obtain ⟨⟨old, he⟩, hit, hne⟩ := st
    obtain ⟨xs, hq, hx⟩ := hg
    obtain ⟨its, rv, p, hz⟩ := I.tuple hq
    obtain ⟨f0, f1, f2, f3, f4, f5⟩ := hf it (by simp)
    have hl := rv.length
    have hnt : a ≠ it := fun z => by
      obtain ⟨o, q1, q2, _⟩ := hit
      obtain ⟨o2, w1, w2, _⟩ := p
      rw [z, q1] at w1
      cases w1
      rw [q2] at w2
      injection w2 with w2
      exact absurd w2 (by decide)
    have hi : i = its.toArray.size := by
      rw [← hx, hl]
      simp
    exact wpAny_pyNext_enum_endD (Draws.tuple (show X.A.in1.handled = none from I.ok.hd hc) it a hnt its.toArray) he (by rw [← hi]; exact ⟨hit, p⟩) fun h' eb => ⟨rfl, I.turned (t' := s.toks) (fun b o hb q => eb b o hb q) f0 f1 f3 f4 f5⟩
  self := fun A i s Q E st h => let ⟨⟨_, he⟩, _⟩ := st; wpAny_pyIter_enum he h
def iEnumT (K : PySem.W.Frag) (ta : TA) : TI := fun σ H R => ta σ H fun vs H1 => ∃ a xs, vs = [.ref a] ∧ SqT K H1 a xs ∧ R (IteT K a) H1
theorem pi_enumT {X : Cx} {e : Expr} {ta : TA} {p pos tpos : Pos} {elts : List Expr} {kk : Nat} (hg : Gl X "enumerate") (hm : X.mg "enumerate" = none) (ha : PA X [e] ta) (hs : starEach [e] X.env = [(false, eval e X.env)] := by rfl) :
    PI X (.Tuple elts kk tpos) (.Call (.Name "enumerate" p) [e] [] pos) (iEnumT X.K ta) := by
  refine ⟨fun pins s σ H R I h => ?_⟩
  refine Call_ (ld_blt I hg hm boot_enumerate (PyProof.Rows.callWith_type1 (thn (ha.run pos pins s σ H _ I h) fun us s1 ⟨vs, H1, I1, r1, q1⟩ => ?_) hs rfl))
  obtain ⟨a, xs, ex, hq, q⟩ := q1
  subst ex
  cases r1 with
  | cons r rr =>
    cases rr
    cases r
    obtain ⟨its, rv, p', hz⟩ := I1.tuple hq
    refine call_enum_tuple p' fun h' he hit hsz hk => wpAny_pyIter_enum he ?_
    have I2 : Inv X pins σ H1 { s1 with heap := h' } := I1.kept (t' := s1.toks) hk
    refine ⟨s1.heap.objs.size + 1, [s1.heap.objs.size + 1, s1.heap.objs.size], _, _, H1, rfl, I2, turn_enumT a (s1.heap.objs.size + 1) s1.heap.objs.size, ⟨⟨.none, he⟩, hit, Nat.succ_ne_self _⟩, fun b hb => ?_, q⟩
    have e' : b = s1.heap.objs.size + 1 ∨ b = s1.heap.objs.size := by simpa using hb
    have hle : s1.heap.objs.size ≤ b := by
      rcases e' with z | z
      · rw [z]
        exact Nat.le_add_right _ _
      · rw [z]
        exact Nat.le_refl _
    exact I1.fpOk hle (I1.hok.fresh hle)
theorem walk_enumT {K : PySem.W.Frag} {a : Addr} {xs : List V} : Walk (IteT K a) xs.length (fun H => SqT K H a xs) (YPair (fun i => some (.int (i : Nat))) (fun i => xs[i]?)) := by
  refine ⟨fun i _ hi q => ⟨xs, xs[i], q, by simp [hi]⟩, fun _ q => ⟨xs, q, rfl⟩, fun i H v H' _ q y => ?_⟩
  obtain ⟨T, x, h1, h2, h3, h4⟩ := y
  exact ⟨T, .int (i : Nat), x, h1, h2, h3, rfl, h4 xs q⟩
/-! ### list(range(n)) -/
theorem vals_of : ∀ {xs : List V} {us : List Value}, xs.length = us.length → (∀ (i : Nat) x u, xs[i]? = some x → us[i]? = some u → RelV x u) → Vals xs us
  | [], [], _, _ => .nil
  | [], _ :: _, h, _ => by cases h
  | _ :: _, [], h, _ => by cases h
  | x :: xs, u :: us, h, k => .cons (k 0 x u rfl rfl) (vals_of (by simpa using h) fun i x u a b => k (i + 1) x u (by simpa using a) (by simpa using b))
section
variable {X : Cx}
theorem cr_range1 : CallR X (.type "range") (fun vs H Q => ∃ j, vs = [V.int j] ∧ ∀ p, H p = none → Q (.ref p) (upd H p (.rng 0 j))) := by
  intro pins s σ H vs us Q I r h
  obtain ⟨j, rfl, q⟩ := h
  obtain ⟨u, rfl, t, rfl⟩ := vals1 r
  refine call_range_1 ⟨.ref s.heap.objs.size, upd H s.heap.objs.size (.rng 0 j), I.laid (t' := _) (fun b o e => Heap.get?_push_of_some _ e) (Nat.le_refl _) ?_, rfl, q _ (I.hok.fresh (Nat.le_refl _))⟩
  exact ⟨_, _, _, Heap.get?_push_size _ rfl⟩
def rListRng : List V → Hp → VK → Prop := fun vs H Q => ∃ (a : Addr) (n : Nat), vs = [V.ref a] ∧ H a = some (.rng 0 (n : Int)) ∧ n ≤ 100000 ∧ ∀ p, H p = none → Q (.ref p) (upd H p (.lst ((List.range n).map fun (i : Nat) => V.int (0 + (i : Int)))))
theorem cr_listRng (hc : X.calm = true) : CallR X (.type "list") rListRng := by
  intro pins s σ H vs us Q I r h
  obtain ⟨a, n, rfl, ha, hn, q⟩ := h
  rw [Vals.ref1 r]
  obtain ⟨t, u, v, e⟩ := I.hok a _ ha
  refine call_list_range (n := n) (I.ok.hd hc) (r := a) (a := 0) (b := n) (c := 1) (t := t) (u := u) (v := v) e (small_one (by decide) (by decide) (by omega) (by omega)) ?_ (by omega) fun h' tk acc' c' hk hS' hacc => ?_
  · rw [rangeSize_one]
    split <;> omega
  · have new : ∀ H', ObjOk X.prog X.w H' h' s.heap.objs.size (.lst ((List.range n).map fun (i : Nat) => V.int (0 + (i : Int)))) := fun H' => by
      refine ⟨?_, acc'.toList, c', ?_, ?_⟩
      · rw [List.length_map, List.length_range]
        exact Nat.le_trans hn (by decide)
      · refine vals_of (by rw [List.length_map, List.length_range, Array.length_toList, hacc.1]) fun i x u hx hu => ?_
        have hi : i < n := by
          have z := (List.getElem?_eq_some_iff.mp hx).1
          rwa [List.length_map, List.length_range] at z
        rw [List.getElem?_map, List.getElem?_range hi] at hx
        cases hx
        obtain ⟨t', e'⟩ := hacc.2 i u (by rw [← Array.getElem?_toList]; exact hu)
        refine ⟨t', ?_⟩
        rw [e', Int.mul_one]
      · simpa using hS'
    obtain ⟨J, hn'⟩ := inv_new (o := .lst ((List.range n).map fun (i : Nat) => V.int (0 + (i : Int)))) I (s' := { s with heap := h', toks := tk }) ⟨h', s.drawn, tk, rfl, Nat.le_refl _, hk⟩ new
    exact ⟨.ref _, _, J, rfl, q _ hn'⟩
end
end KW
end

section
set_option Elab.async false
set_option linter.all false
set_option maxRecDepth 100000
/-! DL7: further constructs. -/
namespace DL
open PySem PySem.Spec PyProof.Rows L2 KW
open Evl (Ex)
theorem _root_.L2.Room.units65 {k : Nat} {A : Around} (r : Room k A) : A.units + 65 < cLine := by have := r.un; omega
theorem pip_of {X : Cx} {op : Operator} {r : R2} (ho : OpR X (inplaceOp op) r) : PIp X op r := by
  intro pins s σ H x y v u Q I rx ry h
  exact augR ho I rx ry h
section
variable {K : PySem.W.Frag}
def fTru (fa : FE) : FT := fun ρ => (fa ρ).bind truD
theorem den_truth {ta : TE} {fa : FE} (ha : Den K ta fa) : DenT K (fun σ H Q => ta σ H fun x H' => ∃ k, TruV K x H' k ∧ Q k H') (fTru fa) := fun B G ρ σ H b Q R e k => by
  obtain ⟨x, ea, e⟩ := some_bind e
  exact ha B G ρ σ H x _ R ea fun v H1 G1 x1 r1 => ⟨b, tru_rp r1 e x1.gh, k H1 G1 x1⟩
def sFrz (m : FS) : FS := fun ρ => m (frz ρ)
theorem den_frz {t : TS} {m : FS} (h : DenS K t m) : DenS K t (sFrz m) := fun B G0 G ρ σ H E c R x e k => by
  obtain ⟨G', R', g', f'⟩ := R.frz
  exact h B G0 G' _ σ H E c R' ⟨x.gg.trans g', R'.ex, x.hh, fun a o h => (f' a o h).trans (x.fr a o h)⟩ e k
def iET (fl : FA) : FA := fun ρ => (fl ρ).bind fun xs => match xs with
  | [.tup ds] => some (nums ds)
  | _ => none
theorem den_iET {tl : TA} {fl : FA} (ha : DenA K tl fl) : DenI K (iEnumT K tl) (iET fl) := fun B G ρ σ H ds R Re e k => by
  obtain ⟨xs, ea, e⟩ := some_bind e
  refine ha B G ρ σ H xs _ Re ea fun vs H1 G1 x1 r1 => ?_
  split at e
  · cases e
    cases r1 with
    | cons r2 r3 =>
      cases r2
      cases r3
      rename_i a ys h1 r1
      exact ⟨a, ys, rfl, .inl (.inl (x1.gh _ _ h1)), k _ H1 G1 x1 (src_pair (walk_enumT (K := K)) rfl (fun H h => .inl (.inl (h _ _ h1))) r1)⟩
  · cases e
/-- xs[i] of a list or tuple -/
def gIxA (x y : D) : Option D := match x with
  | .lst _ => gIxL x y
  | .tup _ => gIxT x y
  | _ => none
theorem opd_ixA : OpD K (rIx K) gIxA := fun G H x y dx dy d Q e rx ry eg k => by
  unfold gIxA at eg
  split at eg
  · exact .inl (opd_ixL G H x y _ dy d Q e rx ry eg k)
  · exact .inr (.inl (opd_ixT G H x y _ dy d Q e rx ry eg k))
  · cases eg
/-- list(range(n)) -/
def fListR (fl : FA) : FE := fun ρ => (fl ρ).bind fun xs => match xs with
  | [.int j] => if 0 ≤ j ∧ j ≤ 100000 then some (.lst (upTo 0 j.toNat)) else none
  | _ => none
theorem rps_upTo {G : Hp} {lo : Int} : ∀ n, Rps K G ((List.range n).map fun (i : Nat) => V.int (lo + (i : Int))) (upTo lo n)
  | 0 => .nil
  | n + 1 => by
    unfold upTo
    rw [List.range_succ, List.map_append, List.map_append]
    exact (rps_upTo n).append (.one (.int _))
theorem den_listR {ta : TA} {fl : FA} (ha : DenA K ta fl) : Den K (tCB rListRng (tCons (tCB (fun vs H Q => ∃ j, vs = [V.int j] ∧ ∀ p, H p = none → Q (.ref p) (upd H p (.rng 0 j))) ta) tNil)) (fListR fl) := fun B G ρ σ H d Q R e k => by
  obtain ⟨xs, ea, e⟩ := some_bind e
  refine ha B G ρ σ H xs _ R ea fun vs H1 G1 x1 r1 => ?_
  split at e
  · rename_i j
    split at e
    · rename_i hj
      cases e
      cases r1 with
      | cons r2 r3 =>
        cases r2
        cases r3
        refine ⟨j, rfl, fun p np => ⟨p, j.toNat, rfl, ?_, by omega, fun p2 np2 => ?_⟩⟩
        · rw [upd_same, Int.toNat_of_nonneg hj.1]
        · have e1 : Ex G1 (upd H1 p (.rng 0 j)) := fun a u h => by
            rw [upd_ne (ne_of_none (x1.gh _ _ h) np)]
            exact x1.gh _ _ h
          have x2 := Ext.new (o := HO.lst ((List.range j.toNat).map fun (i : Nat) => V.int (0 + (i : Int)))) e1 np2
          refine k _ _ _ ⟨x1.gg.trans x2.gg, x2.gh, x1.hh.trans ((Evl.Ex.new np).trans x2.hh), fun a o h => ?_⟩ (.lst upd_same (rps_upTo _))
          have h1 := x1.hh _ _ h
          have h2 := Evl.Ex.new (o := HO.rng 0 j) np _ _ h1
          exact (x2.fr a _ h2).trans (x1.fr a _ h)
    · cases e
  · cases e
end
end DL
end

section
set_option Elab.async false
set_option linter.all false
set_option maxRecDepth 100000
/-! d.setdefault((a, b), x), the keys tuples. -/
namespace KW
open PySem PySem.Spec PyProof.Rows L2
section
variable {X : Cx} {pins : List (Addr × Obj)} {σ : L2.St} {H : Hp} {s : Shared} {a b : Addr} {u r : Value} {d : V} {k : List L2.Key} {A : Around} {E : Value → Shared → Prop}
theorem d_setdT {kvs : List (List L2.Key × V)} {Q : Value → Shared → Prop} (hu : A.units + 1 < cLine) (I : Inv X pins σ H s) (e : H a = some (.dT kvs)) (eb : H b = some (.tup (k.map kV))) (rd : RelV d r) (hl : kvs.length < sizeLine)
    (h1 : ∀ v, valV kvs k = some v → ∀ (w' : Value) (s' : Shared), Inv X pins σ H s' → RelV v w' → Q w' s') (h2 : valV kvs k = none → ∀ (w' : Value) (s' : Shared), Inv X pins σ (upd H a (.dT (putK kvs k d))) s' → RelV d w' → Q w' s') :
    wpAny (model X.prog X.w) A (call (.builtin "dict.setdefault") [.ref a, .ref b, r]) Q E s := by
  obtain ⟨z, hd, xs, rel, dd⟩ := dt_of I.hok e
  have hz : xs.length ≤ sizeLine := by rw [← Paired.length rel]; exact z
  refine call_setdefault_heap (hsz := hz) (tupleKind_room_in1 hu) (key_of I.hok eb) hd dd (fun p hp => ?_) fun hn h' dd' hs => ?_
  · have q := rel.val k
    have hv : (atKey xs k).map (·.2) = some p.2 := by rw [hp]; rfl
    rw [hv] at q
    cases q0 : valV kvs k with
    | none =>
      rw [q0] at q
      exact (show False from q).elim
    | some v0 =>
      rw [q0] at q
      exact h1 v0 q0 _ _ (I.tok _) q
  · have q := rel.val k
    have hv : (atKey xs k).map (·.2) = none := by rw [hn]; rfl
    rw [hv] at q
    cases q0 : valV kvs k with
    | some v0 =>
      rw [q0] at q
      exact (show False from q).elim
    | none =>
      have hl2 : (putK kvs k d).length ≤ sizeLine := by
        have := length_putK kvs k d
        omega
      obtain ⟨q, es, ep, hq, h3, h4, h5, _, h6⟩ := dd'
      refine h2 q0 _ _ (d_write I (by rw [e]; exact True.intro) hs ⟨q, hq⟩ ⟨hl2, hd, _, (rel.put k eb rd).keeps fun c ys ec => ?_, q, es, ep, hq, h3, h4, h5, h6⟩) rd
      rw [upd_ne (ne_of ec e (fun z => nomatch z))]
      exact ec
end
def tDSetdT (td ty tx : TE) : TE := fun σ H Q => td σ H fun x H1 => ∃ a, x = .ref a ∧ IsD H1 a ∧ ty σ H1 fun y H2 => tx σ H2 fun z H3 => ∃ (kvs : List (List L2.Key × V)) (k : List L2.Key) (b : Addr), H3 a = some (.dT kvs) ∧ y = .ref b ∧ H3 b = some (.tup (k.map kV)) ∧ kvs.length < sizeLine ∧
  (∀ v, valV kvs k = some v → Q v H3) ∧ (valV kvs k = none → Q z (upd H3 a (.dT (putK kvs k z))))
section
variable {X : Cx} {o e f : Expr} {td ty tx : TE} {apos cpos : Pos}
theorem pe_dsetdT (hu : X.A.units + 1 < cLine) (ho : PE X o td) (he : PE X e ty) (hf : PE X f tx) (m : M2 X o "setdefault" apos e f cpos) : PE X (.Call (.Attribute o "setdefault" apos) [e, f] [] cpos) (tDSetdT td ty tx) := by
  refine ⟨fun pins s σ H Q I h => ?_⟩
  refine wpAny_Call_method m.base m.few m.line PySem.F.plainAttrs_dict PySem.F.slot_dict_setdefault PySem.F.type_dict_setdefault (thn (ho.run pins s σ H _ I h) fun u s1 ⟨x, H1, I1, rx, a, ex, d, q1⟩ => ?_)
  subst ex
  obtain rfl : u = Value.ref a := rx
  obtain ⟨t1, t2, _⟩ := isD_at I1 d
  refine ⟨t1, t2, ?_⟩
  rw [m.trees]
  refine Calls.callWith_builtin rfl (Calls.evalArgs_plain (Calls.spliced_cons (thn (he.run pins s1 σ H1 _ I1 q1) fun iv s2 ⟨y, H2, I2, ry, q2⟩ =>
    Calls.spliced_cons (thn (hf.run pins s2 σ H2 _ I2 q2) fun fv s3 ⟨z, H3, I3, rz, kvs, k, b, ea, ey, eb, hl, q3, q4⟩ => Calls.spliced_nil ?_))))
  subst ey
  obtain rfl : iv = Value.ref b := ry
  exact d_setdT hu I3 ea eb rz hl (fun v hv w' s4 I4 rw' => ⟨v, _, I4, rw', q3 v hv⟩) fun hn w' s4 I4 rw' => ⟨z, _, I4, rw', q4 hn⟩
end
end KW
end

section
set_option Elab.async false
set_option linter.all false
set_option maxRecDepth 100000
/-! DL8: displays of dicts, dict(zip(..)), sorted, index, [::-1], sets of ints on the way. -/
namespace DL
open PySem PySem.Spec PyProof.Rows L2 KW
open Evl (Ex)
section
variable {K : PySem.W.Frag}
/-! ### {'a': x, ..} -/
def DenP (K : PySem.W.Frag) (trs : List (TE × TE)) (f : En → Option (List (D × D))) : Prop := ∀ (B G : Hp) (ρ : En) (σ : L2.St) (H : Hp) (ps : List (D × D)) (Q : List (V × V) → Hp → Prop), Rel K B G ρ σ H → f ρ = some ps →
  (∀ vs H' G', Ext G H G' H' → Rps K G' (vs.map (·.1)) (ps.map (·.1)) → Rps K G' (vs.map (·.2)) (ps.map (·.2)) → Q vs H') → tPairs trs σ H Q
def fPn : En → Option (List (D × D)) := fun _ => some []
def fPc (fk fv : FE) (r : En → Option (List (D × D))) : En → Option (List (D × D)) := fun ρ => (fk ρ).bind fun k => (fv ρ).bind fun v => (r ρ).bind fun ps => some ((k, v) :: ps)
theorem den_pn : DenP K [] fPn := fun B G ρ σ H ps Q R e k => by
  cases e
  exact k [] H G (.refl R.ex) .nil .nil
theorem den_pc {tk tv : TE} {fk fv : FE} {trs : List (TE × TE)} {r : En → Option (List (D × D))} (hk : Den K tk fk) (hv : Den K tv fv) (hr : DenP K trs r) : DenP K ((tk, tv) :: trs) (fPc fk fv r) := fun B G ρ σ H ps Q R e k => by
  obtain ⟨x, e1, e⟩ := some_bind e
  obtain ⟨y, e2, e⟩ := some_bind e
  obtain ⟨r', e3, e⟩ := some_bind e
  cases e
  exact hk B G ρ σ H x _ R e1 fun v H1 G1 x1 r1 => hv B G1 ρ σ H1 y _ (R.ext x1) e2 fun u H2 G2 x2 r2 => hr B G2 ρ σ H2 r' _ ((R.ext x1).ext x2) e3 fun vs H3 G3 x3 k3 v3 =>
    k _ H3 G3 ((x1.trans x2).trans x3) (.cons (r1.mono (x2.gg.trans x3.gg)) k3) (.cons (r2.mono x3.gg) v3)
def keyed : List (D × D) → Option (List (Key × D))
  | [] => some []
  | (k, v) :: r => (keyD k).bind fun k => (keyed r).bind fun r => some ((k, v) :: r)
def mergeD (kvs more : List (Key × D)) : List (Key × D) := more.foldl (fun acc kv => putD acc kv.1 kv.2) kvs
theorem keyed_rp {G : Hp} : ∀ {vs : List (V × V)} {ps : List (D × D)} {ks : List (Key × D)}, Rps K G (vs.map (·.1)) (ps.map (·.1)) → Rps K G (vs.map (·.2)) (ps.map (·.2)) → keyed ps = some ks → ∃ kvs : List (Key × V), vs = kvs.map (fun kv => (kV kv.1, kv.2)) ∧ kvs.map (·.1) = ks.map (·.1) ∧ Rps K G (kvs.map (·.2)) (ks.map (·.2))
  | [], [], _, _, _, e => by
    cases e
    exact ⟨[], rfl, rfl, .nil⟩
  | [], _ :: _, _, h, _, _ => by cases h
  | _ :: _, [], _, h, _, _ => by cases h
  | (a, b) :: vs, (k, v) :: ps, ks, h1, h2, e => by
    unfold keyed at e
    obtain ⟨kk, e1, e⟩ := some_bind e
    obtain ⟨r, e2, e⟩ := some_bind e
    cases e
    cases h1 with
    | cons a1 a2 =>
      cases h2 with
      | cons b1 b2 =>
        obtain ⟨kvs, q1, q2, q3⟩ := keyed_rp a2 b2 e2
        have ek := keyD_rp a1 e1
        refine ⟨(kk, b) :: kvs, ?_, ?_, .cons b1 q3⟩
        · rw [List.map_cons, ← q1]
          show (a, b) :: vs = (kV kk, b) :: vs
          rw [show a = kV kk from ek]
        · rw [List.map_cons, List.map_cons, q2]
theorem merge_rp {G : Hp} : ∀ {more : List (Key × V)} {mo : List (Key × D)} {kvs : List (Key × V)} {ds : List (Key × D)}, more.map (·.1) = mo.map (·.1) → Rps K G (more.map (·.2)) (mo.map (·.2)) → kvs.map (·.1) = ds.map (·.1) → Rps K G (kvs.map (·.2)) (ds.map (·.2)) →
    (mergeK kvs more).map (·.1) = (mergeD ds mo).map (·.1) ∧ Rps K G ((mergeK kvs more).map (·.2)) ((mergeD ds mo).map (·.2))
  | [], [], _, _, _, _, h, r => ⟨h, r⟩
  | [], _ :: _, _, _, h, _, _, _ => by cases h
  | _ :: _, [], _, _, h, _, _, _ => by cases h
  | (k1, v) :: more, (k2, d) :: mo, kvs, ds, h1, r1, h2, r2 => by
    injection h1 with h3 h4
    have h3 : k1 = k2 := h3
    subst h3
    cases r1 with
    | cons a b =>
      obtain ⟨p1, p2⟩ := put_rp (k := k1) h2 r2 a
      exact merge_rp (more := more) (mo := mo) (kvs := putK kvs k1 v) (ds := putD ds k1 d) h4 b p1 p2
def fDisp (f : En → Option (List (D × D))) : FE := fun ρ => (f ρ).bind fun ps => (keyed ps).bind fun ks => if ks.length ≤ 15 then some (.dic (mergeD [] ks)) else none
theorem Rel.frame {B G H : Hp} {ρ : En} {σ : L2.St} {p : Addr} {o : HO} (R : Rel K B G ρ σ H) (hp : H p = none) : Rel K (upd B p o) G ρ σ (upd H p o) := by
  have R1 := R.baseD (o := o) hp
  exact R1.mutD upd_same (Evl.fresh_back R.ex hp)
theorem den_disp {trs : List (TE × TE)} {f : En → Option (List (D × D))} (h : DenP K trs f) : Den K (tDisp trs) (fDisp f) := fun B G ρ σ H d Q R e k => by
  obtain ⟨ps, e1, e⟩ := some_bind e
  obtain ⟨ks, e2, e⟩ := some_bind e
  split at e
  · rename_i hz
    cases e
    intro p np
    refine h _ G ρ σ _ ps _ (R.frame (o := .dK []) np) e1 fun vs H1 G1 x1 r1 r2 => ?_
    obtain ⟨kvs, q1, q2, q3⟩ := keyed_rp r1 r2 e2
    have hp1 := x1.hh _ _ (upd_same (H := H) (a := p) (o := .dK []))
    have gp : G1 p = none := (x1.fr p _ upd_same).trans (Evl.fresh_back R.ex np)
    obtain ⟨m1, m2⟩ := merge_rp (kvs := []) (ds := []) q2 q3 rfl .nil
    have hl : kvs.length ≤ 15 := by
      have z := congrArg List.length q2
      rw [List.length_map, List.length_map] at z
      omega
    refine ⟨hp1, kvs, q1, hl, k _ _ (upd G1 p (.dK (mergeK [] kvs))) ⟨?_, ?_, ?_, ?_⟩ (.dic upd_same m1 (m2.mono (.new gp)))⟩
    · exact x1.gg.trans (.new gp)
    · intro a u ha
      by_cases z : a = p
      · subst z
        rw [upd_same] at ha ⊢
        exact ha
      · rw [upd_ne z] at ha ⊢
        exact x1.gh _ _ ha
    · intro a u ha
      have ne := ne_of_none ha np
      rw [upd_ne ne]
      exact x1.hh _ _ (by rw [upd_ne ne]; exact ha)
    · intro a u ha
      have ne := ne_of_none ha np
      rw [upd_ne ne]
      exact x1.fr a u (by rw [upd_ne ne]; exact ha)
  · cases e
/-! ### dict(zip(xs, ys)) -/
def fDz (fl : FA) : FE := fun ρ => (fl ρ).bind fun xs => match xs with
  | [.lst ks, .lst vs] => (keyed (ks.zip vs)).map fun q => .dic (mergeD [] q)
  | _ => none
theorem zip_rp {G : Hp} : ∀ {xs ys : List V} {ds es : List D}, Rps K G xs ds → Rps K G ys es → Rps K G ((xs.zip ys).map (·.1)) ((ds.zip es).map (·.1)) ∧ Rps K G ((xs.zip ys).map (·.2)) ((ds.zip es).map (·.2))
  | _, _, _, _, .nil, _ => ⟨.nil, .nil⟩
  | _, _, _, _, .cons _ _, .nil => ⟨.nil, .nil⟩
  | _, _, _, _, .cons a b, .cons c d => by
    obtain ⟨h1, h2⟩ := zip_rp b d
    exact ⟨.cons a h1, .cons c h2⟩
theorem den_dz {ta : TA} {fl : FA} (ha : DenA K ta fl) : Den K (tDz K ta) (fDz fl) := fun B G ρ σ H d Q R e k => by
  obtain ⟨xs, ea, e⟩ := some_bind e
  refine ha B G ρ σ H xs _ R ea fun vs H1 G1 x1 r1 => ?_
  split at e
  · obtain ⟨q, eq, rfl⟩ := Option.map_eq_some_iff.mp e
    cases r1 with
    | cons r2 r3 =>
      cases r3 with
      | cons r4 r5 =>
        cases r5
        cases r2
        cases r4
        rename_i a xs h1 r1 b ys h2 r2
        obtain ⟨z1, z2⟩ := zip_rp r1 r2
        obtain ⟨kvs, q1, q2, q3⟩ := keyed_rp z1 z2 eq
        obtain ⟨m1, m2⟩ := merge_rp (kvs := []) (ds := []) q2 q3 rfl .nil
        exact ⟨a, b, xs, ys, kvs, rfl, .inl (.inl (x1.gh _ _ h1)), .inl (.inl (x1.gh _ _ h2)), q1, fun p np => k _ _ _ (x1.trans (.new x1.gh np)) (.dic upd_same m1 (m2.mono (Ext.new x1.gh np).gg))⟩
  · cases e
/-! ### xs[::-1] -/
def gRev : D → Option D
  | .lst ds => some (.lst ds.reverse)
  | _ => none
theorem Rps.reverse {G : Hp} : ∀ {xs : List V} {ds : List D}, Rps K G xs ds → Rps K G xs.reverse ds.reverse
  | _, _, .nil => .nil
  | _, _, .cons h r => by
    rw [List.reverse_cons, List.reverse_cons]
    exact r.reverse.append (.one h)
theorem den_rev {ta : TE} {fa : FE} (ha : Den K ta fa) : Den K (tRevL K ta) (fUn gRev fa) := fun B G ρ σ H d Q R e k => by
  obtain ⟨x, ea, e⟩ := some_bind e
  refine ha B G ρ σ H x _ R ea fun v H1 G1 x1 r1 => ?_
  cases r1 <;> cases e
  rename_i a xs ds h1 r1
  exact ⟨a, xs, rfl, .inl (.inl (x1.gh _ _ h1)), fun p np => k _ _ _ (x1.trans (.new x1.gh np)) (.lst upd_same (r1.reverse.mono (Ext.new x1.gh np).gg))⟩
/-! ### sorted(ints), sorted(set(ints)) -/
def insI (x : Int) : List Int → List Int
  | [] => [x]
  | y :: r => if x ≤ y then x :: y :: r else y :: insI x r
def sortI : List Int → List Int
  | [] => []
  | x :: r => insI x (sortI r)
theorem insI_perm (x : Int) : ∀ l, (insI x l).Perm (x :: l)
  | [] => .refl _
  | y :: r => by
    unfold insI
    split
    · exact .refl _
    · exact ((insI_perm x r).cons y).trans (.swap x y r)
theorem sortI_perm : ∀ l, (sortI l).Perm l
  | [] => .refl _
  | x :: r => (insI_perm x (sortI r)).trans ((sortI_perm r).cons x)
theorem insI_sorted (x : Int) : ∀ {l : List Int}, l.Pairwise (· ≤ ·) → (insI x l).Pairwise (· ≤ ·)
  | [], _ => by simp [insI]
  | y :: r, h => by
    unfold insI
    split
    · rename_i hx
      refine List.Pairwise.cons (fun z hz => ?_) h
      rcases List.mem_cons.mp hz with rfl | hz
      · exact hx
      · exact Int.le_trans hx ((List.pairwise_cons.mp h).1 z hz)
    · rename_i hx
      refine List.Pairwise.cons (fun z hz => ?_) (insI_sorted x (List.pairwise_cons.mp h).2)
      rcases List.mem_cons.mp ((insI_perm x r).mem_iff.mp hz) with rfl | hz
      · omega
      · exact (List.pairwise_cons.mp h).1 z hz
theorem sortI_sorted : ∀ l, (sortI l).Pairwise (· ≤ ·)
  | [] => .nil
  | x :: r => insI_sorted x (sortI_sorted r)
theorem sorted_one {l l' : List Int} (p : l'.Perm l) (h : l'.Pairwise (· ≤ ·)) : l' = sortI l :=
  List.Perm.eq_of_pairwise (le := (· ≤ ·)) (fun a b _ _ h1 h2 => Int.le_antisymm h1 h2) h (sortI_sorted l) (p.trans (sortI_perm l).symm)
theorem rps_ints {G : Hp} : ∀ ns : List Int, Rps K G (ns.map V.int) (ns.map D.int)
  | [] => .nil
  | n :: r => .cons (.int n) (rps_ints r)
def gSorted : List D → Option D
  | [.lst ds] => (intsD ds).bind fun ns => if ns.length < 64 then some (.lst ((sortI ns).map D.int)) else none
  | _ => none
theorem cad_sorted : CaD K (rSorted K) gSorted := fun G H xs ds d Q e r eg k => by
  unfold gSorted at eg
  split at eg
  · obtain ⟨ns, e1, eg⟩ := some_bind eg
    split at eg
    · rename_i hz
      cases eg
      cases r with
      | cons rx rt =>
        cases rx
        cases rt
        rename_i a xs h1 r1
        obtain rfl := ints_rp r1 e1
        refine ⟨a, ns, rfl, .inl (.inl (e _ _ h1)), hz, fun ns' p hp hs np => ?_⟩
        obtain rfl := sorted_one hp hs
        exact k _ _ _ (.new e np) (.lst upd_same (rps_ints _))
    · cases eg
  · cases eg
/-- each once -/
def dedI (l : List Int) : List Int := l.foldr (fun x r => if x ∈ r then r else x :: r) []
theorem dedI_mem {k : Int} : ∀ {l : List Int}, k ∈ dedI l ↔ k ∈ l
  | [] => .rfl
  | x :: r => by
    have ih := dedI_mem (k := k) (l := r)
    unfold dedI at ih ⊢
    rw [List.foldr_cons]
    split
    · rename_i h
      rw [ih]
      constructor
      · exact fun z => List.mem_cons_of_mem _ z
      · intro z
        rcases List.mem_cons.mp z with rfl | z
        · exact ih.mp h
        · exact z
    · rw [List.mem_cons, List.mem_cons, ih]
theorem dedI_nodup : ∀ l : List Int, (dedI l).Nodup
  | [] => .nil
  | x :: r => by
    have ih := dedI_nodup r
    unfold dedI at ih ⊢
    rw [List.foldr_cons]
    split
    · exact ih
    · rename_i h
      exact List.nodup_cons.mpr ⟨h, ih⟩
theorem dedI_len : ∀ l : List Int, (dedI l).length ≤ l.length
  | [] => Nat.le_refl _
  | x :: r => by
    have ih := dedI_len r
    unfold dedI at ih ⊢
    rw [List.foldr_cons]
    split
    · exact Nat.le_trans ih (Nat.le_succ _)
    · exact Nat.succ_le_succ ih
end
/-- set(xs) of ints with its number -/
def rSetJ (K : PySem.W.Frag) (w : World) : List V → Hp → VK → Prop := fun xs H Q => ∃ (l : Addr) (ns : List Int), xs = [.ref l] ∧ SqL K H l (ns.map V.int) ∧ ns.length ≤ 1000 ∧
  ∀ p, H p = none → Q (.ref p) (upd H p (SetO w p (fun j => decide (j ∈ ns)) (dedI ns).length))
theorem cr_setJ {X : Cx} (hc : X.calm = true) : CallR X (.type "set") (rSetJ X.K X.w) := by
  intro pins s σ H xs us Q I r h
  obtain ⟨l, ns, rfl, hl, hz, q⟩ := h
  rw [Vals.ref1 r]
  obtain ⟨its, r2, pl, hz2⟩ := I.list hl
  refine set_of_list (I.ok.hd hc) pl.isList (loop_ints (ns := ns) (by simpa using ints_of_vals r2) (by unfold scanBound; omega)) fun h' tk ⟨c, R⟩ k => ?_
  have hcn : c = (dedI ns).length := SetR.count R (dedI_nodup ns) fun k => by rw [decide_eq_true_iff]; exact dedI_mem.symm
  subst hcn
  obtain ⟨J, hn⟩ := inv_new (o := SetO X.w s.heap.objs.size (fun j => decide (j ∈ ns)) (dedI ns).length) I (s' := { s with heap := h', toks := tk }) ⟨h', s.drawn, tk, rfl, Nat.le_refl _, k⟩ (fun _ => setO_new R)
  exact ⟨.ref _, _, J, rfl, q _ hn⟩
section
variable {K : PySem.W.Frag}
def gSortSet : D → Option D
  | .lst ds => (intsD ds).bind fun ns => if ns.length < 64 then some (.lst ((sortI (dedI ns)).map D.int)) else none
  | _ => none
theorem den_sortSet {w : World} {ta : TE} {fa : FE} (ha : Den K ta fa) : Den K (tCB (rSortedSet w) (tCons (tCB (rSetJ K w) (tCons ta tNil)) tNil)) (fUn gSortSet fa) := fun B G ρ σ H d Q R e k => by
  obtain ⟨x, ea, e⟩ := some_bind e
  refine ha B G ρ σ H x _ R ea fun v H1 G1 x1 r1 => ?_
  cases r1 <;> first
    | (unfold gSortSet at e; cases e; done)
    | skip
  rename_i a xs ds h1 r1
  unfold gSortSet at e
  obtain ⟨ns, e1, e⟩ := some_bind e
  split at e
  · rename_i hz
    cases e
    obtain rfl := ints_rp r1 e1
    refine ⟨a, ns, rfl, .inl (.inl (x1.gh _ _ h1)), by omega, fun p np => ⟨p, _, _, rfl, upd_same, Nat.lt_of_le_of_lt (dedI_len ns) hz, fun ns' p2 hs hm hl np2 => ?_⟩⟩
    have e1 : Ex G1 (upd H1 p (SetO w p (fun j => decide (j ∈ ns)) (dedI ns).length)) := fun b u h => by
      rw [upd_ne (ne_of_none (x1.gh _ _ h) np)]
      exact x1.gh _ _ h
    have hp : ns' = sortI (dedI ns) := by
      refine sorted_one ?_ (hs.imp fun h => Int.le_of_lt h)
      exact (List.perm_ext_iff_of_nodup (hs.imp fun h => Int.ne_of_lt h) (dedI_nodup ns)).mpr fun k => by rw [hm k, decide_eq_true_iff]; exact dedI_mem.symm
    subst hp
    have x2 := Ext.new (o := HO.lst ((sortI (dedI ns)).map V.int)) e1 np2
    refine k _ _ _ ⟨x1.gg.trans x2.gg, x2.gh, x1.hh.trans ((Evl.Ex.new np).trans x2.hh), fun a o h => ?_⟩ (.lst upd_same (rps_ints _))
    have h1 := x1.hh _ _ h
    have h2 := Evl.Ex.new (o := SetO w p (fun j => decide (j ∈ ns)) (dedI ns).length) np _ _ h1
    exact (x2.fr a _ h2).trans (x1.fr a _ h)
  · cases e
/-! ### xs.index(y) of trees -/
def idxPy (p : PyData) : List PyData → Nat → Option Nat
  | [], _ => none
  | z :: r, j => if PyData.eqv z p = true then some j else idxPy p r (j + 1)
theorem idxPy_ok {p : PyData} : ∀ {ps : List PyData} {i j : Nat}, idxPy p ps i = some j → ∃ n z, j = i + n ∧ ps[n]? = some z ∧ PyData.eqv z p = true ∧ ∀ m z', m < n → ps[m]? = some z' → PyData.eqv z' p = false
  | [], _, _, e => by cases e
  | z :: r, i, j, e => by
    unfold idxPy at e
    split at e
    · rename_i h
      cases e
      exact ⟨0, z, rfl, rfl, h, fun m z' hm => absurd hm (Nat.not_lt_zero _)⟩
    · rename_i h
      obtain ⟨n, y, e1, e2, e3, e4⟩ := idxPy_ok e
      refine ⟨n + 1, y, by omega, by simpa using e2, e3, fun m z' hm hz => ?_⟩
      cases m with
      | zero =>
        simp at hz
        subst hz
        exact Bool.not_eq_true _ |>.mp h
      | succ m => exact e4 m z' (by omega) (by simpa using hz)
def gIndexD (x : D) : List D → Option D
  | [y] => match x with
    | .lst ds => (toPy y).bind fun p => (toPys ds).bind fun ps => if (SeqAt.shaped (.list ps) && SeqAt.shaped p) = true then (idxPy p ps 0).map fun j => .int (j : Nat) else none
    | _ => none
  | _ => none
def fMt (g : D → List D → Option D) (fa : FE) (fl : FA) : FE := fun ρ => (fa ρ).bind fun x => (fl ρ).bind fun xs => g x xs
theorem den_indexD {ta : TE} {fa : FE} {tl : TA} {fl : FA} (ha : Den K ta fa) (hl : DenA K tl fl) : Den K (tBM K "list" (rIndexD K) ta tl) (fMt gIndexD fa fl) := fun B G ρ σ H d Q R e k => by
  obtain ⟨x, ea, e⟩ := some_bind e
  obtain ⟨xs, el, e⟩ := some_bind e
  refine ha B G ρ σ H x _ R ea fun v H1 G1 x1 r1 => ?_
  unfold gIndexD at e
  split at e
  · rename_i y
    split at e
    · rename_i ds
      obtain ⟨p, e1, e⟩ := some_bind e
      obtain ⟨ps, e2, e⟩ := some_bind e
      split at e
      · rename_i hs
        obtain ⟨j, e3, rfl⟩ := Option.map_eq_some_iff.mp e
        obtain ⟨n, z, rfl, h2, h3, h4⟩ := idxPy_ok e3
        have r1' := r1
        cases r1
        rename_i a ys h1 r1
        refine ⟨.inl ⟨rfl, _, .inl (.inl (x1.gh _ _ h1))⟩, hl B G1 ρ σ H1 _ _ (R.ext x1) el fun vs H2 G2 x2 r2 => ?_⟩
        cases r2 with
        | cons r3 r4 =>
          cases r4
          obtain ⟨s1, s2⟩ := Bool.and_eq_true_iff.mp hs
          refine ⟨a, _, p, ps, n, z, rfl, rfl, ?_, toPy_rp r3 e1 x2.gh, s1, s2, h2, h3, h4, ?_⟩
          · exact .lst (.inl (.inl (x2.gh _ _ (x2.gg _ _ h1)))) (toPys_rp (r1.mono x2.gg) e2 x2.gh)
          · have := k (.int (0 + n : Nat)) H2 G2 (x1.trans x2) (.int _)
            rwa [Nat.zero_add] at this
      · cases e
    · cases e
  · cases e
end
end DL
end

section
set_option Elab.async false
set_option linter.all false
set_option maxRecDepth 100000
/-! DL9: sets of ints made on the way: ==, len of - and &. -/
namespace DL
open PySem PySem.Spec PyProof.Rows L2 KW
open Evl (Ex)
section
variable {K : PySem.W.Frag} {w : World}
def setD : D → Option (List Int)
  | .lst ds => (intsD ds).bind fun ns => if ns.length ≤ 1000 then some ns else none
  | _ => none
/-- two sets made of two lists -/
theorem two_sets {R : R2} {ta tb : TE} {fa fb : FE} {B G : Hp} {ρ : En} {σ : L2.St} {H : Hp} {x y : D} {l m : List Int} {Q : VK} (ha : Den K ta fa) (hb : Den K tb fb) (Re : Rel K B G ρ σ H) (ea : fa ρ = some x) (eb : fb ρ = some y) (el : setD x = some l) (em : setD y = some m)
    (h : ∀ u1 u2 H' G', Ex G G' → Ex G' H' → Ex H H' → (∀ a o, H a = some o → G' a = G a) → u1 ≠ u2 → H' u1 = some (SetO w u1 (fun j => decide (j ∈ l)) (dedI l).length) → H' u2 = some (SetO w u2 (fun j => decide (j ∈ m)) (dedI m).length) → R (.ref u1) (.ref u2) H' Q) :
    tOp R (tCB (rSetJ K w) (tCons ta tNil)) (tCB (rSetJ K w) (tCons tb tNil)) σ H Q := by
  have sd : ∀ {v : V} {d : D} {ns : List Int} {G H : Hp}, Rp K G v d → setD d = some ns → Ex G H → ∃ a, v = .ref a ∧ SqL K H a (ns.map V.int) ∧ ns.length ≤ 1000 := fun {v d ns G H} r e x => by
    cases r <;> first
      | (unfold setD at e; cases e; done)
      | skip
    rename_i a xs ds h1 r1
    unfold setD at e
    obtain ⟨ms, e1, e⟩ := some_bind e
    split at e
    · rename_i hz
      cases e
      obtain rfl := ints_rp r1 e1
      exact ⟨a, rfl, .inl (.inl (x _ _ h1)), hz⟩
    · cases e
  refine ha B G ρ σ H x _ Re ea fun v H1 G1 x1 r1 => ?_
  obtain ⟨a, rfl, sq, hz⟩ := sd r1 el x1.gh
  refine ⟨a, l, rfl, sq, hz, fun u1 n1 => ?_⟩
  have R2 := (Re.ext x1).frame (o := SetO w u1 (fun j => decide (j ∈ l)) (dedI l).length) n1
  refine hb _ G1 ρ σ _ y _ R2 eb fun v2 H2 G2 x2 r2 => ?_
  obtain ⟨b, rfl, sq2, hz2⟩ := sd r2 em x2.gh
  refine ⟨b, m, rfl, sq2, hz2, fun u2 n2 => ?_⟩
  have e1 := x2.hh _ _ (upd_same (H := H1) (a := u1) (o := SetO w u1 (fun j => decide (j ∈ l)) (dedI l).length))
  have up : Ex H1 (upd H1 u1 (SetO w u1 (fun j => decide (j ∈ l)) (dedI l).length)) := .new n1
  refine h u1 u2 _ G2 (x1.gg.trans x2.gg) (fun c o hc => ?_) (x1.hh.trans (up.trans (x2.hh.trans (.new n2)))) (fun c o hc => ?_) (ne_of_none e1 n2) ?_ upd_same
  · rw [upd_ne (ne_of_none (x2.gh _ _ hc) n2)]
    exact x2.gh _ _ hc
  · exact (x2.fr c o (up _ _ (x1.hh _ _ hc))).trans (x1.fr c o hc)
  · rw [upd_ne (ne_of_none e1 n2)]
    exact e1
def subI (l m : List Int) : List Int := (dedI l).filter fun k => !decide (k ∈ m)
def andI (l m : List Int) : List Int := (dedI l).filter fun k => decide (k ∈ m)
def gSetEq (x y : D) : Option D := (setD x).bind fun l => (setD y).bind fun m => some (.bl (decide (subI l m = []) && decide (subI m l = [])))
def gSetSubLen (x y : D) : Option D := (setD x).bind fun l => (setD y).bind fun m => if (dedI l).length / 4 ≤ (dedI m).length then some (.int ((subI l m).length : Nat)) else none
def gSetAndLen (x y : D) : Option D := (setD x).bind fun l => (setD y).bind fun m => some (.int ((andI l m).length : Nat))
theorem subI_nil {l m : List Int} : subI l m = [] ↔ ∀ k ∈ l, k ∈ m := by
  unfold subI
  rw [List.filter_eq_nil_iff]
  exact ⟨fun h k hk => by simpa using h k (dedI_mem.mpr hk), fun h k hk => by simpa using h k (dedI_mem.mp hk)⟩
theorem den_setEq {ta tb : TE} {fa fb : FE} (ha : Den K ta fa) (hb : Den K tb fb) : Den K (tOp (rEqS w) (tCB (rSetJ K w) (tCons ta tNil)) (tCB (rSetJ K w) (tCons tb tNil))) (fOp gSetEq fa fb) := fun B G ρ σ H d Q R e k => by
  obtain ⟨x, ea, e⟩ := some_bind e
  obtain ⟨y, eb, e⟩ := some_bind e
  obtain ⟨l, el, e⟩ := some_bind e
  obtain ⟨m, em, e⟩ := some_bind e
  cases e
  refine two_sets ha hb R ea eb el em fun u1 u2 H' G' gg gh hh fr ne e1 e2 => ⟨u1, u2, _, _, _, _, rfl, rfl, e1, e2, fun c hc => ?_⟩
  have hb : c = (decide (subI l m = []) && decide (subI m l = [])) := by
    have iff1 : c = true ↔ (subI l m = [] ∧ subI m l = []) := by
      rw [subI_nil, subI_nil]
      constructor
      · intro h
        have z := hc.1 h
        exact ⟨fun k hk => of_decide_eq_true ((z k).symm.trans (decide_eq_true hk)), fun k hk => of_decide_eq_true ((z k).trans (decide_eq_true hk))⟩
      · rintro ⟨h1, h2⟩
        exact hc.2 fun k => decide_eq_decide.mpr ⟨h1 k, h2 k⟩
    cases c with
    | true =>
      obtain ⟨h1, h2⟩ := iff1.mp rfl
      rw [decide_eq_true h1, decide_eq_true h2]
      rfl
    | false =>
      by_cases h1 : subI l m = []
      · by_cases h2 : subI m l = []
        · exact absurd (iff1.mpr ⟨h1, h2⟩) (by decide)
        · rw [decide_eq_false h2, Bool.and_false]
      · rw [decide_eq_false h1, Bool.false_and]
  rw [hb]
  exact k _ H' G' ⟨gg, gh, hh, fr⟩ (.bl _)
theorem den_subLen {ta tb : TE} {fa fb : FE} (ha : Den K ta fa) (hb : Den K tb fb) : Den K (tCB (rLenSI w) (tCons (tOp (rSubS w) (tCB (rSetJ K w) (tCons ta tNil)) (tCB (rSetJ K w) (tCons tb tNil))) tNil)) (fOp gSetSubLen fa fb) := fun B G ρ σ H d Q R e k => by
  obtain ⟨x, ea, e⟩ := some_bind e
  obtain ⟨y, eb, e⟩ := some_bind e
  obtain ⟨l, el, e⟩ := some_bind e
  obtain ⟨m, em, e⟩ := some_bind e
  split at e
  · rename_i hz
    cases e
    have hl : l.length ≤ 1000 := by
      unfold setD at el
      split at el
      · obtain ⟨ns, _, el⟩ := some_bind el
        split at el
        · rename_i h
          cases el
          exact h
        · cases el
      · cases el
    refine two_sets ha hb R ea eb el em fun u1 u2 H' G' gg gh hh fr ne e1 e2 => ⟨u1, u2, _, _, _, _, rfl, rfl, e1, e2, Nat.le_trans (dedI_len l) hl, hz, fun u3 c n3 => ?_⟩
    refine ⟨u3, _, c, subI l m, rfl, upd_same, (dedI_nodup l).filter _, fun k => ?_, fun _ => k _ _ G' ⟨gg, fun a o h => ?_, hh.trans (.new n3), fr⟩ (.int _)⟩
    · unfold subI
      rw [List.mem_filter, dedI_mem, Bool.and_eq_true, decide_eq_true_iff]
    · rw [upd_ne (ne_of_none (gh _ _ h) n3)]
      exact gh _ _ h
  · cases e
theorem den_andLen {ta tb : TE} {fa fb : FE} (ha : Den K ta fa) (hb : Den K tb fb) : Den K (tCB (rLenSI w) (tCons (tOp (rAndS w) (tCB (rSetJ K w) (tCons ta tNil)) (tCB (rSetJ K w) (tCons tb tNil))) tNil)) (fOp gSetAndLen fa fb) := fun B G ρ σ H d Q R e k => by
  obtain ⟨x, ea, e⟩ := some_bind e
  obtain ⟨y, eb, e⟩ := some_bind e
  obtain ⟨l, el, e⟩ := some_bind e
  obtain ⟨m, em, e⟩ := some_bind e
  cases e
  have hl : ∀ {x : D} {l : List Int}, setD x = some l → l.length ≤ 1000 := fun {x l} el => by
    unfold setD at el
    split at el
    · obtain ⟨ns, _, el⟩ := some_bind el
      split at el
      · rename_i h
        cases el
        exact h
      · cases el
    · cases el
  refine two_sets ha hb R ea eb el em fun u1 u2 H' G' gg gh hh fr ne e1 e2 => ⟨u1, u2, _, _, _, _, rfl, rfl, ne, e1, e2, Nat.le_trans (dedI_len l) (hl el), Nat.le_trans (dedI_len m) (hl em), fun u3 c n3 => ?_⟩
  refine ⟨u3, _, c, andI l m, rfl, upd_same, (dedI_nodup l).filter _, fun k => ?_, fun _ => k _ _ G' ⟨gg, fun a o h => ?_, hh.trans (.new n3), fr⟩ (.int _)⟩
  · unfold andI
    rw [List.mem_filter, dedI_mem, Bool.and_eq_true, decide_eq_true_iff]
  · rw [upd_ne (ne_of_none (gh _ _ h) n3)]
    exact gh _ _ h
end
end DL
end

section
set_option Elab.async false
set_option linter.all false
set_option maxRecDepth 100000
namespace KW
open PySem PySem.Spec PyProof.Rows L2
theorem rep_foldl (c : Nat) : ∀ (n : Nat) (a : List Nat), (List.replicate n #[c]).foldl (· ++ ·) a.toArray = (a ++ List.replicate n c).toArray
  | 0, a => by simp
  | n + 1, a => by
    rw [List.replicate_succ, List.foldl_cons, show a.toArray ++ #[c] = (a ++ [c]).toArray by simp, rep_foldl c n (a ++ [c]), List.append_assoc]
    rfl
/-- one sign, so often -/
def rRepC : R2 := fun x y H Q => ∃ (c : Nat) (n : Int), x = .str ⟨#[c]⟩ ∧ y = .int n ∧ 1 ≤ n ∧ n ≤ 1000 ∧ Q (.str ⟨(List.replicate n.toNat c).toArray⟩) H
theorem repC_eq {c : Nat} {n : Int} (h : 1 ≤ n) : Txt.mul ⟨#[c]⟩ n = ⟨(List.replicate n.toNat c).toArray⟩ := by
  unfold Txt.mul
  rw [if_neg (by omega)]
  by_cases e : n = 1
  · subst e
    rfl
  · rw [if_neg (by
      simp [Str.length]
      omega)]
    have z := rep_foldl c n.toNat []
    rw [List.nil_append] at z
    exact congrArg Str.mk z
theorem op_repC {X : Cx} : OpR X (binaryOp .Mult) rRepC := by
  intro pins s σ H x y v u Q I rx ry h
  obtain ⟨c, n, rfl, rfl, h1, h2, q⟩ := h
  obtain ⟨t, rfl⟩ := rx
  obtain ⟨t', rfl⟩ := ry
  refine SB.mul ⟨?_, fun _ _ => ?_, fun _ _ => ?_⟩ fun t2 k => ⟨.str ⟨(List.replicate n.toNat c).toArray⟩, H, I.tok _, ⟨t2, by rw [repC_eq h1]⟩, q⟩
  · simp
    omega
  · have e : ((⟨#[c]⟩ : Str).length : Int) = 1 := rfl
    rw [e]
    have : (2 ^ 63 - 1 : Int) / n ≥ 1 := by
      have := Int.le_ediv_of_mul_le (a := 1) (b := 2 ^ 63 - 1) (c := n) (by omega) (by omega)
      exact this
    omega
  · have e : (⟨#[c]⟩ : Str).length * n.toNat = n.toNat := by
      show 1 * n.toNat = n.toNat
      omega
    rw [e]
    refine decide_eq_false ?_
    rw [sizeLine_eq]
    omega
end KW
end

section
set_option Elab.async false
set_option linter.all false
set_option maxRecDepth 100000
/-! DLW: the same with draws: what is drawn may be any; a def becomes a wish's own wish. -/
namespace DL
open PySem PySem.Spec PyProof.Rows L2 KW
open Evl (Ex)
/-! ### a sign so many times -/
def gRepC (x y : D) : Option D := match x, y with
  | .str z, .int n => match z.cps.toList with
    | [c] => if 1 ≤ n ∧ n ≤ 1000 then some (.str ⟨(List.replicate n.toNat c).toArray⟩) else none
    | _ => none
  | _, _ => none
theorem opd_repC {K : PySem.W.Frag} : OpD K rRepC gRepC := fun G H x y dx dy d Q e rx ry eg k => by
  cases rx <;> cases ry <;> first
    | (unfold gRepC at eg; cases eg; done)
    | skip
  rename_i z n
  unfold gRepC at eg
  simp only at eg
  split at eg
  · rename_i c hc
    split at eg
    · rename_i h
      cases eg
      refine ⟨c, n, ?_, rfl, h.1, h.2, k _ H G (.refl e) (.str _)⟩
      obtain ⟨⟨l⟩⟩ := z
      have hc' : l = [c] := hc
      rw [hc']
    · cases eg
  · cases eg
/-! ### the flow -/
/-- the flow: its cells, place, rest, mixed number -/
def fl (s : Addr) (a b c : Int) : HO := .lst [.ref s, .int a, .int b, .int c]
def FlOk (a b c : Int) : Prop := 0 ≤ a ∧ 0 ≤ b ∧ 0 ≤ c ∧ c < 2305843009213693951
def spDraw : Sp := fun vs H Q _ => ∃ (f s : Addr) (ns : List Int) (a b c z : Int), vs = [.ref f, .int z] ∧ H f = some (fl s a b c) ∧ H s = some (.lst (ns.map V.int)) ∧ FlOk a b c ∧ 0 < z ∧ z < 2 ^ 100 ∧
  ∀ r a' b' c', 0 ≤ r → r < z → FlOk a' b' c' → Q (.int r) (upd H f (fl s a' b' c'))
/-- a good flow stands at f -/
def Flo (H : Hp) (f s : Addr) (ns : List Int) : Prop := ∃ a b c, H f = some (fl s a b c) ∧ FlOk a b c ∧ H s = some (.lst (ns.map V.int))
theorem fl_ints {s : Addr} {a b c : Int} {ns : List Int} : fl s a b c ≠ .lst (ns.map V.int) := fun z => by
  have z' : HO.lst [.ref s, .int a, .int b, .int c] = .lst (ns.map V.int) := z
  injection z' with z'
  cases ns with
  | nil => cases z'
  | cons x r =>
    rw [List.map_cons] at z'
    injection z' with z1 _
    cases z1
theorem Flo.sf {H : Hp} {f s : Addr} {ns : List Int} (h : Flo H f s ns) : s ≠ f := fun z => by
  obtain ⟨a, b, c, hf, ok, hs⟩ := h
  rw [z, hf] at hs
  exact fl_ints (Option.some.inj hs)
theorem Flo.ex {H H' : Hp} {f s : Addr} {ns : List Int} (h : Flo H f s ns) (x : Ex H H') : Flo H' f s ns := by
  obtain ⟨a, b, c, hf, ok, hs⟩ := h
  exact ⟨a, b, c, x _ _ hf, ok, x _ _ hs⟩
/-- as Ext, but the flow may have gone on -/
structure ExtW (f : Addr) (G H G' H' : Hp) : Prop where
  gg : Ex G G'
  gh : Ex G' H'
  hh : ∀ a o, a ≠ f → H a = some o → H' a = some o
  fr : ∀ a o, H a = some o → G' a = G a
  up : ∀ a o, H a = some o → ∃ u, H' a = some u
section
variable {K : PySem.W.Frag} {f : Addr} {G G' G1 G2 H H' H1 H2 : Hp}
theorem Ext.w (x : Ext G H G' H') : ExtW f G H G' H' := ⟨x.gg, x.gh, fun a o _ h => x.hh a o h, x.fr, fun a o h => ⟨o, x.hh a o h⟩⟩
theorem ExtW.refl (h : Ex G H) : ExtW f G H G H := (Ext.refl h).w
theorem ExtW.trans (a : ExtW f G H G1 H1) (b : ExtW f G1 H1 G2 H2) : ExtW f G H G2 H2 := ⟨a.gg.trans b.gg, b.gh, fun x o n e => b.hh x o n (a.hh x o n e), fun x o e => by
  obtain ⟨u, hu⟩ := a.up x o e
  exact (b.fr x u hu).trans (a.fr x o e), fun x o e => by
  obtain ⟨u, hu⟩ := a.up x o e
  exact b.up x u hu⟩
end
/-- the slots, and a flow at f that stood at the entry -/
structure RelW (K : PySem.W.Frag) (f s : Addr) (ns : List Int) (B G : Hp) (ρ : En) (σ : L2.St) (H : Hp) : Prop where
  rel : Rel K B G ρ σ H
  flo : Flo H f s ns
  gf : G f = none
  bf : ∃ o, B f = some o
  bs : ∃ o, B s = some o
section
variable {K : PySem.W.Frag} {f s : Addr} {ns : List Int} {B G G' H H' : Hp} {ρ : En} {σ : L2.St}
theorem Rel.extW (R : Rel K B G ρ σ H) (bf : ∃ o, B f = some o) (x : ExtW f G H G' H') : Rel K B G' ρ σ H' where
  ex := x.gh
  len := R.len
  pur := fun i d e => by
    obtain ⟨v, h1, h2⟩ := R.pur i d e
    exact ⟨v, h1, h2.mono x.gg⟩
  own := fun i d e => by
    obtain ⟨a, h1, h2, h3, h4⟩ := R.own i d e
    obtain ⟨u, hu⟩ := h4.some
    have ne : a ≠ f := fun z => by
      obtain ⟨o, ho⟩ := bf
      rw [z, ho] at h3
      cases h3
    exact ⟨a, h1, (x.fr a u hu).trans h2, h3, h4.ex x.gg fun u e => x.hh _ _ ne e⟩
  ptr := R.ptr
  uni := R.uni
theorem RelW.ext (R : RelW K f s ns B G ρ σ H) (x : ExtW f G H G' H') (fl : Flo H' f s ns) : RelW K f s ns B G' ρ σ H' := by
  obtain ⟨a, b, c, hf, _⟩ := R.flo
  exact ⟨R.rel.extW R.bf x, fl, (x.fr _ _ hf).trans R.gf, R.bf, R.bs⟩
theorem RelW.extP (R : RelW K f s ns B G ρ σ H) (x : Ext G H G' H') : RelW K f s ns B G' ρ σ H' := R.ext x.w (R.flo.ex x.hh)
end
/-! ### expressions -/
abbrev WE := En → (D → Prop) → Prop
abbrev WT := En → (Bool → Prop) → Prop
abbrev WA := En → (List D → Prop) → Prop
def DenW (K : PySem.W.Frag) (f : Addr) (t : TE) (m : WE) : Prop := ∀ (s : Addr) (ns : List Int) (B G : Hp) (ρ : En) (σ : L2.St) (H : Hp) (P : D → Prop) (Q : VK), RelW K f s ns B G ρ σ H → m ρ P → (∀ d, P d → ∀ v H' G', ExtW f G H G' H' → Flo H' f s ns → Rp K G' v d → Q v H') → t σ H Q
def DenWT (K : PySem.W.Frag) (f : Addr) (t : TT) (m : WT) : Prop := ∀ (s : Addr) (ns : List Int) (B G : Hp) (ρ : En) (σ : L2.St) (H : Hp) (P : Bool → Prop) (Q : Bool → Hp → Prop), RelW K f s ns B G ρ σ H → m ρ P → (∀ b, P b → ∀ H' G', ExtW f G H G' H' → Flo H' f s ns → Q b H') → t σ H Q
def DenWA (K : PySem.W.Frag) (f : Addr) (t : TA) (m : WA) : Prop := ∀ (s : Addr) (ns : List Int) (B G : Hp) (ρ : En) (σ : L2.St) (H : Hp) (P : List D → Prop) (Q : List V → Hp → Prop), RelW K f s ns B G ρ σ H → m ρ P → (∀ ds, P ds → ∀ vs H' G', ExtW f G H G' H' → Flo H' f s ns → Rps K G' vs ds → Q vs H') → t σ H Q
def wE (fe : FE) : WE := fun ρ P => ∃ d, fe ρ = some d ∧ P d
def wT (ft : FT) : WT := fun ρ P => ∃ b, ft ρ = some b ∧ P b
def wA (fl : FA) : WA := fun ρ P => ∃ ds, fl ρ = some ds ∧ P ds
def wDraw (f : Addr) (i : Nat) (fz : FE) : WE := fun ρ P => ∃ z, ρ[i]? = some (some (.ptr f)) ∧ fz ρ = some (.int z) ∧ 0 < z ∧ z < 2 ^ 100 ∧ ∀ r, 0 ≤ r → r < z → P (.int r)
def wOp (g : D → D → Option D) (a b : WE) : WE := fun ρ P => a ρ fun x => b ρ fun y => ∃ d, g x y = some d ∧ P d
def wUn (g : D → Option D) (a : WE) : WE := fun ρ P => a ρ fun x => ∃ d, g x = some d ∧ P d
def wNil : WA := fun _ P => P []
def wCons (a : WE) (r : WA) : WA := fun ρ P => a ρ fun x => r ρ fun xs => P (x :: xs)
def wLst (a : WA) : WE := fun ρ P => a ρ fun ds => ds.length ≤ 100000 ∧ P (.lst ds)
def wTup (a : WA) : WE := fun ρ P => a ρ fun ds => ds.length ≤ 100000 ∧ P (.tup ds)
def wCall (g : List D → Option D) (a : WA) : WE := fun ρ P => a ρ fun ds => ∃ d, g ds = some d ∧ P d
def wCallN (n : Nat) (fn : List D → Option D) (a : WA) : WE := fun ρ P => a ρ fun ds => ds.length = n ∧ ∃ d, fn ds = some d ∧ P d
def wTest (a : WE) : WT := fun ρ P => a ρ fun x => ∃ b, asB x = some b ∧ P b
def wNotT (a : WT) : WT := fun ρ P => a ρ fun b => P (!b)
/-- the promise of a def whose first argument is the flow -/
def spW (K : PySem.W.Frag) (n : Nat) (fn : List D → (D → Prop) → Prop) : Sp := fun vs H Q _ => ∃ (f s : Addr) (ns : List Int) (us : List V) (G : Hp) (ds : List D) (P : D → Prop), vs = .ref f :: us ∧ us.length = n ∧ Flo H f s ns ∧ G f = none ∧ Ex G H ∧ Rps K G us ds ∧ fn ds P ∧
  ∀ d, P d → ∀ v H' G', ExtW f G H G' H' → Flo H' f s ns → Rp K G' v d → Q v H'
def wCallW (f : Addr) (i n : Nat) (fn : List D → (D → Prop) → Prop) (a : WA) : WE := fun ρ P => ρ[i]? = some (some (.ptr f)) ∧ a ρ fun ds => ds.length = n ∧ fn ds P
section
variable {K : PySem.W.Frag} {f : Addr} {ta tb : TE} {fa fb : FE} {wa wb : WE} {tl : TA} {wl : WA}
theorem denw_e (h : Den K ta fa) : DenW K f ta (wE fa) := fun s ns B G ρ σ H P Q R ⟨d, e, p⟩ k =>
  h B G ρ σ H d Q R.rel e fun v H' G' x r => k d p v H' G' x.w (R.flo.ex x.hh) r
theorem denw_t {t : TT} {ft : FT} (h : DenT K t ft) : DenWT K f t (wT ft) := fun s ns B G ρ σ H P Q R ⟨d, e, p⟩ k =>
  h B G ρ σ H d Q R.rel e fun H' G' x => k d p H' G' x.w (R.flo.ex x.hh)
theorem denw_a {fl : FA} (h : DenA K tl fl) : DenWA K f tl (wA fl) := fun s ns B G ρ σ H P Q R ⟨d, e, p⟩ k =>
  h B G ρ σ H d Q R.rel e fun v H' G' x r => k d p v H' G' x.w (R.flo.ex x.hh) r
/-- a draw -/
theorem denw_draw {i : Nat} {tz : TE} {fz : FE} {E : XK} (h : Den K tz fz) : DenW K f (tCall spDraw [] E (tCons (tVar i) (tCons tz tNil))) (wDraw f i fz) := fun s ns B G ρ σ H P Q R ⟨z, e1, e2, h0, h1, p⟩ k => by
  refine ⟨_, R.rel.ptr i f e1, h B G ρ σ H _ _ R.rel e2 fun v H1 G1 x1 r1 => ?_⟩
  cases r1
  have R1 := R.extP x1
  have sf := R1.flo.sf
  obtain ⟨a, b, c, hf, ok, hs⟩ := R1.flo
  refine ⟨f, s, ns, a, b, c, z, rfl, hf, hs, ok, h0, h1, fun r a' b' c' r0 r1 ok' => ?_⟩
  refine k _ (p r r0 r1) _ _ G1 ⟨x1.gg, fun y o hy => ?_, fun y o ny hy => ?_, x1.fr, fun y o hy => ?_⟩ ⟨a', b', c', upd_same, ok', by rw [upd_ne sf]; exact hs⟩ (.int r)
  · have ne : y ≠ f := fun q => by
      rw [q, R1.gf] at hy
      cases hy
    rw [upd_ne ne]
    exact x1.gh _ _ hy
  · rw [upd_ne ny]
    exact x1.hh _ _ hy
  · by_cases q : y = f
    · subst q
      exact ⟨_, upd_same⟩
    · exact ⟨o, by rw [upd_ne q]; exact x1.hh _ _ hy⟩
theorem denw_op {r : R2} {g : D → D → Option D} (ho : OpD K r g) (ha : DenW K f ta wa) (hb : DenW K f tb wb) : DenW K f (tOp r ta tb) (wOp g wa wb) := fun s ns B G ρ σ H P Q R m k => by
  refine ha s ns B G ρ σ H _ _ R m fun x px v H1 G1 x1 f1 r1 => hb s ns B G1 ρ σ H1 _ _ (R.ext x1 f1) px fun y py u H2 G2 x2 f2 r2 => ?_
  obtain ⟨d, e, p⟩ := py
  exact ho G2 H2 v u x y d Q x2.gh (r1.mono x2.gg) r2 e fun v' H' G' x3 r3 => k d p v' H' G' ((x1.trans x2).trans x3.w) (f2.ex x3.hh) r3
theorem denw_un {r : V → Hp → VK → Prop} {g : D → Option D} (ho : UnD K r g) (ha : DenW K f ta wa) : DenW K f (tUn r ta) (wUn g wa) := fun s ns B G ρ σ H P Q R m k => by
  refine ha s ns B G ρ σ H _ _ R m fun x px v H1 G1 x1 f1 r1 => ?_
  obtain ⟨d, e, p⟩ := px
  exact ho G1 H1 v x d Q x1.gh r1 e fun v' H' G' x3 r3 => k d p v' H' G' (x1.trans x3.w) (f1.ex x3.hh) r3
theorem denw_nil : DenWA K f tNil wNil := fun s ns B G ρ σ H P Q R m k => k [] m [] H G (.refl R.rel.ex) R.flo .nil
theorem denw_cons (ha : DenW K f ta wa) (hl : DenWA K f tl wl) : DenWA K f (tCons ta tl) (wCons wa wl) := fun s ns B G ρ σ H P Q R m k =>
  ha s ns B G ρ σ H _ _ R m fun x px v H1 G1 x1 f1 r1 => hl s ns B G1 ρ σ H1 _ _ (R.ext x1 f1) px fun xs pxs vs H2 G2 x2 f2 r2 => k _ pxs _ H2 G2 (x1.trans x2) f2 (.cons (r1.mono x2.gg) r2)
theorem denw_lst (hl : DenWA K f tl wl) : DenW K f (tLst tl) (wLst wl) := fun s ns B G ρ σ H P Q R m k =>
  hl s ns B G ρ σ H _ _ R m fun ds ⟨hz, p⟩ vs H1 G1 x1 f1 r1 => ⟨Nat.le_trans (Nat.le_trans (Nat.le_of_eq r1.length) hz) (by decide), fun q nq => k _ p _ _ _ (x1.trans (Ext.new x1.gh nq).w) (f1.ex (.new nq)) (.lst upd_same (r1.mono (Ext.new x1.gh nq).gg))⟩
theorem denw_tup (hl : DenWA K f tl wl) : DenW K f (tTup tl) (wTup wl) := fun s ns B G ρ σ H P Q R m k =>
  hl s ns B G ρ σ H _ _ R m fun ds ⟨hz, p⟩ vs H1 G1 x1 f1 r1 => ⟨Nat.le_trans (Nat.le_trans (Nat.le_of_eq r1.length) hz) (by decide), fun q nq => k _ p _ _ _ (x1.trans (Ext.new x1.gh nq).w) (f1.ex (.new nq)) (.tup upd_same (r1.mono (Ext.new x1.gh nq).gg))⟩
theorem denw_cb {r : List V → Hp → VK → Prop} {g : List D → Option D} (hc : CaD K r g) (hl : DenWA K f tl wl) : DenW K f (tCB r tl) (wCall g wl) := fun s ns B G ρ σ H P Q R m k =>
  hl s ns B G ρ σ H _ _ R m fun ds ⟨d, e, p⟩ vs H1 G1 x1 f1 r1 => hc G1 H1 vs ds d Q x1.gh r1 e fun v' H' G' x3 r3 => k d p v' H' G' (x1.trans x3.w) (f1.ex x3.hh) r3
theorem denw_call {n : Nat} {fn : List D → Option D} {E : XK} (hl : DenWA K f tl wl) : DenW K f (tCall (spF K n fn) [] E tl) (wCallN n fn wl) := fun s ns B G ρ σ H P Q R m k =>
  hl s ns B G ρ σ H _ _ R m fun ds ⟨hn, d, e, p⟩ vs H1 G1 x1 f1 r1 => by
    rw [List.append_nil]
    exact ⟨by rw [r1.length, hn], G1, ds, d, x1.gh, r1, e, fun v H' G' x2 r2 => k d p v H' G' (x1.trans x2.w) (f1.ex x2.hh) r2⟩
theorem denw_callW {i n : Nat} {fn : List D → (D → Prop) → Prop} {E : XK} (hl : DenWA K f tl wl) : DenW K f (tCall (spW K n fn) [] E (tCons (tVar i) tl)) (wCallW f i n fn wl) := fun s ns B G ρ σ H P Q R ⟨hi, m⟩ k => by
  refine ⟨_, R.rel.ptr i f hi, hl s ns B G ρ σ H _ _ R m fun ds ⟨hn, p⟩ vs H1 G1 x1 f1 r1 => ?_⟩
  have R1 := R.ext x1 f1
  show spW K n fn ((V.ref f :: vs) ++ []) H1 Q E
  rw [List.append_nil]
  exact ⟨f, s, ns, vs, G1, ds, P, rfl, by rw [r1.length, hn], f1, R1.gf, x1.gh, r1, p, fun d pd v H' G' x2 f2 r2 => k d pd v H' G' (x1.trans x2) f2 r2⟩
theorem denw_test (ha : DenW K f ta wa) : DenWT K f (tTest ta) (wTest wa) := fun s ns B G ρ σ H P Q R m k =>
  ha s ns B G ρ σ H _ _ R m fun x ⟨b, e, p⟩ v H1 G1 x1 f1 r1 => ⟨b, asB_rp r1 e, k b p H1 G1 x1 f1⟩
theorem denw_tb (ha : DenW K f ta wa) : DenWT K f (tB ta) (wTest wa) := fun s ns B G ρ σ H P Q R m k =>
  ha s ns B G ρ σ H _ _ R m fun x ⟨b, e, p⟩ v H1 G1 x1 f1 r1 => ⟨b, asB_rp r1 e, k b p H1 G1 x1 f1⟩
theorem denw_notT {t : TT} {wt : WT} (ha : DenWT K f t wt) : DenWT K f (tNot t) (wNotT wt) := fun s ns B G ρ σ H P Q R m k =>
  ha s ns B G ρ σ H _ _ R m fun b p H1 G1 x1 f1 => k _ p H1 G1 x1 f1
end
/-! ### statements -/
abbrev WS := En → (Ctl → Prop) → Prop
def AftW (K : PySem.W.Frag) (f s : Addr) (ns : List Int) (B G0 : Hp) (E : Ends) : Ctl → Prop
  | .nx ρ => ∀ σ' H' G', RelW K f s ns B G' ρ σ' H' → ExtW f G0 B G' H' → E.nx σ' H'
  | .rt d => ∀ v H' G', ExtW f G0 B G' H' → Flo H' f s ns → Rp K G' v d → E.rt v H'
  | .bk ρ => ∀ σ' H' G', RelW K f s ns B G' ρ σ' H' → ExtW f G0 B G' H' → E.bk σ' H'
  | .ct ρ => ∀ σ' H' G', RelW K f s ns B G' ρ σ' H' → ExtW f G0 B G' H' → E.ct σ' H'
def DenWS (K : PySem.W.Frag) (f : Addr) (t : TS) (m : WS) : Prop := ∀ (s : Addr) (ns : List Int) (B G0 G : Hp) (ρ : En) (σ : L2.St) (H : Hp) (E : Ends) (P : Ctl → Prop), RelW K f s ns B G ρ σ H → ExtW f G0 B G H → m ρ P → (∀ c, P c → AftW K f s ns B G0 E c) → t E σ H
def wS (m : FS) : WS := fun ρ P => ∃ c, m ρ = some c ∧ P c
def wSeq (m n : WS) : WS := fun ρ P => m ρ fun c => match c with
  | .nx ρ' => n ρ' P
  | c => P c
def wAsg (fe : WE) (m : D → En → Option En) : WS := fun ρ P => fe ρ fun d => ∃ ρ', m d ρ = some ρ' ∧ P (.nx ρ')
def wRet (fe : WE) : WS := fun ρ P => fe ρ fun d => P (.rt d)
def wIf (c : WT) (m n : WS) : WS := fun ρ P => c ρ fun b => if b = true then m ρ P else n ρ P
def wForL (m : D → En → Option En) (mb : WS) : List D → WS
  | [], ρ, P => P (.nx ρ)
  | d :: ds, ρ, P => ∃ ρ1, m d ρ = some ρ1 ∧ mb ρ1 fun c => match c with
    | .nx ρ2 => wForL m mb ds ρ2 P
    | .ct ρ2 => wForL m mb ds ρ2 P
    | .bk ρ2 => P (.nx ρ2)
    | .rt d => P (.rt d)
def wFor (fs : FA) (m : D → En → Option En) (mb : WS) : WS := fun ρ P => ∃ ds, fs ρ = some ds ∧ wForL m mb ds ρ P
section
variable {K : PySem.W.Frag} {f : Addr} {te : TE} {fe : WE}
/-- what has no draw; the flow is put by as one of what stood at the entry -/
theorem denw_s {t : TS} {m : FS} (h : DenS K t m) : DenWS K f t (wS m) := fun s ns B G0 G ρ σ H E P R x ⟨c, e, p⟩ k => by
  have kk := k c p
  -- the base: what stood at the entry, as it stands now
  have RH : Rel K (fun a => if (B a).isSome = true then H a else none) G ρ σ H := by
    refine ⟨R.rel.ex, R.rel.len, R.rel.pur, fun i d e => ?_, R.rel.ptr, R.rel.uni⟩
    obtain ⟨a, h1, h2, h3, h4⟩ := R.rel.own i d e
    exact ⟨a, h1, h2, by simp [h3], h4⟩
  have xH : Ext G (fun a => if (B a).isSome = true then H a else none) G H := by
    refine ⟨.refl _, R.rel.ex, fun a o e => ?_, fun _ _ _ => rfl⟩
    have e' : (if (B a).isSome = true then H a else none) = some o := e
    split at e'
    · exact e'
    · cases e'
  have back : ∀ {G' H' : Hp}, Ext G (fun a => if (B a).isSome = true then H a else none) G' H' → ExtW f G0 B G' H' := fun {G' H'} z => by
    refine ⟨x.gg.trans z.gg, z.gh, fun a o ne e => z.hh a o ?_, fun a o e => ?_, fun a o e => ?_⟩
    · rw [if_pos (by rw [e]; rfl)]
      exact x.hh a o ne e
    · obtain ⟨u, hu⟩ := x.up a o e
      exact (z.fr a u (by rw [if_pos (by rw [e]; rfl)]; exact hu)).trans (x.fr a o e)
    · obtain ⟨u, hu⟩ := x.up a o e
      exact ⟨u, z.hh a u (by rw [if_pos (by rw [e]; rfl)]; exact hu)⟩
  have flo : ∀ {G' H' : Hp}, Ext G (fun a => if (B a).isSome = true then H a else none) G' H' → Flo H' f s ns := fun {G' H'} z => by
    obtain ⟨a, b, c, hf, ok, hs⟩ := R.flo
    obtain ⟨o, ho⟩ := R.bf
    obtain ⟨o2, ho2⟩ := R.bs
    exact ⟨a, b, c, z.hh _ _ (by rw [if_pos (by rw [ho]; rfl)]; exact hf), ok, z.hh _ _ (by rw [if_pos (by rw [ho2]; rfl)]; exact hs)⟩
  have relw : ∀ {ρ' : En} {σ' : L2.St} {G' H' : Hp}, Rel K (fun a => if (B a).isSome = true then H a else none) G' ρ' σ' H' → Ext G (fun a => if (B a).isSome = true then H a else none) G' H' → RelW K f s ns B G' ρ' σ' H' := fun {ρ' σ' G' H'} R' z => by
    refine ⟨⟨R'.ex, R'.len, R'.pur, fun i d e => ?_, R'.ptr, R'.uni⟩, flo z, ?_, R.bf, R.bs⟩
    · obtain ⟨a, h1, h2, h3, h4⟩ := R'.own i d e
      refine ⟨a, h1, h2, ?_, h4⟩
      cases q : B a with
      | none => rfl
      | some o =>
        obtain ⟨u, hu⟩ := x.up a o q
        simp [q, hu] at h3
    · obtain ⟨a, b, c, hf, ok, hs⟩ := R.flo
      obtain ⟨o, ho⟩ := R.bf
      exact (z.fr f _ (by rw [if_pos (by rw [ho]; rfl)]; exact hf)).trans R.gf
  refine h _ G G ρ σ H E c RH xH e ?_
  cases c with
  | nx ρ' => exact fun σ' H' G' R' z => kk σ' H' G' (relw R' z) (back z)
  | bk ρ' => exact fun σ' H' G' R' z => kk σ' H' G' (relw R' z) (back z)
  | ct ρ' => exact fun σ' H' G' R' z => kk σ' H' G' (relw R' z) (back z)
  | rt d => exact fun v H' G' z r => kk v H' G' (back z) (flo z) r
theorem denw_seq {t u : TS} {m n : WS} (ht : DenWS K f t m) (hu : DenWS K f u n) : DenWS K f (tSeq t u) (wSeq m n) := fun s ns B G0 G ρ σ H E P R x e k => by
  refine ht s ns B G0 G ρ σ H _ _ R x e fun c pc => ?_
  cases c with
  | nx ρ' => exact fun σ' H' G' R' x' => hu s ns B G0 G' ρ' σ' H' E P R' x' pc k
  | rt d => exact k _ pc
  | bk ρ' => exact k _ pc
  | ct ρ' => exact k _ pc
theorem denw_asg {g : TG} {m : D → En → Option En} (he : DenW K f te fe) (hg : DenG K g m) : DenWS K f (tAsg te g) (wAsg fe m) := fun s ns B G0 G ρ σ H E P R x e k =>
  he s ns B G ρ σ H _ _ R e fun d ⟨ρ', e2, p⟩ v H1 G1 x1 f1 r1 => by
    have R1 := R.ext x1 f1
    exact hg B G1 ρ ρ' σ H1 v d _ R1.rel r1 e2 fun σ' R' => k _ p σ' H1 G1 ⟨R', f1, R1.gf, R1.bf, R1.bs⟩ (x.trans x1)
theorem denw_ret (he : DenW K f te fe) : DenWS K f (tRet te) (wRet fe) := fun s ns B G0 G ρ σ H E P R x e k =>
  he s ns B G ρ σ H _ _ R e fun d p v H1 G1 x1 f1 r1 => k _ p v H1 G1 (x.trans x1) f1 r1
theorem denw_if {tc : TT} {wc : WT} {t u : TS} {m n : WS} (hc : DenWT K f tc wc) (ht : DenWS K f t m) (hu : DenWS K f u n) : DenWS K f (tIfS tc t u) (wIf wc m n) := fun s ns B G0 G ρ σ H E P R x e k =>
  hc s ns B G ρ σ H _ _ R e fun b p H1 G1 x1 f1 => by
    by_cases z : b = true
    · rw [if_pos z] at p ⊢
      exact ht s ns B G0 G1 ρ σ H1 E P (R.ext x1 f1) (x.trans x1) p k
    · rw [if_neg z] at p ⊢
      exact hu s ns B G0 G1 ρ σ H1 E P (R.ext x1 f1) (x.trans x1) p k
theorem denw_for {wi : TI} {fs : FA} {g : TG} {m : D → En → Option En} {tb : TS} {mb : WS} (hi : DenI K wi fs) (hg : DenG K g m) (hb : DenWS K f tb mb) : DenWS K f (tFor wi g tb) (wFor fs m mb) := fun s ns B G0 G ρ σ H E P R x ⟨ds, e1, e⟩ k => by
  refine hi B G ρ σ H ds _ R.rel e1 fun J H1 G1 x1 src => ?_
  refine for_it src (fun i σ' H' => ∃ ρ' G', RelW K f s ns B G' ρ' σ' H' ∧ ExtW f G0 B G' H' ∧ Ex G1 G' ∧ wForL m mb (ds.drop i) ρ' P) ⟨ρ, G1, R.extP x1, x.trans x1.w, .refl _, e⟩ ?_ ?_ ?_
  · rintro i σ' H' _ ⟨ρ', G', R', x', g', _⟩
    exact g'.trans R'.rel.ex
  · rintro i v σ' H2 H3 hi ⟨ρ', G', R', x', g', e'⟩ ⟨d, e4, y⟩
    obtain ⟨G3, x3, r3⟩ := y G' g' R'.rel.ex
    have ed : ds.drop i = d :: ds.drop (i + 1) := by
      obtain ⟨h1, h2⟩ := List.getElem?_eq_some_iff.mp e4
      rw [List.drop_eq_getElem_cons h1, h2]
    rw [ed] at e'
    obtain ⟨ρ1, m1, e'⟩ := e'
    have R3 := R'.extP x3
    refine hg B G3 ρ' ρ1 σ' H3 v d _ R3.rel r3 m1 fun σ2 R2 => ?_
    have g3 : Ex G1 G3 := g'.trans x3.gg
    have x4 := x'.trans x3.w
    have back : ∀ G' H', ExtW f G3 B G' H' → ExtW f G0 B G' H' := fun G' H' z => ⟨x4.gg.trans z.gg, z.gh, z.hh, fun a o h => (z.fr a o h).trans (x4.fr a o h), z.up⟩
    refine hb s ns B G3 G3 ρ1 σ2 H3 _ _ ⟨R2, R3.flo, R3.gf, R3.bf, R3.bs⟩ ⟨.refl _, x4.gh, x4.hh, fun _ _ _ => rfl, x4.up⟩ e' fun c pc => ?_
    cases c with
    | nx ρ2 => exact fun σ5 H5 G5 R5 x5 => ⟨ρ2, G5, R5, back _ _ x5, g3.trans x5.gg, pc⟩
    | ct ρ2 => exact fun σ5 H5 G5 R5 x5 => ⟨ρ2, G5, R5, back _ _ x5, g3.trans x5.gg, pc⟩
    | rt d => exact fun v H5 G5 x5 f5 r5 => k _ pc v H5 G5 (back _ _ x5) f5 r5
    | bk ρ2 => exact fun σ5 H5 G5 R5 x5 => k _ pc σ5 H5 G5 R5 (back _ _ x5)
  · rintro σ' H' ⟨ρ', G', R', x', g', e'⟩
    rw [List.drop_length] at e'
    exact k _ e' σ' H' G' R' x'
def wPar3 (i j l : Nat) (a : WA) : WS := fun ρ P => a ρ fun ds => ∃ x y z, ds = [x, y, z] ∧ P (.nx (((ρ.set i (some (.pur x))).set j (some (.pur y))).set l (some (.pur z))))
theorem denw_par3 {i j l : Nat} {ta : TA} {wa : WA} (ha : DenWA K f ta wa) : DenWS K f (tPar3 i j l ta) (wPar3 i j l wa) := fun s ns B G0 G ρ σ H E P R x e k =>
  ha s ns B G ρ σ H _ _ R e fun ds pd vs H1 G1 x1 f1 r1 => by
    obtain ⟨a, b, c, rfl, p⟩ := pd
    have R1 := R.ext x1 f1
    cases r1 with
    | cons r2 r3 =>
      cases r3 with
      | cons r4 r5 =>
        cases r5 with
        | cons r6 r7 =>
          cases r7
          exact ⟨_, _, _, rfl, k _ p _ H1 G1 ⟨((R1.rel.set r2).set r4).set r6, f1, R1.gf, R1.bf, R1.bs⟩ (x.trans x1)⟩
def wFrz (m : WS) : WS := fun ρ => m (frz ρ)
theorem denw_frz {t : TS} {m : WS} (h : DenWS K f t m) : DenWS K f t (wFrz m) := fun s ns B G0 G ρ σ H E P R x e k => by
  obtain ⟨G', R', g', f'⟩ := R.rel.frz
  obtain ⟨o, ho⟩ := R.bf
  exact h s ns B G0 G' _ σ H E P ⟨R', R.flo, (f' f o ho).trans R.gf, R.bf, R.bs⟩ ⟨x.gg.trans g', R'.ex, x.hh, fun a o h => (f' a o h).trans (x.fr a o h), x.up⟩ e k
/-- a def whose first argument is the flow -/
def envW (n : Nat) (f : Addr) (ds : List D) : En := some (.ptr f) :: (ds.map (fun d => some (.pur d)) ++ List.replicate (n - (ds.length + 1)) none)
def runW (n : Nat) (m : Addr → WS) (ds : List D) (P : D → Prop) : Prop := ∀ f, m f (envW n f ds) fun c => match c with
  | .rt d => P d
  | .nx _ => P .non
  | _ => False
theorem fn_denW {P : Program} {w : World} {mg : Str → Option Value} {base : Heap} {x qual : Str} {st : Stmt} {fn : Addr} {fd : FuncData} {N ps : List Str} {k n : Nat} {m : Addr → WS} (F : Fun K x qual st fn fd) (S : FnScope N ps (defScope st)) (hn : ps.length = n + 1)
    (hbody : ∀ (f : Addr) (cdv : Value) (A : Around) (outer : List Env) (s : Shared) (H : Hp) (E : XK), Room k (A.deeper (envOfC qual (defScope st) s.heap.objs.size fn cdv)) →
      ∃ t, PSs (cxOf CX0 P w K mg base N qual (defScope st) fn cdv A outer s H E).nox (defBody st) t ∧ DenWS K f t (m f)) : FnOk P w K mg base CX0 (k + 1) fn fd ps (spW K n (runW N.length m)) := by
  refine F.ok S (fun vs H Q E h => ?_) (fun cdv A outer s H vs Q E hr h => ?_)
  · obtain ⟨f, s, ns, us, G, ds, P, rfl, hl, _⟩ := h
    rw [List.length_cons, hl, hn]
  · obtain ⟨f, sc, ns, us, G, ds, P, rfl, hl, flo, gf, ex, r, m0, kk⟩ := h
    obtain ⟨t, p, den⟩ := hbody f cdv A outer s H E hr
    refine ⟨t, p, ?_⟩
    have bf : ∃ o, H f = some o := by
      obtain ⟨a, b, c, hf, _⟩ := flo
      exact ⟨_, hf⟩
    have bs : ∃ o, H sc = some o := by
      obtain ⟨a, b, c, hf, ok, hs⟩ := flo
      exact ⟨_, hs⟩
    have R0 := rel_start (K := K) (N := N.tail) ex r
    have R : Rel K H G (envW N.length f ds) (L2.start N (.ref f :: us)) H := by
      have hl2 := r.length
      have get : ∀ (i : Nat) (w : Sl), (envW N.length f ds)[i + 1]? = some (some w) → ∃ d, w = .pur d ∧ ds[i]? = some d := fun i w h => by
        unfold envW at h
        rw [List.getElem?_cons_succ] at h
        by_cases z : i < ds.length
        · rw [List.getElem?_append_left (by rw [List.length_map]; exact z), List.getElem?_map, List.getElem?_eq_getElem z] at h
          cases h
          exact ⟨_, rfl, List.getElem?_eq_getElem z⟩
        · rw [List.getElem?_append_right (by rw [List.length_map]; omega)] at h
          obtain ⟨h1, h2⟩ := List.getElem?_eq_some_iff.mp h
          rw [List.getElem_replicate] at h2
          cases h2
      refine ⟨ex, ?_, fun i d h => ?_, fun i d h => ?_, fun i a h => ?_, fun i j d e a h => ?_⟩
      · unfold L2.start envW
        simp only [List.length_append, List.length_cons, List.length_map, List.length_replicate, hl2]
        omega
      · cases i with
        | zero => cases h
        | succ i =>
          obtain ⟨d', e1, e2⟩ := get i _ h
          cases e1
          obtain ⟨v, h1, h2⟩ := r.get e2
          refine ⟨v, ?_, h2⟩
          have hi : i < us.length := (List.getElem?_eq_some_iff.mp h1).1
          unfold L2.start
          rw [List.map_cons, List.cons_append, List.getElem?_cons_succ, List.getElem?_append_left (by rw [List.length_map]; exact hi), List.getElem?_map, h1]
          rfl
      · cases i with
        | zero => cases h
        | succ i =>
          obtain ⟨d', e1, _⟩ := get i _ h
          cases e1
      · cases i with
        | zero =>
          cases h
          rfl
        | succ i =>
          obtain ⟨d', e1, _⟩ := get i _ h
          cases e1
      · cases i with
        | zero => cases h
        | succ i =>
          obtain ⟨d', e1, _⟩ := get i _ h
          cases e1
    refine den sc ns H G G _ _ H _ _ ⟨R, flo, gf, bf, bs⟩ ⟨.refl _, ex, fun _ _ _ h => h, fun _ _ _ => rfl, fun _ o h => ⟨o, h⟩⟩ (m0 f) fun c pc => ?_
    cases c with
    | nx ρ' => exact fun σ' H' G' R' x' => kk _ pc _ H' G' x' R'.flo .non
    | rt d => exact fun v H' G' x' f' r' => kk _ pc v H' G' x' f' r'
    | bk ρ' => exact pc.elim
    | ct ρ' => exact pc.elim
end
end DL
end

section
set_option Elab.async false
set_option linter.all false
set_option maxRecDepth 100000
/-! DLH: a loop that fills a dict of lists, d.setdefault(k, []).append(e). -/
namespace DL
open PySem PySem.Spec PyProof.Rows L2 KW
open Evl (Ex)
section
variable {K : PySem.W.Frag}
abbrev Hits := List (List Key × List D)
def pushH (hs : Hits) (k : List Key) (e : D) : Hits := match hs with
  | [] => [(k, [e])]
  | (k', es) :: r => if k' = k then (k', es ++ [e]) :: r else (k', es) :: pushH r k e
def lenH (hs : Hits) (k : List Key) : Nat := match hs with
  | [] => 0
  | (k', es) :: r => if k' = k then es.length else lenH r k
/-- the lists at their places -/
inductive HsRel (K : PySem.W.Frag) (G H : Hp) : List (List Key × Addr) → Hits → Prop
  | nil : HsRel K G H [] []
  | cons {k : List Key} {q : Addr} {xs : List V} {es : List D} {L : List (List Key × Addr)} {hs : Hits} : H q = some (.lst xs) → G q = none → Rps K G xs es → HsRel K G H L hs → HsRel K G H ((k, q) :: L) ((k, es) :: hs)
theorem HsRel.move {G H G' H' : Hp} : ∀ {L : List (List Key × Addr)} {hs : Hits}, HsRel K G H L hs → Ex G G' → (∀ q ∈ L.map (·.2), ∀ o, H q = some o → H' q = some o ∧ G' q = G q) → HsRel K G' H' L hs
  | _, _, .nil, _, _ => .nil
  | _, _, .cons h g r t, e, k => .cons (k _ List.mem_cons_self _ h).1 ((k _ List.mem_cons_self _ h).2.trans g) (r.mono e) (t.move e fun q hq => k q (List.mem_cons_of_mem _ hq))
theorem HsRel.live {G H : Hp} : ∀ {L : List (List Key × Addr)} {hs : Hits}, HsRel K G H L hs → ∀ q ∈ L.map (·.2), (∃ o, H q = some o) ∧ G q = none
  | _, _, .nil, q, hq => by cases hq
  | _, _, .cons h g r t, q, hq => by
    rcases List.mem_cons.mp hq with rfl | hq
    · exact ⟨⟨_, h⟩, g⟩
    · exact t.live q hq
def kvL (L : List (List Key × Addr)) : List (List Key × V) := L.map fun p => (p.1, .ref p.2)
/-- where the key stands -/
theorem HsRel.find {G H : Hp} {k : List Key} : ∀ {L : List (List Key × Addr)} {hs : Hits}, HsRel K G H L hs → (valV (kvL L) k = none ∧ lenH hs k = 0 ∧ ∀ e, pushH hs k e = hs ++ [(k, [e])]) ∨
    ∃ q xs, valV (kvL L) k = some (.ref q) ∧ q ∈ L.map (·.2) ∧ H q = some (.lst xs) ∧ xs.length = lenH hs k
  | _, _, .nil => .inl ⟨rfl, rfl, fun _ => rfl⟩
  | _, _, .cons (k := k') (q := q) (xs := xs) (es := es) (L := L) (hs := hs) h g r t => by
    by_cases z : k' = k
    · subst z
      refine .inr ⟨q, xs, ?_, List.mem_cons_self, h, ?_⟩
      · unfold kvL valV
        rw [List.map_cons, List.find?_cons]
        simp
      · unfold lenH
        rw [if_pos rfl, r.length]
    · have hv : valV (kvL ((k', q) :: L)) k = valV (kvL L) k := by
        unfold kvL valV
        rw [List.map_cons, List.find?_cons]
        simp [z]
      have hl : lenH ((k', es) :: hs) k = lenH hs k := by
        show (if k' = k then es.length else lenH hs k) = lenH hs k
        rw [if_neg z]
      rcases t.find with ⟨a, b, c⟩ | ⟨q', xs', a, b, c, d⟩
      · refine .inl ⟨hv.trans a, hl.trans b, fun e => ?_⟩
        show (if k' = k then (k', es ++ [e]) :: hs else (k', es) :: pushH hs k e) = _
        rw [if_neg z, c]
        rfl
      · exact .inr ⟨q', xs', hv.trans a, List.mem_cons_of_mem _ b, c, d.trans hl.symm⟩
/-- one more in the list that is there -/
theorem HsRel.push {G H : Hp} {k : List Key} {e : D} {v : V} {q : Addr} {xs : List V} : ∀ {L : List (List Key × Addr)} {hs : Hits}, HsRel K G H L hs → (L.map (·.2)).Nodup → valV (kvL L) k = some (.ref q) → H q = some (.lst xs) → Rp K G v e → HsRel K G (upd H q (.lst (xs ++ [v]))) L (pushH hs k e)
  | _, _, .nil, _, hv, _, _ => by cases hv
  | _, _, .cons (k := k') (q := q') (xs := xs') (es := es) (L := L) (hs := hs) h g r t, nd, hv, hq, rv => by
    have nd' := List.nodup_cons.mp nd
    by_cases z : k' = k
    · subst z
      have e1 : valV (kvL ((k', q') :: L)) k' = some (.ref q') := by
        unfold kvL valV
        rw [List.map_cons, List.find?_cons]
        simp
      rw [e1] at hv
      cases hv
      rw [h] at hq
      cases hq
      show HsRel K G _ _ (if k' = k' then (k', es ++ [e]) :: hs else _)
      rw [if_pos rfl]
      refine .cons upd_same g (r.append (.one rv)) (t.move (.refl _) fun c hc o ho => ⟨?_, rfl⟩)
      rw [upd_ne (fun z : c = q => nd'.1 (by rw [← z]; exact hc))]
      exact ho
    · have e1 : valV (kvL ((k', q') :: L)) k = valV (kvL L) k := by
        unfold kvL valV
        rw [List.map_cons, List.find?_cons]
        simp [z]
      rw [e1] at hv
      show HsRel K G _ _ (if k' = k then _ else (k', es) :: pushH hs k e)
      rw [if_neg z]
      have hm : q ∈ L.map (·.2) := by
        unfold valV kvL at hv
        obtain ⟨p, hp, hp2⟩ := Option.map_eq_some_iff.mp hv
        obtain ⟨w, hw, rfl⟩ := List.mem_map.mp (List.mem_of_find?_eq_some hp)
        cases hp2
        exact List.mem_map.mpr ⟨w, hw, rfl⟩
      have ne : q' ≠ q := fun z => nd'.1 (z ▸ hm)
      exact .cons (by rw [upd_ne ne]; exact h) g r (t.push nd'.2 hv hq rv)
theorem HsRel.append {G H : Hp} {k : List Key} {q : Addr} {xs : List V} {es : List D} : ∀ {L : List (List Key × Addr)} {hs : Hits}, HsRel K G H L hs → H q = some (.lst xs) → G q = none → Rps K G xs es → HsRel K G H (L ++ [(k, q)]) (hs ++ [(k, es)])
  | _, _, .nil, a, b, c => .cons a b c .nil
  | _, _, .cons h g r t, a, b, c => .cons h g r (t.append a b c)
def hitsD (hs : Hits) : D := .dit (hs.map fun p => (p.1, .lst p.2))
def ptrAt (i : Nat) (a : Addr) (ρ : En) : Bool := match ρ[i]? with
  | some (some (.ptr b)) => b == a
  | _ => false
theorem ptrAt_eq {i : Nat} {a : Addr} {ρ : En} (h : ptrAt i a ρ = true) : ρ[i]? = some (some (.ptr a)) := by
  unfold ptrAt at h
  split at h
  · rename_i b hb
    rw [hb, eq_of_beq h]
  · cases h
def keyAt (i : Nat) (ρ : En) : Option (List Key) := match ρ[i]? with
  | some (some (.pur (.tup ks))) => keysD ks
  | _ => none
def goH (ih : Nat) (a : Addr) (m : D → En → Option En) (m1 : FS) (ip : Nat) (fe : FE) (m3 : FS) : List D → En → Hits → Option (En × Hits)
  | [], ρ, hs => if ptrAt ih a ρ = true then some (ρ, hs) else none
  | d :: ds, ρ, hs => if ptrAt ih a ρ = true then (m d ρ).bind fun ρ1 => (m1 ρ1).bind fun c => match c with
    | .nx ρ2 => if ptrAt ih a ρ2 = true then (keyAt ip ρ2).bind fun k => (fe ρ2).bind fun e => if hs.length < 1000 ∧ lenH hs k < 100000 then (m3 ρ2).bind fun c3 => match c3 with
        | .nx ρ3 => goH ih a m m1 ip fe m3 ds ρ3 (pushH hs k e)
        | _ => none
      else none else none
    | _ => none
    else none
def sHits (ih : Nat) (mmid : FS) (fs : FA) (m : D → En → Option En) (m1 : FS) (ip : Nat) (fe : FE) (m3 mrest : FS) (a : Addr) : FS := fun ρ => (mmid (ρ.set ih (some (.ptr a)))).bind fun c => match c with
  | .nx ρ1 => if ptrAt ih a ρ1 = true then (fs ρ1).bind fun ds => (goH ih a m m1 ip fe m3 ds ρ1 []).bind fun q => mrest (q.1.set ih (some (.pur (hitsD q.2)))) else none
  | _ => none
theorem Rel.rebase {B1 B2 G H : Hp} {ρ : En} {σ : L2.St} (R : Rel K B1 G ρ σ H) (h : ∀ c o, H c = some o → B1 c = none → B2 c = none) : Rel K B2 G ρ σ H where
  ex := R.ex
  len := R.len
  pur := R.pur
  own := fun i d e => by
    obtain ⟨a, h1, h2, h3, h4⟩ := R.own i d e
    obtain ⟨u, hu⟩ := h4.some
    exact ⟨a, h1, h2, h _ _ hu h3, h4⟩
  ptr := R.ptr
  uni := R.uni
/-- what stood at the entry, and the dict and its lists as they stand -/
def bx (B H : Hp) (a : Addr) (L : List (List Key × Addr)) : Hp := fun c => if c = a ∨ c ∈ L.map (·.2) then H c else B c
theorem bx_in {B H : Hp} {a : Addr} {L : List (List Key × Addr)} {c : Addr} (h : c = a ∨ c ∈ L.map (·.2)) : bx B H a L c = H c := if_pos h
theorem bx_out {B H : Hp} {a : Addr} {L : List (List Key × Addr)} {c : Addr} (h : ¬ (c = a ∨ c ∈ L.map (·.2))) : bx B H a L c = B c := if_neg h
/-- the state between two turns -/
structure HSt (K : PySem.W.Frag) (B G0 : Hp) (a : Addr) (hs : Hits) (ρ : En) (σ : L2.St) (H G : Hp) (L : List (List Key × Addr)) : Prop where
  rel : Rel K (bx B H a L) G ρ σ H
  ext : Ext G0 B G H
  ha : H a = some (.dT (kvL L))
  ga : G a = none
  ba : B a = none
  bq : ∀ q ∈ L.map (·.2), B q = none
  nd : (a :: L.map (·.2)).Nodup
  hs : HsRel K G H L hs
theorem HSt.xb {B G0 G H : Hp} {a : Addr} {hs : Hits} {ρ : En} {σ : L2.St} {L : List (List Key × Addr)} (S : HSt K B G0 a hs ρ σ H G L) : Ex (bx B H a L) H := fun c o e => by
  by_cases z : c = a ∨ c ∈ L.map (·.2)
  · rw [bx_in z] at e
    exact e
  · rw [bx_out z] at e
    exact S.ext.hh _ _ e
/-- a step that leaves what bx has: the state goes on -/
theorem HSt.go {B G0 G H G' H' : Hp} {a : Addr} {hs : Hits} {ρ ρ' : En} {σ σ' : L2.St} {L : List (List Key × Addr)} (S : HSt K B G0 a hs ρ σ H G L) (R : Rel K (bx B H a L) G' ρ' σ' H') (x : Ext G (bx B H a L) G' H') : HSt K B G0 a hs ρ' σ' H' G' L := by
  have keep : ∀ c, c = a ∨ c ∈ L.map (·.2) → ∀ o, H c = some o → H' c = some o ∧ G' c = G c := fun c hc o ho => by
    have e : bx B H a L c = some o := by rw [bx_in hc]; exact ho
    exact ⟨x.hh _ _ e, x.fr _ _ e⟩
  refine ⟨R.rebase fun c o h e => ?_, ⟨S.ext.gg.trans x.gg, x.gh, fun c o h => ?_, fun c o h => ?_⟩, (keep a (.inl rfl) _ S.ha).1, (keep a (.inl rfl) _ S.ha).2.trans S.ga, S.ba, S.bq, S.nd, S.hs.move x.gg fun q hq o ho => keep q (.inr hq) o ho⟩
  · by_cases z : c = a ∨ c ∈ L.map (·.2)
    · rw [bx_in z] at e
      exfalso
      rcases z with z | z
      · rw [z, S.ha] at e
        cases e
      · obtain ⟨⟨u, hu⟩, _⟩ := S.hs.live c z
        rw [hu] at e
        cases e
    · rw [bx_out z] at e ⊢
      exact e
  · by_cases z : c = a ∨ c ∈ L.map (·.2)
    · exfalso
      rcases z with z | z
      · rw [z, S.ba] at h
        cases h
      · rw [S.bq c z] at h
        cases h
    · exact x.hh _ _ (by rw [bx_out z]; exact h)
  · have z : ¬ (c = a ∨ c ∈ L.map (·.2)) := fun z => by
      rcases z with z | z
      · rw [z, S.ba] at h
        cases h
      · rw [S.bq c z] at h
        cases h
    exact (x.fr c o (by rw [bx_out z]; exact h)).trans (S.ext.fr c o h)
theorem HSt.go0 {B G0 G H G' H' : Hp} {a : Addr} {hs : Hits} {ρ : En} {σ : L2.St} {L : List (List Key × Addr)} (S : HSt K B G0 a hs ρ σ H G L) (x : Ext G H G' H') : HSt K B G0 a hs ρ σ H' G' L :=
  S.go (S.rel.ext x) ⟨x.gg, x.gh, S.xb.trans x.hh, fun c o h => x.fr c o (S.xb c o h)⟩
theorem HSt.xe {B G0 G H : Hp} {a : Addr} {hs : Hits} {ρ : En} {σ : L2.St} {L : List (List Key × Addr)} (S : HSt K B G0 a hs ρ σ H G L) : Ext G (bx B H a L) G H := ⟨.refl _, S.rel.ex, S.xb, fun _ _ _ => rfl⟩
/-- a statement of the turn -/
theorem HSt.st {B G0 G H : Hp} {a : Addr} {hs : Hits} {ρ : En} {σ : L2.St} {L : List (List Key × Addr)} {t : TS} {m : FS} {c : Ctl} {E : Ends} (S : HSt K B G0 a hs ρ σ H G L) (h : DenS K t m) (e : m ρ = some c)
    (k : match c with | .nx ρ' => ∀ σ' H' G', HSt K B G0 a hs ρ' σ' H' G' L → Ex G G' → E.nx σ' H' | _ => False) : t E σ H := by
  refine h (bx B H a L) G G ρ σ H E c S.rel S.xe e ?_
  cases c with
  | nx ρ' => exact fun σ' H' G' R' x' => k σ' H' G' (S.go R' x') x'.gg
  | rt d => exact k.elim
  | bk ρ' => exact k.elim
  | ct ρ' => exact k.elim
/-- d.setdefault(k, []).append(e) -/
theorem HSt.app {B G0 G H : Hp} {a : Addr} {hs : Hits} {ρ : En} {σ : L2.St} {L : List (List Key × Addr)} {ih ip : Nat} {te : TE} {fe : FE} {k : List Key} {e : D} {E : Ends} (S : HSt K B G0 a hs ρ σ H G L) (he : Den K te fe) (pa : ρ[ih]? = some (some (.ptr a))) (ek : keyAt ip ρ = some k) (ee : fe ρ = some e)
    (hl : hs.length < 1000) (hl2 : lenH hs k < 100000) (kk : ∀ L' H' G', HSt K B G0 a (pushH hs k e) ρ σ H' G' L' → Ex G G' → E.nx σ H') :
    tDrop (tBM K "list" rAppend (tDSetdT (tVar ih) (tVar ip) (tLst tNil)) (tCons te tNil)) E σ H := by
  obtain ⟨b, xsb, hb, gb, eb⟩ : ∃ b, σ[ip]? = some (some (.ref b)) ∧ G b = some (.tup (k.map kV)) ∧ True ∧ True := by
    unfold keyAt at ek
    split at ek
    · rename_i ks h1
      obtain ⟨v, g1, g2⟩ := S.rel.pur _ _ h1
      cases g2
      rename_i b xs g3 g4
      rw [keysD_rp g4 ek] at g3
      exact ⟨b, g1, g3, trivial, trivial⟩
    · cases ek
  have hLlen : L.length = hs.length := by
    have := S.hs
    clear kk hl hl2 ek ee S
    induction this with
    | nil => rfl
    | cons _ _ _ _ ih => rw [List.length_cons, List.length_cons, ih]
  refine ⟨_, S.rel.ptr ih a pa, a, rfl, .inr ⟨_, .inl S.ha⟩, _, xsb, by show 0 ≤ sizeLine; decide, fun p np => ?_⟩
  have npa : a ≠ p := ne_of_none S.ha np
  have npb : b ≠ p := ne_of_none (S.rel.ex _ _ hb) np
  have hkl : (kvL L).length < sizeLine := by
    unfold kvL
    rw [List.length_map, hLlen]
    exact Nat.lt_of_lt_of_le hl (by decide)
  refine ⟨kvL L, k, b, by rw [upd_ne npa]; exact S.ha, rfl, by rw [upd_ne npb]; exact S.rel.ex _ _ hb, hkl, fun v hv => ?_, fun hv => ?_⟩
  · -- the key is there
    rcases S.hs.find (k := k) with ⟨z, _⟩ | ⟨q, xs, z1, z2, z3, z4⟩
    · rw [z] at hv
      cases hv
    · rw [z1] at hv
      cases hv
      have nq : q ≠ p := ne_of_none z3 np
      have S1 : HSt K B G0 a hs ρ σ (upd H p (.lst [])) G L := by
        refine S.go ?_ ⟨.refl _, fun c o h => ?_, S.xb.trans (.new np), fun _ _ _ => rfl⟩
        · refine (S.rel.frame (o := .lst []) np).rebase fun c o h e => ?_
          by_cases w : c = p
          · rw [w, upd_same] at e
            cases e
          · rw [upd_ne w] at e
            exact e
        · rw [upd_ne (ne_of_none (S.rel.ex _ _ h) np)]
          exact S.rel.ex _ _ h
      refine ⟨.inl ⟨rfl, xs, .inl (.inl (by rw [upd_ne nq]; exact z3))⟩, he _ G ρ σ _ e _ S1.rel ee fun u H2 G2 x2 r2 => ?_⟩
      have S2 := S1.go0 x2
      have e2 : H2 q = some (.lst xs) := x2.hh _ _ (by rw [upd_ne nq]; exact z3)
      refine ⟨q, xs, u, rfl, rfl, e2, Nat.lt_of_lt_of_le (by rw [z4]; exact hl2) (by decide), ?_⟩
      have gq : G2 q = none := (S2.hs.live q z2).2
      have naq : a ≠ q := fun w => (List.nodup_cons.mp S.nd).1 (w ▸ z2)
      refine kk L _ G2 ⟨?_, ⟨S2.ext.gg, fun c o h => ?_, fun c o h => ?_, S2.ext.fr⟩, by rw [upd_ne naq]; exact S2.ha, S2.ga, S.ba, S.bq, S.nd, S2.hs.push (List.nodup_cons.mp S.nd).2 z1 e2 r2⟩ x2.gg
      · refine (S2.rel.mutD (b := .lst xs) (o := .lst (xs ++ [u])) (by rw [bx_in (.inr z2)]; exact e2) gq).rebase fun c o h e => ?_
        by_cases w : c = a ∨ c ∈ L.map (·.2)
        · rw [bx_in w] at e ⊢
          by_cases w2 : c = q
          · rw [w2, e2] at e
            cases e
          · rw [upd_ne w2]
            exact e
        · rw [bx_out w] at e ⊢
          exact e
      · rw [upd_ne (fun w => by rw [w, gq] at h; cases h)]
        exact S2.ext.gh _ _ h
      · rw [upd_ne (fun w => by rw [w, S.bq q z2] at h; cases h)]
        exact S2.ext.hh _ _ h
  · -- a new list
    rcases S.hs.find (k := k) with ⟨_, z2, z3⟩ | ⟨q, xs, z1, _⟩
    · have npL : p ∉ L.map (·.2) := fun w => by
        obtain ⟨⟨u, hu⟩, _⟩ := S.hs.live p w
        rw [np] at hu
        cases hu
      have gp : G p = none := Evl.fresh_back S.rel.ex np
      have bp : B p = none := Evl.fresh_back S.ext.hh np
      have eput : putK (kvL L) k (V.ref p) = kvL (L ++ [(k, p)]) := by
        rw [putK_new _ hv]
        unfold kvL
        rw [List.map_append]
        rfl
      have S1 : HSt K B G0 a (hs ++ [(k, [])]) ρ σ (upd (upd H p (.lst [])) a (.dT (putK (kvL L) k (.ref p)))) G (L ++ [(k, p)]) := by
        have memL : ∀ c, c ∈ (L ++ [(k, p)]).map (·.2) ↔ c ∈ L.map (·.2) ∨ c = p := fun c => by
          rw [List.map_append, List.mem_append]
          simp
        refine ⟨?_, ⟨S.ext.gg, fun c o h => ?_, fun c o h => ?_, S.ext.fr⟩, by rw [upd_same, eput], S.ga, S.ba, fun q hq => ?_, ?_, ?_⟩
        · have R1 := S.rel.frame (o := .lst []) np
          have R2 := R1.mutD (D := a) (b := .dT (kvL L)) (o := .dT (putK (kvL L) k (.ref p))) (by rw [upd_ne npa, bx_in (.inl rfl)]; exact S.ha) S.ga
          refine R2.rebase fun c o h e => ?_
          by_cases w : c = p
          · rw [w, upd_same] at e
            cases e
          · rw [upd_ne w] at e
            by_cases w2 : c = a ∨ c ∈ L.map (·.2)
            · rw [bx_in w2] at e
              exfalso
              rcases w2 with w2 | w2
              · rw [w2, S.ha] at e
                cases e
              · obtain ⟨⟨u, hu⟩, _⟩ := S.hs.live c w2
                rw [hu] at e
                cases e
            · rw [bx_out w2] at e
              rw [bx_out]
              · exact e
              · rintro (w3 | w3)
                · exact w2 (.inl w3)
                · rcases (memL c).mp w3 with w4 | w4
                  · exact w2 (.inr w4)
                  · exact w w4
        · have nca : c ≠ a := fun w => by
            rw [w, S.ga] at h
            cases h
          rw [upd_ne nca, upd_ne (ne_of_none (S.rel.ex _ _ h) np)]
          exact S.rel.ex _ _ h
        · have nca : c ≠ a := fun w => by
            rw [w, S.ba] at h
            cases h
          rw [upd_ne nca, upd_ne (ne_of_none (S.ext.hh _ _ h) np)]
          exact S.ext.hh _ _ h
        · rcases (memL q).mp hq with w | w
          · exact S.bq q w
          · rw [w]
            exact bp
        · rw [List.map_append, ← List.cons_append]
          refine List.nodup_append.mpr ⟨S.nd, by simp, fun x hx y hy => ?_⟩
          have hy' : y = p := by simpa using hy
          subst hy'
          rcases List.mem_cons.mp hx with w | w
          · rw [w]
            exact npa
          · exact fun z => npL (z ▸ w)
        · refine HsRel.append (S.hs.move (.refl _) fun q hq o ho => ⟨?_, rfl⟩) (by rw [upd_ne npa.symm, upd_same]) gp .nil
          have nqa : q ≠ a := fun w => (List.nodup_cons.mp S.nd).1 (w ▸ hq)
          rw [upd_ne nqa, upd_ne (ne_of_none ho np)]
          exact ho
      have e1 : upd (upd H p (.lst [])) a (.dT (putK (kvL L) k (.ref p))) p = some (.lst []) := by rw [upd_ne npa.symm, upd_same]
      refine ⟨.inl ⟨rfl, [], .inl (.inl e1)⟩, he _ G ρ σ _ e _ S1.rel ee fun u H2 G2 x2 r2 => ?_⟩
      have S2 := S1.go0 x2
      have e2 : H2 p = some (.lst []) := x2.hh _ _ e1
      refine ⟨p, [], u, rfl, rfl, e2, by show 0 < sizeLine; decide, ?_⟩
      have mp : p ∈ (L ++ [(k, p)]).map (·.2) := by
        rw [List.map_append]
        simp
      have gq : G2 p = none := (S2.hs.live p mp).2
      have hpush : pushH (hs ++ [(k, [])]) k e = pushH hs k e := by
        have aux : ∀ {hs : Hits}, (∀ e, pushH hs k e = hs ++ [(k, [e])]) → pushH (hs ++ [(k, [])]) k e = hs ++ [(k, [e])] := by
          intro hs
          induction hs with
          | nil =>
            intro _
            show (if k = k then (k, [] ++ [e]) :: [] else _) = _
            rw [if_pos rfl]
            rfl
          | cons q r ih =>
            intro h
            obtain ⟨k', es⟩ := q
            have hk : k' ≠ k := fun w => by
              have z := h e
              subst w
              have z' : (if k' = k' then (k', es ++ [e]) :: r else (k', es) :: pushH r k' e) = (k', es) :: (r ++ [(k', [e])]) := z
              rw [if_pos rfl] at z'
              injection z' with z1 z2
              have := congrArg List.length z2
              rw [List.length_append] at this
              simp at this
            show (if k' = k then _ else (k', es) :: pushH (r ++ [(k, [])]) k e) = _
            rw [if_neg hk, ih fun e' => ?_]
            · rfl
            · have z := h e'
              have z' : (if k' = k then (k', es ++ [e']) :: r else (k', es) :: pushH r k e') = (k', es) :: (r ++ [(k, [e'])]) := z
              rw [if_neg hk] at z'
              injection z'
        rw [aux z3, z3]
      have hval : valV (kvL (L ++ [(k, p)])) k = some (.ref p) := by
        rw [← eput, valV_put, if_pos rfl]
      have st := S2.hs.push (List.nodup_cons.mp S1.nd).2 hval e2 r2
      rw [hpush] at st
      refine kk (L ++ [(k, p)]) _ G2 ⟨?_, ⟨S2.ext.gg, fun c o h => ?_, fun c o h => ?_, S2.ext.fr⟩, by rw [upd_ne npa]; exact S2.ha, S2.ga, S.ba, S1.bq, S1.nd, st⟩ x2.gg
      · refine (S2.rel.mutD (b := .lst []) (o := .lst ([] ++ [u])) (by rw [bx_in (.inr mp)]; exact e2) gq).rebase fun c o h e => ?_
        by_cases w : c = a ∨ c ∈ (L ++ [(k, p)]).map (·.2)
        · rw [bx_in w] at e ⊢
          by_cases w2 : c = p
          · rw [w2, e2] at e
            cases e
          · rw [upd_ne w2]
            exact e
        · rw [bx_out w] at e ⊢
          exact e
      · rw [upd_ne (fun w => by rw [w, gq] at h; cases h)]
        exact S2.ext.gh _ _ h
      · rw [upd_ne (fun w => by rw [w, bp] at h; cases h)]
        exact S2.ext.hh _ _ h
    · rw [z1] at hv
      cases hv
theorem HsRel.keys {G H : Hp} : ∀ {L : List (List Key × Addr)} {hs : Hits}, HsRel K G H L hs → (kvL L).map (·.1) = (hs.map fun p => (p.1, D.lst p.2)).map (·.1)
  | _, _, .nil => rfl
  | _, _, .cons _ _ _ t => by
    have z := t.keys
    unfold kvL at z ⊢
    rw [List.map_cons, List.map_cons, List.map_cons, List.map_cons, z]
theorem HsRel.vals {G G' H : Hp} : ∀ {L : List (List Key × Addr)} {hs : Hits}, HsRel K G H L hs → Ex G G' → (∀ q ∈ L.map (·.2), ∀ o, H q = some o → G' q = some o) → Rps K G' ((kvL L).map (·.2)) ((hs.map fun p => (p.1, D.lst p.2)).map (·.2))
  | _, _, .nil, _, _ => .nil
  | _, _, .cons h g r t, e, k => .cons (.lst (k _ List.mem_cons_self _ h) (r.mono e)) (t.vals e fun q hq => k q (List.mem_cons_of_mem _ hq))
theorem HSt.frz {B G0 G H : Hp} {a : Addr} {hs : Hits} {ρ : En} {σ : L2.St} {L : List (List Key × Addr)} {ih : Nat} (S : HSt K B G0 a hs ρ σ H G L) (pa : ρ[ih]? = some (some (.ptr a))) : ∃ G', Rel K B G' (ρ.set ih (some (.pur (hitsD hs)))) σ H ∧ Ext G0 B G' H := by
  let G' : Hp := fun c => if c = a ∨ c ∈ L.map (·.2) then H c else G c
  have g_in : ∀ c, c = a ∨ c ∈ L.map (·.2) → G' c = H c := fun c h => if_pos h
  have g_out : ∀ c, ¬ (c = a ∨ c ∈ L.map (·.2)) → G' c = G c := fun c h => if_neg h
  have gnone : ∀ c, c = a ∨ c ∈ L.map (·.2) → G c = none := fun c h => by
    rcases h with h | h
    · rw [h]
      exact S.ga
    · exact (S.hs.live c h).2
  have gg : Ex G G' := fun c o h => by
    rw [g_out c fun z => by rw [gnone c z] at h; cases h]
    exact h
  have gh : Ex G' H := fun c o h => by
    by_cases z : c = a ∨ c ∈ L.map (·.2)
    · rw [g_in c z] at h
      exact h
    · rw [g_out c z] at h
      exact S.rel.ex _ _ h
  have R' : Rel K B G' ρ σ H := by
    refine ⟨gh, S.rel.len, fun i d e => ?_, fun i d e => ?_, S.rel.ptr, S.rel.uni⟩
    · obtain ⟨v, h1, h2⟩ := S.rel.pur i d e
      exact ⟨v, h1, h2.mono gg⟩
    · obtain ⟨c, h1, h2, h3, h4⟩ := S.rel.own i d e
      obtain ⟨u, hu⟩ := h4.some
      have nz : ¬ (c = a ∨ c ∈ L.map (·.2)) := fun z => by
        rw [bx_in z, hu] at h3
        cases h3
      exact ⟨c, h1, (g_out c nz).trans h2, by rw [bx_out nz] at h3; exact h3, h4.ex gg fun _ h => h⟩
  have rp : Rp K G' (.ref a) (hitsD hs) := .dit (.inl (by rw [g_in a (.inl rfl)]; exact S.ha)) S.hs.keys (S.hs.vals gg fun q hq o ho => by rw [g_in q (.inr hq)]; exact ho)
  have es : σ.set ih (some (.ref a)) = σ := by
    apply List.ext_getElem?
    intro j
    have hs := S.rel.ptr ih a pa
    by_cases z : ih = j
    · subst z
      have hl : ih < σ.length := (List.getElem?_eq_some_iff.mp hs).1
      rw [List.getElem?_set_self hl, hs]
    · rw [List.getElem?_set_ne z]
  have R2 := R'.set (i := ih) rp
  rw [es] at R2
  refine ⟨G', R2, S.ext.gg.trans gg, gh, S.ext.hh, fun c o h => ?_⟩
  have nz : ¬ (c = a ∨ c ∈ L.map (·.2)) := fun z => by
    rcases z with z | z
    · rw [z, S.ba] at h
      cases h
    · rw [S.bq c z] at h
      cases h
  exact (g_out c nz).trans (S.ext.fr c o h)
/-- what is the same whatever the address is -/
def DenA2 (K : PySem.W.Frag) (t : TS) (m : Addr → FS) : Prop := ∀ (B G0 G : Hp) (ρ : En) (σ : L2.St) (H : Hp) (E : Ends) (c : Ctl), Rel K B G ρ σ H → Ext G0 B G H → (∀ a, m a ρ = some c) → Aft K B G0 E c → t E σ H
theorem den_hits {ih ip : Nat} {tmid t1 t3 tr : TS} {mmid m1 m3 mr : FS} {wi : TI} {fs : FA} {g : TG} {m : D → En → Option En} {te : TE} {fe : FE} (hm : DenS K tmid mmid) (hi : DenI K wi fs) (hg : DenG K g m) (h1 : DenS K t1 m1) (he : Den K te fe) (h3 : DenS K t3 m3) (hr : DenS K tr mr) :
    DenA2 K (tSeq (tAsg tDNewT (gName ih)) (tSeq tmid (tSeq (tFor wi g (tSeq t1 (tSeq (tDrop (tBM K "list" rAppend (tDSetdT (tVar ih) (tVar ip) (tLst tNil)) (tCons te tNil))) t3))) tr))) (sHits ih mmid fs m m1 ip fe m3 mr) := fun B G0 G ρ σ H E c R x e k => by
  intro a na
  have e := e a
  have S0 : HSt K B G0 a [] (ρ.set ih (some (.ptr a))) (σ.set ih (some (.ref a))) (upd H a (.dT [])) G [] := by
    have ga := Evl.fresh_back R.ex na
    have ba := Evl.fresh_back x.hh na
    refine ⟨((R.frame (o := .dT []) na).rebase fun c o h e => ?_).setPtr, ⟨x.gg, fun c o h => ?_, fun c o h => ?_, x.fr⟩, upd_same, ga, ba, fun q hq => (by cases hq), by simp, .nil⟩
    · by_cases w : c = a
      · rw [w, upd_same] at e
        cases e
      · rw [upd_ne w] at e
        rw [bx_out (fun z => by rcases z with z | z; exact w z; cases z)]
        exact e
    · rw [upd_ne (ne_of_none (R.ex _ _ h) na)]
      exact R.ex _ _ h
    · rw [upd_ne (ne_of_none (x.hh _ _ h) na)]
      exact x.hh _ _ h
  show tSeq tmid _ E (σ.set ih (some (.ref a))) (upd H a (.dT []))
  unfold sHits at e
  obtain ⟨c1, e1, e⟩ := some_bind e
  refine S0.st (t := tmid) hm e1 ?_
  cases c1 with
  | nx ρ1 =>
    simp only at e ⊢
    intro σ1 H1 G1 S1 _
    split at e
    · rename_i p1
      obtain ⟨ds, e2, e⟩ := some_bind e
      obtain ⟨q, e3, e⟩ := some_bind e
      refine hi _ G1 ρ1 σ1 H1 ds _ S1.rel e2 fun J H2 G2 x2 src => ?_
      refine for_it src (fun i σ' H' => ∃ ρ' G' L hs', HSt K B G0 a hs' ρ' σ' H' G' L ∧ Ex G2 G' ∧ goH ih a m m1 ip fe m3 (ds.drop i) ρ' hs' = some q) ⟨ρ1, G2, [], [], S1.go0 x2, .refl _, e3⟩ ?_ ?_ ?_
      · rintro i σ' H' _ ⟨ρ', G', L, hs', S', g', _⟩
        exact g'.trans S'.rel.ex
      · rintro i v σ' H3 H4 hlt ⟨ρ', G', L, hs', S', g', e4⟩ ⟨d, e5, y⟩
        obtain ⟨G3, x3, r3⟩ := y G' g' S'.rel.ex
        have ed : ds.drop i = d :: ds.drop (i + 1) := by
          obtain ⟨w1, w2⟩ := List.getElem?_eq_some_iff.mp e5
          rw [List.drop_eq_getElem_cons w1, w2]
        rw [ed] at e4
        unfold goH at e4
        split at e4
        · obtain ⟨ρ2, m2, e4⟩ := some_bind e4
          obtain ⟨c2, b2, e4⟩ := some_bind e4
          have S3 := S'.go0 x3
          refine hg _ G3 ρ' ρ2 σ' H4 v d _ S3.rel r3 m2 fun σ2 R2 => ?_
          have S4 : HSt K B G0 a hs' ρ2 σ2 H4 G3 L := S3.go R2 S3.xe
          refine S4.st (t := t1) h1 b2 ?_
          cases c2 with
          | nx ρ3 =>
            simp only at e4 ⊢
            intro σ3 H5 G5 S5 g5
            split at e4
            · rename_i p3
              obtain ⟨kk, k1, e4⟩ := some_bind e4
              obtain ⟨ee, k2, e4⟩ := some_bind e4
              split at e4
              · rename_i hl
                obtain ⟨c3, b3, e4⟩ := some_bind e4
                refine S5.app he (ptrAt_eq p3) k1 k2 hl.1 hl.2 fun L' H6 G6 S6 g6 => S6.st (t := t3) h3 b3 ?_
                cases c3 with
                | nx ρ4 =>
                  simp only at e4 ⊢
                  intro σ4 H7 G7 S7 g7
                  exact ⟨ρ4, G7, L', _, S7, ((g'.trans x3.gg).trans g5).trans (g6.trans g7), e4⟩
                | rt d => cases e4
                | bk ρ4 => cases e4
                | ct ρ4 => cases e4
              · cases e4
            · cases e4
          | rt d => cases e4
          | bk ρ4 => cases e4
          | ct ρ4 => cases e4
        · cases e4
      · rintro σ' H' ⟨ρ', G', L, hs', S', g', e4⟩
        rw [List.drop_length] at e4
        unfold goH at e4
        split at e4
        · rename_i p4
          cases e4
          obtain ⟨G5, R5, x5⟩ := S'.frz (ptrAt_eq p4)
          exact hr B G0 G5 _ σ' H' E c R5 x5 e k
        · cases e4
    · cases e
  | rt d => cases e
  | bk ρ' => cases e
  | ct ρ' => cases e
/-- a def with such a loop behind its first statements -/
def DenPre (K : PySem.W.Frag) (t : TS) (m : Addr → FS) : Prop := DenA2 K t m
theorem den_pre {t u : TS} {m : FS} {n : Addr → FS} (ht : DenS K t m) (hu : DenA2 K u n) : DenA2 K (tSeq t u) (fun a => sSeq m (n a)) := fun B G0 G ρ σ H E c R x e k => by
  obtain ⟨c1, e1, e2⟩ := some_bind (e 0)
  refine ht B G0 G ρ σ H _ c1 R x e1 ?_
  have e' : ∀ a, (match c1 with | .nx ρ' => n a ρ' | c => some c) = some c := fun a => by
    have z : (m ρ).bind (fun c => match c with | .nx ρ' => n a ρ' | c => some c) = some c := e a
    rw [e1] at z
    exact z
  cases c1 with
  | nx ρ' => exact fun σ' H' G' R' x' => hu B G0 G' ρ' σ' H' E c R' x' e' k
  | rt d =>
    cases e2
    exact k
  | bk ρ' =>
    cases e2
    exact k
  | ct ρ' =>
    cases e2
    exact k
theorem fn_denA {P : Program} {w : World} {mg : Str → Option Value} {base : Heap} {x qual : Str} {st : Stmt} {f : Addr} {fd : FuncData} {N ps : List Str} {k : Nat} {m : Addr → FS} {fn : List D → Option D} (F : Fun K x qual st f fd) (S : FnScope N ps (defScope st)) (hf : ∀ ds d, fn ds = some d → ∀ a, m a (env0 N.length ds) = some (.rt d))
    (hbody : ∀ (cdv : Value) (A : Around) (outer : List Env) (s : Shared) (H : Hp) (E : XK), Room k (A.deeper (envOfC qual (defScope st) s.heap.objs.size f cdv)) →
      ∃ t, PSs (cxOf CX0 P w K mg base N qual (defScope st) f cdv A outer s H E).nox (defBody st) t ∧ DenA2 K t m) : FnOk P w K mg base CX0 (k + 1) f fd ps (spF K ps.length fn) := by
  refine F.ok S (fun vs H Q E h => h.1) (fun cdv A outer s H vs Q E hr h => ?_)
  obtain ⟨hl, G, ds, d, e, r, ef, kk⟩ := h
  obtain ⟨t, p, den⟩ := hbody cdv A outer s H E hr
  refine ⟨t, p, ?_⟩
  exact den H G G _ _ H _ _ (rel_start e r) ⟨.refl _, e, .refl _, fun _ _ _ => rfl⟩ (hf ds d ef) fun v H' G' x r => kk v H' G' x r
end
end DL
end

section
set_option Elab.async false
set_option linter.all false
set_option maxRecDepth 100000
/-! M0: reckoning with the functions over trees. -/
namespace DL
open PySem PySem.Spec PyProof.Rows L2 KW

abbrev nat (n : Nat) : D := .int (n : Int)
theorem sSeq_nx {m n : FS} {ρ ρ' : En} (h : m ρ = some (.nx ρ')) : sSeq m n ρ = n ρ' := by
  unfold sSeq
  rw [h]
  rfl
theorem sSeq_rt {m n : FS} {ρ : En} {d : D} (h : m ρ = some (.rt d)) : sSeq m n ρ = some (.rt d) := by
  unfold sSeq
  rw [h]
  rfl
theorem sFor_eq {fs : FA} {m : D → En → Option En} {mb : FS} {ρ : En} {ds : List D} (h : fs ρ = some ds) : sFor fs m mb ρ = forM m mb ds ρ := by
  unfold sFor
  rw [h]
  rfl
theorem runF_rt {n : Nat} {m : FS} {ds : List D} {d : D} (h : m (env0 n ds) = some (.rt d)) : runF n m ds = some d := by
  unfold runF
  rw [h]
theorem forM_inv {m : D → En → Option En} {mb : FS} : ∀ (J : Nat → En → Prop) {ds : List D} {ρ0 : En}, J 0 ρ0 → (∀ i d ρ, ds[i]? = some d → J i ρ → ∃ ρ1 ρ2, m d ρ = some ρ1 ∧ mb ρ1 = some (.nx ρ2) ∧ J (i + 1) ρ2) → ∃ ρ', forM m mb ds ρ0 = some (.nx ρ') ∧ J ds.length ρ'
  | J, [], ρ0, h0, _ => ⟨ρ0, rfl, h0⟩
  | J, d :: ds, ρ0, h0, hs => by
    obtain ⟨ρ1, ρ2, e1, e2, h1⟩ := hs 0 d ρ0 rfl h0
    obtain ⟨ρ', e, h⟩ := forM_inv (fun i ρ => J (i + 1) ρ) (ds := ds) h1 fun i d ρ hd hj => hs (i + 1) d ρ (by simpa using hd) hj
    refine ⟨ρ', ?_, h⟩
    show ((m d ρ0).bind fun ρ1 => (mb ρ1).bind fun c => match c with
      | .nx ρ2 => forM m mb ds ρ2
      | .ct ρ2 => forM m mb ds ρ2
      | .bk ρ2 => some (.nx ρ2)
      | .rt d => some (.rt d)) = _
    rw [e1]
    show ((mb ρ1).bind fun c => match c with
      | .nx ρ2 => forM m mb ds ρ2
      | .ct ρ2 => forM m mb ds ρ2
      | .bk ρ2 => some (.nx ρ2)
      | .rt d => some (.rt d)) = _
    rw [e2]
    exact e
theorem goF_map {m : D → En → Option En} {ft : FT} {fe : FE} {ρ : En} {h : D → D} : ∀ {ds : List D}, (∀ d ∈ ds, turnF m ft fe ρ d = some (some (h d))) → goF m ft fe ρ ds = some (ds.map h)
  | [], _ => rfl
  | d :: ds, hs => by
    unfold goF
    rw [hs d List.mem_cons_self, goF_map fun d hd => hs d (List.mem_cons_of_mem _ hd)]
    rfl
theorem goF_filter {m : D → En → Option En} {ft : FT} {fe : FE} {ρ : En} {h : D → Option D} : ∀ {ds : List D}, (∀ d ∈ ds, turnF m ft fe ρ d = some (h d)) → goF m ft fe ρ ds = some (ds.filterMap h)
  | [], _ => rfl
  | d :: ds, hs => by
    unfold goF
    rw [hs d List.mem_cons_self, goF_filter fun d hd => hs d (List.mem_cons_of_mem _ hd)]
    show some ((h d).toList ++ _) = _
    rw [List.filterMap_cons]
    cases h d <;> rfl
theorem fLc_map {fs : FA} {m : D → En → Option En} {ft : FT} {fe : FE} {vs : List Nat} {ρ : En} {ds : List D} (h : D → D) (e : fs ρ = some ds) (hl : ds.length ≤ 100000) (hs : ∀ d ∈ ds, turnF m ft fe (wipeE ρ vs) d = some (some (h d))) : fLc fs m ft fe vs ρ = some (.lst (ds.map h)) := by
  unfold fLc
  rw [e]
  show (if ds.length ≤ 100000 then _ else _) = _
  rw [if_pos hl, goF_map hs]
  rfl
theorem fLc_filter {fs : FA} {m : D → En → Option En} {ft : FT} {fe : FE} {vs : List Nat} {ρ : En} {ds : List D} (h : D → Option D) (e : fs ρ = some ds) (hl : ds.length ≤ 100000) (hs : ∀ d ∈ ds, turnF m ft fe (wipeE ρ vs) d = some (h d)) : fLc fs m ft fe vs ρ = some (.lst (ds.filterMap h)) := by
  unfold fLc
  rw [e]
  show (if ds.length ≤ 100000 then _ else _) = _
  rw [if_pos hl, goF_filter hs]
  rfl
/-! ### each construct's value -/
section
variable {ρ ρ' : En} {x y z d : D} {fa fb fc fe : FE} {fl : FA} {ds xs : List D} {ft fu : FT} {b c : Bool} {m n : FS} {k : Ctl}
theorem fOp_eq {g : D → D → Option D} (h1 : fa ρ = some x) (h2 : fb ρ = some y) (h3 : g x y = some z) : fOp g fa fb ρ = some z := by
  unfold fOp
  rw [h1, Option.bind_some, h2, Option.bind_some, h3]
theorem fUn_eq {g : D → Option D} (h1 : fa ρ = some x) (h3 : g x = some z) : fUn g fa ρ = some z := by
  unfold fUn
  rw [h1, Option.bind_some, h3]
theorem fCons_eq (h1 : fa ρ = some x) (h2 : fl ρ = some xs) : fCons fa fl ρ = some (x :: xs) := by
  unfold fCons
  rw [h1, Option.bind_some, h2, Option.bind_some]
theorem fCall_eq {g : List D → Option D} (h1 : fl ρ = some xs) (h2 : g xs = some z) : fCall g fl ρ = some z := by
  unfold fCall
  rw [h1, Option.bind_some, h2]
theorem fCallN_eq {n : Nat} {fn : List D → Option D} (h1 : fl ρ = some xs) (hn : xs.length = n) (h2 : fn xs = some z) : fCallN n fn fl ρ = some z := by
  unfold fCallN
  rw [h1, Option.bind_some, if_pos hn, h2]
theorem fTest_eq (h : fa ρ = some (.bl b)) : fTest fa ρ = some b := by
  unfold fTest
  rw [h]
  rfl
theorem fTru_eq (h : fa ρ = some x) (h2 : truD x = some b) : fTru fa ρ = some b := by
  unfold fTru
  rw [h, Option.bind_some, h2]
theorem fNotT_eq (h : ft ρ = some b) : fNotT ft ρ = some (!b) := by
  unfold fNotT
  rw [h]
  rfl
theorem fOrT_f (h : ft ρ = some false) (h2 : fu ρ = some c) : fOrT ft fu ρ = some c := by
  unfold fOrT
  rw [h, Option.bind_some, if_neg (by decide), h2]
theorem fOrT_t (h : ft ρ = some true) : fOrT ft fu ρ = some true := by
  unfold fOrT
  rw [h, Option.bind_some, if_pos rfl]
theorem fAndV_t (h : fa ρ = some (.bl true)) (h2 : fb ρ = some z) : fAndV fa fb ρ = some z := by
  unfold fAndV
  rw [h, Option.bind_some]
  exact h2
theorem fAndV_f (h : fa ρ = some (.bl false)) : fAndV fa fb ρ = some (.bl false) := by
  unfold fAndV
  rw [h, Option.bind_some]
  rfl
theorem fOrU_n (h : fa ρ = some .non) (h2 : fb ρ = some z) : fOrU fa fb ρ = some z := by
  unfold fOrU
  rw [h, Option.bind_some]
  exact h2
theorem fTup_eq (h : fl ρ = some xs) (hl : xs.length ≤ 100000) : fTup fl ρ = some (.tup xs) := by
  unfold fTup
  rw [h, Option.bind_some, if_pos hl]
theorem fLst_eq (h : fl ρ = some xs) (hl : xs.length ≤ 100000) : fLst fl ρ = some (.lst xs) := by
  unfold fLst
  rw [h, Option.bind_some, if_pos hl]
theorem fFld_eq {C : Addr} {f : Str} {fs : List (Str × D)} (h : fa ρ = some (.ins C fs)) (h2 : fs.lookup f = some z) : fFld C f fa ρ = some z := by
  unfold fFld
  rw [h, Option.bind_some]
  show (if C = C then fs.lookup f else none) = _
  rw [if_pos rfl, h2]
theorem fMeth_eq {C : Addr} {f : Str} {n : Nat} {fn : List D → Option D} {fs : List (Str × D)} (h : fa ρ = some (.ins C fs)) (hm : (fs.map (·.1)).contains f = false) (h1 : fl ρ = some xs) (hn : xs.length + 1 = n) (h2 : fn (.ins C fs :: xs) = some z) : fMeth C f n fn fa fl ρ = some z := by
  unfold fMeth
  rw [h, Option.bind_some]
  show (if C = C ∧ (fs.map (·.1)).contains f = false then (fl ρ).bind fun xs => if xs.length + 1 = n then fn (.ins C fs :: xs) else none else none) = _
  rw [if_pos ⟨rfl, hm⟩, h1, Option.bind_some, if_pos hn, h2]
theorem sAug_eq {g : D → D → Option D} {i : Nat} (h1 : fVar i ρ = some x) (h2 : fe ρ = some y) (h3 : g x y = some z) : sAug g i fe ρ = some (.nx (ρ.set i (some (.pur z)))) := by
  unfold sAug
  rw [h1, Option.bind_some, h2, Option.bind_some, h3]
  rfl
theorem sAsg_eq {m : D → En → Option En} (h1 : fe ρ = some x) (h2 : m x ρ = some ρ') : sAsg fe m ρ = some (.nx ρ') := by
  unfold sAsg
  rw [h1, Option.bind_some, h2]
  rfl
theorem sRet_eq (h : fe (frz ρ) = some x) : sRet fe ρ = some (.rt x) := by
  unfold sRet
  rw [h]
  rfl
theorem sIf_t (h : ft ρ = some true) (h2 : m ρ = some k) : sIf ft m n ρ = some k := by
  unfold sIf
  rw [h, Option.bind_some, if_pos rfl, h2]
theorem sIf_f (h : ft ρ = some false) (h2 : n ρ = some k) : sIf ft m n ρ = some k := by
  unfold sIf
  rw [h, Option.bind_some, if_neg (by decide), h2]
theorem turn_one {mt : D → En → Option En} (h0 : mt d ρ = some ρ') (h1 : fe ρ' = some z) : turnF mt (fun _ => some true) fe ρ d = some (some z) := by
  unfold turnF
  rw [h0, Option.bind_some, Option.bind_some, if_pos rfl, h1]
  rfl
theorem turn_if {mt : D → En → Option En} (h0 : mt d ρ = some ρ') (h1 : ft ρ' = some b) (h2 : fe ρ' = some z) : turnF mt ft fe ρ d = some (if b = true then some z else none) := by
  unfold turnF
  rw [h0, Option.bind_some, h1, Option.bind_some]
  split
  · rw [h2]
    rfl
  · rfl
theorem sFor_nx {fs : FA} {mt : D → En → Option En} {mb : FS} (J : Nat → En → Prop) (h : fs ρ = some ds) (h0 : J 0 ρ) (hs : ∀ i d ρ, ds[i]? = some d → J i ρ → ∃ ρ1 ρ2, mt d ρ = some ρ1 ∧ mb ρ1 = some (.nx ρ2) ∧ J (i + 1) ρ2) : ∃ ρ', sFor fs mt mb ρ = some (.nx ρ') ∧ J ds.length ρ' := by
  rw [sFor_eq h]
  exact forM_inv J h0 hs
theorem seq_nx (h : m ρ = some (.nx ρ')) (h2 : n ρ' = some k) : sSeq m n ρ = some k := (sSeq_nx h).trans h2
theorem seq_for {fs : FA} {mt : D → En → Option En} {mb : FS} (J : Nat → En → Prop) (h : fs ρ = some ds) (h0 : J 0 ρ) (hs : ∀ i d ρ, ds[i]? = some d → J i ρ → ∃ ρ1 ρ2, mt d ρ = some ρ1 ∧ mb ρ1 = some (.nx ρ2) ∧ J (i + 1) ρ2) (hn : ∀ ρ', J ds.length ρ' → n ρ' = some k) : sSeq (sFor fs mt mb) n ρ = some k := by
  obtain ⟨ρ', e, hj⟩ := sFor_nx (mb := mb) J h h0 hs
  exact seq_nx e (hn ρ' hj)
theorem for_nx {fs : FA} {mt : D → En → Option En} {mb : FS} {k : Ctl} (J : Nat → En → Prop) (h : fs ρ = some ds) (h0 : J 0 ρ) (hs : ∀ i d ρ, ds[i]? = some d → J i ρ → ∃ ρ1 ρ2, mt d ρ = some ρ1 ∧ mb ρ1 = some (.nx ρ2) ∧ J (i + 1) ρ2) : ∃ ρ2, sFor fs mt mb ρ = some (.nx ρ2) ∧ J ds.length ρ2 := sFor_nx J h h0 hs
theorem iL_eq (h : fa ρ = some (.lst ds)) : iL fa ρ = some ds := by
  unfold iL
  rw [h]
  rfl
theorem iT_eq (h : fa ρ = some (.tup ds)) : iT fa ρ = some ds := by
  unfold iT
  rw [h]
  rfl
theorem iR1_eq {j : Nat} (h : fl ρ = some [nat j]) (hj : j ≤ 100000) : iR1 fl ρ = some ((List.range j).map nat) := by
  unfold iR1
  rw [h, Option.bind_some]
  show (if -(2 ^ 62) ≤ (j : Int) ∧ (j : Int) < 2 ^ 62 then some (DL.upTo 0 ((j : Int)).toNat) else none) = _
  rw [if_pos ⟨by omega, by omega⟩, Int.toNat_natCast]
  unfold DL.upTo
  congr 1
  refine List.map_congr_left fun i _ => ?_
  show D.int (0 + (i : Int)) = D.int (i : Int)
  rw [Int.zero_add]
theorem fListR_eq {j : Nat} (h : fl ρ = some [nat j]) (hj : j ≤ 100000) : fListR fl ρ = some (.lst ((List.range j).map nat)) := by
  unfold fListR
  rw [h, Option.bind_some]
  show (if 0 ≤ (j : Int) ∧ (j : Int) ≤ 100000 then some (D.lst (DL.upTo 0 ((j : Int)).toNat)) else none) = _
  rw [if_pos ⟨by omega, by omega⟩, Int.toNat_natCast]
  unfold DL.upTo
  congr 2
  refine List.map_congr_left fun i _ => ?_
  show D.int (0 + (i : Int)) = D.int (i : Int)
  rw [Int.zero_add]
end
/-! ### numbers as sets -/
theorem bor (a b : Nat) : Builtin.bitOr (a : Int) (b : Int) = ((a ||| b : Nat) : Int) := by
  rw [bitOr_nn (by omega) (by omega)]
  simp
theorem gOr_nat (a b : Nat) : gOr (nat a) (nat b) = some (nat (a ||| b)) := by
  show some (D.int (Builtin.bitOr (a : Int) (b : Int))) = _
  rw [bor]
theorem gShl_one {k : Nat} (h : k ≤ 1000) : gShl (.int 1) (nat k) = some (nat (1 <<< k)) := by
  show (if decide (0 ≤ (k : Int) ∧ (k : Int) ≤ 1000000 ∧ (1 : Int).natAbs < 2 ^ 64) = true then some (D.int (1 * 2 ^ ((k : Int)).toNat)) else none) = _
  rw [if_pos (decide_eq_true ⟨by omega, by omega, by decide⟩)]
  congr 2
  rw [Int.toNat_natCast, Int.one_mul, Nat.one_shiftLeft]
  push_cast
  rfl
/-- held >> k & 1 -/
theorem bit_at (a k : Nat) : (fOp gAnd (fOp gShr (fC (nat a)) (fC (nat k))) (fC (.int 1))) [] = some (nat ((a >>> k) % 2)) := by
  show (Option.bind (if decide (0 ≤ (k : Int)) = true then some (D.int ((a : Int) / 2 ^ ((k : Int)).toNat)) else none) fun x => some x |>.bind fun x => gAnd x (.int 1)) = _
  rw [if_pos (decide_eq_true (by omega))]
  show some (D.int (Builtin.bitAnd ((a : Int) / 2 ^ ((k : Int)).toNat) 1)) = _
  rw [bitAnd_m1]
  congr 2
  rw [Int.toNat_natCast, Nat.shiftRight_eq_div_pow]
  push_cast
  rfl
theorem shr_and (a k : Nat) : (gShr (nat a) (nat k)).bind (fun x => gAnd x (.int 1)) = some (nat ((a >>> k) % 2)) := bit_at a k
theorem bit_tru (a k : Nat) : truD (nat ((a >>> k) % 2)) = some (a.testBit k) := by
  show some (((((a >>> k) % 2 : Nat) : Int)) != 0) = _
  congr 1
  rw [Nat.testBit, Nat.one_and_eq_mod_two]
  have : (a >>> k) % 2 = 0 ∨ (a >>> k) % 2 = 1 := by omega
  rcases this with h | h <;> rw [h] <;> rfl
def bitsN (l : List Nat) : Nat := l.foldl (fun r k => r ||| 1 <<< k) 0
theorem bitsN_test {l : List Nat} {k : Nat} : (bitsN l).testBit k = decide (k ∈ l) := by
  unfold bitsN
  have aux : ∀ (l : List Nat) (r : Nat), (l.foldl (fun r k => r ||| 1 <<< k) r).testBit k = (r.testBit k || decide (k ∈ l)) := by
    intro l
    induction l with
    | nil => intro r; simp
    | cons x l ih =>
      intro r
      rw [List.foldl_cons, ih, Nat.testBit_or, Nat.one_shiftLeft, Nat.testBit_two_pow]
      by_cases h : x = k
      · subst h
        simp
      · have : ¬ k = x := fun z => h z.symm
        simp [h, this]
  rw [aux]
  simp
/-- the places in a set -/
def plN (a : Nat) : List Nat := (List.range (if a = 0 then 0 else a.log2 + 1)).filter a.testBit
theorem bits_len (a : Nat) : Builtin.Int.intBits (a : Int) = if a = 0 then 0 else a.log2 + 1 := by
  unfold Builtin.Int.intBits
  by_cases h : a = 0
  · subst h
    rfl
  · rw [if_neg h]
    have : ((a : Int) == 0) = false := by
      rw [beq_eq_false_iff_ne]
      omega
    rw [this]
    simp
theorem plN_mem {a k : Nat} : k ∈ plN a ↔ a.testBit k = true := by
  unfold plN
  rw [List.mem_filter, List.mem_range]
  constructor
  · exact fun h => h.2
  · intro h
    refine ⟨?_, h⟩
    have hk : 2 ^ k ≤ a := Nat.ge_two_pow_of_testBit h
    have ha : a ≠ 0 := fun z => by
      rw [z] at hk
      have : 0 < 2 ^ k := Nat.two_pow_pos k
      omega
    rw [if_neg ha]
    exact Nat.lt_succ_of_le ((Nat.le_log2 ha).mpr hk)
end DL
end

section
set_option Elab.async false
set_option linter.all false
set_option maxRecDepth 100000
/-! DLM: an instance that is made: its __init__ stores trees, field by field; then it is a tree itself. -/
namespace DL
open PySem PySem.Spec PyProof.Rows L2
open Evl (Ex)
abbrev Fs := List (Str × D)
def noOwn (ρ : En) : Bool := ρ.all fun o => match o with
  | some (.own _) => false
  | _ => true
structure StX (K : PySem.W.Frag) (x C dx : Addr) (B0 G0 G : Hp) (ρ : En) (σ : L2.St) (H : Hp) (fsD : Fs) : Prop where
  rel : Rel K H G ρ σ H
  gx : G x = none
  hx : ∃ fs : List (Str × V), H x = some (.ins C dx fs) ∧ fs.map (·.1) = fsD.map (·.1) ∧ Rps K G (fs.map (·.2)) (fsD.map (·.2))
  no : noOwn ρ = true
  ext : ExtW x G0 B0 G H
def DenX (K : PySem.W.Frag) (x C : Addr) (t : TS) (m : En → Fs → Option (En × Fs)) : Prop := ∀ (dx : Addr) (B0 G0 G : Hp) (ρ : En) (σ : L2.St) (H : Hp) (E : Ends) (fsD : Fs) (ρ' : En) (fsD' : Fs), StX K x C dx B0 G0 G ρ σ H fsD → m ρ fsD = some (ρ', fsD') → (∀ σ' H' G', StX K x C dx B0 G0 G' ρ' σ' H' fsD' → E.nx σ' H') → t E σ H
section
variable {K : PySem.W.Frag} {x C : Addr}
theorem noOwn_get {ρ : En} (h : noOwn ρ = true) {i : Nat} {d : D} (e : ρ[i]? = some (some (.own d))) : False := by
  have := List.all_eq_true.mp h _ (List.mem_of_getElem? e)
  cases this
theorem Rel.noB {B B' G H : Hp} {ρ : En} {σ : L2.St} (R : Rel K B G ρ σ H) (no : noOwn ρ = true) : Rel K B' G ρ σ H where
  ex := R.ex
  len := R.len
  pur := R.pur
  own := fun i d e => (noOwn_get no e).elim
  ptr := R.ptr
  uni := R.uni
def xS (m : FS) : En → Fs → Option (En × Fs) := fun ρ fs => (m ρ).bind fun c => match c with
  | .nx ρ' => if noOwn ρ' = true then some (ρ', fs) else none
  | _ => none
theorem denx_s {t : TS} {m : FS} (h : DenS K t m) : DenX K x C t (xS m) := fun dx B0 G0 G ρ σ H E fsD ρ' fsD' S e k => by
  obtain ⟨c, e1, e⟩ := some_bind e
  cases c with
  | nx ρ1 =>
    have e' : (if noOwn ρ1 = true then some (ρ1, fsD) else none) = some (ρ', fsD') := e
    split at e'
    · rename_i no
      cases e'
      refine h H G G ρ σ H E _ S.rel (.refl S.rel.ex) e1 fun σ' H' G' R' x' => ?_
      obtain ⟨fs, h1, h2, h3⟩ := S.hx
      exact k σ' H' G' ⟨R'.noB no, (x'.fr _ _ h1).trans S.gx, ⟨fs, x'.hh _ _ h1, h2, h3.mono x'.gg⟩, no, S.ext.trans x'.w⟩
    · cases e'
  | _ => cases e
def xSeq (m n : En → Fs → Option (En × Fs)) : En → Fs → Option (En × Fs) := fun ρ fs => (m ρ fs).bind fun p => n p.1 p.2
theorem denx_seq {t u : TS} {m n : En → Fs → Option (En × Fs)} (ht : DenX K x C t m) (hu : DenX K x C u n) : DenX K x C (tSeq t u) (xSeq m n) := fun dx B0 G0 G ρ σ H E fsD ρ' fsD' S e k => by
  obtain ⟨⟨ρ1, f1⟩, e1, e2⟩ := some_bind e
  exact ht dx B0 G0 G ρ σ H _ fsD ρ1 f1 S e1 fun σ1 H1 G1 S1 => hu dx B0 G0 G1 ρ1 σ1 H1 E f1 ρ' fsD' S1 e2 k
theorem denx_next : DenX K x C tNext (fun ρ fs => some (ρ, fs)) := fun dx B0 G0 G ρ σ H E fsD ρ' fsD' S e k => by
  cases e
  exact k σ H G S
def xFld (x : Addr) (f : Str) (fe : FE) : En → Fs → Option (En × Fs) := fun ρ fs => (fe ρ).bind fun d => match (ρ[0]? : Option (Option Sl)) with
  | some (some (Sl.ptr a)) => if a = x ∧ (fs.map (·.1)).contains f = false ∧ fs.length < 1000 then some (ρ, fs ++ [(f, d)]) else none
  | _ => none
theorem putF_new {f : Str} {v : V} : ∀ {fs : List (Str × V)}, (fs.map (·.1)).contains f = false → putF f v fs = fs ++ [(f, v)]
  | [], _ => rfl
  | (g, y) :: r, h => by
    rw [List.map_cons, List.contains_cons, Bool.or_eq_false_iff] at h
    have ne : ¬ g = f := fun z => by
      have := h.1
      rw [z] at this
      simp at this
    rw [show putF f v ((g, y) :: r) = (if g = f then (g, v) :: r else (g, y) :: putF f v r) from rfl, if_neg ne, putF_new h.2]
    rfl
theorem denx_fld {tv : TE} {fe : FE} {f : Str} (cl : Cls K C) (na : NoAttr K C f) (he : Den K tv fe) : DenX K x C (sFld K (tVar 0) tv f) (xFld x f fe) := fun dx B0 G0 G ρ σ H E fsD ρ' fsD' S e k => by
  obtain ⟨d, e1, e2⟩ := some_bind e
  clear e
  split at e2
  · rename_i a h0
    split at e2
    · rename_i hc
      obtain ⟨rfl, hf, hl⟩ := hc
      cases e2
      refine he H G ρ σ H d _ S.rel e1 fun v H1 G1 x1 r1 => ?_
      refine ⟨.ref a, S.rel.ptr 0 a h0, ?_⟩
      obtain ⟨fs, h1, h2, h3⟩ := S.hx
      have g1 : G1 a = none := (x1.fr _ _ h1).trans S.gx
      refine ⟨a, C, dx, fs, rfl, x1.hh _ _ h1, cl, na, ?_, k σ _ G1 ?_⟩
      · have := congrArg List.length h2
        rw [List.length_map, List.length_map] at this
        omega
      · have R1 : Rel K H G1 ρ σ H1 := S.rel.ext x1
        have R2 : Rel K H G1 ρ σ (upd H1 a (.ins C dx (putF f v fs))) := R1.mutD h1 g1
        refine ⟨R2.noB S.no, g1, ⟨putF f v fs, upd_same .., ?_, ?_⟩, S.no, (S.ext.trans x1.w).trans ⟨.refl _, R2.ex, fun b o n h => ?_, fun _ _ _ => rfl, fun b o h => ?_⟩⟩
        · rw [putF_new (by rw [h2]; exact hf), List.map_append, List.map_append, h2]
          rfl
        · rw [putF_new (by rw [h2]; exact hf), List.map_append, List.map_append]
          exact (h3.mono x1.gg).append (.one r1)
        · rw [upd_ne n]
          exact h
        · by_cases z : b = a
          · subst z
            exact ⟨_, upd_same ..⟩
          · exact ⟨o, by rw [upd_ne z]; exact h⟩
    · cases e2
  · cases e2
/-- what __init__ leaves -/
def spI (K : PySem.W.Frag) (C : Addr) (n : Nat) (fn : List D → Option Fs) : Sp := fun vs H Q _ => ∃ (x dx : Addr) (us : List V) (G : Hp) (ds : List D) (fsD : Fs), vs = .ref x :: us ∧ us.length = n ∧ H x = some (.ins C dx []) ∧ G x = none ∧ Ex G H ∧ Rps K G us ds ∧ fn ds = some fsD ∧
  ∀ H' G' fs, ExtW x G H G' H' → G' x = none → H' x = some (.ins C dx fs) → fs.map (·.1) = fsD.map (·.1) → Rps K G' (fs.map (·.2)) (fsD.map (·.2)) → Q .non H'
theorem rel_startX {f : Addr} {G H : Hp} {N : List Str} {us : List V} {ds : List D} (ex : Ex G H) (r : Rps K G us ds) : Rel K H G (envW N.length f ds) (L2.start N (.ref f :: us)) H := by
  have hl2 := r.length
  have get : ∀ (i : Nat) (w : Sl), (envW N.length f ds)[i + 1]? = some (some w) → ∃ d, w = .pur d ∧ ds[i]? = some d := fun i w h => by
    unfold envW at h
    rw [List.getElem?_cons_succ] at h
    by_cases z : i < ds.length
    · rw [List.getElem?_append_left (by rw [List.length_map]; exact z), List.getElem?_map, List.getElem?_eq_getElem z] at h
      cases h
      exact ⟨_, rfl, List.getElem?_eq_getElem z⟩
    · rw [List.getElem?_append_right (by rw [List.length_map]; omega)] at h
      obtain ⟨h1, h2⟩ := List.getElem?_eq_some_iff.mp h
      rw [List.getElem_replicate] at h2
      cases h2
  refine ⟨ex, ?_, fun i d h => ?_, fun i d h => ?_, fun i a h => ?_, fun i j d e a h => ?_⟩
  · unfold L2.start envW
    simp only [List.length_append, List.length_cons, List.length_map, List.length_replicate, hl2]
    omega
  · cases i with
    | zero => cases h
    | succ i =>
      obtain ⟨d', e1, e2⟩ := get i _ h
      cases e1
      obtain ⟨v, h1, h2⟩ := r.get e2
      refine ⟨v, ?_, h2⟩
      have hi : i < us.length := (List.getElem?_eq_some_iff.mp h1).1
      unfold L2.start
      rw [List.map_cons, List.cons_append, List.getElem?_cons_succ, List.getElem?_append_left (by rw [List.length_map]; exact hi), List.getElem?_map, h1]
      rfl
  · cases i with
    | zero => cases h
    | succ i =>
      obtain ⟨d', e1, _⟩ := get i _ h
      cases e1
  · cases i with
    | zero =>
      cases h
      rfl
    | succ i =>
      obtain ⟨d', e1, _⟩ := get i _ h
      cases e1
  · cases i with
    | zero => cases h
    | succ i =>
      obtain ⟨d', e1, _⟩ := get i _ h
      cases e1
theorem envW_no {n : Nat} {f : Addr} {ds : List D} : noOwn (envW n f ds) = true := by
  unfold noOwn envW
  rw [List.all_eq_true]
  intro o ho
  rcases List.mem_cons.mp ho with rfl | ho
  · rfl
  · rcases List.mem_append.mp ho with ho | ho
    · obtain ⟨d, _, rfl⟩ := List.mem_map.mp ho
      rfl
    · rw [(List.mem_replicate.mp ho).2]
theorem fn_denX {P : Program} {w : World} {mg : Str → Option Value} {base : Heap} {x qual : Str} {st : Stmt} {fn : Addr} {fd : FuncData} {N ps : List Str} {k n : Nat} {m : Addr → En → Fs → Option (En × Fs)} {fx : List D → Option Fs} (F : Fun K x qual st fn fd) (S : FnScope N ps (defScope st)) (hn : ps.length = n + 1) (hf : ∀ ds fs, fx ds = some fs → ∀ a, ∃ ρ', m a (envW N.length a ds) [] = some (ρ', fs))
    (hbody : ∀ (a : Addr) (cdv : Value) (A : Around) (outer : List Env) (s : Shared) (H : Hp) (E : XK), Room k (A.deeper (envOfC qual (defScope st) s.heap.objs.size fn cdv)) →
      ∃ t, PSs (cxOf CX0 P w K mg base N qual (defScope st) fn cdv A outer s H E).nox (defBody st) t ∧ DenX K a C t (m a)) : FnOk P w K mg base CX0 (k + 1) fn fd ps (spI K C n fx) := by
  refine F.ok S (fun vs H Q E h => ?_) (fun cdv A outer s H vs Q E hr h => ?_)
  · obtain ⟨x, dx, us, G, ds, fsD, rfl, hl, _⟩ := h
    rw [List.length_cons, hl, hn]
  · obtain ⟨a, dx, us, G, ds, fsD, rfl, hl, hx, gx, ex, r, ef, kk⟩ := h
    obtain ⟨t, p, den⟩ := hbody a cdv A outer s H E hr
    refine ⟨t, p, ?_⟩
    obtain ⟨ρ', e⟩ := hf ds fsD ef a
    refine den dx H G G _ _ H _ [] ρ' fsD ⟨rel_startX ex r, gx, ⟨[], hx, rfl, .nil⟩, envW_no, .refl ex⟩ e fun σ' H' G' S' => ?_
    obtain ⟨fs, h1, h2, h3⟩ := S'.hx
    exact kk H' G' fs S'.ext S'.gx h1 h2 h3
def fMake (C : Addr) (n : Nat) (fx : List D → Option Fs) (fl : FA) : FE := fun ρ => (fl ρ).bind fun ds => if ds.length = n then (fx ds).map (.ins C) else none
theorem den_make {n : Nat} {fx : List D → Option Fs} {E : XK} {t : TA} {fl : FA} (ha : DenA K t fl) : Den K (tMake C (spI K C n fx) [] E t) (fMake C n fx fl) := fun B G ρ σ H d Q R e k => by
  obtain ⟨ds, ea, e⟩ := some_bind e
  split at e
  · rename_i hl
    obtain ⟨fsD, ef, rfl⟩ := Option.map_eq_some_iff.mp e
    refine ha B G ρ σ H ds _ R ea fun vs H1 G1 x1 r1 => ?_
    intro x dx hx hdx ne
    have e1 : Ex H1 (upd (upd H1 dx (.own x)) x (.ins C dx [])) := fun a o h => by
      rw [upd_ne (ne_of_none h hx), upd_ne (ne_of_none h hdx)]
      exact h
    refine ⟨x, dx, vs, G1, ds, fsD, by rw [List.append_nil], by rw [r1.length, hl], upd_same .., Evl.fresh_back x1.gh hx, x1.gh.trans e1, r1, ef, fun H' G' fs xw gx hx' h2 h3 => ⟨rfl, k (.ref x) H' (upd G' x (.ins C dx fs)) ⟨?_, ?_, ?_, ?_⟩ ?_⟩⟩
    · exact x1.gg.trans (xw.gg.trans (.new gx))
    · intro a o h
      by_cases z : a = x
      · subst z
        rw [upd_same] at h
        cases h
        exact hx'
      · rw [upd_ne z] at h
        exact xw.gh _ _ h
    · intro a o h
      have h' := x1.hh _ _ h
      exact xw.hh a o (ne_of_none h' hx) (e1 _ _ h')
    · intro a o h
      have h' := x1.hh _ _ h
      rw [upd_ne (ne_of_none h' hx), xw.fr a o (e1 _ _ h'), x1.fr a o h]
    · exact .ins (upd_same ..) h2 (h3.mono (.new gx))
  · cases e
theorem fn_none {P : Program} {w : World} {mg : Str → Option Value} {base : Heap} {x qual : Str} {st : Stmt} {f : Addr} {fd : FuncData} {N ps : List Str} {k : Nat} (F : Fun K x qual st f fd) (S : FnScope N ps (defScope st)) : FnOk P w K mg base CX0 (k + 1) f fd ps (spF K ps.length (fun _ => none)) := by
  refine F.ok S (fun vs H Q E h => h.1) (fun cdv A outer s H vs Q E hr h => ?_)
  obtain ⟨hl, G, ds, d, e, r, ef, kk⟩ := h
  cases ef
theorem xSeq_eq {m n : En → Fs → Option (En × Fs)} {ρ : En} {fs : Fs} {q : En × Fs} {z : Option (En × Fs)} (h : m ρ fs = some q) (h2 : n q.1 q.2 = z) : xSeq m n ρ fs = z := by
  unfold xSeq
  rw [h]
  exact h2
theorem xS_eq {m : FS} {ρ ρ' : En} {fs : Fs} (h : m ρ = some (.nx ρ')) (h2 : noOwn ρ' = true) : xS m ρ fs = some (ρ', fs) := by
  unfold xS
  rw [h]
  show (if noOwn ρ' = true then some (ρ', fs) else none) = _
  rw [if_pos h2]
end
end DL
end

section
set_option Elab.async false
set_option linter.all false
set_option maxRecDepth 100000
set_option maxHeartbeats 1000000
/-! str(o), o == p, o != p of instances whose class has its own __str__, __eq__ (and no __ne__). -/
namespace KW
open PySem PySem.Spec PyProof.Rows L2
section
variable {X : Cx}
/-- one call of an own function, within whatever is around -/
theorem run_own {CX : CXT} {n : Nat} {f : Addr} {fd : FuncData} {ps : List Str} {sp : Sp} {E : XK} {A : Around} {pins : List (Addr × Obj)} {σ : L2.St} {H : Hp} {s : Shared} {Q : VK} {us : List Value} {vs : List V} (F : FnOk X.prog X.w X.K X.mg X.base CX n f fd ps sp) (hr : Room n A) (hfr : A.frames = X.A.frames) (hb : Binds X.K fd ps []) (hx : Passes CX X E)
    (I : Inv X pins σ H s) (r : Vals vs us) (h : sp vs H Q E) : wpAny (model X.prog X.w) A (call (.ref f) us) (EP X pins σ Q) X.xe s := by
  have e0 : Env0 X.prog X.w X.K X.mg X.base A X.stack s H := by
    have e := I.env0
    exact ⟨by rw [hfr]; exact e.frames, e.mod, e.bs, e.bsz, e.funs, e.frf, e.hok, e.bare⟩
  have hl := F.len _ _ _ _ h
  refine wpAny_call (codeAny_mono (F.run A X.stack s H ⟨us, []⟩ us vs Q E hr e0 (by
    have := hb s us I.kIn (by rw [List.append_nil, ← r.length]; exact hl)
    simpa using this) r h) fun r s' hq => ?_)
  cases r with
  | error e => exact hx pins σ H s e s' I hq
  | ok fl =>
    cases fl with
    | ret w =>
      obtain ⟨z, H', I', rz, q⟩ := I.after hq
      exact ⟨z, H', I', rz, q⟩
    | next => exact False.elim hq
    | brk => exact False.elim hq
    | cont => exact False.elim hq
/-- str(o) -/
def rStrO (C : Addr) (sp : Sp) (E : XK) : List V → Hp → VK → Prop := fun xs H Q => ∃ a dx fs, xs = [.ref a] ∧ H a = some (.ins C dx fs) ∧ sp [.ref a] H (fun v H' => (∃ y, v = .str y) ∧ Q v H') E
theorem cr_strO {CX : CXT} {n : Nat} {C f : Addr} {fd : FuncData} {ps : List Str} {sp : Sp} {E : XK} (F : FnOk X.prog X.w X.K X.mg X.base CX n f fd ps sp) (hr : Room (n + 2) X.A) (hs : PySem.W.findIn X.K (.ref C) "__str__" = some (some (.ref f))) (hf : PySem.W.isFn X.K (.ref f) = true) (hb : Binds X.K fd ps []) (hx : Passes CX X E) :
    CallR X (.type "str") (rStrO C sp E) := by
  intro pins s σ H xs us Q I r h
  obtain ⟨a, dx, fs, rfl, ha, hsp⟩ := h
  cases r with
  | cons r rr =>
    cases rr
    cases r
    obtain ⟨mA, J, _⟩ := ins_get I.hok ha
    obtain ⟨od, J, _⟩ := J.look
    have hr1 : Room (n + 1) X.A.in1 := hr.in1
    have hr2 : Room n X.A.in1.in1 := hr1.in1
    refine PySem.W.kso_call (by have := hr2.un; omega) I.kIn J hs hf (wpAny_mono (run_own F hr2 rfl hb hx I (vs := [.ref a]) (us := [.ref a]) (.cons rfl .nil) hsp) (fun v s' hv => ?_) fun _ _ e => e)
    obtain ⟨z, H', I', rz, ⟨y, rfl⟩, q⟩ := hv
    obtain ⟨tk, rfl⟩ := rz
    exact ⟨.str y, H', I', ⟨tk, rfl⟩, q⟩
/-- o == p, o != p: both of the class -/
def rCmO (C : Addr) (sp : Sp) (E : XK) (neg : Bool) : R2 := fun x y H Q => ∃ a b dx dy fs gs, x = .ref a ∧ y = .ref b ∧ H a = some (.ins C dx fs) ∧ H b = some (.ins C dy gs) ∧ sp [.ref a, .ref b] H (fun v H' => ∃ c, v = .bl c ∧ Q (.bl (if neg then !c else c)) H') E
theorem op_eqO {CX : CXT} {n : Nat} {C f : Addr} {fd : FuncData} {ps : List Str} {sp : Sp} {E : XK} (F : FnOk X.prog X.w X.K X.mg X.base CX n f fd ps sp) (hr : Room n X.A) (hs : PySem.W.findIn X.K (.ref C) "__eq__" = some (some (.ref f))) (hf : PySem.W.isFn X.K (.ref f) = true) (hb : Binds X.K fd ps []) (hx : Passes CX X E) :
    OpR X (compareOp .Eq) (rCmO C sp E false) := by
  intro pins s σ H x y v u Q I rx ry hq
  obtain ⟨a, b, dx, dy, fs, gs, rfl, rfl, ha, hb', hsp⟩ := hq
  cases rx
  cases ry
  show wpAny (model X.prog X.w) X.A (richCompare .Eq (.ref a) (.ref b)) (EP X pins σ Q) X.xe s
  obtain ⟨mA, J, _⟩ := ins_get I.hok ha
  obtain ⟨mB, J', _⟩ := ins_get I.hok hb'
  obtain ⟨od, J, _⟩ := J.look
  obtain ⟨od', J', _⟩ := J'.look
  obtain ⟨m, hF⟩ := I.fr
  refine PySem.W.cmp_K (op := .Eq) (tb := .ref C) hr.units0 hF I.ok.mod.kin J J'.type (by simp [PySem.W.notFirst]) hs hf ?_
  refine wpAny_mono (run_own F hr rfl hb hx I (vs := [.ref a, .ref b]) (us := [.ref a, .ref b]) (.cons rfl (.cons rfl .nil)) hsp) (fun v s' hv => ?_) fun _ _ e => e
  obtain ⟨z, H', I', rz, c, rfl, q⟩ := hv
  cases rz
  exact ⟨.bl c, H', I', rfl, q⟩
section
variable {M : Model} {prog : Program} {w : World} {A : Around} {E : Value → Shared → Prop} {s : Shared} {K : PySem.W.Frag} {x C f : Addr} {ox : Obj} {od : Option Obj}
theorem ifBound_objNe {args : List Value} {Q : Option Value → Shared → Prop} (X : K.In s.heap) (I : PySem.W.InstAt s.heap x ox C od) (hs : PySem.W.findIn K (.ref C) "__ne__" = some (some (.builtin "object.__ne__")))
    (h : wpAny M A (call (.builtin "object.__ne__") (.ref x :: args)) (fun v => Q (some v)) E s) : wpAny M A (callSpecialIfBound? (.ref x) "__ne__" args) Q E s := by
  simp only [callSpecialIfBound?, bindSpecialIfBound?]
  refine wpAny_holding (wpAny_bind (wpAny_bind (wpAny_bind (I.type.here ((PySem.W.looks_findIn X hs).here ?_)))))
  refine wpAny_bind (wpAny_askSetting (wpAny_ite ?_))
  have fin : wpAny M A (call (.builtin "object.__ne__") ([.ref x] ++ args) >>= fun v => pure (some v)) Q E s := wpAny_bind (wpAny_mono h (fun v s' h' => wpAny_pure h') fun _ _ h' => h')
  split
  · exact wpAny_bind (wpAny_of_eq (PySem.F.cmp_object.ne.bind _) (wpAny_pure (by exact fin)))
  · exact wpAny_tryCatch (wpAny_bind (wpAny_of_eq (PySem.F.cmp_object.ne.bind _) (wpAny_pure (by exact fin))))
theorem entry_ne {b : Value} {Q : Fin → Shared → Prop} (hu : A.units < cLine) (X : K.In s.heap) (I : PySem.W.InstAt s.heap x ox C od) (hs : PySem.W.findIn K (.ref C) "__eq__" = some (some (.ref f))) (hf : PySem.W.isFn K (.ref f) = true)
    (h : wpAny (model prog w) A (call (.ref f) [.ref x, b]) (fun v s' => ∃ c, v = .bool c ∧ Q (.done (.ret (.bool !c))) s') E s) : wpAny (model prog w) A (Builtin.«object.__ne__» ⟨[.ref x, b], []⟩) Q E s := by
  unfold Builtin.«object.__ne__»
  refine wpAny_bind (wpAny_pure ?_)
  refine wpAny_bind (wpAny_cRoomFor hu ?_)
  refine wpAny_bind (PySem.W.ifBound_K X I hs hf (wpAny_mono h (fun v s' hv => ?_) fun _ _ e => e))
  obtain ⟨c, rfl, q⟩ := hv
  exact wpAny_bind (wpAny_truthy_bool (wpAny_pure q))
theorem rc_ne {b tb : Value} {Q : Value → Shared → Prop} (hu : A.units < cLine) (X : K.In s.heap) (I : PySem.W.InstAt s.heap x ox C od) (hb : PySem.W.Looks (model prog w) s.heap (typeOf b) tb) (hn : PySem.W.notFirst K C tb = true)
    (one : wpAny (model prog w) A (tryCompare (.ref x) "__ne__" b) (fun r s' => ∃ v, r = some v ∧ Q v s') E s) : wpAny (model prog w) A (richCompare .NotEq (.ref x) b) Q E s := by
  unfold richCompare
  simp only [oneThing_ref]
  refine wpAny_holding (wpAny_bind (wpAny_cRoomFor hu ?_))
  refine wpAny_bind (I.type.here (wpAny_bind (hb.here ?_)))
  split
  · rename_i q
    have e : PySem.W.subIn K tb (.ref C) = some false := by
      rcases Bool.or_eq_true_iff.mp hn with e | e
      · rw [beq_iff_eq.mp e] at q; simp at q
      · exact beq_iff_eq.mp e
    refine wpAny_bind ((PySem.W.looks_subIn X e).here ?_)
    simp only [Bool.false_eq_true, if_false]
    refine wpAny_bind (wpAny_mono one (fun r s' z => ?_) fun _ _ e => e)
    obtain ⟨v, rfl, hq⟩ := z
    exact wpAny_pure hq
  · refine wpAny_bind (wpAny_pure ?_)
    simp only [Bool.false_eq_true, if_false]
    refine wpAny_bind (wpAny_mono one (fun r s' z => ?_) fun _ _ e => e)
    obtain ⟨v, rfl, hq⟩ := z
    exact wpAny_pure hq
end
theorem op_neO {CX : CXT} {n : Nat} {C f : Addr} {fd : FuncData} {ps : List Str} {sp : Sp} {E : XK} (F : FnOk X.prog X.w X.K X.mg X.base CX n f fd ps sp) (hr : Room (n + 2) X.A) (hs : PySem.W.findIn X.K (.ref C) "__eq__" = some (some (.ref f))) (hf : PySem.W.isFn X.K (.ref f) = true) (hne : PySem.W.findIn X.K (.ref C) "__ne__" = some (some (.builtin "object.__ne__"))) (hm : PySem.W.mroIn X.K C (.type "object") = some true) (hb : Binds X.K fd ps []) (hx : Passes CX X E) :
    OpR X (compareOp .NotEq) (rCmO C sp E true) := by
  intro pins s σ H x y v u Q I rx ry hq
  obtain ⟨a, b, dx, dy, fs, gs, rfl, rfl, ha, hb', hsp⟩ := hq
  cases rx
  cases ry
  show wpAny (model X.prog X.w) X.A (richCompare .NotEq (.ref a) (.ref b)) (EP X pins σ Q) X.xe s
  obtain ⟨mA, J, _⟩ := ins_get I.hok ha
  obtain ⟨mB, J', _⟩ := ins_get I.hok hb'
  obtain ⟨od, J, _⟩ := J.look
  obtain ⟨od', J', _⟩ := J'.look
  have hr0 : Room n X.A := hr.mono (by omega)
  refine rc_ne (tb := .ref C) hr0.units0 I.kIn J J'.type (by simp [PySem.W.notFirst]) ?_
  unfold tryCompare
  refine wpAny_bind (ifBound_objNe I.kIn J hne ?_)
  refine wpAny_call (codeAny_call_builtin PySem.F.cmp_object.ne.plain PySem.F.cmpEntry_ne (PySem.W.check_slot PySem.F.cmpKind_ne PySem.F.cmpSplit_ne (J.type.andThen (PySem.W.looks_mroIn I.kIn hm)) (PySem.F.cmpArgs_ne _ _) (entry_ne ?_ I.kIn J hs hf ?_)))
  · have hr1 : Room (n + 1) X.A.in1 := hr.in1
    exact hr1.units0
  · have hr1 : Room (n + 1) X.A.in1 := hr.in1
    refine wpAny_mono (run_own F (hr1.mono (by omega)) rfl hb hx I (vs := [.ref a, .ref b]) (us := [.ref a, .ref b]) (.cons rfl (.cons rfl .nil)) hsp) (fun v s' hv => ?_) fun _ _ e => e
    obtain ⟨z, H', I', rz, c, rfl, q⟩ := hv
    cases rz
    exact ⟨c, rfl, wpAny_pure ⟨.bool !c, rfl, .bl !c, H', I', rfl, q⟩⟩
end
end KW
end

section
set_option Elab.async false
set_option linter.all false
set_option maxRecDepth 100000
/-! DLS: texts (join, split, f-strings), str(o), o == p, o != p, isinstance(o, C) of own classes; one slot frozen. -/
namespace DL
open PySem PySem.Spec PyProof.Rows L2 KW
open Evl (Ex)
section
variable {K : PySem.W.Frag}
/-! ### join, split -/
def gJoin (x y : D) : Option D := match x with
  | .str a => (seqD y).bind fun ds => (strsD ds).bind fun ys => if (ys.map (·.length)).sum + ys.length * a.length ≤ 16777216 then some (.str (Txt.join a ys)) else none
  | _ => none
theorem den_join {to te : TE} {fo fe : FE} (ho : Den K to fo) (he : Den K te fe) : Den K (tM1 (fun x xs H Q => ∃ a p, ∃ ys : List Str, x = .str a ∧ xs = [.ref p] ∧ (SqL K H p (ys.map V.str) ∨ SqT K H p (ys.map V.str)) ∧ (ys.map (·.length)).sum + ys.length * a.length ≤ 16777216 ∧ Q (.str (Txt.join a ys)) H) to te) (fOp gJoin fo fe) := fun B G ρ σ H d Q R e k => by
  obtain ⟨x, e1, e_new⟩ := some_bind e
  clear e
  have e := e_new
  clear e_new
  obtain ⟨y, e2, e_new⟩ := some_bind e
  clear e
  have e := e_new
  clear e_new
  cases x <;> first
    | (unfold gJoin at e; cases e; done)
    | skip
  rename_i a
  unfold gJoin at e
  simp only at e
  obtain ⟨ds, e3, e_new⟩ := some_bind e
  clear e
  have e := e_new
  clear e_new
  obtain ⟨ys, e4, e_new⟩ := some_bind e
  clear e
  have e := e_new
  clear e_new
  split at e
  · rename_i hz
    cases e
    refine ho B G ρ σ H _ _ R e1 fun v H1 G1 x1 r1 => ?_
    cases r1
    refine ⟨⟨a, rfl⟩, he B G1 ρ σ H1 _ _ (R.ext x1) e2 fun v H2 G2 x2 r2 => ?_⟩
    cases r2 <;> cases e3
    · rename_i p xs h1 h2
      have := strs_rp h2 e4
      exact ⟨a, p, ys, rfl, rfl, .inl (.inl (.inl (by rw [← this]; exact x2.gh _ _ h1))), hz, k _ H2 G2 (x1.trans x2) (.str _)⟩
    · rename_i p xs h1 h2
      have := strs_rp h2 e4
      exact ⟨a, p, ys, rfl, rfl, .inr (.inl (.inl (by rw [← this]; exact x2.gh _ _ h1))), hz, k _ H2 G2 (x1.trans x2) (.str _)⟩
  · cases e
theorem rps_strs {G : Hp} : ∀ ys : List Str, Rps K G (ys.map V.str) (ys.map D.str)
  | [] => .nil
  | y :: ys => .cons (.str y) (rps_strs ys)
def gSplit (x y : D) : Option D := match x, y with
  | .str a, .str b => if b.length ≠ 0 ∧ a.length + 2 ≤ 16777216 then some (.lst ((Txt.split a b).map D.str)) else none
  | _, _ => none
theorem den_split {to te : TE} {fo fe : FE} (ho : Den K to fo) (he : Den K te fe) : Den K (tM1 (fun x xs H Q => ∃ a b, x = .str a ∧ xs = [.str b] ∧ (b.length == 0) = false ∧ a.length + 2 ≤ sizeLine ∧ rNewStrs (Txt.split a b) H Q) to te) (fOp gSplit fo fe) := fun B G ρ σ H d Q R e k => by
  obtain ⟨x, e1, e_new⟩ := some_bind e
  clear e
  have e := e_new
  clear e_new
  obtain ⟨y, e2, e_new⟩ := some_bind e
  clear e
  have e := e_new
  clear e_new
  unfold gSplit at e
  split at e
  · rename_i a b
    split at e
    · rename_i hz
      cases e
      refine ho B G ρ σ H _ _ R e1 fun v H1 G1 x1 r1 => ?_
      cases r1
      refine ⟨⟨a, rfl⟩, he B G1 ρ σ H1 _ _ (R.ext x1) e2 fun v H2 G2 x2 r2 => ?_⟩
      cases r2
      exact ⟨a, b, rfl, rfl, by simpa using hz.1, hz.2, fun p np => k _ _ _ ((x1.trans x2).trans (.new x2.gh np)) (.lst upd_same (rps_strs _))⟩
    · cases e
  · cases e
/-! ### f-strings -/
def fmtD : D → Option Str
  | .str y => if y.length ≤ 16777216 then some y else none
  | .int i => if i.natAbs.log2 < 1920 then some (Str.ofString (toString i)) else none
  | _ => none
def fFmt (fa : FE) : FE := fun ρ => (fa ρ).bind fun x => (fmtD x).map .str
theorem den_fmt {ta : TE} {fa : FE} (ha : Den K ta fa) : Den K (tFmt ta) (fFmt fa) := fun B G ρ σ H d Q R e k => by
  obtain ⟨x, e1, e_new⟩ := some_bind e
  clear e
  have e := e_new
  clear e_new
  obtain ⟨y, e2, rfl⟩ := Option.map_eq_some_iff.mp e
  refine ha B G ρ σ H _ _ R e1 fun v H1 G1 x1 r1 => ?_
  cases r1 <;> first
    | (unfold fmtD at e2; cases e2; done)
    | skip
  · rename_i i
    unfold fmtD at e2
    simp only at e2
    split at e2
    · rename_i hz
      cases e2
      exact .inr ⟨i, rfl, hz, k _ H1 G1 x1 (.str _)⟩
    · cases e2
  · rename_i z
    unfold fmtD at e2
    simp only at e2
    split at e2
    · rename_i hz
      cases e2
      exact .inl ⟨_, rfl, hz, k _ H1 G1 x1 (.str _)⟩
    · cases e2
inductive DenJ (K : PySem.W.Frag) : List TE → List FE → Prop
  | nil : DenJ K [] []
  | cons {t : TE} {f : FE} {ts : List TE} {fs : List FE} : Den K t f → DenJ K ts fs → DenJ K (t :: ts) (f :: fs)
def fJs : List FE → Str → En → Option Str
  | [], acc, _ => some acc
  | f :: fs, acc, ρ => (f ρ).bind fun x => (strOf x).bind fun y => if (acc ++ y).length ≤ 16777216 then fJs fs (acc ++ y) ρ else none
def fJoined (fs : List FE) : FE := fun ρ => (fJs fs Str.empty ρ).map .str
theorem den_js {ts : List TE} {fs : List FE} (h : DenJ K ts fs) : ∀ (acc : Str) (B G : Hp) (ρ : En) (σ : L2.St) (H : Hp) (out : Str) (Q : Str → Hp → Prop), Rel K B G ρ σ H → fJs fs acc ρ = some out → (∀ H' G', Ext G H G' H' → Q out H') → tJs ts acc σ H Q := by
  induction h with
  | nil =>
    intro acc B G ρ σ H out Q R e k
    cases e
    exact k H G (.refl R.ex)
  | @cons t f ts fs hd _ ih =>
    intro acc B G ρ σ H out Q R e k
    obtain ⟨x, e1, e_new⟩ := some_bind e
    clear e
    have e := e_new
    clear e_new
    obtain ⟨y, e2, e_new⟩ := some_bind e
    clear e
    have e := e_new
    clear e_new
    split at e
    · rename_i hz
      refine hd B G ρ σ H _ _ R e1 fun v H1 G1 x1 r1 => ?_
      cases r1 <;> cases e2
      exact ⟨y, rfl, hz, ih (acc ++ y) B G1 ρ σ H1 out Q (R.ext x1) e fun H2 G2 x2 => k H2 G2 (x1.trans x2)⟩
    · cases e
theorem den_joined {ts : List TE} {fs : List FE} (h : DenJ K ts fs) : Den K (fun σ H Q => tJs ts Str.empty σ H fun out H1 => Q (.str out) H1) (fJoined fs) := fun B G ρ σ H d Q R e k => by
  obtain ⟨out, e1, rfl⟩ := Option.map_eq_some_iff.mp e
  exact den_js h _ B G ρ σ H out _ R e1 fun H1 G1 x1 => k _ H1 G1 x1 (.str _)
/-! ### str(o), o == p, o != p -/
def isStrD : D → Bool
  | .str _ => true
  | _ => false
def gStrO (C : Addr) (fn : List D → Option D) : List D → Option D
  | [.ins C' fs] => if C' = C then (fn [.ins C' fs]).bind fun d => if isStrD d = true then some d else none else none
  | _ => none
theorem cad_strO {C : Addr} {fn : List D → Option D} {E : XK} : CaD K (rStrO C (spF K 1 fn) E) (gStrO C fn) := fun G H xs ds d Q e r eg k => by
  unfold gStrO at eg
  split at eg
  · rename_i C' fs
    split at eg
    · rename_i hC
      subst hC
      obtain ⟨d', e1, e_new⟩ := some_bind eg
      clear eg
      have eg := e_new
      clear e_new
      split at eg
      · rename_i hs
        cases eg
        cases r with
        | cons r rr =>
          cases rr
          cases r
          rename_i a dx fv h1 h2 h3
          refine ⟨a, dx, fv, rfl, e _ _ h1, rfl, G, _, d, e, .cons (.ins h1 h2 h3) .nil, e1, fun v H' G' x2 r2 => ⟨?_, k v H' G' x2 r2⟩⟩
          cases r2 <;> first
            | (cases hs; done)
            | exact ⟨_, rfl⟩
      · cases eg
    · cases eg
  · cases eg
def gCmO (C : Addr) (fn : List D → Option D) (neg : Bool) (x y : D) : Option D := match x, y with
  | .ins C1 fs, .ins C2 gs => if C1 = C ∧ C2 = C then (fn [.ins C1 fs, .ins C2 gs]).bind fun d => (asB d).map fun b => .bl (if neg then !b else b) else none
  | _, _ => none
theorem opd_cmO {C : Addr} {fn : List D → Option D} {E : XK} {neg : Bool} : OpD K (rCmO C (spF K 2 fn) E neg) (gCmO C fn neg) := fun G H x y dx dy d Q e rx ry eg k => by
  unfold gCmO at eg
  split at eg
  · rename_i C1 fs C2 gs
    split at eg
    · rename_i hC
      obtain ⟨rfl, rfl⟩ := hC
      obtain ⟨d', e1, e_new⟩ := some_bind eg
      clear eg
      have eg := e_new
      clear e_new
      obtain ⟨b, e2, rfl⟩ := Option.map_eq_some_iff.mp eg
      cases rx
      cases ry
      rename_i a da fa h1 h2 h3 b' db fb g1 g2 g3
      refine ⟨a, b', da, db, fa, fb, rfl, rfl, e _ _ h1, e _ _ g1, rfl, G, _, d', e, .cons (.ins h1 h2 h3) (.cons (.ins g1 g2 g3) .nil), e1, fun v H' G' x2 r2 => ⟨b, asB_rp r2 e2, k _ H' G' x2 (.bl _)⟩⟩
    · cases eg
  · cases eg
/-! ### isinstance(o, C) -/
def fIsC (C : Addr) (fa : FE) : FE := fun ρ => (fa ρ).bind fun x => match x with
  | .ins C' _ => if C' = C then some (.bl true) else none
  | _ => none
theorem den_isC {C : Addr} {ta : TE} {fa : FE} (ha : Den K ta fa) : Den K (tCB (fun xs H Q => ∃ a dx fs, xs = [.ref a, .ref C] ∧ H a = some (.ins C dx fs) ∧ Q (.bl true) H) (tCons ta (tCons (tC (.ref C)) tNil))) (fIsC C fa) := fun B G ρ σ H d Q R e k => by
  obtain ⟨x, e1, e_new⟩ := some_bind e
  clear e
  have e := e_new
  clear e_new
  split at e
  · rename_i C' fs
    split at e
    · rename_i hC
      subst hC
      cases e
      refine ha B G ρ σ H _ _ R e1 fun v H1 G1 x1 r1 => ?_
      cases r1
      rename_i a dx fv h1 h2 h3
      exact ⟨a, dx, fv, rfl, x1.gh _ _ h1, k _ H1 G1 x1 (.bl _)⟩
    · cases e
  · cases e
/-! ### one slot frozen -/
theorem Rel.frz1 {B G H : Hp} {ρ : En} {σ : L2.St} {j : Nat} {d : D} (R : Rel K B G ρ σ H) (hj : ρ[j]? = some (some (.own d))) : ∃ G', Rel K B G' (ρ.set j (some (.pur d))) σ H ∧ Ex G G' ∧ ∀ a o, B a = some o → G' a = G a := by
  obtain ⟨b, s1, s2, s3, s4⟩ := R.own j d hj
  obtain ⟨u, hu⟩ := s4.some
  have gg : Ex G (upd G b u) := fun a o h => by
    rw [upd_ne (ne_of_none h s2)]
    exact h
  have gh : Ex (upd G b u) H := fun a o h => by
    by_cases z : a = b
    · subst z
      rw [upd_same] at h
      cases h
      exact hu
    · rw [upd_ne z] at h
      exact R.ex _ _ h
  have hl : j < ρ.length := (List.getElem?_eq_some_iff.mp hj).1
  have rp : Rp K (upd G b u) (.ref b) d := by
    cases d <;> first
      | exact s4.elim
      | skip
    · obtain ⟨xs, e, r⟩ := s4
      rw [hu] at e
      cases e
      exact .lst upd_same (r.mono gg)
    · obtain ⟨xs, e, q, r⟩ := s4
      rw [hu] at e
      cases e
      exact .dic upd_same q (r.mono gg)
    · obtain ⟨xs, e, q, r⟩ := s4
      rw [hu] at e
      cases e
      exact .dit (.inl upd_same) q (r.mono gg)
  have old : ∀ {i : Nat} {w : Sl}, (ρ.set j (some (.pur d)))[i]? = some (some w) → (i = j ∧ w = .pur d) ∨ (i ≠ j ∧ ρ[i]? = some (some w)) := fun {i w} h => by
    by_cases z : j = i
    · subst z
      rw [List.getElem?_set_self hl] at h
      cases h
      exact .inl ⟨rfl, rfl⟩
    · rw [List.getElem?_set_ne z] at h
      exact .inr ⟨fun q => z q.symm, h⟩
  refine ⟨upd G b u, ⟨gh, by rw [List.length_set]; exact R.len, fun i e h => ?_, fun i e h => ?_, fun i a h => ?_, fun i k e f a h1 h2 g1 g2 => ?_⟩, gg, fun a o h => ?_⟩
  · rcases old h with ⟨rfl, z⟩ | ⟨_, h⟩
    · cases z
      exact ⟨.ref b, s1, rp⟩
    · obtain ⟨v, h1, h2⟩ := R.pur i e h
      exact ⟨v, h1, h2.mono gg⟩
  · rcases old h with ⟨_, z⟩ | ⟨ne, h⟩
    · cases z
    · obtain ⟨a, h1, h2, h3, h4⟩ := R.own i e h
      have nab : a ≠ b := fun z => by
        subst z
        exact ne (R.uni i j e d a h hj h1 s1)
      exact ⟨a, h1, by rw [upd_ne nab]; exact h2, h3, h4.ex gg fun _ q => q⟩
  · rcases old h with ⟨_, z⟩ | ⟨_, h⟩
    · cases z
    · exact R.ptr i a h
  · rcases old h1 with ⟨_, z⟩ | ⟨_, h1⟩
    · cases z
    · rcases old h2 with ⟨_, z⟩ | ⟨_, h2⟩
      · cases z
      · exact R.uni i k e f a h1 h2 g1 g2
  · rw [upd_ne (fun z : a = b => by subst z; rw [s3] at h; cases h)]
def sFrzI (j : Nat) (m : FS) : FS := fun ρ => match ρ[j]? with
  | some (some (.own d)) => m (ρ.set j (some (.pur d)))
  | _ => none
theorem den_frzI {j : Nat} {t : TS} {m : FS} (h : DenS K t m) : DenS K t (sFrzI j m) := fun B G0 G ρ σ H E c R x e k => by
  unfold sFrzI at e
  split at e
  · rename_i d hj
    obtain ⟨G', R', g', f'⟩ := R.frz1 hj
    exact h B G0 G' _ σ H E c R' ⟨x.gg.trans g', R'.ex, x.hh, fun a o h => (f' a o h).trans (x.fr a o h)⟩ e k
  · cases e
end
end DL
end

section
set_option Elab.async false
set_option linter.all false
set_option maxRecDepth 100000
/-! KwDeq: == of two dicts with tuple keys. -/
namespace KwDeq
open PySem PySem.Spec PyProof.Rows PyProof.V PySem.Calls
section
variable {prog : Program} {w : World} {K : Type} [DecidableEq K] {knd : HeapKind prog w K} {A : Around} {E : Value → Shared → Prop} {s : Shared}
def at? (xs : List (K × Addr × Value)) (k : K) : Option Value := (xs.find? fun x => decide (x.1 = k)).map (·.2.2)
/-- whether each pair of the first stands in the second -/
inductive Hits (prog : Program) (w : World) (A : Around) (s : Shared) (kb : List (K × Addr × Value)) : List (K × Addr × Value) → Bool → Prop
  | nil : Hits prog w A s kb [] true
  | miss {k : K} {a : Addr} {v : Value} {r : List (K × Addr × Value)} : at? kb k = none → Hits prog w A s kb ((k, a, v) :: r) false
  | hit {k : K} {a : Addr} {v y : Value} {r : List (K × Addr × Value)} {e b : Bool} : at? kb k = some y → SeqAt.EqP prog w A s v y e → Hits prog w A s kb r b → Hits prog w A s kb ((k, a, v) :: r) (e && b)
theorem Hits.inv {kb : List (K × Addr × Value)} {k : K} {a : Addr} {v : Value} {r : List (K × Addr × Value)} {b : Bool} (h : Hits prog w A s kb ((k, a, v) :: r) b) :
    (at? kb k = none ∧ b = false) ∨ ∃ y e b', at? kb k = some y ∧ SeqAt.EqP prog w A s v y e ∧ Hits prog w A s kb r b' ∧ b = (e && b') := by
  cases h with
  | miss hn => exact .inl ⟨hn, rfl⟩
  | hit hy he hr => exact .inr ⟨_, _, _, hy, he, hr, rfl⟩
theorem at_none {xs : List (K × Addr × Value)} {k : K} (h : ∀ (j : Nat) (p : Addr × Value), xs[j]? ≠ some (k, p)) : at? xs k = none := by
  unfold at?
  rw [List.find?_eq_none.mpr]
  · rfl
  · intro x hx z
    obtain ⟨j, hj⟩ := List.mem_iff_getElem?.mp hx
    obtain ⟨k', p⟩ := x
    have e : k' = k := of_decide_eq_true z
    subst e
    exact h j p hj
theorem at_some {xs : List (K × Addr × Value)} {k : K} {j : Nat} {p : Addr × Value} (hn : (xs.map (·.1)).Nodup) (h : xs[j]? = some (k, p)) : at? xs k = some p.2 := by
  unfold at?
  have hm : (k, p) ∈ xs := List.mem_of_getElem? h
  induction xs generalizing j with
  | nil => cases hm
  | cons x xs ih =>
    rw [List.map_cons] at hn
    obtain ⟨n1, n2⟩ := List.nodup_cons.mp hn
    rw [List.find?_cons]
    rcases List.mem_cons.mp hm with e | hm'
    · rw [← e]
      simp
    · have ne : ¬ x.1 = k := fun e => n1 (e ▸ List.mem_map.mpr ⟨_, hm', rfl⟩)
      simp only [decide_eq_false ne]
      obtain ⟨j', hj'⟩ := List.mem_iff_getElem?.mp hm'
      exact ih n2 hj' hm'
theorem samePairsH {nm : String} {a b : Addr} {ka kb : List (K × Addr × Value)} {r : Bool} {Q : Bool → Shared → Prop} (hu : knd.room A) (ha : (a == sysModules) = false) (hb : (b == sysModules) = false)
    (da : s.heap.DictOfH knd a ka) (db : s.heap.DictOfH knd b kb) (hits : ka.length = kb.length → Hits prog w A s kb ka r) (h : Q (ka.length == kb.length && r) s) :
    wpAny (model prog w) A (Builtin.Dict.samePairs nm a b) Q E s := by
  obtain ⟨oa, es, ep, hoa, _, hda, hea, hka, hna⟩ := da
  obtain ⟨ob, es', ep', hob, _, hdb, heb, hkb, hnb⟩ := db
  have hla : ka.length = es.size := (size_of_entries hea).symm
  have hlb : kb.length = es'.size := (size_of_entries heb).symm
  rw [hla, hlb] at h
  unfold Builtin.Dict.samePairs Builtin.Dict.showsAll
  rw [if_neg (show ¬ (a == sysModules) = true by rw [ha]; exact Bool.false_ne_true), if_neg (show ¬ (b == sysModules) = true by rw [hb]; exact Bool.false_ne_true)]
  refine wpAny_bind (wpAny_pure (wpAny_bind (wpAny_pure ?_)))
  refine wpAny_bind (wpAny_dictEntries hoa hda ?_)
  dsimp only
  refine wpAny_bind (wpAny_dictEntries hob hdb ?_)
  by_cases hsz : es.size = es'.size
  case neg =>
    rw [if_pos (by simpa using hsz)]
    have hbf : (es.size == es'.size) = false := by simpa using hsz
    rw [hbf, Bool.false_and] at h
    exact wpAny_bind (wpAny_rule (wpAny_pure h))
  case pos =>
    have h' : Q r s := by simpa [hsz] using h
    have hits' := hits (by rw [hla, hlb]; exact hsz)
    rw [if_neg (by rw [hsz]; simp)]
    refine wpAny_bind (wpAny_dictEpoch hoa hda ?_)
    refine wpAny_bind ?_
    rw [Std.Legacy.Range.forIn_eq_forIn_range']
    simp only [Std.Legacy.Range.size, Nat.sub_zero, Nat.add_sub_cancel, Nat.div_one]
    refine wpAny_forIn_list _
      (fun rest q s' => s' = s ∧ q = (none, ()) ∧ ∃ i, rest = List.range' i (es.size - i) ∧ i ≤ es.size ∧ Hits prog w A s kb (ka.drop i) r)
      _ ?_ ?_ _ _ ⟨rfl, rfl, 0, by simp, Nat.zero_le _, hits'⟩
    · rintro x rest q s' ⟨rfl, rfl, i, hr, hi, hpre⟩
      have hlt : i < es.size := by
        rcases Nat.lt_or_ge i es.size with h | h
        · exact h
        · rw [Nat.sub_eq_zero_of_le h] at hr; simp at hr
      obtain ⟨rfl, hrest⟩ : x = i ∧ rest = List.range' (i + 1) (es.size - (i + 1)) := by
        have e : es.size - i = (es.size - (i + 1)) + 1 := by omega
        rw [e, List.range'_succ] at hr
        injection hr with h1 h2
        exact ⟨h1, h2⟩
      refine wpAny_bind (wpAny_dictEntries hoa hda ?_)
      have hlt' : x < ka.length := by rw [hla]; exact hlt
      obtain ⟨k, c, v, hkv⟩ : ∃ k c v, ka[x] = (k, c, v) := ⟨_, _, _, rfl⟩
      have hdrop : ka.drop x = (k, c, v) :: ka.drop (x + 1) := by rw [← hkv]; exact List.drop_eq_getElem_cons hlt'
      have hent : es[x]? = some ⟨knd.hash k, .ref c, v⟩ := by
        rw [entry_at hea x, List.getElem?_eq_getElem hlt', hkv]
        rfl
      rw [hent]
      have hkey : knd.is s'.heap k c := by
        have := hka ka[x] (List.getElem_mem hlt')
        rw [hkv] at this
        exact this
      rw [hdrop] at hpre
      show wpAny _ _ (holding [Value.ref c, v] _ >>= _) _ _ _
      refine wpAny_bind (wpAny_holding (wpAny_bind (wpAny_dictFind_heap hu hkey hob hdb heb hkb hnb (fun hn => ?_) (fun j p hj => ?_))))
      · have hn : at? kb k = none := at_none hn
        rcases hpre.inv with ⟨_, er⟩ | ⟨y, _, _, hy, _⟩
        · rw [er] at h'
          refine wpAny_pure ?_
          show wpAny _ _ (if (!false) = true then _ else _) _ _ _
          rw [if_pos (by decide)]
          exact wpAny_pure (wpAny_pure h')
        · rw [hn] at hy; exact nomatch hy
      · have hv' : at? kb k = some p.2 := at_some hnb hj
        refine wpAny_bind (wpAny_dictEntries hob hdb ?_)
        rw [entry_at heb j, hj]
        rcases hpre.inv with ⟨hn, _⟩ | ⟨y, e, b', hy, he, hrr, er⟩
        · rw [hv'] at hn; exact nomatch hn
        · have ey : p.2 = y := Option.some.inj (hv'.symm.trans hy)
          rw [← ey] at he
          refine wpAny_holding (he _ _ ?_)
          cases e with
          | false =>
            rw [er, Bool.false_and] at h'
            show wpAny _ _ (if (!false) = true then _ else _) _ _ _
            rw [if_pos (by decide)]
            exact wpAny_pure (wpAny_pure h')
          | true =>
            rw [Bool.true_and] at er
            rw [← er] at hrr
            show wpAny _ _ (if (!true) = true then _ else _) _ _ _
            rw [if_neg (by decide)]
            refine wpAny_bind (wpAny_dictEpoch hoa hda ?_)
            rw [if_neg (by simp)]
            exact wpAny_pure ⟨rfl, rfl, x + 1, hrest, hlt, hrr⟩
    · rintro q s' ⟨rfl, rfl, i, hr, hi, hpre⟩
      have hin : i = es.size := by
        rcases Nat.lt_or_ge i es.size with h | h
        · have e : es.size - i = (es.size - (i + 1)) + 1 := by omega
          rw [e, List.range'_succ] at hr; exact nomatch hr
        · exact Nat.le_antisymm hi h
      refine wpAny_pure ?_
      rw [hin, ← hla, List.drop_length] at hpre
      cases hpre
      exact h'
theorem rcP_dictsH {a b : Addr} {ka kb : List (K × Addr × Value)} {r : Bool} (hr : knd.room A.in1) (ha : (a == sysModules) = false) (hb : (b == sysModules) = false)
    (da : s.heap.DictOfH knd a ka) (db : s.heap.DictOfH knd b kb) (hu : A.units < cLine) (hits : ka.length = kb.length → Hits prog w A.in1 s kb ka r) (E Q : Value → Shared → Prop) (h : Q (.bool (ka.length == kb.length && r)) s) : wpAny (model prog w) A (richCompare .Eq (.ref a) (.ref b)) Q E s := by
  refine wpAny_richCompare_same_room (op := .Eq) da.typeIs db.typeIs PySem.F.slot_dict_eq (wpAny_call_entry PySem.F.slot_dict_eq da.typeIs PySem.F.entry_dict_eq ?_ (PySem.F.args_dict_eq_2 _ _)) hu
  show wpAny _ _ (Builtin.Dict.dictSlotArgs "__eq__" ⟨[.ref a, .ref b], []⟩ >>= _) _ _ s
  refine wpAny_bind ?_
  unfold Builtin.Dict.dictSlotArgs
  refine wpAny_bind (wpAny_notOrdered_dict da.typeIs ?_)
  show wpAny _ _ (pure (Value.ref a, Value.ref b)) _ _ s
  refine wpAny_pure ?_
  refine wpAny_bind (wpAny_isInstance (T := "dict") db.typeIs PySem.F.sub_dict_dict ?_)
  simp only [Bool.not_true, Bool.false_eq_true, if_false]
  refine wpAny_bind (wpAny_pure (wpAny_bind (wpAny_pure ?_)))
  refine wpAny_bind (samePairsH hr ha hb da db hits ?_)
  refine wpAny_pure ⟨_, rfl, ?_, ?_⟩
  · exact fun x => nomatch x
  · simpa using h
end
end KwDeq
end

section
set_option Elab.async false
set_option linter.all false
set_option maxRecDepth 100000
/-! DLE: == of two dicts, over trees. -/
namespace DL
open PySem PySem.Spec PyProof.Rows L2 Evl
section
variable {K : PySem.W.Frag} {G H : Hp}
/-- two values that read as data, held by == -/
def VE (K : PySem.W.Frag) (H : Hp) (x y : V) (e : Bool) : Prop := ∃ p q, Dp K H x p ∧ Dp K H y q ∧ SeqAt.shaped p = true ∧ SeqAt.shaped q = true ∧ p.depth ≤ 60 ∧ PyData.eqv p q = e
inductive HitV {κ : Type} [DecidableEq κ] (K : PySem.W.Frag) (H : Hp) (ls : List (κ × V)) : List (κ × V) → Bool → Prop
  | nil : HitV K H ls [] true
  | miss {k : κ} {v : V} {r : List (κ × V)} : valV ls k = none → HitV K H ls ((k, v) :: r) false
  | hit {k : κ} {v u : V} {r : List (κ × V)} {e b : Bool} : valV ls k = some u → VE K H v u e → HitV K H ls r b → HitV K H ls ((k, v) :: r) (e && b)
def rDE (K : PySem.W.Frag) : R2 := fun x y H Q => ∃ (r : Bool) (a b : Addr), x = .ref a ∧ y = .ref b ∧
  ((∃ ks ls : List (Key × V), H a = some (.dK ks) ∧ H b = some (.dK ls) ∧ (ks.length = ls.length → HitV K H ls ks r) ∧ Q (.bl (ks.length == ls.length && r)) H) ∨
   ∃ ks ls : List (List Key × V), Rd H a (.dT ks) ∧ Rd H b (.dT ls) ∧ (ks.length = ls.length → HitV K H ls ks r) ∧ Q (.bl (ks.length == ls.length && r)) H)
theorem ve_run {X : Cx} {pins : List (Addr × Obj)} {σ : L2.St} {s : Shared} {A : Around} (I : Inv X pins σ H s) (hu : A.units + 60 < cLine) {x y : V} {v u : Value} {e : Bool} (h : VE X.K H x y e) (rx : RelV x v) (ry : RelV y u) : SeqAt.EqP X.prog X.w A s v u e := by
  obtain ⟨p, q, hp, hq, sp, sq, dp, rfl⟩ := h
  obtain ⟨as, r1⟩ := Dp.reads I p x v hp rx
  obtain ⟨bs, r2⟩ := Dp.reads I q y u hq ry
  exact (SeqAt.eqAt_reads p q A s v u as bs r1 r2 (SeqAt.canLay_of_shaped sp) (SeqAt.canLay_of_shaped sq) (by
    have : min p.depth q.depth ≤ 60 := Nat.le_trans (Nat.min_le_left _ _) dp
    omega)).eqP
theorem hitK_run {X : Cx} {pins : List (Addr × Obj)} {σ : L2.St} {s : Shared} {A : Around} (I : Inv X pins σ H s) (hu : A.units + 60 < cLine) {ls : List (Key × V)} {vb : List (Key × Value)} (rb : KV ls vb) : ∀ {ks : List (Key × V)} {va : List (Key × Value)} {r : Bool}, KV ks va → HitV X.K H ls ks r → PySem.W.KeqHitsP X.prog X.w A s vb va r := by
  intro ks va r ra
  unfold KV at ra
  induction ra generalizing r with
  | nil =>
    intro h
    cases h
    exact .nil
  | @cons p q ps qs h t ih =>
    intro hh
    obtain ⟨h1, h2⟩ := h
    obtain ⟨k, v⟩ := p
    obtain ⟨k', v'⟩ := q
    have h1 : k = k' := h1
    subst h1
    have rr := rb.val k
    cases hh with
    | miss hn =>
      rw [hn] at rr
      refine .miss ?_
      cases e : valueAt vb k with
      | none => rfl
      | some y => rw [e] at rr; exact rr.elim
    | @hit _ _ u _ e b hv he hr =>
      rw [hv] at rr
      obtain ⟨y, hy, ry⟩ := RelO.some_of rr
      exact .hit hy (ve_run I hu he h2 ry) (ih hr)
theorem at_eq {xs : List (List Key × Addr × Value)} {k : List Key} : KwDeq.at? xs k = (atKey xs k).map (·.2) := by
  unfold KwDeq.at? atKey
  rw [Option.map_map]
  rfl
theorem hitT_run {X : Cx} {pins : List (Addr × Obj)} {σ : L2.St} {s : Shared} {A : Around} (I : Inv X pins σ H s) (hu : A.units + 60 < cLine) {ls : List (List Key × V)} {vb : List (List Key × Addr × Value)} (rb : KT H ls vb) : ∀ {ks : List (List Key × V)} {va : List (List Key × Addr × Value)} {r : Bool}, KT H ks va → HitV X.K H ls ks r → KwDeq.Hits X.prog X.w A s vb va r := by
  intro ks va r ra
  unfold KT at ra
  induction ra generalizing r with
  | nil =>
    intro h
    cases h
    exact .nil
  | @cons p q ps qs h t ih =>
    intro hh
    obtain ⟨h1, h3, h2⟩ := h
    obtain ⟨k, v⟩ := p
    obtain ⟨k', c, v'⟩ := q
    have h1 : k = k' := h1
    subst h1
    have rr := rb.val k
    rw [← at_eq] at rr
    cases hh with
    | miss hn =>
      rw [hn] at rr
      refine .miss ?_
      cases e : KwDeq.at? vb k with
      | none => rfl
      | some y => rw [e] at rr; exact rr.elim
    | @hit _ _ u _ e b hv he hr =>
      rw [hv] at rr
      obtain ⟨y, hy, ry⟩ := RelO.some_of rr
      exact .hit hy (ve_run I hu he h2 ry) (ih hr)
theorem op_DE {X : Cx} (hu : X.A.units + 64 < cLine) : OpR X (compareOp .Eq) (rDE X.K) := by
  intro pins s σ H x y v u Q I rx ry h
  obtain ⟨r, a, b, rfl, rfl, h⟩ := h
  cases (show v = Value.ref a from rx)
  cases (show u = Value.ref b from ry)
  have hu1 : X.A.in1.units + 60 < cLine := by show X.A.units + 1 + 60 < cLine; omega
  rcases h with ⟨ks, ls, ea, eb, hh, q⟩ | ⟨ks, ls, ea, eb, hh, q⟩
  · obtain ⟨_, ya, va, ra, da⟩ := dk_of I.hok ea
    obtain ⟨_, yb, vb, rb, db⟩ := dk_of I.hok eb
    have e1 := ra.length
    have e2 := rb.length
    rw [e1, e2] at q hh
    exact PySem.W.rcP_dicts (knd := mixKind X.prog X.w) (r := r) ya yb da db (by omega) (fun hl => hitK_run I hu1 rb ra (hh hl)) _ _ ⟨.bl _, H, I, rfl, q⟩
  · obtain ⟨_, ya, va, ra, da⟩ := dt_rd I.hok ea
    obtain ⟨_, yb, vb, rb, db⟩ := dt_rd I.hok eb
    have e1 : ks.length = va.length := Paired.length ra
    have e2 : ls.length = vb.length := Paired.length rb
    rw [e1, e2] at q hh
    exact KwDeq.rcP_dictsH (knd := tupleKind (mixKind X.prog X.w)) (r := r) (tupleKind_room_in1 (by omega)) ya yb da db (by omega) (fun hl => hitT_run I hu1 rb ra (hh hl)) _ _ ⟨.bl _, H, I, rfl, q⟩
/-! ### over trees -/
def eqP2 (x y : D) : Option Bool := (toPy x).bind fun p => (toPy y).bind fun q => if (SeqAt.shaped p && SeqAt.shaped q && decide (p.depth ≤ 60)) = true then some (PyData.eqv p q) else none
def likeD {κ : Type} [DecidableEq κ] (b : List (κ × D)) : List (κ × D) → Option Bool
  | [] => some true
  | (k, v) :: r => match valD b k with
    | none => some false
    | some u => (eqP2 v u).bind fun e => (likeD b r).map (e && ·)
def gDE (x y : D) : Option D := match x, y with
  | .dic a, .dic b => if a.length = b.length then (likeD b a).map .bl else some (.bl false)
  | .dit a, .dit b => if a.length = b.length then (likeD b a).map .bl else some (.bl false)
  | _, _ => none
theorem like_rp {κ : Type} [DecidableEq κ] (ex : Ex G H) {ls : List (κ × V)} {lb : List (κ × D)} (hk : ls.map (·.1) = lb.map (·.1)) (hr : Rps K G (ls.map (·.2)) (lb.map (·.2))) : ∀ {ks : List (κ × V)} {la : List (κ × D)} {r : Bool}, ks.map (·.1) = la.map (·.1) → Rps K G (ks.map (·.2)) (la.map (·.2)) → likeD lb la = some r → HitV K H ls ks r
  | [], [], r, _, _, e => by
    cases e
    exact .nil
  | [], _ :: _, _, h, _, _ => by cases h
  | _ :: _, [], _, h, _, _ => by cases h
  | (k1, v) :: ks, (k2, d) :: la, r, h, rr, e => by
    injection h with h1 h2
    have h1 : k1 = k2 := h1
    subst h1
    cases rr with
    | cons rv rr =>
      unfold likeD at e
      rcases val_rp (k := k1) hk hr with ⟨z1, z2⟩ | ⟨u, d', z1, z2, ru⟩
      · rw [z1] at e
        cases e
        exact .miss z2
      · rw [z1] at e
        obtain ⟨e0, e1, e2⟩ := some_bind e
        obtain ⟨b0, e3, rfl⟩ := Option.map_eq_some_iff.mp e2
        obtain ⟨p, f1, e1⟩ := some_bind e1
        obtain ⟨q, f2, e1⟩ := some_bind e1
        split at e1
        · rename_i hs
          cases e1
          rw [Bool.and_eq_true, Bool.and_eq_true] at hs
          exact .hit z2 ⟨p, q, toPy_rp rv f1 ex, toPy_rp ru f2 ex, hs.1.1, hs.1.2, of_decide_eq_true hs.2, rfl⟩ (like_rp ex hk hr h2 rr e3)
        · cases e1
theorem len_keys {κ : Type} {ks : List (κ × V)} {la : List (κ × D)} (h : ks.map (·.1) = la.map (·.1)) : ks.length = la.length := by
  have := congrArg List.length h
  rwa [List.length_map, List.length_map] at this
theorem opd_DE : OpD K (rDE K) gDE := fun G H x y dx dy d Q e rx ry eg k => by
  cases rx <;> cases ry <;> first
    | (unfold gDE at eg; cases eg; done)
    | skip
  · rename_i a ks la h1 h2 h3 b ls lb h4 h5 h6
    unfold gDE at eg
    simp only at eg
    have l1 := len_keys h2
    have l2 := len_keys h5
    split at eg
    · rename_i hl
      obtain ⟨r, e1, rfl⟩ := Option.map_eq_some_iff.mp eg
      refine ⟨r, a, b, rfl, rfl, .inl ⟨ks, ls, e _ _ h1, e _ _ h4, fun _ => like_rp e h5 h6 h2 h3 e1, ?_⟩⟩
      rw [l1, l2, hl, beq_self_eq_true, Bool.true_and]
      exact k _ H G (.refl e) (.bl _)
    · rename_i hl
      cases eg
      refine ⟨false, a, b, rfl, rfl, .inl ⟨ks, ls, e _ _ h1, e _ _ h4, fun z => absurd (by rw [← l1, ← l2]; exact z) hl, ?_⟩⟩
      rw [Bool.and_false]
      exact k _ H G (.refl e) (.bl _)
  · rename_i a ks la h1 h2 h3 b ls lb h4 h5 h6
    unfold gDE at eg
    simp only at eg
    have l1 := len_keys h2
    have l2 := len_keys h5
    split at eg
    · rename_i hl
      obtain ⟨r, e1, rfl⟩ := Option.map_eq_some_iff.mp eg
      refine ⟨r, a, b, rfl, rfl, .inr ⟨ks, ls, rd_mono e h1, rd_mono e h4, fun _ => like_rp e h5 h6 h2 h3 e1, ?_⟩⟩
      rw [l1, l2, hl, beq_self_eq_true, Bool.true_and]
      exact k _ H G (.refl e) (.bl _)
    · rename_i hl
      cases eg
      refine ⟨false, a, b, rfl, rfl, .inr ⟨ks, ls, rd_mono e h1, rd_mono e h4, fun z => absurd (by rw [← l1, ← l2]; exact z) hl, ?_⟩⟩
      rw [Bool.and_false]
      exact k _ H G (.refl e) (.bl _)
end
end DL
end

section
set_option Elab.async false
set_option linter.all false
set_option maxRecDepth 100000
set_option maxHeartbeats 1000000
/-! KwOwn2: o == y, o != y of an instance with its own __eq__ and a number, a text or a list. -/
namespace KW
open PySem PySem.Spec PyProof.Rows L2
section
variable {X : Cx}
inductive TyS (H : Hp) : V → String → Prop
  | int (i : Int) : TyS H (.int i) "int"
  | str (x : Str) : TyS H (.str x) "str"
  | lst {a : Addr} {xs : List V} : H a = some (.lst xs) → TyS H (.ref a) "list"
theorem tys_looks {pins : List (Addr × Obj)} {σ : L2.St} {H : Hp} {s : Shared} {y : V} {u : Value} {t : String} (I : Inv X pins σ H s) (r : RelV y u) (h : TyS H y t) : PySem.W.Looks (model X.prog X.w) s.heap (typeOf u) (.type t) := by
  cases h with
  | int i =>
    obtain ⟨t, rfl⟩ := (show ∃ t, u = Value.int i t from r)
    exact .now
  | str x =>
    obtain ⟨t, rfl⟩ := (show ∃ t, u = Value.str x t from r)
    exact .now
  | @lst a xs ea =>
    cases (show u = Value.ref a from r)
    obtain ⟨_, _, n, _, h1⟩ := (show ObjOk X.prog X.w H s.heap a (.lst xs) from I.hok a _ ea)
    exact (PySem.W.Looks.ld h1).andThen .now
def rCmV (K : PySem.W.Frag) (C : Addr) (sp : Sp) (E : XK) (neg : Bool) : R2 := fun x y H Q => ∃ a dx fs t, x = .ref a ∧ H a = some (.ins C dx fs) ∧ TyS H y t ∧ PySem.W.notFirst K C (.type t) = true ∧ sp [.ref a, y] H (fun v H' => ∃ c, v = .bl c ∧ Q (.bl (if neg then !c else c)) H') E
theorem op_eqV2 {CX : CXT} {n : Nat} {C f : Addr} {fd : FuncData} {ps : List Str} {sp : Sp} {E : XK} (F : FnOk X.prog X.w X.K X.mg X.base CX n f fd ps sp) (hr : Room n X.A) (hs : PySem.W.findIn X.K (.ref C) "__eq__" = some (some (.ref f))) (hf : PySem.W.isFn X.K (.ref f) = true) (hb : Binds X.K fd ps []) (hx : Passes CX X E) :
    OpR X (compareOp .Eq) (rCmV X.K C sp E false) := by
  intro pins s σ H x y v u Q I rx ry hq
  obtain ⟨a, dx, fs, t, rfl, ha, ty, nf, hsp⟩ := hq
  cases rx
  show wpAny (model X.prog X.w) X.A (richCompare .Eq (.ref a) u) (EP X pins σ Q) X.xe s
  obtain ⟨mA, J, _⟩ := ins_get I.hok ha
  obtain ⟨od, J, _⟩ := J.look
  obtain ⟨m, hF⟩ := I.fr
  refine PySem.W.cmp_K (op := .Eq) (tb := .type t) hr.units0 hF I.ok.mod.kin J (tys_looks I ry ty) nf hs hf ?_
  refine wpAny_mono (run_own F hr rfl hb hx I (vs := [.ref a, y]) (us := [.ref a, u]) (.cons rfl (.cons ry .nil)) hsp) (fun v s' hv => ?_) fun _ _ e => e
  obtain ⟨z, H', I', rz, c, rfl, q⟩ := hv
  cases rz
  exact ⟨.bl c, H', I', rfl, q⟩
theorem op_neV2 {CX : CXT} {n : Nat} {C f : Addr} {fd : FuncData} {ps : List Str} {sp : Sp} {E : XK} (F : FnOk X.prog X.w X.K X.mg X.base CX n f fd ps sp) (hr : Room (n + 2) X.A) (hs : PySem.W.findIn X.K (.ref C) "__eq__" = some (some (.ref f))) (hf : PySem.W.isFn X.K (.ref f) = true) (hne : PySem.W.findIn X.K (.ref C) "__ne__" = some (some (.builtin "object.__ne__"))) (hm : PySem.W.mroIn X.K C (.type "object") = some true) (hb : Binds X.K fd ps []) (hx : Passes CX X E) :
    OpR X (compareOp .NotEq) (rCmV X.K C sp E true) := by
  intro pins s σ H x y v u Q I rx ry hq
  obtain ⟨a, dx, fs, t, rfl, ha, ty, nf, hsp⟩ := hq
  cases rx
  show wpAny (model X.prog X.w) X.A (richCompare .NotEq (.ref a) u) (EP X pins σ Q) X.xe s
  obtain ⟨mA, J, _⟩ := ins_get I.hok ha
  obtain ⟨od, J, _⟩ := J.look
  have hr0 : Room n X.A := hr.mono (by omega)
  refine rc_ne (tb := .type t) hr0.units0 I.kIn J (tys_looks I ry ty) nf ?_
  unfold tryCompare
  refine wpAny_bind (ifBound_objNe I.kIn J hne ?_)
  refine wpAny_call (codeAny_call_builtin PySem.F.cmp_object.ne.plain PySem.F.cmpEntry_ne (PySem.W.check_slot PySem.F.cmpKind_ne PySem.F.cmpSplit_ne (J.type.andThen (PySem.W.looks_mroIn I.kIn hm)) (PySem.F.cmpArgs_ne _ _) (entry_ne ?_ I.kIn J hs hf ?_)))
  · have hr1 : Room (n + 1) X.A.in1 := hr.in1
    exact hr1.units0
  · have hr1 : Room (n + 1) X.A.in1 := hr.in1
    refine wpAny_mono (run_own F (hr1.mono (by omega)) rfl hb hx I (vs := [.ref a, y]) (us := [.ref a, u]) (.cons rfl (.cons ry .nil)) hsp) (fun v s' hv => ?_) fun _ _ e => e
    obtain ⟨z, H', I', rz, c, rfl, q⟩ := hv
    cases rz
    exact ⟨c, rfl, wpAny_pure ⟨.bool !c, rfl, .bl !c, H', I', rfl, q⟩⟩
end
end KW
end

section
set_option Elab.async false
set_option linter.all false
set_option maxRecDepth 100000
/-! DLE2: isinstance(x, C), o == x, o != x with x an instance of C, a number, a text or a list; over trees. -/
namespace DL
open PySem PySem.Spec PyProof.Rows L2 KW
open Evl (Ex)
/-- what the class's head facts say of plain values -/
structure NotC (K : PySem.W.Frag) (C : Addr) : Prop where
  kl : PySem.W.kitOne K (.type "list") (.ref C) = some false
  ks : PySem.W.kitOne K (.type "str") (.ref C) = some false
  ki : PySem.W.kitOne K (.type "int") (.ref C) = some false
  nl : PySem.W.notFirst K C (.type "list") = true
  ns : PySem.W.notFirst K C (.type "str") = true
  ni : PySem.W.notFirst K C (.type "int") = true
section
variable {K : PySem.W.Frag} {C : Addr}
def rIsV (K : PySem.W.Frag) (C : Addr) : List V → Hp → VK → Prop := fun xs H Q => (∃ a dx fs, xs = [.ref a, .ref C] ∧ H a = some (.ins C dx fs) ∧ Q (.bl true) H) ∨ rIsi K xs H Q
theorem call_isV {X : Cx} (c : C8.InsC X.K C) : CallR X (.builtin "isinstance") (rIsV X.K C) := (C8.call_isC c).or call_isi
def fIsV (C : Addr) (fa : FE) : FE := fun ρ => (fa ρ).bind fun x => match x with
  | .ins C' _ => if C' = C then some (.bl true) else none
  | .lst _ => some (.bl false)
  | .str _ => some (.bl false)
  | .int _ => some (.bl false)
  | _ => none
theorem den_isV (N : NotC K C) {ta : TE} {fa : FE} (ha : Den K ta fa) : Den K (tCB (rIsV K C) (tCons ta (tCons (tC (.ref C)) tNil))) (fIsV C fa) := fun B G ρ σ H d Q R e k => by
  obtain ⟨x, e1, e_new⟩ := some_bind e
  clear e
  have e := e_new
  clear e_new
  refine ha B G ρ σ H _ _ R e1 fun v H1 G1 x1 r1 => ?_
  split at e
  · rename_i C' fs
    split at e
    · rename_i hC
      subst hC
      cases e
      cases r1
      rename_i a dx fv h1 h2 h3
      exact .inl ⟨a, dx, fv, rfl, x1.gh _ _ h1, k _ H1 G1 x1 (.bl _)⟩
    · cases e
  · cases e
    cases r1
    rename_i a xs h1 h2
    exact .inr ⟨_, _, _, _, false, rfl, .own C, .base (.lst (x1.gh _ _ h1)), N.kl, k _ H1 G1 x1 (.bl _)⟩
  · cases e
    cases r1
    exact .inr ⟨_, _, _, _, false, rfl, .own C, .base (.str _), N.ks, k _ H1 G1 x1 (.bl _)⟩
  · cases e
    cases r1
    exact .inr ⟨_, _, _, _, false, rfl, .own C, .base (.int _), N.ki, k _ H1 G1 x1 (.bl _)⟩
  · cases e
/-- o == x, o != x, x plain -/
def gCmV (C : Addr) (fn : List D → Option D) (neg : Bool) (x y : D) : Option D := match x with
  | .ins C1 fs => match y with
    | .lst ys => if C1 = C then (fn [.ins C1 fs, .lst ys]).bind fun d => (asB d).map fun b => .bl (if neg then !b else b) else none
    | .str z => if C1 = C then (fn [.ins C1 fs, .str z]).bind fun d => (asB d).map fun b => .bl (if neg then !b else b) else none
    | .int i => if C1 = C then (fn [.ins C1 fs, .int i]).bind fun d => (asB d).map fun b => .bl (if neg then !b else b) else none
    | _ => none
  | _ => none
theorem opd_cmV (N : NotC K C) {fn : List D → Option D} {E : XK} {neg : Bool} : OpD K (rCmV K C (spF K 2 fn) E neg) (gCmV C fn neg) := fun G H x y dx dy d Q e rx ry eg k => by
  cases rx <;> first
    | (unfold gCmV at eg; cases eg; done)
    | skip
  rename_i a C1 da fa fD h1 h2 h3
  cases ry <;> first
    | (unfold gCmV at eg; cases eg; done)
    | skip
  · rename_i i
    unfold gCmV at eg
    simp only at eg
    split at eg
    · rename_i hC
      subst hC
      obtain ⟨d', e1, eg⟩ := some_bind eg
      obtain ⟨b, e2, rfl⟩ := Option.map_eq_some_iff.mp eg
      exact ⟨a, da, fa, "int", rfl, e _ _ h1, .int i, N.ni, rfl, G, _, d', e, .cons (.ins h1 h2 h3) (.cons (.int i) .nil), e1, fun v H' G' x2 r2 => ⟨b, asB_rp r2 e2, k _ H' G' x2 (.bl _)⟩⟩
    · cases eg
  · rename_i z
    unfold gCmV at eg
    simp only at eg
    split at eg
    · rename_i hC
      subst hC
      obtain ⟨d', e1, eg⟩ := some_bind eg
      obtain ⟨b, e2, rfl⟩ := Option.map_eq_some_iff.mp eg
      exact ⟨a, da, fa, "str", rfl, e _ _ h1, .str z, N.ns, rfl, G, _, d', e, .cons (.ins h1 h2 h3) (.cons (.str z) .nil), e1, fun v H' G' x2 r2 => ⟨b, asB_rp r2 e2, k _ H' G' x2 (.bl _)⟩⟩
    · cases eg
  · rename_i b' xs ys g1 g2
    unfold gCmV at eg
    simp only at eg
    split at eg
    · rename_i hC
      subst hC
      obtain ⟨d', e1, eg⟩ := some_bind eg
      obtain ⟨b, e2, rfl⟩ := Option.map_eq_some_iff.mp eg
      exact ⟨a, da, fa, "list", rfl, e _ _ h1, .lst (e _ _ g1), N.nl, rfl, G, _, d', e, .cons (.ins h1 h2 h3) (.cons (.lst g1 g2) .nil), e1, fun v H' G' x2 r2 => ⟨b, asB_rp r2 e2, k _ H' G' x2 (.bl _)⟩⟩
    · cases eg
end
end DL
end

section
set_option Elab.async false
set_option linter.all false
set_option maxRecDepth 100000
/-! DLW2: slices of what is drawn. -/
namespace DL
open PySem PySem.Spec PyProof.Rows L2 KW
open Evl (Ex)
section
variable {K : PySem.W.Frag} {f : Addr}
def wSl (g : D → Option Int → Option Int → Option D) (a : WE) (l u : FO) : WE := fun ρ P => a ρ fun x => ∃ i j d, l ρ = some i ∧ u ρ = some j ∧ g x i j = some d ∧ P d
theorem denw_sl {r : V → Option Int → Option Int → Hp → VK → Prop} {g : D → Option Int → Option Int → Option D} {ta : TE} {wa : WE} {tl th : TO} {fl fh : FO} (hs : SlD K r g) (ha : DenW K f ta wa) (hl : DenO K tl fl) (hh : DenO K th fh) : DenW K f (tSl r ta tl th) (wSl g wa fl fh) := fun s ns B G ρ σ H P Q R m k => by
  refine ha s ns B G ρ σ H _ _ R m fun x px v H1 G1 x1 f1 r1 => ?_
  obtain ⟨i, j, d, e1, e2, e3, p⟩ := px
  have R1 := R.ext x1 f1
  exact hl B G1 ρ σ H1 i _ R1.rel e1 fun H2 G2 x2 => hh B G2 ρ σ H2 j _ (R1.rel.ext x2) e2 fun H3 G3 x3 =>
    hs G3 H3 v x d i j Q x3.gh (r1.mono (x2.gg.trans x3.gg)) e3 fun v' H' G' x4 r4 => k d p v' H' G' (x1.trans ((x2.trans x3).trans x4).w) (f1.ex ((x2.trans x3).trans x4).hh) r4
end
end DL
end

section
set_option Elab.async false
set_option linter.all false
set_option maxRecDepth 100000
/-! DLK: for a, b in t["x"], a dict with tuple keys; a for over what is drawn. -/
namespace DL
open PySem PySem.Spec PyProof.Rows L2 KW
open Evl (Ex)
/-- one of two readings -/
def tOrS (t u : TS) : TS := fun D σ H => t D σ H ∨ u D σ H
theorem _root_.L2.ps_orS {X : Cx} {st : Stmt} {t u : TS} (h : PS X st t) (h' : PS X st u) : PS X st (tOrS t u) := ⟨fun pins s σ H D I hw => by
  rcases hw with hw | hw
  · exact h.run pins s σ H D I hw
  · exact h'.run pins s σ H D I hw⟩
def kD : Key → D
  | .inl i => .int i
  | .inr x => .str x
section
variable {K : PySem.W.Frag} {G H : Hp}
theorem rp_kV : ∀ k : Key, Rp K G (kV k) (kD k)
  | .inl i => .int i
  | .inr x => .str x
theorem rps_kV : ∀ ks : List Key, Rps K G (ks.map kV) (ks.map kD)
  | [] => .nil
  | k :: ks => .cons (rp_kV k) (rps_kV ks)
/-- a tree, or a tuple of trees that is laid elsewhere -/
def RpH (K : PySem.W.Frag) (G H : Hp) (v : V) (d : D) : Prop := Rp K G v d ∨ ∃ a xs ds, v = .ref a ∧ d = .tup ds ∧ H a = some (.tup xs) ∧ Rps K G xs ds
def DenGH (K : PySem.W.Frag) (g : TG) (m : D → En → Option En) : Prop := ∀ (B G : Hp) (ρ ρ' : En) (σ : L2.St) (H : Hp) (v : V) (d : D) (Q : L2.St → Hp → Prop), Rel K B G ρ σ H → RpH K G H v d → m d ρ = some ρ' → (∀ σ', Rel K B G ρ' σ' H → Q σ' H) → g v σ H Q
theorem den_gTupH {n : Nat} {gs : TGs} {ms : List D → En → Option En} (hs : DenGs K gs ms) : DenGH K (gTup K n gs) (mTup n ms) := fun B G ρ ρ' σ H v d Q R r e k => by
  rcases r with r | ⟨a, xs, ds, rfl, rfl, h1, r1⟩
  · exact den_gTup hs B G ρ ρ' σ H v d Q R r e k
  · unfold mTup at e
    simp only at e
    split at e
    · rename_i hn
      exact ⟨a, xs, rfl, .inl (.inl h1), by rw [r1.length, hn], hs B G ρ ρ' σ H xs ds _ R r1 e k⟩
    · cases e
/-! ### a dict locked -/
mutual
theorem Rp.lock {p : Addr} {od : Obj} {kvs : List (List Key × V)} (hp : G p = some (.dT kvs)) : ∀ {v : V} {d : D}, Rp K G v d → Rp K (upd G p (.frz od (.dT kvs))) v d
  | _, _, .non => .non
  | _, _, .bl b => .bl b
  | _, _, .int i => .int i
  | _, _, .str x => .str x
  | _, _, .lst (a := a) h r => .lst (by rw [upd_ne (fun z => by rw [z, hp] at h; cases h)]; exact h) (Rps.lock hp r)
  | _, _, .tup h r => .tup (by rw [upd_ne (fun z => by rw [z, hp] at h; cases h)]; exact h) (Rps.lock hp r)
  | _, _, .dic h k r => .dic (by rw [upd_ne (fun z => by rw [z, hp] at h; cases h)]; exact h) k (Rps.lock hp r)
  | _, _, .dit (a := a) h k r => .dit (by
      by_cases z : a = p
      · subst z
        rcases h with h | ⟨o, h⟩
        · rw [hp] at h
          cases h
          exact .inr ⟨od, upd_same⟩
        · rw [hp] at h
          cases h
      · rcases h with h | ⟨o, h⟩
        · exact .inl (by rw [upd_ne z]; exact h)
        · exact .inr ⟨o, by rw [upd_ne z]; exact h⟩) k (Rps.lock hp r)
  | _, _, .ins h k r => .ins (by rw [upd_ne (fun z => by rw [z, hp] at h; cases h)]; exact h) k (Rps.lock hp r)
theorem Rps.lock {p : Addr} {od : Obj} {kvs : List (List Key × V)} (hp : G p = some (.dT kvs)) : ∀ {vs : List V} {ds : List D}, Rps K G vs ds → Rps K (upd G p (.frz od (.dT kvs))) vs ds
  | _, _, .nil => .nil
  | _, _, .cons h r => .cons (Rp.lock hp h) (Rps.lock hp r)
end
mutual
theorem Rp.unlock {p : Addr} {od : Obj} {kvs : List (List Key × V)} (hp : G p = some (.frz od (.dT kvs))) : ∀ {v : V} {d : D}, Rp K G v d → Rp K (upd G p (.dT kvs)) v d
  | _, _, .non => .non
  | _, _, .bl b => .bl b
  | _, _, .int i => .int i
  | _, _, .str x => .str x
  | _, _, .lst (a := a) h r => .lst (by rw [upd_ne (fun z => by rw [z, hp] at h; cases h)]; exact h) (Rps.unlock hp r)
  | _, _, .tup h r => .tup (by rw [upd_ne (fun z => by rw [z, hp] at h; cases h)]; exact h) (Rps.unlock hp r)
  | _, _, .dic h k r => .dic (by rw [upd_ne (fun z => by rw [z, hp] at h; cases h)]; exact h) k (Rps.unlock hp r)
  | _, _, .dit (a := a) h k r => .dit (by
      by_cases z : a = p
      · subst z
        rcases h with h | ⟨o, h⟩
        · rw [hp] at h
          cases h
        · rw [hp] at h
          cases h
          exact .inl upd_same
      · rcases h with h | ⟨o, h⟩
        · exact .inl (by rw [upd_ne z]; exact h)
        · exact .inr ⟨o, by rw [upd_ne z]; exact h⟩) k (Rps.unlock hp r)
  | _, _, .ins h k r => .ins (by rw [upd_ne (fun z => by rw [z, hp] at h; cases h)]; exact h) k (Rps.unlock hp r)
theorem Rps.unlock {p : Addr} {od : Obj} {kvs : List (List Key × V)} (hp : G p = some (.frz od (.dT kvs))) : ∀ {vs : List V} {ds : List D}, Rps K G vs ds → Rps K (upd G p (.dT kvs)) vs ds
  | _, _, .nil => .nil
  | _, _, .cons h r => .cons (Rp.unlock hp h) (Rps.unlock hp r)
end
theorem OwnAt.re {G' H' : Hp} {a : Addr} {d : D} (o : OwnAt K G H a d) (g : ∀ vs ds, Rps K G vs ds → Rps K G' vs ds) (h : H' a = H a) : OwnAt K G' H' a d := by
  cases d with
  | lst ds =>
    obtain ⟨xs, e, r⟩ := o
    exact ⟨xs, h.trans e, g _ _ r⟩
  | dic ds =>
    obtain ⟨xs, e, k, r⟩ := o
    exact ⟨xs, h.trans e, k, g _ _ r⟩
  | dit ds =>
    obtain ⟨xs, e, k, r⟩ := o
    exact ⟨xs, h.trans e, k, g _ _ r⟩
  | _ => exact o
/-- the relation over another tree part that says the same, with another base -/
theorem Rel.re {B B' G' H' : Hp} {ρ : En} {σ : L2.St} (R : Rel K B G ρ σ H) (ex : Ex G' H') (g : ∀ v d, Rp K G v d → Rp K G' v d) (gs : ∀ vs ds, Rps K G vs ds → Rps K G' vs ds) (h : ∀ a, G a = none → G' a = none ∧ H' a = H a) (b : ∀ a, B a = none → B' a = none) : Rel K B' G' ρ σ H' where
  ex := ex
  len := R.len
  pur := fun i d e => by
    obtain ⟨v, h1, h2⟩ := R.pur i d e
    exact ⟨v, h1, g _ _ h2⟩
  own := fun i d e => by
    obtain ⟨a, h1, h2, h3, h4⟩ := R.own i d e
    obtain ⟨q1, q2⟩ := h a h2
    exact ⟨a, h1, q1, b a h3, h4.re gs q2⟩
  ptr := R.ptr
  uni := R.uni
/-- a statement while the dict at p is locked -/
theorem lock_den {t : TS} {m : FS} {B G0 : Hp} {ρ : En} {σ : L2.St} {E : Ends} {c : Ctl} {p : Addr} {kvs : List (List Key × V)} (R : Rel K B G ρ σ H) (x : Ext G0 B G H) (hp : G p = some (.dT kvs)) (k : Aft K B G0 E c)
    (h : ∀ (od : Obj) (B1 : Hp) (E1 : Ends), Rel K B1 (upd G p (.frz od (.dT kvs))) ρ σ (upd H p (.frz od (.dT kvs))) → Ext (upd G p (.frz od (.dT kvs))) B1 (upd G p (.frz od (.dT kvs))) (upd H p (.frz od (.dT kvs))) → Aft K B1 (upd G p (.frz od (.dT kvs))) E1 c → t E1 σ (upd H p (.frz od (.dT kvs)))) : tLock t E σ H := by
  refine ⟨p, .dT kvs, R.ex _ _ hp, trivial, fun od => ?_⟩
  let G1 : Hp := upd G p (.frz od (.dT kvs))
  let H1 : Hp := upd H p (.frz od (.dT kvs))
  let B1 : Hp := fun a => if (B a).isSome = true then H1 a else none
  have ex1 : Ex G1 H1 := fun a o e => by
    by_cases z : a = p
    · subst z
      have e : upd G a (.frz od (.dT kvs)) a = some o := e
      show upd H a (.frz od (.dT kvs)) a = some o
      rw [upd_same] at e ⊢
      exact e
    · have e : upd G p (.frz od (.dT kvs)) a = some o := e
      show upd H p (.frz od (.dT kvs)) a = some o
      rw [upd_ne z] at e ⊢
      exact R.ex _ _ e
  have R1 : Rel K B1 G1 ρ σ H1 := R.re ex1 (fun v d r => r.lock hp) (fun vs ds r => r.lock hp) (fun a ha => by
    have ne : a ≠ p := fun z => by
      rw [z, hp] at ha
      cases ha
    exact ⟨by show upd G p _ a = none; rw [upd_ne ne]; exact ha, by show upd H p _ a = _; rw [upd_ne ne]⟩) (fun a ha => by show (if (B a).isSome = true then _ else none) = none; rw [ha]; rfl)
  have x1 : Ext G1 B1 G1 H1 := ⟨.refl _, ex1, (fun a o e => by
    have e : (if (B a).isSome = true then H1 a else none) = some o := e
    split at e
    · exact e
    · cases e), fun _ _ _ => rfl⟩
  -- back again
  have back : ∀ {G' H' : Hp}, Ext G1 B1 G' H' → H' p = some (.frz od (.dT kvs)) ∧ G' p = some (.frz od (.dT kvs)) ∧ Ext G0 B (upd G' p (.dT kvs)) (upd H' p (.dT kvs)) := fun {G' H'} z => by
    have gp : G' p = some (.frz od (.dT kvs)) := z.gg _ _ upd_same
    refine ⟨z.gh _ _ gp, gp, fun a o e => ?_, fun a o e => ?_, fun a o e => ?_, fun a o e => ?_⟩
    · have e := x.gg _ _ e
      by_cases q : a = p
      · subst q
        rw [hp] at e
        cases e
        exact upd_same
      · rw [upd_ne q]
        exact z.gg _ _ (by show upd G p _ a = _; rw [upd_ne q]; exact e)
    · by_cases q : a = p
      · subst q
        rw [upd_same] at e ⊢
        exact e
      · rw [upd_ne q] at e ⊢
        exact z.gh _ _ e
    · have e1 := x.hh _ _ e
      by_cases q : a = p
      · subst q
        rw [R.ex _ _ hp] at e1
        cases e1
        exact upd_same
      · rw [upd_ne q]
        refine z.hh _ _ ?_
        show (if (B a).isSome = true then upd H p _ a else none) = some o
        rw [e, if_pos (show (some o).isSome = true from rfl), upd_ne q]
        exact e1
    · have e0 := x.fr _ _ e
      by_cases q : a = p
      · subst q
        rw [upd_same, ← e0, hp]
      · rw [upd_ne q, ← e0]
        refine (z.fr a o ?_).trans (by show upd G p _ a = _; rw [upd_ne q])
        show (if (B a).isSome = true then upd H p _ a else none) = some o
        rw [e, if_pos (show (some o).isSome = true from rfl), upd_ne q]
        exact x.hh _ _ e
  have rel : ∀ {ρ' : En} {σ' : L2.St} {G' H' : Hp}, Rel K B1 G' ρ' σ' H' → Ext G1 B1 G' H' → Rel K B (upd G' p (.dT kvs)) ρ' σ' (upd H' p (.dT kvs)) := fun {ρ' σ' G' H'} R' z => by
    obtain ⟨q1, q2, q3⟩ := back z
    refine R'.re q3.gh (fun v d r => r.unlock q2) (fun vs ds r => r.unlock q2) (fun a ha => ?_) (fun a ha => ?_)
    · have ne : a ≠ p := fun z => by
        rw [z, q2] at ha
        cases ha
      exact ⟨by rw [upd_ne ne]; exact ha, by rw [upd_ne ne]⟩
    · cases q : B a with
      | none => rfl
      | some o =>
        have ha : (if (B a).isSome = true then H1 a else none) = none := ha
        rw [q, if_pos (show (some o).isSome = true from rfl)] at ha
        have := x.hh _ _ q
        by_cases qq : a = p
        · subst qq
          have ha : upd H a (.frz od (.dT kvs)) a = none := ha
          rw [upd_same] at ha
          cases ha
        · have ha : upd H p (.frz od (.dT kvs)) a = none := ha
          rw [upd_ne qq, this] at ha
          cases ha
  refine h od B1 _ R1 x1 ?_
  cases c with
  | nx ρ' => exact fun σ' H' G' R' z => ⟨(back z).1, k σ' _ _ (rel R' z) (back z).2.2⟩
  | bk ρ' => exact fun σ' H' G' R' z => ⟨(back z).1, k σ' _ _ (rel R' z) (back z).2.2⟩
  | ct ρ' => exact fun σ' H' G' R' z => ⟨(back z).1, k σ' _ _ (rel R' z) (back z).2.2⟩
  | rt d => exact fun v H' G' z r => ⟨(back z).1, k v _ _ (back z).2.2 (r.unlock (back z).2.1)⟩
/-! ### the walk -/
def kysOf : D → Option (List D)
  | .dit kvs => some (kvs.map fun kv => .tup (kv.1.map kD))
  | _ => none
def iDT (fa : FE) : FA := fun ρ => (fa ρ).bind kysOf
/-- t["x"]: the very address -/
theorem dget_at {B : Hp} {ρ : En} {σ : L2.St} {i : Nat} {z : Str} {ds : List (List Key × D)} (R : Rel K B G ρ σ H) (e : fOp gDGet (fVar i) (fC (.str z)) ρ = some (.dit ds)) :
    ∃ (a b : Addr) (kvs : List (Key × V)) (kts : List (List Key × V)), σ[i]? = some (some (.ref a)) ∧ G a = some (.dK kvs) ∧ valV kvs (.inr z) = some (.ref b) ∧ Rd G b (.dT kts) ∧ kts.map (·.1) = ds.map (·.1) := by
  obtain ⟨x, e1, e2⟩ := some_bind e
  obtain ⟨y, e3, e4⟩ := some_bind e2
  cases e3
  unfold fVar at e1
  split at e1
  · rename_i d' h
    cases e1
    obtain ⟨v, h1, h2⟩ := R.pur i _ h
    cases h2 <;> first
      | (unfold gDGet dgetD at e4; cases e4; done)
      | skip
    rename_i a kvs es q1 q2 q3
    have e4 : (some (valD es (Sum.inr z : Key))).bind id = some (.dit ds) := e4
    rcases val_rp (k := (Sum.inr z : Key)) q2 q3 with ⟨w1, w2⟩ | ⟨v, d, w1, w2, w3⟩
    · rw [w1] at e4
      cases e4
    · rw [w1] at e4
      cases e4
      cases w3
      rename_i b kts r1 r2 r3
      exact ⟨a, b, kvs, kts, h1, q1, w2, r1, r2⟩
  · cases e1
theorem for_keys {i : Nat} {z : Str} {g : TG} {m : D → En → Option En} {tb : TS} {mb : FS} (hg : DenGH K g m) (hb : DenS K tb mb) {B G0 : Hp} {ρ : En} {σ : L2.St} {E : Ends} {c : Ctl} {a b : Addr} {kvs : List (Key × V)} {kts : List (List Key × V)} {ds : List (List Key × D)} {od : Obj} (R : Rel K B G ρ σ H) (x : Ext G0 B G H)
    (h1 : σ[i]? = some (some (.ref a))) (h2 : G a = some (.dK kvs)) (h3 : valV kvs (.inr z) = some (.ref b)) (h4 : G b = some (.frz od (.dT kts))) (h5 : kts.map (·.1) = ds.map (·.1)) (e : forM m mb (ds.map fun kv => .tup (kv.1.map kD)) ρ = some c) (k : Aft K B G0 E c) : tFor (iKeys (tDGet (tVar i) (tC (.str z)))) g tb E σ H := by
  refine ⟨_, h1, a, _, rfl, (by rw [← h3]; exact DGet.k (k := .inr z) (R.ex _ _ h2)), b, od, rfl, .inr ⟨kts, R.ex _ _ h4, ?_⟩⟩
  have hl : kts.length = (ds.map fun kv => D.tup (kv.1.map kD)).length := by
    have := congrArg List.length h5
    rw [List.length_map, List.length_map] at this
    rw [List.length_map, this]
  refine for_it (walk_keysT (d := b) (o := od) (kvs := kts)) (fun i σ' H' => ∃ ρ' G', Rel K B G' ρ' σ' H' ∧ Ext G0 B G' H' ∧ Ex G G' ∧ forM m mb ((ds.map fun kv => D.tup (kv.1.map kD)).drop i) ρ' = some c) ⟨ρ, G, R, x, .refl _, e⟩ ?_ ?_ ?_
  · rintro i σ' H' _ ⟨ρ', G', R', x', g', _⟩
    exact R'.ex _ _ (g' _ _ h4)
  · rintro i v σ' H2 H3 hi ⟨ρ', G', R', x', g', e'⟩ ⟨rfl, kk, w, q, y1, rfl, y2⟩
    obtain ⟨kd, dd, z1⟩ : ∃ kd dd, ds[i]? = some (kd, dd) := by
      have : i < ds.length := by rw [List.length_map] at hl; omega
      exact ⟨_, _, List.getElem?_eq_getElem this⟩
    have kk_eq : kk = kd := by
      have := congrArg (fun l : List (List Key) => l[i]?) h5
      simp only [List.getElem?_map, y1, z1] at this
      injection this
    subst kk_eq
    have ed : (ds.map fun kv => D.tup (kv.1.map kD)).drop i = D.tup (kk.map kD) :: (ds.map fun kv => D.tup (kv.1.map kD)).drop (i + 1) := by
      have e4 : (ds.map fun kv => D.tup (kv.1.map kD))[i]? = some (D.tup (kk.map kD)) := by
        rw [List.getElem?_map, z1]
        rfl
      obtain ⟨q1, q2⟩ := List.getElem?_eq_some_iff.mp e4
      rw [List.drop_eq_getElem_cons q1, q2]
    rw [ed] at e'
    unfold forM at e'
    obtain ⟨ρ1, m1, e'⟩ := some_bind e'
    obtain ⟨c1, b1, e'⟩ := some_bind e'
    refine hg B G' ρ' ρ1 σ' _ _ _ _ R' (.inr ⟨q, _, _, rfl, rfl, y2, rps_kV kk⟩) m1 fun σ2 R2 => ?_
    have back : ∀ G2 H2, Ext G' B G2 H2 → Ext G0 B G2 H2 := fun G2 H2 z => ⟨x'.gg.trans z.gg, z.gh, z.hh, fun a o h => (z.fr a o h).trans (x'.fr a o h)⟩
    refine hb B G' G' ρ1 σ2 _ _ c1 R2 ⟨.refl _, x'.gh, x'.hh, fun _ _ _ => rfl⟩ b1 ?_
    cases c1 with
    | nx ρ2 => exact fun σ5 H5 G5 R5 x5 => ⟨ρ2, G5, R5, back _ _ x5, g'.trans x5.gg, e'⟩
    | ct ρ2 => exact fun σ5 H5 G5 R5 x5 => ⟨ρ2, G5, R5, back _ _ x5, g'.trans x5.gg, e'⟩
    | rt d =>
      cases e'
      exact fun v H5 G5 x5 r5 => k v H5 G5 (back _ _ x5) r5
    | bk ρ2 =>
      cases e'
      exact fun σ5 H5 G5 R5 x5 => k σ5 H5 G5 R5 (back _ _ x5)
  · rintro σ' H' ⟨ρ', G', R', x', g', e'⟩
    rw [hl, List.drop_length] at e'
    cases e'
    exact k σ' H' G' R' x'
theorem den_forDT {i : Nat} {z : Str} {g : TG} {m : D → En → Option En} {tb : TS} {mb : FS} (hg : DenGH K g m) (hb : DenS K tb mb) : DenS K (tOrS (tLock (tFor (iKeys (tDGet (tVar i) (tC (.str z)))) g tb)) (tFor (iKeys (tDGet (tVar i) (tC (.str z)))) g tb)) (sFor (iDT (fOp gDGet (fVar i) (fC (.str z)))) m mb) := fun B G0 G ρ σ H E c R x e k => by
  obtain ⟨L, e1, e⟩ := some_bind e
  obtain ⟨d, e2, e1⟩ := some_bind e1
  unfold kysOf at e1
  split at e1
  · rename_i ds
    cases e1
    obtain ⟨a, b, kvs, kts, h1, h2, h3, h4, h5⟩ := dget_at R e2
    rcases h4 with h4 | ⟨od, h4⟩
    · refine .inl (lock_den (m := sNever) R x h4 k fun od B1 E1 R1 x1 k1 => ?_)
      have ne : a ≠ b := fun z => by
        rw [z, h4] at h2
        cases h2
      exact for_keys (od := od) hg hb R1 x1 h1 (by rw [upd_ne ne]; exact h2) h3 upd_same h5 e k1
    · exact .inr (for_keys (od := od) hg hb R x h1 h2 h3 h4 h5 e k)
  · cases e1
end
/-! ### a for over a list that is drawn -/
section
variable {K : PySem.W.Frag} {f : Addr}
def DenWI (K : PySem.W.Frag) (f : Addr) (wi : TI) (m : WA) : Prop := ∀ (s : Addr) (ns : List Int) (B G : Hp) (ρ : En) (σ : L2.St) (H : Hp) (P : List D → Prop) (R : It → Hp → Prop), RelW K f s ns B G ρ σ H → m ρ P → (∀ ds, P ds → ∀ J H1 G1, ExtW f G H G1 H1 → Flo H1 f s ns → Src K J G1 ds → R J H1) → wi σ H R
def wiL (a : WE) : WA := fun ρ P => a ρ fun d => ∃ ds, d = .lst ds ∧ P ds
theorem denw_iL {ta : TE} {wa : WE} (ha : DenW K f ta wa) : DenWI K f (iList K ta) (wiL wa) := fun s ns B G ρ σ H P R Re m k =>
  ha s ns B G ρ σ H _ _ Re m fun d ⟨ds, e, p⟩ v H1 G1 x1 f1 r1 => by
    subst e
    cases r1
    rename_i a xs h1 r1
    exact ⟨a, rfl, ⟨xs, .inl (.inl (x1.gh _ _ h1))⟩, k ds p _ H1 G1 x1 f1 (src_at (walk_list (K := K)) (fun H h => .inl (.inl (h _ _ h1))) r1)⟩
def wForW (wl : WA) (m : D → En → Option En) (mb : WS) : WS := fun ρ P => wl ρ fun ds => wForL m mb ds ρ P
theorem denw_forW {wi : TI} {wl : WA} {g : TG} {m : D → En → Option En} {tb : TS} {mb : WS} (hi : DenWI K f wi wl) (hg : DenG K g m) (hb : DenWS K f tb mb) : DenWS K f (tFor wi g tb) (wForW wl m mb) := fun s ns B G0 G ρ σ H E P R x e k => by
  refine hi s ns B G ρ σ H _ _ R e fun ds e J H1 G1 x1 f1 src => ?_
  refine for_it src (fun i σ' H' => ∃ ρ' G', RelW K f s ns B G' ρ' σ' H' ∧ ExtW f G0 B G' H' ∧ Ex G1 G' ∧ wForL m mb (ds.drop i) ρ' P) ⟨ρ, G1, R.ext x1 f1, x.trans x1, .refl _, e⟩ ?_ ?_ ?_
  · rintro i σ' H' _ ⟨ρ', G', R', x', g', _⟩
    exact g'.trans R'.rel.ex
  · rintro i v σ' H2 H3 hi ⟨ρ', G', R', x', g', e'⟩ ⟨d, e4, y⟩
    obtain ⟨G3, x3, r3⟩ := y G' g' R'.rel.ex
    have ed : ds.drop i = d :: ds.drop (i + 1) := by
      obtain ⟨h1, h2⟩ := List.getElem?_eq_some_iff.mp e4
      rw [List.drop_eq_getElem_cons h1, h2]
    rw [ed] at e'
    obtain ⟨ρ1, m1, e'⟩ := e'
    have R3 := R'.extP x3
    refine hg B G3 ρ' ρ1 σ' H3 v d _ R3.rel r3 m1 fun σ2 R2 => ?_
    have g3 : Ex G1 G3 := g'.trans x3.gg
    have x4 := x'.trans x3.w
    have back : ∀ G' H', ExtW f G3 B G' H' → ExtW f G0 B G' H' := fun G' H' z => ⟨x4.gg.trans z.gg, z.gh, z.hh, fun a o h => (z.fr a o h).trans (x4.fr a o h), z.up⟩
    refine hb s ns B G3 G3 ρ1 σ2 H3 _ _ ⟨R2, R3.flo, R3.gf, R3.bf, R3.bs⟩ ⟨.refl _, x4.gh, x4.hh, fun _ _ _ => rfl, x4.up⟩ e' fun c pc => ?_
    cases c with
    | nx ρ2 => exact fun σ5 H5 G5 R5 x5 => ⟨ρ2, G5, R5, back _ _ x5, g3.trans x5.gg, pc⟩
    | ct ρ2 => exact fun σ5 H5 G5 R5 x5 => ⟨ρ2, G5, R5, back _ _ x5, g3.trans x5.gg, pc⟩
    | rt d => exact fun v H5 G5 x5 f5 r5 => k _ pc v H5 G5 (back _ _ x5) f5 r5
    | bk ρ2 => exact fun σ5 H5 G5 R5 x5 => k _ pc σ5 H5 G5 R5 (back _ _ x5)
  · rintro σ' H' ⟨ρ', G', R', x', g', e'⟩
    rw [List.drop_length] at e'
    exact k _ e' σ' H' G' R' x'
end
end DL
end

section
set_option Elab.async false
set_option linter.all false
set_option maxRecDepth 100000
namespace KK
open PySem PySem.Spec PyProof.Rows L2 KW DL

def topS (i : Nat) : Stmt := PySem.Challenge.pw_kindweft_k05_tables_alike.main.body.getD i (.Pass ⟨0, 0, 0, 0⟩)
structure Bl (mg : Str → Option Value) : Prop where
  m_len : mg "len" = none
  m_abs : mg "abs" = none
  m_range : mg "range" = none
  m_set : mg "set" = none
  m_list : mg "list" = none
  m_sorted : mg "sorted" = none
  m_int : mg "int" = none
  m_tuple : mg "tuple" = none
  m_dict : mg "dict" = none
  m_zip : mg "zip" = none
  m_all : mg "all" = none
  m_any : mg "any" = none
  m_isinstance : mg "isinstance" = none
  m_bool : mg "bool" = none
  m_str : mg "str" = none
  m_enumerate : mg "enumerate" = none
abbrev s_isname : Stmt := topS 11
abbrev n_isname : List Str := ["word", "sign"]
abbrev p_isname : List Str := ["word"]
theorem sc_isname : FnScope n_isname p_isname (defScope s_isname) := ⟨rfl, rfl, rfl, by decide +kernel, rfl, by decide +kernel, by decide +kernel⟩

abbrev s_arek : Stmt := topS 12
abbrev n_arek : List Str := ["names", "name"]
abbrev p_arek : List Str := ["names"]
theorem sc_arek : FnScope n_arek p_arek (defScope s_arek) := ⟨rfl, rfl, rfl, by decide +kernel, rfl, by decide +kernel, by decide +kernel⟩

abbrev s_setof : Stmt := topS 14
abbrev n_setof : List Str := ["places", "held", "place"]
abbrev p_setof : List Str := ["places"]
theorem sc_setof : FnScope n_setof p_setof (defScope s_setof) := ⟨rfl, rfl, rfl, by decide +kernel, rfl, by decide +kernel, by decide +kernel⟩

abbrev s_plin : Stmt := topS 15
abbrev n_plin : List Str := ["held", "place"]
abbrev p_plin : List Str := ["held"]
theorem sc_plin : FnScope n_plin p_plin (defScope s_plin) := ⟨rfl, rfl, rfl, by decide +kernel, rfl, by decide +kernel, by decide +kernel⟩

abbrev s_unat : Stmt := topS 16
abbrev n_unat : List Str := ["rows", "held", "union", "place"]
abbrev p_unat : List Str := ["rows", "held"]
theorem sc_unat : FnScope n_unat p_unat (defScope s_unat) := ⟨rfl, rfl, rfl, by decide +kernel, rfl, by decide +kernel, by decide +kernel⟩

abbrev s_fback : Stmt := topS 19
abbrev n_fback : List Str := ["backs", "one", "back"]
abbrev p_fback : List Str := ["backs"]
theorem sc_fback : FnScope n_fback p_fback (defScope s_fback) := ⟨rfl, rfl, rfl, by decide +kernel, rfl, by decide +kernel, by decide +kernel⟩

abbrev s_fown : Stmt := topS 20
abbrev n_fown : List Str := ["same", "backs"]
abbrev p_fown : List Str := ["same", "backs"]
theorem sc_fown : FnScope n_fown p_fown (defScope s_fown) := ⟨rfl, rfl, rfl, by decide +kernel, rfl, by decide +kernel, by decide +kernel⟩

abbrev s_fsame : Stmt := topS 21
abbrev n_fsame : List Str := ["same", "grid", "one"]
abbrev p_fsame : List Str := ["same", "grid"]
theorem sc_fsame : FnScope n_fsame p_fsame (defScope s_fsame) := ⟨rfl, rfl, rfl, by decide +kernel, rfl, by decide +kernel, by decide +kernel⟩

abbrev s_fturn : Stmt := topS 22
abbrev n_fturn : List Str := ["backs", "grid", "places", "one", "other", "third", "told", "first", "second"]
abbrev p_fturn : List Str := ["backs", "grid"]
theorem sc_fturn : FnScope n_fturn p_fturn (defScope s_fturn) := ⟨rfl, rfl, rfl, by decide +kernel, rfl, by decide +kernel, by decide +kernel⟩

abbrev s_frow : Stmt := topS 23
abbrev n_frow : List Str := ["grid", "steps", "places", "one", "other", "row", "third", "held", "left", "right", "place"]
abbrev p_frow : List Str := ["grid"]
theorem sc_frow : FnScope n_frow p_frow (defScope s_frow) := ⟨rfl, rfl, rfl, by decide +kernel, rfl, by decide +kernel, by decide +kernel⟩

abbrev s_ffirst : Stmt := topS 18
abbrev n_ffirst : List Str := ["same", "backs", "grid"]
abbrev p_ffirst : List Str := ["same", "backs", "grid"]
theorem sc_ffirst : FnScope n_ffirst p_ffirst (defScope s_ffirst) := ⟨rfl, rfl, rfl, by decide +kernel, rfl, by decide +kernel, by decide +kernel⟩

abbrev s_nfault : Stmt := topS 25
abbrev n_nfault : List Str := ["names", "broken", "word", "places", "place"]
abbrev p_nfault : List Str := ["names", "broken"]
theorem sc_nfault : FnScope n_nfault p_nfault (defScope s_nfault) := ⟨rfl, rfl, rfl, by decide +kernel, rfl, by decide +kernel, by decide +kernel⟩

abbrev s_pbn : Stmt := topS 27
abbrev n_pbn : List Str := ["names", "place", "name"]
abbrev p_pbn : List Str := ["names"]
theorem sc_pbn : FnScope n_pbn p_pbn (defScope s_pbn) := ⟨rfl, rfl, rfl, by decide +kernel, rfl, by decide +kernel, by decide +kernel⟩

abbrev s_iskind : Stmt := topS 28
abbrev n_iskind : List Str := ["word", "places"]
abbrev p_iskind : List Str := ["word", "places"]
theorem sc_iskind : FnScope n_iskind p_iskind (defScope s_iskind) := ⟨rfl, rfl, rfl, by decide +kernel, rfl, by decide +kernel, by decide +kernel⟩

abbrev s_islist : Stmt := topS 29
abbrev n_islist : List Str := ["things", "size"]
abbrev p_islist : List Str := ["things", "size"]
theorem sc_islist : FnScope n_islist p_islist (defScope s_islist) := ⟨rfl, rfl, rfl, by decide +kernel, rfl, by decide +kernel, by decide +kernel⟩

abbrev s_allk : Stmt := topS 30
abbrev n_allk : List Str := ["words", "places", "word"]
abbrev p_allk : List Str := ["words", "places"]
theorem sc_allk : FnScope n_allk p_allk (defScope s_allk) := ⟨rfl, rfl, rfl, by decide +kernel, rfl, by decide +kernel, by decide +kernel⟩

abbrev s_issq : Stmt := topS 31
abbrev n_issq : List Str := ["steps", "places", "size", "row", "step"]
abbrev p_issq : List Str := ["steps", "places"]
theorem sc_issq : FnScope n_issq p_issq (defScope s_issq) := ⟨rfl, rfl, rfl, by decide +kernel, rfl, by decide +kernel, by decide +kernel⟩

abbrev s_placed : Stmt := topS 26
abbrev n_placed : List Str := ["names", "same", "backs", "steps", "places", "turns", "grid", "name", "row", "step"]
abbrev p_placed : List Str := ["names", "same", "backs", "steps"]
theorem sc_placed : FnScope n_placed p_placed (defScope s_placed) := ⟨rfl, rfl, rfl, by decide +kernel, rfl, by decide +kernel, by decide +kernel⟩

abbrev s_place : Stmt := inClass (topS 32) 7
abbrev n_place : List Str := ["self", "kind"]
abbrev p_place : List Str := ["self", "kind"]
theorem sc_place : FnScope n_place p_place (defScope s_place) := ⟨rfl, rfl, rfl, by decide +kernel, rfl, by decide +kernel, by decide +kernel⟩

abbrev s_listed : Stmt := inClass (topS 32) 9
abbrev n_listed : List Str := ["self", "held", "place", "name"]
abbrev p_listed : List Str := ["self", "held"]
theorem sc_listed : FnScope n_listed p_listed (defScope s_listed) := ⟨rfl, rfl, rfl, by decide +kernel, rfl, by decide +kernel, by decide +kernel⟩

abbrev s_gath : Stmt := inClass (topS 32) 8
abbrev n_gath : List Str := ["self", "kinds", "kind"]
abbrev p_gath : List Str := ["self", "kinds"]
theorem sc_gath : FnScope n_gath p_gath (defScope s_gath) := ⟨rfl, rfl, rfl, by decide +kernel, rfl, by decide +kernel, by decide +kernel⟩

abbrev s_tkinds : Stmt := inClass (topS 32) 1
abbrev n_tkinds : List Str := ["self"]
abbrev p_tkinds : List Str := ["self"]
theorem sc_tkinds : FnScope n_tkinds p_tkinds (defScope s_tkinds) := ⟨rfl, rfl, rfl, by decide +kernel, rfl, by decide +kernel, by decide +kernel⟩

abbrev s_tbacks : Stmt := inClass (topS 32) 5
abbrev n_tbacks : List Str := ["self", "ones", "kind"]
abbrev p_tbacks : List Str := ["self", "ones"]
theorem sc_tbacks : FnScope n_tbacks p_tbacks (defScope s_tbacks) := ⟨rfl, rfl, rfl, by decide +kernel, rfl, by decide +kernel, by decide +kernel⟩

abbrev s_tsteps : Stmt := inClass (topS 32) 4
abbrev n_tsteps : List Str := ["self", "ones", "others", "first", "second", "row"]
abbrev p_tsteps : List Str := ["self", "ones", "others"]
theorem sc_tsteps : FnScope n_tsteps p_tsteps (defScope s_tsteps) := ⟨rfl, rfl, rfl, by decide +kernel, rfl, by decide +kernel, by decide +kernel⟩

abbrev s_shares : Stmt := topS 39
abbrev n_shares : List Str := ["_law_one", "_law_other", "_law_k", "_law_rest"]
abbrev p_shares : List Str := ["_law_one", "_law_other"]
theorem sc_shares : FnScope n_shares p_shares (defScope s_shares) := ⟨rfl, rfl, rfl, by decide +kernel, rfl, by decide +kernel, by decide +kernel⟩

abbrev s_inord : Stmt := topS 35
abbrev n_inord : List Str := ["_law_kinds", "_law_row", "_law_kind"]
abbrev p_inord : List Str := ["_law_kinds", "_law_row"]
theorem sc_inord : FnScope n_inord p_inord (defScope s_inord) := ⟨rfl, rfl, rfl, by decide +kernel, rfl, by decide +kernel, by decide +kernel⟩

abbrev s_ltable : Stmt := topS 36
abbrev n_ltable : List Str := ["_law_kinds", "_law_same_here", "_law_backs", "_law_steps"]
abbrev p_ltable : List Str := ["_law_kinds", "_law_same_here", "_law_backs", "_law_steps"]
theorem sc_ltable : FnScope n_ltable p_ltable (defScope s_ltable) := ⟨rfl, rfl, rfl, by decide +kernel, rfl, by decide +kernel, by decide +kernel⟩

abbrev s_lkof : Stmt := topS 43
abbrev n_lkof : List Str := ["_law_word", "_law_first"]
abbrev p_lkof : List Str := ["_law_word"]
theorem sc_lkof : FnScope n_lkof p_lkof (defScope s_lkof) := ⟨rfl, rfl, rfl, by decide +kernel, rfl, by decide +kernel, by decide +kernel⟩

abbrev s_lsign : Stmt := topS 47
abbrev n_lsign : List Str := ["_law_one", "_law_other"]
abbrev p_lsign : List Str := ["_law_one", "_law_other"]
theorem sc_lsign : FnScope n_lsign p_lsign (defScope s_lsign) := ⟨rfl, rfl, rfl, by decide +kernel, rfl, by decide +kernel, by decide +kernel⟩

abbrev s_lpar : Stmt := topS 48
abbrev n_lpar : List Str := ["_law_one", "_law_other"]
abbrev p_lpar : List Str := ["_law_one", "_law_other"]
theorem sc_lpar : FnScope n_lpar p_lpar (defScope s_lpar) := ⟨rfl, rfl, rfl, by decide +kernel, rfl, by decide +kernel, by decide +kernel⟩

abbrev s_lstr : Stmt := topS 49
abbrev n_lstr : List Str := ["_law_one", "_law_other", "_law_a", "_law_b", "_law_c", "_law_d"]
abbrev p_lstr : List Str := ["_law_one", "_law_other"]
theorem sc_lstr : FnScope n_lstr p_lstr (defScope s_lstr) := ⟨rfl, rfl, rfl, by decide +kernel, rfl, by decide +kernel, by decide +kernel⟩

abbrev s_lkind : Stmt := topS 50
abbrev n_lkind : List Str := ["_law_word", "_law_one", "_law_other", "_law_across", "_law_up"]
abbrev p_lkind : List Str := ["_law_word", "_law_one", "_law_other"]
theorem sc_lkind : FnScope n_lkind p_lkind (defScope s_lkind) := ⟨rfl, rfl, rfl, by decide +kernel, rfl, by decide +kernel, by decide +kernel⟩

abbrev s_lthings : Stmt := topS 45
abbrev n_lthings : List Str := ["_law_word", "_law_found", "_law_high", "_law_k", "_law_mark", "_law_low"]
abbrev p_lthings : List Str := ["_law_word"]
theorem sc_lthings : FnScope n_lthings p_lthings (defScope s_lthings) := ⟨rfl, rfl, rfl, by decide +kernel, rfl, by decide +kernel, by decide +kernel⟩

abbrev s_ltrip : Stmt := topS 46
abbrev n_ltrip : List Str := ["_law_word", "_law_some", "_law_found", "_law_one", "_law_shape", "_law_other", "_law_marks", "_law_sets", "_law_mark", "_law_at", "_law_third"]
abbrev p_ltrip : List Str := ["_law_word"]
theorem sc_ltrip : FnScope n_ltrip p_ltrip (defScope s_ltrip) := ⟨rfl, rfl, rfl, by decide +kernel, rfl, by decide +kernel, by decide +kernel⟩

abbrev s_llines : Stmt := topS 53
abbrev n_llines : List Str := ["_law_t", "_law_one", "_law_other"]
abbrev p_llines : List Str := ["_law_t"]
theorem sc_llines : FnScope n_llines p_llines (defScope s_llines) := ⟨rfl, rfl, rfl, by decide +kernel, rfl, by decide +kernel, by decide +kernel⟩

abbrev s_lhand : Stmt := topS 54
abbrev n_lhand : List Str := ["_law_t", "_law_one"]
abbrev p_lhand : List Str := ["_law_t"]
theorem sc_lhand : FnScope n_lhand p_lhand (defScope s_lhand) := ⟨rfl, rfl, rfl, by decide +kernel, rfl, by decide +kernel, by decide +kernel⟩

abbrev s_draw : Stmt := topS 38
abbrev n_draw : List Str := ["_law_flow_here", "_law_size", "_law_cell", "_law_here", "_law_mixed", "_law_found"]
abbrev p_draw : List Str := ["_law_flow_here", "_law_size"]
theorem sc_draw : FnScope n_draw p_draw (defScope s_draw) := ⟨rfl, rfl, rfl, by decide +kernel, rfl, by decide +kernel, by decide +kernel⟩

abbrev s_lwords : Stmt := topS 40
abbrev n_lwords : List Str := ["_law_flow_here", "_law_many", "_law_stem", "_law_letters", "_law_first", "_law_step", "_law_at", "_law_k"]
abbrev p_lwords : List Str := ["_law_flow_here", "_law_many"]
theorem sc_lwords : FnScope n_lwords p_lwords (defScope s_lwords) := ⟨rfl, rfl, rfl, by decide +kernel, rfl, by decide +kernel, by decide +kernel⟩

abbrev s_lringof : Stmt := topS 41
abbrev n_lringof : List Str := ["_law_flow_here", "_law_size", "_law_units", "_law_classes", "_law_k", "_law_called", "_law_steps", "_law_at", "_law_backs", "_law_block", "_law_to", "_law_sums", "_law_hit", "_law_unit", "_law_one"]
abbrev p_lringof : List Str := ["_law_flow_here", "_law_size"]
theorem sc_lringof : FnScope n_lringof p_lringof (defScope s_lringof) := ⟨rfl, rfl, rfl, by decide +kernel, rfl, by decide +kernel, by decide +kernel⟩

abbrev s_lring : Stmt := topS 42
abbrev n_lring : List Str := ["_law_flow_here"]
abbrev p_lring : List Str := ["_law_flow_here"]
theorem sc_lring : FnScope n_lring p_lring (defScope s_lring) := ⟨rfl, rfl, rfl, by decide +kernel, rfl, by decide +kernel, by decide +kernel⟩

abbrev s_tinit : Stmt := inClass (topS 32) 0
abbrev n_tinit : List Str := ["self", "names", "same", "backs", "steps", "broken", "home", "turns", "grid"]
abbrev p_tinit : List Str := ["self", "names", "same", "backs", "steps"]
theorem sc_tinit : FnScope n_tinit p_tinit (defScope s_tinit) := ⟨rfl, rfl, rfl, by decide +kernel, rfl, by decide +kernel, by decide +kernel⟩

abbrev s_tback : Stmt := inClass (topS 32) 2
abbrev n_tback : List Str := ["self", "kind"]
abbrev p_tback : List Str := ["self", "kind"]
theorem sc_tback : FnScope n_tback p_tback (defScope s_tback) := ⟨rfl, rfl, rfl, by decide +kernel, rfl, by decide +kernel, by decide +kernel⟩

abbrev s_tstep : Stmt := inClass (topS 32) 3
abbrev n_tstep : List Str := ["self", "one", "other", "first", "second"]
abbrev p_tstep : List Str := ["self", "one", "other"]
theorem sc_tstep : FnScope n_tstep p_tstep (defScope s_tstep) := ⟨rfl, rfl, rfl, by decide +kernel, rfl, by decide +kernel, by decide +kernel⟩

abbrev s_teq : Stmt := inClass (topS 32) 11
abbrev n_teq : List Str := ["self", "other"]
abbrev p_teq : List Str := ["self", "other"]
theorem sc_teq : FnScope n_teq p_teq (defScope s_teq) := ⟨rfl, rfl, rfl, by decide +kernel, rfl, by decide +kernel, by decide +kernel⟩

abbrev s_trows : Stmt := topS 33
abbrev n_trows : List Str := ["table", "names", "heads", "backs", "steps", "name", "one", "other"]
abbrev p_trows : List Str := ["table"]
theorem sc_trows : FnScope n_trows p_trows (defScope s_trows) := ⟨rfl, rfl, rfl, by decide +kernel, rfl, by decide +kernel, by decide +kernel⟩

abbrev s_tstr : Stmt := inClass (topS 32) 13
abbrev n_tstr : List Str := ["self"]
abbrev p_tstr : List Str := ["self"]
theorem sc_tstr : FnScope n_tstr p_tstr (defScope s_tstr) := ⟨rfl, rfl, rfl, by decide +kernel, rfl, by decide +kernel, by decide +kernel⟩

abbrev s_lmade : Stmt := topS 55
abbrev n_lmade : List Str := ["_law_t", "_law_called", "_law_own", "_law_backs", "_law_steps"]
abbrev p_lmade : List Str := ["_law_t"]
theorem sc_lmade : FnScope n_lmade p_lmade (defScope s_lmade) := ⟨rfl, rfl, rfl, by decide +kernel, rfl, by decide +kernel, by decide +kernel⟩

abbrev s_lsame : Stmt := topS 56
abbrev n_lsame : List Str := ["_law_found", "_law_due", "_law_k"]
abbrev p_lsame : List Str := ["_law_found", "_law_due"]
theorem sc_lsame : FnScope n_lsame p_lsame (defScope s_lsame) := ⟨rfl, rfl, rfl, by decide +kernel, rfl, by decide +kernel, by decide +kernel⟩

abbrev s_lseen : Stmt := topS 51
abbrev n_lseen : List Str := ["_law_word", "_law_kinds", "_law_hits", "_law_backs", "_law_steps", "_law_one", "_law_other", "_law_third", "_law_pair"]
abbrev p_lseen : List Str := ["_law_word"]
theorem sc_lseen : FnScope n_lseen p_lseen (defScope s_lseen) := ⟨rfl, rfl, rfl, by decide +kernel, rfl, by decide +kernel, by decide +kernel⟩

abbrev s_lcour : Stmt := topS 44
abbrev n_lcour : List Str := ["_law_kinds", "_law_way", "_law_pairs", "_law_up", "_law_name_of", "_law_steps", "_law_backs", "_law_a", "_law_b", "_law_c", "_law_d", "_law_line", "_law_left", "_law_across", "_law_right"]
abbrev p_lcour : List Str := ["_law_kinds"]
theorem sc_lcour : FnScope n_lcour p_lcour (defScope s_lcour) := ⟨rfl, rfl, rfl, by decide +kernel, rfl, by decide +kernel, by decide +kernel⟩

abbrev s_lsomet : Stmt := topS 52
abbrev n_lsomet : List Str := ["_law_flow_here"]
abbrev p_lsomet : List Str := ["_law_flow_here"]
theorem sc_lsomet : FnScope n_lsomet p_lsomet (defScope s_lsomet) := ⟨rfl, rfl, rfl, by decide +kernel, rfl, by decide +kernel, by decide +kernel⟩

abbrev s_flow : Stmt := topS 37
abbrev n_flow : List Str := ["_law_script"]
abbrev p_flow : List Str := ["_law_script"]
theorem sc_flow : FnScope n_flow p_flow (defScope s_flow) := ⟨rfl, rfl, rfl, by decide +kernel, rfl, by decide +kernel, by decide +kernel⟩

abbrev s_lreord : Stmt := topS 57
abbrev n_lreord : List Str := ["_law_t", "_law_kinds", "_law_steps", "_law_one", "_law_other"]
abbrev p_lreord : List Str := ["_law_t"]
theorem sc_lreord : FnScope n_lreord p_lreord (defScope s_lreord) := ⟨rfl, rfl, rfl, by decide +kernel, rfl, by decide +kernel, by decide +kernel⟩

abbrev s_lrenam : Stmt := topS 58
abbrev n_lrenam : List Str := ["_law_t", "_law_names", "_law_kinds", "_law_steps", "_law_one", "_law_other", "_law_kind"]
abbrev p_lrenam : List Str := ["_law_t"]
theorem sc_lrenam : FnScope n_lrenam p_lrenam (defScope s_lrenam) := ⟨rfl, rfl, rfl, by decide +kernel, rfl, by decide +kernel, by decide +kernel⟩

abbrev s_law : Stmt := topS 59
abbrev n_law : List Str := ["_law_script", "_law_flow_here", "_law_t", "_law_table_here", "_law_u", "_law_other", "_law_due"]
abbrev p_law : List Str := ["_law_script"]
theorem sc_law : FnScope n_law p_law (defScope s_law) := ⟨rfl, rfl, rfl, by decide +kernel, rfl, by decide +kernel, by decide +kernel⟩

structure Fa (K : PySem.W.Frag) (mg : Str → Option Value) (ad : Nat → Addr) (fd : Nat → FuncData) : Prop where
  F_isname : Fun K "is_name" "is_name" s_isname (ad 11) (fd 11)
  g_isname : mg "is_name" = some (.ref (ad 11))
  b_isname : Binds K (fd 11) p_isname []
  F_arek : Fun K "are_kinds" "are_kinds" s_arek (ad 12) (fd 12)
  g_arek : mg "are_kinds" = some (.ref (ad 12))
  b_arek : Binds K (fd 12) p_arek []
  F_setof : Fun K "set_of" "set_of" s_setof (ad 14) (fd 14)
  g_setof : mg "set_of" = some (.ref (ad 14))
  b_setof : Binds K (fd 14) p_setof []
  F_plin : Fun K "places_in" "places_in" s_plin (ad 15) (fd 15)
  g_plin : mg "places_in" = some (.ref (ad 15))
  b_plin : Binds K (fd 15) p_plin []
  F_unat : Fun K "union_at" "union_at" s_unat (ad 16) (fd 16)
  g_unat : mg "union_at" = some (.ref (ad 16))
  b_unat : Binds K (fd 16) p_unat []
  F_fback : Fun K "back_fault" "back_fault" s_fback (ad 19) (fd 19)
  g_fback : mg "back_fault" = some (.ref (ad 19))
  b_fback : Binds K (fd 19) p_fback []
  F_fown : Fun K "own_fault" "own_fault" s_fown (ad 20) (fd 20)
  g_fown : mg "own_fault" = some (.ref (ad 20))
  b_fown : Binds K (fd 20) p_fown []
  F_fsame : Fun K "same_fault" "same_fault" s_fsame (ad 21) (fd 21)
  g_fsame : mg "same_fault" = some (.ref (ad 21))
  b_fsame : Binds K (fd 21) p_fsame []
  F_fturn : Fun K "turn_fault" "turn_fault" s_fturn (ad 22) (fd 22)
  g_fturn : mg "turn_fault" = some (.ref (ad 22))
  b_fturn : Binds K (fd 22) p_fturn []
  F_frow : Fun K "row_fault" "row_fault" s_frow (ad 23) (fd 23)
  g_frow : mg "row_fault" = some (.ref (ad 23))
  b_frow : Binds K (fd 23) p_frow []
  F_ffirst : Fun K "first_fault" "first_fault" s_ffirst (ad 18) (fd 18)
  g_ffirst : mg "first_fault" = some (.ref (ad 18))
  b_ffirst : Binds K (fd 18) p_ffirst []
  F_nfault : Fun K "named_fault" "named_fault" s_nfault (ad 25) (fd 25)
  g_nfault : mg "named_fault" = some (.ref (ad 25))
  b_nfault : Binds K (fd 25) p_nfault []
  F_pbn : Fun K "places_by_name" "places_by_name" s_pbn (ad 27) (fd 27)
  g_pbn : mg "places_by_name" = some (.ref (ad 27))
  b_pbn : Binds K (fd 27) p_pbn []
  F_iskind : Fun K "is_kind" "is_kind" s_iskind (ad 28) (fd 28)
  g_iskind : mg "is_kind" = some (.ref (ad 28))
  b_iskind : Binds K (fd 28) p_iskind []
  F_islist : Fun K "is_list" "is_list" s_islist (ad 29) (fd 29)
  g_islist : mg "is_list" = some (.ref (ad 29))
  b_islist : Binds K (fd 29) p_islist []
  F_allk : Fun K "are_all_kinds" "are_all_kinds" s_allk (ad 30) (fd 30)
  g_allk : mg "are_all_kinds" = some (.ref (ad 30))
  b_allk : Binds K (fd 30) p_allk []
  F_issq : Fun K "is_square" "is_square" s_issq (ad 31) (fd 31)
  g_issq : mg "is_square" = some (.ref (ad 31))
  b_issq : Binds K (fd 31) p_issq []
  F_placed : Fun K "placed" "placed" s_placed (ad 26) (fd 26)
  g_placed : mg "placed" = some (.ref (ad 26))
  b_placed : Binds K (fd 26) p_placed []
  F_place : Fun K "place" "Table.place" s_place (ad 4207) (fd 4207)
  mt_place : Meth K (ad 9) "place" (ad 4207)
  b_place : Binds K (fd 4207) p_place []
  F_listed : Fun K "listed" "Table.listed" s_listed (ad 4209) (fd 4209)
  mt_listed : Meth K (ad 9) "listed" (ad 4209)
  b_listed : Binds K (fd 4209) p_listed []
  F_gath : Fun K "gathered" "Table.gathered" s_gath (ad 4208) (fd 4208)
  mt_gath : Meth K (ad 9) "gathered" (ad 4208)
  b_gath : Binds K (fd 4208) p_gath []
  F_tkinds : Fun K "kinds" "Table.kinds" s_tkinds (ad 4201) (fd 4201)
  mt_tkinds : Meth K (ad 9) "kinds" (ad 4201)
  b_tkinds : Binds K (fd 4201) p_tkinds []
  F_tbacks : Fun K "backs" "Table.backs" s_tbacks (ad 4205) (fd 4205)
  mt_tbacks : Meth K (ad 9) "backs" (ad 4205)
  b_tbacks : Binds K (fd 4205) p_tbacks []
  F_tsteps : Fun K "steps" "Table.steps" s_tsteps (ad 4204) (fd 4204)
  mt_tsteps : Meth K (ad 9) "steps" (ad 4204)
  b_tsteps : Binds K (fd 4204) p_tsteps []
  F_shares : Fun K "_law_shares" "_law_shares" s_shares (ad 39) (fd 39)
  g_shares : mg "_law_shares" = some (.ref (ad 39))
  b_shares : Binds K (fd 39) p_shares []
  F_inord : Fun K "_law_in_order" "_law_in_order" s_inord (ad 35) (fd 35)
  g_inord : mg "_law_in_order" = some (.ref (ad 35))
  b_inord : Binds K (fd 35) p_inord []
  F_ltable : Fun K "_law_table" "_law_table" s_ltable (ad 36) (fd 36)
  g_ltable : mg "_law_table" = some (.ref (ad 36))
  b_ltable : Binds K (fd 36) p_ltable []
  F_lkof : Fun K "_law_kinds_of" "_law_kinds_of" s_lkof (ad 43) (fd 43)
  g_lkof : mg "_law_kinds_of" = some (.ref (ad 43))
  b_lkof : Binds K (fd 43) p_lkof []
  F_lsign : Fun K "_law_sign" "_law_sign" s_lsign (ad 47) (fd 47)
  g_lsign : mg "_law_sign" = some (.ref (ad 47))
  b_lsign : Binds K (fd 47) p_lsign []
  F_lpar : Fun K "_law_kind_of_parts" "_law_kind_of_parts" s_lpar (ad 48) (fd 48)
  g_lpar : mg "_law_kind_of_parts" = some (.ref (ad 48))
  b_lpar : Binds K (fd 48) p_lpar []
  F_lstr : Fun K "_law_kind_of_stretches" "_law_kind_of_stretches" s_lstr (ad 49) (fd 49)
  g_lstr : mg "_law_kind_of_stretches" = some (.ref (ad 49))
  b_lstr : Binds K (fd 49) p_lstr []
  F_lkind : Fun K "_law_kind_of" "_law_kind_of" s_lkind (ad 50) (fd 50)
  g_lkind : mg "_law_kind_of" = some (.ref (ad 50))
  b_lkind : Binds K (fd 50) p_lkind []
  F_lthings : Fun K "_law_things_of" "_law_things_of" s_lthings (ad 45) (fd 45)
  g_lthings : mg "_law_things_of" = some (.ref (ad 45))
  b_lthings : Binds K (fd 45) p_lthings []
  F_ltrip : Fun K "_law_triples" "_law_triples" s_ltrip (ad 46) (fd 46)
  g_ltrip : mg "_law_triples" = some (.ref (ad 46))
  b_ltrip : Binds K (fd 46) p_ltrip []
  F_llines : Fun K "_law_lines" "_law_lines" s_llines (ad 53) (fd 53)
  g_llines : mg "_law_lines" = some (.ref (ad 53))
  b_llines : Binds K (fd 53) p_llines []
  F_lhand : Fun K "_law_handed" "_law_handed" s_lhand (ad 54) (fd 54)
  g_lhand : mg "_law_handed" = some (.ref (ad 54))
  b_lhand : Binds K (fd 54) p_lhand []
  F_draw : Fun K "_law_draw" "_law_draw" s_draw (ad 38) (fd 38)
  g_draw : mg "_law_draw" = some (.ref (ad 38))
  b_draw : Binds K (fd 38) p_draw []
  F_lwords : Fun K "_law_words" "_law_words" s_lwords (ad 40) (fd 40)
  g_lwords : mg "_law_words" = some (.ref (ad 40))
  b_lwords : Binds K (fd 40) p_lwords []
  F_lringof : Fun K "_law_ring_of" "_law_ring_of" s_lringof (ad 41) (fd 41)
  g_lringof : mg "_law_ring_of" = some (.ref (ad 41))
  b_lringof : Binds K (fd 41) p_lringof []
  F_lring : Fun K "_law_ring" "_law_ring" s_lring (ad 42) (fd 42)
  g_lring : mg "_law_ring" = some (.ref (ad 42))
  b_lring : Binds K (fd 42) p_lring []
  F_tinit : Fun K "__init__" "Table.__init__" s_tinit (ad 4200) (fd 4200)
  mk_Table : Mk K (ad 9) (ad 4200)
  g_Table : mg "Table" = some (.ref (ad 9))
  b_tinit : Binds K (fd 4200) p_tinit []
  F_tback : Fun K "back" "Table.back" s_tback (ad 4202) (fd 4202)
  mt_tback : Meth K (ad 9) "back" (ad 4202)
  b_tback : Binds K (fd 4202) p_tback []
  F_tstep : Fun K "step" "Table.step" s_tstep (ad 4203) (fd 4203)
  mt_tstep : Meth K (ad 9) "step" (ad 4203)
  b_tstep : Binds K (fd 4203) p_tstep []
  F_teq : Fun K "__eq__" "Table.__eq__" s_teq (ad 4211) (fd 4211)
  mt_teq : Meth K (ad 9) "__eq__" (ad 4211)
  b_teq : Binds K (fd 4211) p_teq []
  F_trows : Fun K "table_rows" "table_rows" s_trows (ad 33) (fd 33)
  g_trows : mg "table_rows" = some (.ref (ad 33))
  b_trows : Binds K (fd 33) p_trows []
  F_tstr : Fun K "__str__" "Table.__str__" s_tstr (ad 4213) (fd 4213)
  mt_tstr : Meth K (ad 9) "__str__" (ad 4213)
  b_tstr : Binds K (fd 4213) p_tstr []
  F_lmade : Fun K "_law_made" "_law_made" s_lmade (ad 55) (fd 55)
  g_lmade : mg "_law_made" = some (.ref (ad 55))
  b_lmade : Binds K (fd 55) p_lmade []
  F_lsame : Fun K "_law_same" "_law_same" s_lsame (ad 56) (fd 56)
  g_lsame : mg "_law_same" = some (.ref (ad 56))
  b_lsame : Binds K (fd 56) p_lsame []
  F_lseen : Fun K "_law_seen" "_law_seen" s_lseen (ad 51) (fd 51)
  g_lseen : mg "_law_seen" = some (.ref (ad 51))
  b_lseen : Binds K (fd 51) p_lseen []
  F_lcour : Fun K "_law_seen_courses" "_law_seen_courses" s_lcour (ad 44) (fd 44)
  g_lcour : mg "_law_seen_courses" = some (.ref (ad 44))
  b_lcour : Binds K (fd 44) p_lcour []
  F_lsomet : Fun K "_law_some_table" "_law_some_table" s_lsomet (ad 52) (fd 52)
  g_lsomet : mg "_law_some_table" = some (.ref (ad 52))
  b_lsomet : Binds K (fd 52) p_lsomet []
  F_flow : Fun K "_law_flow" "_law_flow" s_flow (ad 37) (fd 37)
  g_flow : mg "_law_flow" = some (.ref (ad 37))
  b_flow : Binds K (fd 37) p_flow []
  F_lreord : Fun K "_law_reordered" "_law_reordered" s_lreord (ad 57) (fd 57)
  g_lreord : mg "_law_reordered" = some (.ref (ad 57))
  b_lreord : Binds K (fd 57) p_lreord []
  F_lrenam : Fun K "_law_renamed" "_law_renamed" s_lrenam (ad 58) (fd 58)
  g_lrenam : mg "_law_renamed" = some (.ref (ad 58))
  b_lrenam : Binds K (fd 58) p_lrenam []
  F_law : Fun K "law" "law" s_law (ad 59) (fd 59)
  g_law : mg "law" = some (.ref (ad 59))
  b_law : Binds K (fd 59) p_law []
  cl : Cls K (ad 9)
  ins_Table : C8.InsC K (ad 9)
  ne_Table : PySem.W.findIn K (.ref (ad 9)) "__ne__" = some (some (.builtin "object.__ne__"))
  mro_Table : PySem.W.mroIn K (ad 9) (.type "object") = some true
  not_Table : NotC K (ad 9)
  na_names : NoAttr K (ad 9) "names"
  na_places : NoAttr K (ad 9) "places"
  na_same : NoAttr K (ad 9) "same"
  na_turns : NoAttr K (ad 9) "turns"
  na_grid : NoAttr K (ad 9) "grid"
  u_LETTERS : ∃ u, mg "LETTERS" = some u ∧ RelV (.str "abcdefghijklmnopqrstuvwxyz") u
  u_LONGEST : ∃ u, mg "LONGEST" = some u ∧ RelV (.int 8) u
  u_MOST_KINDS : ∃ u, mg "MOST_KINDS" = some u ∧ RelV (.int 13) u
end KK
end

section
set_option Elab.async false
set_option linter.all false
set_option maxRecDepth 100000
namespace KK
open PySem PySem.Spec PyProof.Rows L2 KW DL
section
variable {P : Program} {w : World} {K : PySem.W.Frag} {mg : Str → Option Value} {base : Heap} {ad : Nat → Addr} {fd : Nat → FuncData}
def m_isname : FS :=
  (sSeq (sIf (fOrT (fNotT (fTest (fIsi "str" (fVar 0)))) (fNotT (fTest (fChain gLe gLe (fC (.int 1)) (fCall gLenS (fCons (fVar 0) fNil)) (fC (.int 8)))))) (sRet (fC (.bl false))) sNext)
    (sRet (fCall gAll (fCons (fLc (iS (fVar 0)) (mName 1) (fun _ => some true) (fOp gInS (fVar 1) (fC (.str "abcdefghijklmnopqrstuvwxyz"))) [1]) fNil))))
def fn_isname : List D → Option D := runF n_isname.length (m_isname)
theorem ok_isname (F : Fa K mg ad fd) (T : Bl mg) : FnOk P w K mg base CX0 1 (ad 11) (fd 11) p_isname (spF K 1 (fn_isname)) := by

  exact fn_den F.F_isname sc_isname fun cdv A outer s H E hr => ⟨_, PSs.nox (pss_cons (ps_if (PW.pt (pw_or (pt_not (pt_val (pe_callB call_isi (by rfl) T.m_isinstance (by decide +kernel) (pa_cons (pv 0) (pa_cons (pe_bltn (v := .ty "str") (by rfl) T.m_str (by decide +kernel) rfl) pa_nil))))) (pw_or1 (pt_not (pt_chain op_le op_le pe_int (pe_callB call_len_str (by rfl) T.m_len PySem.boot_len (pa_cons (pv 0) pa_nil)) (by obtain ⟨u, g, r⟩ := F.u_LONGEST; exact pe_glob (v := .int 8) rfl g r)))))) (pss_one (ps_ret pe_bl)) pss_nil)
      (pss_one (ps_ret (pe_callB (cr_all rfl) (by rfl) T.m_all (by decide +kernel) (pa_cons (pe_lc (own := [("sign", 1)]) rfl sc_isname.nd (pi_str (pv 0)) (blkOk_by (N := n_isname) (sc := defScope s_isname) (by decide +kernel)) (fun _ _ _ _ _ => (pg_name (i := 1) sc_isname.nd rfl (by first | exact .inl rfl | exact .inr rfl))) (fun _ _ _ _ _ => pts_nil) (fun _ _ _ _ _ => (pe_cmpR op_inS (pv 1) (by obtain ⟨u, g, r⟩ := F.u_LETTERS; exact pe_glob (v := .str "abcdefghijklmnopqrstuvwxyz") rfl g r) (by rfl)))) pa_nil))))),
    (den_seq (den_ifS (den_orT (den_notT (den_tb (den_isi den_var))) (den_notT (den_test (den_chain opd_le opd_le den_int (den_cb cad_lenS (den_cons den_var den_nil)) den_int)))) (den_ret den_bl) den_next)
      (den_ret (den_cb cad_all (den_cons (den_lc (den_iS den_var) den_gName (own_name (by decide)) den_tYes (den_op opd_inS den_var den_str)) den_nil))))⟩

def m_arek : FS :=
  (sSeq (sIf (fOrT (fNotT (fTest (fIsi "list" (fVar 0)))) (fNotT (fTest (fChain gLe gLe (fC (.int 1)) (fCall gLenQ (fCons (fVar 0) fNil)) (fC (.int 13)))))) (sRet (fC (.bl false))) sNext)
    (sRet (fAndV (fCall gAll (fCons (fLc (iL (fVar 0)) (mName 1) (fun _ => some true) (fCallN 1 (fn_isname) (fCons (fVar 1) fNil)) [1]) fNil)) (fOp gEq (fUn gLenSet (fVar 0)) (fCall gLenQ (fCons (fVar 0) fNil))))))
def fn_arek : List D → Option D := runF n_arek.length (m_arek)
theorem ok_arek (F : Fa K mg ad fd) (T : Bl mg) : FnOk P w K mg base CX0 2 (ad 12) (fd 12) p_arek (spF K 1 (fn_arek)) := by
  have G_isname := ok_isname (P := P) (w := w) (base := base) F T
  exact fn_den F.F_arek sc_arek fun cdv A outer s H E hr => ⟨_, PSs.nox (pss_cons (ps_if (PW.pt (pw_or (pt_not (pt_val (pe_callB call_isi (by rfl) T.m_isinstance (by decide +kernel) (pa_cons (pv 0) (pa_cons (pe_bltn (v := .ty "list") (by rfl) T.m_list (by decide +kernel) rfl) pa_nil))))) (pw_or1 (pt_not (pt_chain op_le op_le pe_int (pe_callB call_len_seq (by rfl) T.m_len PySem.boot_len (pa_cons (pv 0) pa_nil)) (by obtain ⟨u, g, r⟩ := F.u_MOST_KINDS; exact pe_glob (v := .int 13) rfl g r)))))) (pss_one (ps_ret pe_bl)) pss_nil)
      (pss_one (ps_ret (pe_and (pe_callB (cr_all rfl) (by rfl) T.m_all (by decide +kernel) (pa_cons (pe_lc (own := [("name", 1)]) rfl sc_arek.nd (pi_list (pv 0)) (blkOk_by (N := n_arek) (sc := defScope s_arek) (by decide +kernel)) (fun _ _ _ _ _ => (pg_name (i := 1) sc_arek.nd rfl (by first | exact .inl rfl | exact .inr rfl))) (fun _ _ _ _ _ => pts_nil) (fun _ _ _ _ _ => (pe_call G_isname (hr.mono (by decide)) (by rfl) F.g_isname F.F_isname.kp F.b_isname .nil pass0 (pa_cons (pv 1) pa_nil)))) pa_nil)) (pe_one (pe_cmpR (op_EQ hr.units) (pe_callB cr_lenSS (by rfl) T.m_len PySem.boot_len (pa_cons (pe_callTy (cr_setS rfl) (by rfl) T.m_set boot_set (pa_cons (pv 0) pa_nil)) pa_nil)) (pe_callB call_len_seq (by rfl) T.m_len PySem.boot_len (pa_cons (pv 0) pa_nil)) (nomark _))))))),
    (den_seq (den_ifS (den_orT (den_notT (den_tb (den_isi den_var))) (den_notT (den_test (den_chain opd_le opd_le den_int (den_cb cad_lenQ (den_cons den_var den_nil)) den_int)))) (den_ret den_bl) den_next)
      (den_ret (den_andV (den_cb cad_all (den_cons (den_lc (den_iL den_var) den_gName (own_name (by decide)) den_tYes (den_call (den_cons den_var den_nil))) den_nil)) (den_op opd_eq (den_lenSet den_var) (den_cb cad_lenQ (den_cons den_var den_nil))))))⟩

def m_setof : FS :=
  (sSeq (sAsg (fC (.int 0)) (mName 1))
    (sSeq (sFor (iL (fVar 0)) (mName 2) (sAug gOr 1 (fOp gShl (fC (.int 1)) (fVar 2))))
    (sRet (fVar 1))))
def fn_setof : List D → Option D := runF n_setof.length (m_setof)
theorem ok_setof (F : Fa K mg ad fd) (T : Bl mg) : FnOk P w K mg base CX0 1 (ad 14) (fd 14) p_setof (spF K 1 (fn_setof)) := by

  exact fn_den F.F_setof sc_setof fun cdv A outer s H E hr => ⟨_, PSs.nox (pss_cons (ps_set (i := 1) sc_setof.nd rfl (by first | exact .inl rfl | exact .inr rfl) pe_int)
      (pss_cons (ps_for PassesOwn.never rfl (pi_list (pv 0)) (pg_name (i := 2) sc_setof.nd rfl (by first | exact .inl rfl | exact .inr rfl)) (pss_one (ps_aug (i := 1) sc_setof.nd rfl (by first | exact .inl rfl | exact .inr rfl) (pe_op op_shl pe_int (pv 2)) (pip_of iop_or))))
      (pss_one (ps_ret (pv 1))))),
    (den_seq (den_asg den_int den_gName)
      (den_seq (den_for (den_iL den_var) den_gName (den_aug opd_or (den_op opd_shl den_int den_var)))
      (den_ret den_var)))⟩

def m_plin : FS :=
  (sRet (fLc (iR1 (fCons (fUn gBits (fVar 0)) fNil)) (mName 1) (fTru (fOp gAnd (fOp gShr (fVar 0) (fVar 1)) (fC (.int 1)))) (fVar 1) [1]))
def fn_plin : List D → Option D := runF n_plin.length (m_plin)
theorem ok_plin (F : Fa K mg ad fd) (T : Bl mg) : FnOk P w K mg base CX0 1 (ad 15) (fd 15) p_plin (spF K 1 (fn_plin)) := by

  exact fn_den F.F_plin sc_plin fun cdv A outer s H E hr => ⟨_, PSs.nox (pss_one (ps_ret (pe_lc (own := [("place", 1)]) rfl sc_plin.nd (pi_range1 rfl T.m_range (pa_cons (pe_bits (pv 0)) pa_nil)) (blkOk_by (N := n_plin) (sc := defScope s_plin) (by decide +kernel)) (fun _ _ _ _ _ => (pg_name (i := 1) sc_plin.nd rfl (by first | exact .inl rfl | exact .inr rfl))) (fun _ _ _ _ _ => (pts_one (pt_truth (pe_op op_and (pe_op op_shr (pv 0) (pv 1)) pe_int) (by intro _; rfl)))) (fun _ _ _ _ _ => (pv 1))))),
    (den_ret (den_lc (den_iR1 (den_cons (den_bits den_var) den_nil)) den_gName (own_name (by decide)) (den_truth (den_op opd_and (den_op opd_shr den_var den_var) den_int)) den_var))⟩

def m_unat : FS :=
  (sSeq (sAsg (fC (.int 0)) (mName 2))
    (sSeq (sFor (iL (fCallN 1 (fn_plin) (fCons (fVar 1) fNil))) (mName 3) (sAug gOr 2 (fOp gIxA (fVar 0) (fVar 3))))
    (sRet (fVar 2))))
def fn_unat : List D → Option D := runF n_unat.length (m_unat)
theorem ok_unat (F : Fa K mg ad fd) (T : Bl mg) : FnOk P w K mg base CX0 2 (ad 16) (fd 16) p_unat (spF K 2 (fn_unat)) := by
  have G_plin := ok_plin (P := P) (w := w) (base := base) F T
  exact fn_den F.F_unat sc_unat fun cdv A outer s H E hr => ⟨_, PSs.nox (pss_cons (ps_set (i := 2) sc_unat.nd rfl (by first | exact .inl rfl | exact .inr rfl) pe_int)
      (pss_cons (ps_for PassesOwn.never rfl (pi_list (pe_call G_plin (hr.mono (by decide)) (by rfl) F.g_plin F.F_plin.kp F.b_plin .nil pass0 (pa_cons (pv 1) pa_nil))) (pg_name (i := 3) sc_unat.nd rfl (by first | exact .inl rfl | exact .inr rfl)) (pss_one (ps_aug (i := 2) sc_unat.nd rfl (by first | exact .inl rfl | exact .inr rfl) (pe_ix (r := rIx K) ix_seq (pv 0) (pv 3) (fun _ _ => rfl)) (pip_of iop_or))))
      (pss_one (ps_ret (pv 2))))),
    (den_seq (den_asg den_int den_gName)
      (den_seq (den_for (den_iL (den_call (den_cons den_var den_nil))) den_gName (den_aug opd_or (den_op opd_ixA den_var den_var)))
      (den_ret den_var)))⟩

def m_fback : FS :=
  (sSeq (sFor (iET (fCons (fVar 0) fNil)) (mTup 2 (mCons (mName 1) (mCons (mName 2) mNil))) (sIf (fTest (fOp gNe (fOp gIxT (fVar 0) (fVar 2)) (fVar 1))) (sRet (fTup (fCons (fC (.str "back")) (fCons (fVar 1) fNil)))) sNext))
    (sRet (fC .non)))
def fn_fback : List D → Option D := runF n_fback.length (m_fback)
theorem ok_fback (F : Fa K mg ad fd) (T : Bl mg) : FnOk P w K mg base CX0 1 (ad 19) (fd 19) p_fback (spF K 1 (fn_fback)) := by

  exact fn_den F.F_fback sc_fback fun cdv A outer s H E hr => ⟨_, PSs.nox (pss_cons (ps_for PassesOwn.never rfl (pi_enumT (by rfl) T.m_enumerate (pa_cons (pv 0) pa_nil)) (pg_tup rfl (pgs_cons (pg_name (i := 1) sc_fback.nd rfl (by first | exact .inl rfl | exact .inr rfl)) (pgs_cons (pg_name (i := 2) sc_fback.nd rfl (by first | exact .inl rfl | exact .inr rfl)) pgs_nil))) (pss_one (ps_if (pt_cmpR (op_NE hr.units) (pe_ix (r := rIxT K) ix_tup (pv 0) (pv 2) (fun _ _ => rfl)) (pv 1) (nomark _)) (pss_one (ps_ret (pe_tup (pa_cons pe_str (pa_cons (pv 1) pa_nil))))) pss_nil)))
      (pss_one (ps_ret pe_non))),
    (den_seq (den_for (den_iET (den_cons den_var den_nil)) (den_gTup (den_gCons den_gName (den_gCons den_gName den_gNil))) (den_ifS (den_test (den_op opd_ne (den_op opd_ixT den_var den_var) den_var)) (den_ret (den_tup (den_cons den_str (den_cons den_var den_nil)))) den_next))
      (den_ret den_non))⟩

def m_fown : FS :=
  (sSeq (sIf (fTest (fOp gNe (fOp gIxT (fVar 1) (fVar 0)) (fVar 0))) (sRet (fTup (fCons (fC (.str "own")) (fCons (fVar 0) fNil)))) sNext)
    (sRet (fC .non)))
def fn_fown : List D → Option D := runF n_fown.length (m_fown)
theorem ok_fown (F : Fa K mg ad fd) (T : Bl mg) : FnOk P w K mg base CX0 1 (ad 20) (fd 20) p_fown (spF K 2 (fn_fown)) := by

  exact fn_den F.F_fown sc_fown fun cdv A outer s H E hr => ⟨_, PSs.nox (pss_cons (ps_if (pt_cmpR (op_NE hr.units) (pe_ix (r := rIxT K) ix_tup (pv 1) (pv 0) (fun _ _ => rfl)) (pv 0) (nomark _)) (pss_one (ps_ret (pe_tup (pa_cons pe_str (pa_cons (pv 0) pa_nil))))) pss_nil)
      (pss_one (ps_ret pe_non))),
    (den_seq (den_ifS (den_test (den_op opd_ne (den_op opd_ixT den_var den_var) den_var)) (den_ret (den_tup (den_cons den_str (den_cons den_var den_nil)))) den_next)
      (den_ret den_non))⟩

def m_fsame : FS :=
  (sSeq (sFor (iR1 (fCons (fCall gLenQ (fCons (fVar 1) fNil)) fNil)) (mName 2) (sIf (fOrT (fTest (fOp gNe (fOp gIxT (fOp gIxT (fVar 1) (fVar 0)) (fVar 2)) (fOp gShl (fC (.int 1)) (fVar 2)))) (fTest (fOp gNe (fOp gIxT (fOp gIxT (fVar 1) (fVar 2)) (fVar 0)) (fOp gShl (fC (.int 1)) (fVar 2))))) (sRet (fTup (fCons (fC (.str "same")) (fCons (fVar 2) fNil)))) sNext))
    (sRet (fC .non)))
def fn_fsame : List D → Option D := runF n_fsame.length (m_fsame)
theorem ok_fsame (F : Fa K mg ad fd) (T : Bl mg) : FnOk P w K mg base CX0 1 (ad 21) (fd 21) p_fsame (spF K 2 (fn_fsame)) := by

  exact fn_den F.F_fsame sc_fsame fun cdv A outer s H E hr => ⟨_, PSs.nox (pss_cons (ps_for PassesOwn.never rfl (pi_range1 rfl T.m_range (pa_cons (pe_callB call_len_seq (by rfl) T.m_len PySem.boot_len (pa_cons (pv 1) pa_nil)) pa_nil)) (pg_name (i := 2) sc_fsame.nd rfl (by first | exact .inl rfl | exact .inr rfl)) (pss_one (ps_if (PW.pt (pw_or (pt_cmpR (op_NE hr.units) (pe_ix (r := rIxT K) ix_tup (pe_ix (r := rIxT K) ix_tup (pv 1) (pv 0) (fun _ _ => rfl)) (pv 2) (fun _ _ => rfl)) (pe_op op_shl pe_int (pv 2)) (nomark _)) (pw_or1 (pt_cmpR (op_NE hr.units) (pe_ix (r := rIxT K) ix_tup (pe_ix (r := rIxT K) ix_tup (pv 1) (pv 2) (fun _ _ => rfl)) (pv 0) (fun _ _ => rfl)) (pe_op op_shl pe_int (pv 2)) (nomark _))))) (pss_one (ps_ret (pe_tup (pa_cons pe_str (pa_cons (pv 2) pa_nil))))) pss_nil)))
      (pss_one (ps_ret pe_non))),
    (den_seq (den_for (den_iR1 (den_cons (den_cb cad_lenQ (den_cons den_var den_nil)) den_nil)) den_gName (den_ifS (den_orT (den_test (den_op opd_ne (den_op opd_ixT (den_op opd_ixT den_var den_var) den_var) (den_op opd_shl den_int den_var))) (den_test (den_op opd_ne (den_op opd_ixT (den_op opd_ixT den_var den_var) den_var) (den_op opd_shl den_int den_var)))) (den_ret (den_tup (den_cons den_str (den_cons den_var den_nil)))) den_next))
      (den_ret den_non))⟩

def m_fturn : FS :=
  (sSeq (sAsg (fListR (fCons (fCall gLenQ (fCons (fVar 1) fNil)) fNil)) (mName 2))
    (sSeq (sFor (iL (fVar 2)) (mName 3) (sFor (iL (fVar 2)) (mName 4) (sFor (iL (fVar 2)) (mName 5) (sSeq (sAsg (fOp gAnd (fOp gShr (fOp gIxT (fOp gIxT (fVar 1) (fVar 3)) (fVar 4)) (fVar 5)) (fC (.int 1))) (mName 6))
    (sSeq (sAsg (fOp gAnd (fOp gShr (fOp gIxT (fOp gIxT (fVar 1) (fVar 5)) (fOp gIxT (fVar 0) (fVar 4))) (fVar 3)) (fC (.int 1))) (mName 7))
    (sSeq (sAsg (fOp gAnd (fOp gShr (fOp gIxT (fOp gIxT (fVar 1) (fOp gIxT (fVar 0) (fVar 3))) (fVar 5)) (fVar 4)) (fC (.int 1))) (mName 8))
    (sIf (fOrT (fTest (fOp gNe (fVar 6) (fVar 7))) (fTest (fOp gNe (fVar 6) (fVar 8)))) (sRet (fTup (fCons (fC (.str "turn")) (fCons (fVar 3) (fCons (fVar 4) (fCons (fVar 5) fNil)))))) sNext)))))))
    (sRet (fC .non))))
def fn_fturn : List D → Option D := runF n_fturn.length (m_fturn)
theorem ok_fturn (F : Fa K mg ad fd) (T : Bl mg) : FnOk P w K mg base CX0 1 (ad 22) (fd 22) p_fturn (spF K 2 (fn_fturn)) := by

  exact fn_den F.F_fturn sc_fturn fun cdv A outer s H E hr => ⟨_, PSs.nox (pss_cons (ps_set (i := 2) sc_fturn.nd rfl (by first | exact .inl rfl | exact .inr rfl) (pe_callTy (cr_listRng rfl) (by rfl) T.m_list (by decide +kernel) (pa_cons (pe_callTy cr_range1 (by rfl) T.m_range (by decide +kernel) (pa_cons (pe_callB call_len_seq (by rfl) T.m_len PySem.boot_len (pa_cons (pv 1) pa_nil)) pa_nil)) pa_nil)))
      (pss_cons (ps_for PassesOwn.never rfl (pi_list (pv 2)) (pg_name (i := 3) sc_fturn.nd rfl (by first | exact .inl rfl | exact .inr rfl)) (pss_one (ps_for PassesOwn.never rfl (pi_list (pv 2)) (pg_name (i := 4) sc_fturn.nd rfl (by first | exact .inl rfl | exact .inr rfl)) (pss_one (ps_for PassesOwn.never rfl (pi_list (pv 2)) (pg_name (i := 5) sc_fturn.nd rfl (by first | exact .inl rfl | exact .inr rfl)) (pss_cons (ps_set (i := 6) sc_fturn.nd rfl (by first | exact .inl rfl | exact .inr rfl) (pe_op op_and (pe_op op_shr (pe_ix (r := rIxT K) ix_tup (pe_ix (r := rIxT K) ix_tup (pv 1) (pv 3) (fun _ _ => rfl)) (pv 4) (fun _ _ => rfl)) (pv 5)) pe_int))
      (pss_cons (ps_set (i := 7) sc_fturn.nd rfl (by first | exact .inl rfl | exact .inr rfl) (pe_op op_and (pe_op op_shr (pe_ix (r := rIxT K) ix_tup (pe_ix (r := rIxT K) ix_tup (pv 1) (pv 5) (fun _ _ => rfl)) (pe_ix (r := rIxT K) ix_tup (pv 0) (pv 4) (fun _ _ => rfl)) (fun _ _ => rfl)) (pv 3)) pe_int))
      (pss_cons (ps_set (i := 8) sc_fturn.nd rfl (by first | exact .inl rfl | exact .inr rfl) (pe_op op_and (pe_op op_shr (pe_ix (r := rIxT K) ix_tup (pe_ix (r := rIxT K) ix_tup (pv 1) (pe_ix (r := rIxT K) ix_tup (pv 0) (pv 3) (fun _ _ => rfl)) (fun _ _ => rfl)) (pv 5) (fun _ _ => rfl)) (pv 4)) pe_int))
      (pss_one (ps_if (PW.pt (pw_or (pt_cmpR (op_NE hr.units) (pv 6) (pv 7) (nomark _)) (pw_or1 (pt_cmpR (op_NE hr.units) (pv 6) (pv 8) (nomark _))))) (pss_one (ps_ret (pe_tup (pa_cons pe_str (pa_cons (pv 3) (pa_cons (pv 4) (pa_cons (pv 5) pa_nil))))))) pss_nil))))))))))
      (pss_one (ps_ret pe_non)))),
    (den_seq (den_asg (den_listR (den_cons (den_cb cad_lenQ (den_cons den_var den_nil)) den_nil)) den_gName)
      (den_seq (den_for (den_iL den_var) den_gName (den_for (den_iL den_var) den_gName (den_for (den_iL den_var) den_gName (den_seq (den_asg (den_op opd_and (den_op opd_shr (den_op opd_ixT (den_op opd_ixT den_var den_var) den_var) den_var) den_int) den_gName)
      (den_seq (den_asg (den_op opd_and (den_op opd_shr (den_op opd_ixT (den_op opd_ixT den_var den_var) (den_op opd_ixT den_var den_var)) den_var) den_int) den_gName)
      (den_seq (den_asg (den_op opd_and (den_op opd_shr (den_op opd_ixT (den_op opd_ixT den_var (den_op opd_ixT den_var den_var)) den_var) den_var) den_int) den_gName)
      (den_ifS (den_orT (den_test (den_op opd_ne den_var den_var)) (den_test (den_op opd_ne den_var den_var))) (den_ret (den_tup (den_cons den_str (den_cons den_var (den_cons den_var (den_cons den_var den_nil)))))) den_next)))))))
      (den_ret den_non)))⟩

def m_frow : FS :=
  (sSeq (sAsg (fLc (iT (fVar 0)) (mName 5) (fun _ => some true) (fLc (iT (fVar 5)) (mName 7) (fun _ => some true) (fCallN 1 (fn_plin) (fCons (fVar 7) fNil)) [7]) [5]) (mName 1))
    (sSeq (sAsg (fListR (fCons (fCall gLenQ (fCons (fVar 0) fNil)) fNil)) (mName 2))
    (sSeq (sFor (iL (fVar 2)) (mName 3) (sFor (iL (fVar 2)) (mName 4) (sFor (iL (fVar 2)) (mName 6) (sSeq (sAsg2 (fC (.int 0)) (mName 8) (mName 9))
    (sSeq (sFor (iL (fOp gIxL (fOp gIxL (fVar 1) (fVar 3)) (fVar 4))) (mName 10) (sAug gOr 8 (fOp gIxT (fOp gIxT (fVar 0) (fVar 10)) (fVar 6))))
    (sSeq (sFor (iL (fOp gIxL (fOp gIxL (fVar 1) (fVar 4)) (fVar 6))) (mName 10) (sAug gOr 9 (fOp gIxT (fOp gIxT (fVar 0) (fVar 3)) (fVar 10))))
    (sIf (fTest (fOp gNe (fVar 8) (fVar 9))) (sRet (fTup (fCons (fC (.str "row")) (fCons (fVar 3) (fCons (fVar 4) (fCons (fVar 6) fNil)))))) sNext)))))))
    (sRet (fC .non)))))
def fn_frow : List D → Option D := runF n_frow.length (m_frow)
theorem ok_frow (F : Fa K mg ad fd) (T : Bl mg) : FnOk P w K mg base CX0 2 (ad 23) (fd 23) p_frow (spF K 1 (fn_frow)) := by
  have G_plin := ok_plin (P := P) (w := w) (base := base) F T
  exact fn_den F.F_frow sc_frow fun cdv A outer s H E hr => ⟨_, PSs.nox (pss_cons (ps_setLc (i := 1) (own := [("row", 5)]) rfl sc_frow.nd rfl rfl (by rfl) (pi_tup (pv 0)) (blkOk_by (N := n_frow) (sc := defScope s_frow) (by decide +kernel)) (fun _ _ _ _ _ => (pg_name (i := 5) sc_frow.nd rfl (by first | exact .inl rfl | exact .inr rfl))) (fun _ _ _ _ _ => pts_nil) (fun _ _ _ _ _ => (pe_lc (own := [("held", 7)]) rfl sc_frow.nd (pi_tup (pv 5)) (blkOk_by (by rfl)) (fun _ _ _ _ _ => (pg_name (i := 7) sc_frow.nd rfl (by first | exact .inl rfl | exact .inr rfl))) (fun _ _ _ _ _ => pts_nil) (fun _ _ _ _ _ => (pe_call G_plin (hr.mono (by decide)) (by rfl) F.g_plin F.F_plin.kp F.b_plin .nil pass0 (pa_cons (pv 7) pa_nil))))))
      (pss_cons (ps_set (i := 2) sc_frow.nd rfl (by first | exact .inl rfl | exact .inr rfl) (pe_callTy (cr_listRng rfl) (by rfl) T.m_list (by decide +kernel) (pa_cons (pe_callTy cr_range1 (by rfl) T.m_range (by decide +kernel) (pa_cons (pe_callB call_len_seq (by rfl) T.m_len PySem.boot_len (pa_cons (pv 0) pa_nil)) pa_nil)) pa_nil)))
      (pss_cons (ps_for PassesOwn.never rfl (pi_list (pv 2)) (pg_name (i := 3) sc_frow.nd rfl (by first | exact .inl rfl | exact .inr rfl)) (pss_one (ps_for PassesOwn.never rfl (pi_list (pv 2)) (pg_name (i := 4) sc_frow.nd rfl (by first | exact .inl rfl | exact .inr rfl)) (pss_one (ps_for PassesOwn.never rfl (pi_list (pv 2)) (pg_name (i := 6) sc_frow.nd rfl (by first | exact .inl rfl | exact .inr rfl)) (pss_cons (ps_asg2 pe_int (pg_name (i := 8) sc_frow.nd rfl (by first | exact .inl rfl | exact .inr rfl)) (pg_name (i := 9) sc_frow.nd rfl (by first | exact .inl rfl | exact .inr rfl)))
      (pss_cons (ps_for PassesOwn.never rfl (pi_list (pe_ix (r := rIxL K) ix_list (pe_ix (r := rIxL K) ix_list (pv 1) (pv 3) (fun _ _ => rfl)) (pv 4) (fun _ _ => rfl))) (pg_name (i := 10) sc_frow.nd rfl (by first | exact .inl rfl | exact .inr rfl)) (pss_one (ps_aug (i := 8) sc_frow.nd rfl (by first | exact .inl rfl | exact .inr rfl) (pe_ix (r := rIxT K) ix_tup (pe_ix (r := rIxT K) ix_tup (pv 0) (pv 10) (fun _ _ => rfl)) (pv 6) (fun _ _ => rfl)) (pip_of iop_or))))
      (pss_cons (ps_for PassesOwn.never rfl (pi_list (pe_ix (r := rIxL K) ix_list (pe_ix (r := rIxL K) ix_list (pv 1) (pv 4) (fun _ _ => rfl)) (pv 6) (fun _ _ => rfl))) (pg_name (i := 10) sc_frow.nd rfl (by first | exact .inl rfl | exact .inr rfl)) (pss_one (ps_aug (i := 9) sc_frow.nd rfl (by first | exact .inl rfl | exact .inr rfl) (pe_ix (r := rIxT K) ix_tup (pe_ix (r := rIxT K) ix_tup (pv 0) (pv 3) (fun _ _ => rfl)) (pv 10) (fun _ _ => rfl)) (pip_of iop_or))))
      (pss_one (ps_if (pt_cmpR (op_NE hr.units) (pv 8) (pv 9) (nomark _)) (pss_one (ps_ret (pe_tup (pa_cons pe_str (pa_cons (pv 3) (pa_cons (pv 4) (pa_cons (pv 6) pa_nil))))))) pss_nil))))))))))
      (pss_one (ps_ret pe_non))))),
    (den_seq (den_asg (den_lc (den_iT den_var) den_gName (own_name (by decide)) den_tYes (den_lc (den_iT den_var) den_gName (own_name (by decide)) den_tYes (den_call (den_cons den_var den_nil)))) den_gName)
      (den_seq (den_asg (den_listR (den_cons (den_cb cad_lenQ (den_cons den_var den_nil)) den_nil)) den_gName)
      (den_seq (den_for (den_iL den_var) den_gName (den_for (den_iL den_var) den_gName (den_for (den_iL den_var) den_gName (den_seq (den_asg2 den_int den_gName den_gName)
      (den_seq (den_for (den_iL (den_op opd_ixL (den_op opd_ixL den_var den_var) den_var)) den_gName (den_aug opd_or (den_op opd_ixT (den_op opd_ixT den_var den_var) den_var)))
      (den_seq (den_for (den_iL (den_op opd_ixL (den_op opd_ixL den_var den_var) den_var)) den_gName (den_aug opd_or (den_op opd_ixT (den_op opd_ixT den_var den_var) den_var)))
      (den_ifS (den_test (den_op opd_ne den_var den_var)) (den_ret (den_tup (den_cons den_str (den_cons den_var (den_cons den_var (den_cons den_var den_nil)))))) den_next)))))))
      (den_ret den_non))))⟩

end
end KK
end

section
set_option Elab.async false
set_option linter.all false
set_option maxRecDepth 100000
namespace KK
open PySem PySem.Spec PyProof.Rows L2 KW DL
section
variable {P : Program} {w : World} {K : PySem.W.Frag} {mg : Str → Option Value} {base : Heap} {ad : Nat → Addr} {fd : Nat → FuncData}
def m_ffirst : FS :=
  (sRet (fOrU (fCallN 1 (fn_fback) (fCons (fVar 1) fNil)) (fOrU (fCallN 2 (fn_fown) (fCons (fVar 0) (fCons (fVar 1) fNil))) (fOrU (fCallN 2 (fn_fsame) (fCons (fVar 0) (fCons (fVar 2) fNil))) (fOrU (fCallN 2 (fn_fturn) (fCons (fVar 1) (fCons (fVar 2) fNil))) (fCallN 1 (fn_frow) (fCons (fVar 2) fNil)))))))
def fn_ffirst : List D → Option D := runF n_ffirst.length (m_ffirst)
theorem ok_ffirst (F : Fa K mg ad fd) (T : Bl mg) : FnOk P w K mg base CX0 3 (ad 18) (fd 18) p_ffirst (spF K 3 (fn_ffirst)) := by
  have G_fback := ok_fback (P := P) (w := w) (base := base) F T
  have G_fown := ok_fown (P := P) (w := w) (base := base) F T
  have G_frow := ok_frow (P := P) (w := w) (base := base) F T
  have G_fsame := ok_fsame (P := P) (w := w) (base := base) F T
  have G_fturn := ok_fturn (P := P) (w := w) (base := base) F T
  exact fn_den F.F_ffirst sc_ffirst fun cdv A outer s H E hr => ⟨_, PSs.nox (pss_one (ps_ret (pe_orT (pe_call G_fback (hr.mono (by decide)) (by rfl) F.g_fback F.F_fback.kp F.b_fback .nil pass0 (pa_cons (pv 1) pa_nil)) (pe_orT (pe_call G_fown (hr.mono (by decide)) (by rfl) F.g_fown F.F_fown.kp F.b_fown .nil pass0 (pa_cons (pv 0) (pa_cons (pv 1) pa_nil))) (pe_orT (pe_call G_fsame (hr.mono (by decide)) (by rfl) F.g_fsame F.F_fsame.kp F.b_fsame .nil pass0 (pa_cons (pv 0) (pa_cons (pv 2) pa_nil))) (pe_orT (pe_call G_fturn (hr.mono (by decide)) (by rfl) F.g_fturn F.F_fturn.kp F.b_fturn .nil pass0 (pa_cons (pv 1) (pa_cons (pv 2) pa_nil))) (pe_one (pe_call G_frow (hr.mono (by decide)) (by rfl) F.g_frow F.F_frow.kp F.b_frow .nil pass0 (pa_cons (pv 2) pa_nil))))))))),
    (den_ret (den_orU (den_call (den_cons den_var den_nil)) (den_orU (den_call (den_cons den_var (den_cons den_var den_nil))) (den_orU (den_call (den_cons den_var (den_cons den_var den_nil))) (den_orU (den_call (den_cons den_var (den_cons den_var den_nil))) (den_call (den_cons den_var den_nil)))))))⟩

def m_nfault : FS :=
  (sSeq (sIf (fTest (fOp gIsN (fVar 1) (fC .non))) (sRet (fC .non)) sNext)
    (sSeq sNever
    sNever))
def fn_nfault : List D → Option D := runF n_nfault.length (m_nfault)
theorem ok_nfault (F : Fa K mg ad fd) (T : Bl mg) : FnOk P w K mg base CX0 1 (ad 25) (fd 25) p_nfault (spF K 2 (fn_nfault)) := by

  exact fn_den F.F_nfault sc_nfault fun cdv A outer s H E hr => ⟨_, PSs.nox (pss_cons (ps_if (pt_cmpR op_isN (pv 1) pe_non (nomark _)) (pss_one (ps_ret pe_non)) pss_nil)
      (pss_cons ps_never
      (pss_one ps_never))),
    (den_seq (den_ifS (den_test (den_op opd_isN den_var den_non)) (den_ret den_non) den_next)
      (den_seq den_never
      den_never))⟩

def m_pbn : FS :=
  (sRet (fDc (iE (fCons (fVar 0) fNil)) (mTup 2 (mCons (mName 1) (mCons (mName 2) mNil))) (fun _ => some true) (fVar 2) (fVar 1) [1, 2]))
def fn_pbn : List D → Option D := runF n_pbn.length (m_pbn)
theorem ok_pbn (F : Fa K mg ad fd) (T : Bl mg) : FnOk P w K mg base CX0 1 (ad 27) (fd 27) p_pbn (spF K 1 (fn_pbn)) := by

  exact fn_den F.F_pbn sc_pbn fun cdv A outer s H E hr => ⟨_, PSs.nox (pss_one (ps_ret (pe_dc (own := [("place", 1), ("name", 2)]) rfl sc_pbn.nd (pi_enum (by rfl) T.m_enumerate (pa_cons (pv 0) pa_nil)) (blkOk_by (N := n_pbn) (sc := defScope s_pbn) (by decide +kernel)) (fun _ _ _ _ _ => (pg_tup rfl (pgs_cons (pg_name (i := 1) sc_pbn.nd rfl (by first | exact .inl rfl | exact .inr rfl)) (pgs_cons (pg_name (i := 2) sc_pbn.nd rfl (by first | exact .inl rfl | exact .inr rfl)) pgs_nil)))) (fun _ _ _ _ _ => pts_nil) (fun _ _ _ _ _ => (pv 2)) (fun _ _ _ _ _ => (pv 1))))),
    (den_ret (den_dc (den_iE (den_cons den_var den_nil)) (den_gTup (den_gCons den_gName (den_gCons den_gName den_gNil))) (own_two (by decide) (by decide)) den_tYes den_var den_var))⟩

def m_iskind : FS :=
  (sRet (fAndV (fIsi "str" (fVar 0)) (fOp gDIn (fVar 0) (fVar 1))))
def fn_iskind : List D → Option D := runF n_iskind.length (m_iskind)
theorem ok_iskind (F : Fa K mg ad fd) (T : Bl mg) : FnOk P w K mg base CX0 1 (ad 28) (fd 28) p_iskind (spF K 2 (fn_iskind)) := by

  exact fn_den F.F_iskind sc_iskind fun cdv A outer s H E hr => ⟨_, PSs.nox (pss_one (ps_ret (pe_and (pe_callB call_isi (by rfl) T.m_isinstance (by decide +kernel) (pa_cons (pv 0) (pa_cons (pe_bltn (v := .ty "str") (by rfl) T.m_str (by decide +kernel) rfl) pa_nil))) (pe_one (pe_cmp (pc_din (hu_of hr) (pv 0) (pv 1))))))),
    (den_ret (den_andV (den_isi den_var) (den_din den_var den_var)))⟩

def m_islist : FS :=
  (sRet (fAndV (fIsi "list" (fVar 0)) (fOp gEq (fCall gLenQ (fCons (fVar 0) fNil)) (fVar 1))))
def fn_islist : List D → Option D := runF n_islist.length (m_islist)
theorem ok_islist (F : Fa K mg ad fd) (T : Bl mg) : FnOk P w K mg base CX0 1 (ad 29) (fd 29) p_islist (spF K 2 (fn_islist)) := by

  exact fn_den F.F_islist sc_islist fun cdv A outer s H E hr => ⟨_, PSs.nox (pss_one (ps_ret (pe_and (pe_callB call_isi (by rfl) T.m_isinstance (by decide +kernel) (pa_cons (pv 0) (pa_cons (pe_bltn (v := .ty "list") (by rfl) T.m_list (by decide +kernel) rfl) pa_nil))) (pe_one (pe_cmpR (op_EQ hr.units) (pe_callB call_len_seq (by rfl) T.m_len PySem.boot_len (pa_cons (pv 0) pa_nil)) (pv 1) (nomark _)))))),
    (den_ret (den_andV (den_isi den_var) (den_op opd_eq (den_cb cad_lenQ (den_cons den_var den_nil)) den_var)))⟩

def m_allk : FS :=
  (sRet (fAndV (fIsi "list" (fVar 0)) (fCall gAll (fCons (fLc (iL (fVar 0)) (mName 2) (fun _ => some true) (fCallN 2 (fn_iskind) (fCons (fVar 2) (fCons (fVar 1) fNil))) [2]) fNil))))
def fn_allk : List D → Option D := runF n_allk.length (m_allk)
theorem ok_allk (F : Fa K mg ad fd) (T : Bl mg) : FnOk P w K mg base CX0 2 (ad 30) (fd 30) p_allk (spF K 2 (fn_allk)) := by
  have G_iskind := ok_iskind (P := P) (w := w) (base := base) F T
  exact fn_den F.F_allk sc_allk fun cdv A outer s H E hr => ⟨_, PSs.nox (pss_one (ps_ret (pe_and (pe_callB call_isi (by rfl) T.m_isinstance (by decide +kernel) (pa_cons (pv 0) (pa_cons (pe_bltn (v := .ty "list") (by rfl) T.m_list (by decide +kernel) rfl) pa_nil))) (pe_one (pe_callB (cr_all rfl) (by rfl) T.m_all (by decide +kernel) (pa_cons (pe_lc (own := [("word", 2)]) rfl sc_allk.nd (pi_list (pv 0)) (blkOk_by (N := n_allk) (sc := defScope s_allk) (by decide +kernel)) (fun _ _ _ _ _ => (pg_name (i := 2) sc_allk.nd rfl (by first | exact .inl rfl | exact .inr rfl))) (fun _ _ _ _ _ => pts_nil) (fun _ _ _ _ _ => (pe_call G_iskind (hr.mono (by decide)) (by rfl) F.g_iskind F.F_iskind.kp F.b_iskind .nil pass0 (pa_cons (pv 2) (pa_cons (pv 1) pa_nil))))) pa_nil)))))),
    (den_ret (den_andV (den_isi den_var) (den_cb cad_all (den_cons (den_lc (den_iL den_var) den_gName (own_name (by decide)) den_tYes (den_call (den_cons den_var (den_cons den_var den_nil)))) den_nil))))⟩

def m_issq : FS :=
  (sSeq (sAsg (fCall gLenD (fCons (fVar 1) fNil)) (mName 2))
    (sSeq (sIf (fOrT (fNotT (fTest (fCallN 2 (fn_islist) (fCons (fVar 0) (fCons (fVar 2) fNil))))) (fNotT (fTest (fCall gAll (fCons (fLc (iL (fVar 0)) (mName 3) (fun _ => some true) (fCallN 2 (fn_islist) (fCons (fVar 3) (fCons (fVar 2) fNil))) [3]) fNil))))) (sRet (fC (.bl false))) sNext)
    (sRet (fCall gAll (fCons (fLc2 (iL (fVar 0)) (mName 3) (fun _ => some true) (iL (fVar 3)) (mName 4) (fun _ => some true) (fCallN 2 (fn_allk) (fCons (fVar 4) (fCons (fVar 1) fNil))) [3, 4] [4]) fNil)))))
def fn_issq : List D → Option D := runF n_issq.length (m_issq)
theorem ok_issq (F : Fa K mg ad fd) (T : Bl mg) : FnOk P w K mg base CX0 3 (ad 31) (fd 31) p_issq (spF K 2 (fn_issq)) := by
  have G_allk := ok_allk (P := P) (w := w) (base := base) F T
  have G_islist := ok_islist (P := P) (w := w) (base := base) F T
  exact fn_den F.F_issq sc_issq fun cdv A outer s H E hr => ⟨_, PSs.nox (pss_cons (ps_set (i := 2) sc_issq.nd rfl (by first | exact .inl rfl | exact .inr rfl) (pe_callB call_lenD (by rfl) T.m_len PySem.boot_len (pa_cons (pv 1) pa_nil)))
      (pss_cons (ps_if (PW.pt (pw_or (pt_not (pt_val (pe_call G_islist (hr.mono (by decide)) (by rfl) F.g_islist F.F_islist.kp F.b_islist .nil pass0 (pa_cons (pv 0) (pa_cons (pv 2) pa_nil))))) (pw_or1 (pt_not (pt_val (pe_callB (cr_all rfl) (by rfl) T.m_all (by decide +kernel) (pa_cons (pe_lc (own := [("row", 3)]) rfl sc_issq.nd (pi_list (pv 0)) (blkOk_by (N := n_issq) (sc := defScope s_issq) (by decide +kernel)) (fun _ _ _ _ _ => (pg_name (i := 3) sc_issq.nd rfl (by first | exact .inl rfl | exact .inr rfl))) (fun _ _ _ _ _ => pts_nil) (fun _ _ _ _ _ => (pe_call G_islist (hr.mono (by decide)) (by rfl) F.g_islist F.F_islist.kp F.b_islist .nil pass0 (pa_cons (pv 3) (pa_cons (pv 2) pa_nil))))) pa_nil))))))) (pss_one (ps_ret pe_bl)) pss_nil)
      (pss_one (ps_ret (pe_callB (cr_all rfl) (by rfl) T.m_all (by decide +kernel) (pa_cons (pe_lc2 (own := [("row", 3), ("step", 4)]) (vs1 := [4]) rfl sc_issq.nd (pi_list (pv 0)) (blkOk_by (N := n_issq) (sc := defScope s_issq) (by decide +kernel)) (by decide) (fun _ _ _ _ _ => (pg_name (i := 3) sc_issq.nd rfl (by first | exact .inl rfl | exact .inr rfl))) (fun _ _ _ _ _ => pts_nil) (fun _ _ _ _ _ => (pi_list (pv 3))) (fun _ _ _ _ _ => (pg_name (i := 4) sc_issq.nd rfl (by first | exact .inl rfl | exact .inr rfl))) (fun _ _ _ _ _ => pts_nil) (fun _ _ _ _ _ => (pe_call G_allk (hr.mono (by decide)) (by rfl) F.g_allk F.F_allk.kp F.b_allk .nil pass0 (pa_cons (pv 4) (pa_cons (pv 1) pa_nil))))) pa_nil)))))),
    (den_seq (den_asg (den_cb cad_lenD (den_cons den_var den_nil)) den_gName)
      (den_seq (den_ifS (den_orT (den_notT (den_tb (den_call (den_cons den_var (den_cons den_var den_nil))))) (den_notT (den_tb (den_cb cad_all (den_cons (den_lc (den_iL den_var) den_gName (own_name (by decide)) den_tYes (den_call (den_cons den_var (den_cons den_var den_nil)))) den_nil))))) (den_ret den_bl) den_next)
      (den_ret (den_cb cad_all (den_cons (den_lc2 (den_iL den_var) den_gName (own_name (by decide)) den_tYes (den_iL den_var) den_gName (own_name (by decide)) den_tYes (den_call (den_cons den_var (den_cons den_var den_nil)))) den_nil)))))⟩

def m_placed : FS :=
  (sSeq (sIf (fNotT (fTest (fCallN 1 (fn_arek) (fCons (fVar 0) fNil)))) sNever sNext)
    (sSeq (sAsg (fCallN 1 (fn_pbn) (fCons (fVar 0) fNil)) (mName 4))
    (sSeq (sIf (fOrT (fNotT (fTest (fCallN 2 (fn_iskind) (fCons (fVar 1) (fCons (fVar 4) fNil))))) (fOrT (fNotT (fTest (fCallN 2 (fn_islist) (fCons (fVar 2) (fCons (fCall gLenQ (fCons (fVar 0) fNil)) fNil))))) (fNotT (fTest (fCallN 2 (fn_allk) (fCons (fVar 2) (fCons (fVar 4) fNil))))))) sNever sNext)
    (sSeq (sIf (fNotT (fTest (fCallN 2 (fn_issq) (fCons (fVar 3) (fCons (fVar 4) fNil))))) sNever sNext)
    (sSeq (sAsg (fCall gTupOf (fCons (fLc (iL (fVar 2)) (mName 7) (fun _ => some true) (fOp gDGet (fVar 4) (fVar 7)) [7]) fNil)) (mName 5))
    (sSeq (sAsg (fCall gTupOf (fCons (fLc (iL (fVar 3)) (mName 8) (fun _ => some true) (fCall gTupOf (fCons (fLc (iL (fVar 8)) (mName 9) (fun _ => some true) (fCallN 1 (fn_setof) (fCons (fLc (iL (fVar 9)) (mName 7) (fun _ => some true) (fOp gDGet (fVar 4) (fVar 7)) [7]) fNil)) [9]) fNil)) [8]) fNil)) (mName 6))
    (sRet (fTup (fCons (fOp gDGet (fVar 4) (fVar 1)) (fCons (fVar 5) (fCons (fVar 6) fNil)))))))))))
def fn_placed : List D → Option D := runF n_placed.length (m_placed)
theorem ok_placed (F : Fa K mg ad fd) (T : Bl mg) : FnOk P w K mg base CX0 4 (ad 26) (fd 26) p_placed (spF K 4 (fn_placed)) := by
  have G_allk := ok_allk (P := P) (w := w) (base := base) F T
  have G_arek := ok_arek (P := P) (w := w) (base := base) F T
  have G_iskind := ok_iskind (P := P) (w := w) (base := base) F T
  have G_islist := ok_islist (P := P) (w := w) (base := base) F T
  have G_issq := ok_issq (P := P) (w := w) (base := base) F T
  have G_pbn := ok_pbn (P := P) (w := w) (base := base) F T
  have G_setof := ok_setof (P := P) (w := w) (base := base) F T
  exact fn_den F.F_placed sc_placed fun cdv A outer s H E hr => ⟨_, PSs.nox (pss_cons (ps_if (pt_not (pt_val (pe_call G_arek (hr.mono (by decide)) (by rfl) F.g_arek F.F_arek.kp F.b_arek .nil pass0 (pa_cons (pv 0) pa_nil)))) (pss_one ps_never) pss_nil)
      (pss_cons (ps_set (i := 4) sc_placed.nd rfl (by first | exact .inl rfl | exact .inr rfl) (pe_call G_pbn (hr.mono (by decide)) (by rfl) F.g_pbn F.F_pbn.kp F.b_pbn .nil pass0 (pa_cons (pv 0) pa_nil)))
      (pss_cons (ps_if (PW.pt (pw_or (pt_not (pt_val (pe_call G_iskind (hr.mono (by decide)) (by rfl) F.g_iskind F.F_iskind.kp F.b_iskind .nil pass0 (pa_cons (pv 1) (pa_cons (pv 4) pa_nil))))) (pw_or (pt_not (pt_val (pe_call G_islist (hr.mono (by decide)) (by rfl) F.g_islist F.F_islist.kp F.b_islist .nil pass0 (pa_cons (pv 2) (pa_cons (pe_callB call_len_seq (by rfl) T.m_len PySem.boot_len (pa_cons (pv 0) pa_nil)) pa_nil))))) (pw_or1 (pt_not (pt_val (pe_call G_allk (hr.mono (by decide)) (by rfl) F.g_allk F.F_allk.kp F.b_allk .nil pass0 (pa_cons (pv 2) (pa_cons (pv 4) pa_nil))))))))) (pss_one ps_never) pss_nil)
      (pss_cons (ps_if (pt_not (pt_val (pe_call G_issq (hr.mono (by decide)) (by rfl) F.g_issq F.F_issq.kp F.b_issq .nil pass0 (pa_cons (pv 3) (pa_cons (pv 4) pa_nil))))) (pss_one ps_never) pss_nil)
      (pss_cons (ps_set (i := 5) sc_placed.nd rfl (by first | exact .inl rfl | exact .inr rfl) (pe_callTy call_tuple_of (by rfl) T.m_tuple (by decide +kernel) (pa_cons (pe_lc (own := [("name", 7)]) rfl sc_placed.nd (pi_list (pv 2)) (blkOk_by (N := n_placed) (sc := defScope s_placed) (by decide +kernel)) (fun _ _ _ _ _ => (pg_name (i := 7) sc_placed.nd rfl (by first | exact .inl rfl | exact .inr rfl))) (fun _ _ _ _ _ => pts_nil) (fun _ _ _ _ _ => (pe_dget (hu_of hr) (pv 4) (pv 7) (fun _ _ => rfl)))) pa_nil)))
      (pss_cons (ps_set (i := 6) sc_placed.nd rfl (by first | exact .inl rfl | exact .inr rfl) (pe_callTy call_tuple_of (by rfl) T.m_tuple (by decide +kernel) (pa_cons (pe_lc (own := [("row", 8)]) rfl sc_placed.nd (pi_list (pv 3)) (blkOk_by (N := n_placed) (sc := defScope s_placed) (by decide +kernel)) (fun _ _ _ _ _ => (pg_name (i := 8) sc_placed.nd rfl (by first | exact .inl rfl | exact .inr rfl))) (fun _ _ _ _ _ => pts_nil) (fun _ _ _ _ _ => (pe_callTy call_tuple_of (by rfl) T.m_tuple (by decide +kernel) (pa_cons (pe_lc (own := [("step", 9)]) rfl sc_placed.nd (pi_list (pv 8)) (blkOk_by (by rfl)) (fun _ _ _ _ _ => (pg_name (i := 9) sc_placed.nd rfl (by first | exact .inl rfl | exact .inr rfl))) (fun _ _ _ _ _ => pts_nil) (fun _ _ _ _ _ => (pe_call G_setof (hr.mono (by decide)) (by rfl) F.g_setof F.F_setof.kp F.b_setof .nil pass0 (pa_cons (pe_lc (own := [("name", 7)]) rfl sc_placed.nd (pi_list (pv 9)) (blkOk_by (by rfl)) (fun _ _ _ _ _ => (pg_name (i := 7) sc_placed.nd rfl (by first | exact .inl rfl | exact .inr rfl))) (fun _ _ _ _ _ => pts_nil) (fun _ _ _ _ _ => (pe_dget (hu_of hr) (pv 4) (pv 7) (fun _ _ => rfl)))) pa_nil)))) pa_nil)))) pa_nil)))
      (pss_one (ps_ret (pe_tup (pa_cons (pe_dget (hu_of hr) (pv 4) (pv 1) (fun _ _ => rfl)) (pa_cons (pv 5) (pa_cons (pv 6) pa_nil)))))))))))),
    (den_seq (den_ifS (den_notT (den_tb (den_call (den_cons den_var den_nil)))) den_never den_next)
      (den_seq (den_asg (den_call (den_cons den_var den_nil)) den_gName)
      (den_seq (den_ifS (den_orT (den_notT (den_tb (den_call (den_cons den_var (den_cons den_var den_nil))))) (den_orT (den_notT (den_tb (den_call (den_cons den_var (den_cons (den_cb cad_lenQ (den_cons den_var den_nil)) den_nil))))) (den_notT (den_tb (den_call (den_cons den_var (den_cons den_var den_nil))))))) den_never den_next)
      (den_seq (den_ifS (den_notT (den_tb (den_call (den_cons den_var (den_cons den_var den_nil))))) den_never den_next)
      (den_seq (den_asg (den_cb cad_tuple (den_cons (den_lc (den_iL den_var) den_gName (own_name (by decide)) den_tYes (den_dget den_var den_var)) den_nil)) den_gName)
      (den_seq (den_asg (den_cb cad_tuple (den_cons (den_lc (den_iL den_var) den_gName (own_name (by decide)) den_tYes (den_cb cad_tuple (den_cons (den_lc (den_iL den_var) den_gName (own_name (by decide)) den_tYes (den_call (den_cons (den_lc (den_iL den_var) den_gName (own_name (by decide)) den_tYes (den_dget den_var den_var)) den_nil))) den_nil))) den_nil)) den_gName)
      (den_ret (den_tup (den_cons (den_dget den_var den_var) (den_cons den_var (den_cons den_var den_nil)))))))))))⟩

end
end KK
end

section
set_option Elab.async false
set_option linter.all false
set_option maxRecDepth 100000
namespace KK
open PySem PySem.Spec PyProof.Rows L2 KW DL
section
variable {P : Program} {w : World} {K : PySem.W.Frag} {mg : Str → Option Value} {base : Heap} {ad : Nat → Addr} {fd : Nat → FuncData}
def m_place (C : Addr) : FS :=
  (sSeq (sIf (fNotT (fTest (fCallN 2 (fn_iskind) (fCons (fVar 1) (fCons (fFld C "places" (fVar 0)) fNil))))) sNever sNext)
    (sRet (fOp gDGet (fFld C "places" (fVar 0)) (fVar 1))))
def fn_place (C : Addr) : List D → Option D := runF n_place.length (m_place C)
theorem ok_place (F : Fa K mg ad fd) (T : Bl mg) : FnOk P w K mg base CX0 2 (ad 4207) (fd 4207) p_place (spF K 2 (fn_place (ad 9))) := by
  have G_iskind := ok_iskind (P := P) (w := w) (base := base) F T
  exact fn_den F.F_place sc_place fun cdv A outer s H E hr => ⟨_, PSs.nox (pss_cons (ps_if (pt_not (pt_val (pe_call G_iskind (hr.mono (by decide)) (by rfl) F.g_iskind F.F_iskind.kp F.b_iskind .nil pass0 (pa_cons (pv 1) (pa_cons (pe_fld (pv 0) rfl) pa_nil))))) (pss_one ps_never) pss_nil)
      (pss_one (ps_ret (pe_dget (hu_of hr) (pe_fld (pv 0) rfl) (pv 1) (fun _ _ => rfl))))),
    (den_seq (den_ifS (den_notT (den_tb (den_call (den_cons den_var (den_cons (den_fld F.cl F.na_places den_var) den_nil))))) den_never den_next)
      (den_ret (den_dget (den_fld F.cl F.na_places den_var) den_var)))⟩

def m_listed (C : Addr) : FS :=
  (sRet (fLc (iET (fCons (fFld C "names" (fVar 0)) fNil)) (mTup 2 (mCons (mName 2) (mCons (mName 3) mNil))) (fTru (fOp gAnd (fOp gShr (fVar 1) (fVar 2)) (fC (.int 1)))) (fVar 3) [2, 3]))
def fn_listed (C : Addr) : List D → Option D := runF n_listed.length (m_listed C)
theorem ok_listed (F : Fa K mg ad fd) (T : Bl mg) : FnOk P w K mg base CX0 1 (ad 4209) (fd 4209) p_listed (spF K 2 (fn_listed (ad 9))) := by

  exact fn_den F.F_listed sc_listed fun cdv A outer s H E hr => ⟨_, PSs.nox (pss_one (ps_ret (pe_lc (own := [("place", 2), ("name", 3)]) rfl sc_listed.nd (pi_enumT (by rfl) T.m_enumerate (pa_cons (pe_fld (pv 0) rfl) pa_nil)) (blkOk_by (N := n_listed) (sc := defScope s_listed) (by decide +kernel)) (fun _ _ _ _ _ => (pg_tup rfl (pgs_cons (pg_name (i := 2) sc_listed.nd rfl (by first | exact .inl rfl | exact .inr rfl)) (pgs_cons (pg_name (i := 3) sc_listed.nd rfl (by first | exact .inl rfl | exact .inr rfl)) pgs_nil)))) (fun _ _ _ _ _ => (pts_one (pt_truth (pe_op op_and (pe_op op_shr (pv 1) (pv 2)) pe_int) (by intro _; rfl)))) (fun _ _ _ _ _ => (pv 3))))),
    (den_ret (den_lc (den_iET (den_cons (den_fld F.cl F.na_names den_var) den_nil)) (den_gTup (den_gCons den_gName (den_gCons den_gName den_gNil))) (own_two (by decide) (by decide)) (den_truth (den_op opd_and (den_op opd_shr den_var den_var) den_int)) den_var))⟩

def m_gath (C : Addr) : FS :=
  (sRet (fCallN 1 (fn_setof) (fCons (fLc (iL (fVar 1)) (mName 2) (fun _ => some true) (fMeth C "place" 2 (fn_place C) (fVar 0) (fCons (fVar 2) fNil)) [2]) fNil)))
def fn_gath (C : Addr) : List D → Option D := runF n_gath.length (m_gath C)
theorem ok_gath (F : Fa K mg ad fd) (T : Bl mg) : FnOk P w K mg base CX0 3 (ad 4208) (fd 4208) p_gath (spF K 2 (fn_gath (ad 9))) := by
  have G_place := ok_place (P := P) (w := w) (base := base) F T
  have G_setof := ok_setof (P := P) (w := w) (base := base) F T
  exact fn_den F.F_gath sc_gath fun cdv A outer s H E hr => ⟨_, PSs.nox (pss_one (ps_ret (pe_call G_setof (hr.mono (by decide)) (by rfl) F.g_setof F.F_setof.kp F.b_setof .nil pass0 (pa_cons (pe_lc (own := [("kind", 2)]) rfl sc_gath.nd (pi_list (pv 1)) (blkOk_by (N := n_gath) (sc := defScope s_gath) (by decide +kernel)) (fun _ _ _ _ _ => (pg_name (i := 2) sc_gath.nd rfl (by first | exact .inl rfl | exact .inr rfl))) (fun _ _ _ _ _ => pts_nil) (fun _ _ _ _ _ => (pe_meth (pv 0) F.cl F.mt_place G_place (hr.mono (by decide)) F.b_place .nil pass0 (pa_cons (pv 2) pa_nil)))) pa_nil)))),
    (den_ret (den_call (den_cons (den_lc (den_iL den_var) den_gName (own_name (by decide)) den_tYes (den_meth den_var (den_cons den_var den_nil))) den_nil)))⟩

def m_tkinds (C : Addr) : FS :=
  (sRet (fCall gListOf (fCons (fFld C "names" (fVar 0)) fNil)))
def fn_tkinds (C : Addr) : List D → Option D := runF n_tkinds.length (m_tkinds C)
theorem ok_tkinds (F : Fa K mg ad fd) (T : Bl mg) : FnOk P w K mg base CX0 1 (ad 4201) (fd 4201) p_tkinds (spF K 1 (fn_tkinds (ad 9))) := by

  exact fn_den F.F_tkinds sc_tkinds fun cdv A outer s H E hr => ⟨_, PSs.nox (pss_one (ps_ret (pe_callTy call_list_of (by rfl) T.m_list (by decide +kernel) (pa_cons (pe_fld (pv 0) rfl) pa_nil)))),
    (den_ret (den_cb cad_list (den_cons (den_fld F.cl F.na_names den_var) den_nil)))⟩

def m_tbacks (C : Addr) : FS :=
  (sRet (fMeth C "listed" 2 (fn_listed C) (fVar 0) (fCons (fCallN 1 (fn_setof) (fCons (fLc (iL (fVar 1)) (mName 2) (fun _ => some true) (fOp gIxT (fFld C "turns" (fVar 0)) (fMeth C "place" 2 (fn_place C) (fVar 0) (fCons (fVar 2) fNil))) [2]) fNil)) fNil)))
def fn_tbacks (C : Addr) : List D → Option D := runF n_tbacks.length (m_tbacks C)
theorem ok_tbacks (F : Fa K mg ad fd) (T : Bl mg) : FnOk P w K mg base CX0 3 (ad 4205) (fd 4205) p_tbacks (spF K 2 (fn_tbacks (ad 9))) := by
  have G_listed := ok_listed (P := P) (w := w) (base := base) F T
  have G_place := ok_place (P := P) (w := w) (base := base) F T
  have G_setof := ok_setof (P := P) (w := w) (base := base) F T
  exact fn_den F.F_tbacks sc_tbacks fun cdv A outer s H E hr => ⟨_, PSs.nox (pss_one (ps_ret (pe_meth (pv 0) F.cl F.mt_listed G_listed (hr.mono (by decide)) F.b_listed .nil pass0 (pa_cons (pe_call G_setof (hr.mono (by decide)) (by rfl) F.g_setof F.F_setof.kp F.b_setof .nil pass0 (pa_cons (pe_lc (own := [("kind", 2)]) rfl sc_tbacks.nd (pi_list (pv 1)) (blkOk_by (N := n_tbacks) (sc := defScope s_tbacks) (by decide +kernel)) (fun _ _ _ _ _ => (pg_name (i := 2) sc_tbacks.nd rfl (by first | exact .inl rfl | exact .inr rfl))) (fun _ _ _ _ _ => pts_nil) (fun _ _ _ _ _ => (pe_ix (r := rIxT K) ix_tup (pe_fld (pv 0) rfl) (pe_meth (pv 0) F.cl F.mt_place G_place (hr.mono (by decide)) F.b_place .nil pass0 (pa_cons (pv 2) pa_nil)) (fun _ _ => rfl)))) pa_nil)) pa_nil)))),
    (den_ret (den_meth den_var (den_cons (den_call (den_cons (den_lc (den_iL den_var) den_gName (own_name (by decide)) den_tYes (den_op opd_ixT (den_fld F.cl F.na_turns den_var) (den_meth den_var (den_cons den_var den_nil)))) den_nil)) den_nil)))⟩

def m_tsteps (C : Addr) : FS :=
  (sSeq (sAsg (fMeth C "gathered" 2 (fn_gath C) (fVar 0) (fCons (fVar 1) fNil)) (mName 3))
    (sSeq (sAsg (fMeth C "gathered" 2 (fn_gath C) (fVar 0) (fCons (fVar 2) fNil)) (mName 4))
    (sRet (fMeth C "listed" 2 (fn_listed C) (fVar 0) (fCons (fCallN 2 (fn_unat) (fCons (fLc (iT (fFld C "grid" (fVar 0))) (mName 5) (fun _ => some true) (fCallN 2 (fn_unat) (fCons (fVar 5) (fCons (fVar 4) fNil))) [5]) (fCons (fVar 3) fNil))) fNil)))))
def fn_tsteps (C : Addr) : List D → Option D := runF n_tsteps.length (m_tsteps C)
theorem ok_tsteps (F : Fa K mg ad fd) (T : Bl mg) : FnOk P w K mg base CX0 4 (ad 4204) (fd 4204) p_tsteps (spF K 3 (fn_tsteps (ad 9))) := by
  have G_gath := ok_gath (P := P) (w := w) (base := base) F T
  have G_listed := ok_listed (P := P) (w := w) (base := base) F T
  have G_unat := ok_unat (P := P) (w := w) (base := base) F T
  exact fn_den F.F_tsteps sc_tsteps fun cdv A outer s H E hr => ⟨_, PSs.nox (pss_cons (ps_set (i := 3) sc_tsteps.nd rfl (by first | exact .inl rfl | exact .inr rfl) (pe_meth (pv 0) F.cl F.mt_gath G_gath (hr.mono (by decide)) F.b_gath .nil pass0 (pa_cons (pv 1) pa_nil)))
      (pss_cons (ps_set (i := 4) sc_tsteps.nd rfl (by first | exact .inl rfl | exact .inr rfl) (pe_meth (pv 0) F.cl F.mt_gath G_gath (hr.mono (by decide)) F.b_gath .nil pass0 (pa_cons (pv 2) pa_nil)))
      (pss_one (ps_ret (pe_meth (pv 0) F.cl F.mt_listed G_listed (hr.mono (by decide)) F.b_listed .nil pass0 (pa_cons (pe_call G_unat (hr.mono (by decide)) (by rfl) F.g_unat F.F_unat.kp F.b_unat .nil pass0 (pa_cons (pe_lc (own := [("row", 5)]) rfl sc_tsteps.nd (pi_tup (pe_fld (pv 0) rfl)) (blkOk_by (N := n_tsteps) (sc := defScope s_tsteps) (by decide +kernel)) (fun _ _ _ _ _ => (pg_name (i := 5) sc_tsteps.nd rfl (by first | exact .inl rfl | exact .inr rfl))) (fun _ _ _ _ _ => pts_nil) (fun _ _ _ _ _ => (pe_call G_unat (hr.mono (by decide)) (by rfl) F.g_unat F.F_unat.kp F.b_unat .nil pass0 (pa_cons (pv 5) (pa_cons (pv 4) pa_nil))))) (pa_cons (pv 3) pa_nil))) pa_nil)))))),
    (den_seq (den_asg (den_meth den_var (den_cons den_var den_nil)) den_gName)
      (den_seq (den_asg (den_meth den_var (den_cons den_var den_nil)) den_gName)
      (den_ret (den_meth den_var (den_cons (den_call (den_cons (den_lc (den_iT (den_fld F.cl F.na_grid den_var)) den_gName (own_name (by decide)) den_tYes (den_call (den_cons den_var (den_cons den_var den_nil)))) (den_cons den_var den_nil))) den_nil)))))⟩

def m_tback (C : Addr) : FS :=
  (sRet (fOp gIxT (fFld C "names" (fVar 0)) (fOp gIxT (fFld C "turns" (fVar 0)) (fMeth C "place" 2 (fn_place C) (fVar 0) (fCons (fVar 1) fNil)))))
def fn_tback (C : Addr) : List D → Option D := runF n_tback.length (m_tback C)
theorem ok_tback (F : Fa K mg ad fd) (T : Bl mg) : FnOk P w K mg base CX0 3 (ad 4202) (fd 4202) p_tback (spF K 2 (fn_tback (ad 9))) := by
  have G_place := ok_place (P := P) (w := w) (base := base) F T
  exact fn_den F.F_tback sc_tback fun cdv A outer s H E hr => ⟨_, PSs.nox (pss_one (ps_ret (pe_ix (r := rIxT K) ix_tup (pe_fld (pv 0) rfl) (pe_ix (r := rIxT K) ix_tup (pe_fld (pv 0) rfl) (pe_meth (pv 0) F.cl F.mt_place G_place (hr.mono (by decide)) F.b_place .nil pass0 (pa_cons (pv 1) pa_nil)) (fun _ _ => rfl)) (fun _ _ => rfl)))),
    (den_ret (den_op opd_ixT (den_fld F.cl F.na_names den_var) (den_op opd_ixT (den_fld F.cl F.na_turns den_var) (den_meth den_var (den_cons den_var den_nil)))))⟩

def m_tstep (C : Addr) : FS :=
  (sSeq (sAsg (fMeth C "place" 2 (fn_place C) (fVar 0) (fCons (fVar 1) fNil)) (mName 3))
    (sSeq (sAsg (fMeth C "place" 2 (fn_place C) (fVar 0) (fCons (fVar 2) fNil)) (mName 4))
    (sRet (fMeth C "listed" 2 (fn_listed C) (fVar 0) (fCons (fOp gIxT (fOp gIxT (fFld C "grid" (fVar 0)) (fVar 3)) (fVar 4)) fNil)))))
def fn_tstep (C : Addr) : List D → Option D := runF n_tstep.length (m_tstep C)
theorem ok_tstep (F : Fa K mg ad fd) (T : Bl mg) : FnOk P w K mg base CX0 3 (ad 4203) (fd 4203) p_tstep (spF K 3 (fn_tstep (ad 9))) := by
  have G_listed := ok_listed (P := P) (w := w) (base := base) F T
  have G_place := ok_place (P := P) (w := w) (base := base) F T
  exact fn_den F.F_tstep sc_tstep fun cdv A outer s H E hr => ⟨_, PSs.nox (pss_cons (ps_set (i := 3) sc_tstep.nd rfl (by first | exact .inl rfl | exact .inr rfl) (pe_meth (pv 0) F.cl F.mt_place G_place (hr.mono (by decide)) F.b_place .nil pass0 (pa_cons (pv 1) pa_nil)))
      (pss_cons (ps_set (i := 4) sc_tstep.nd rfl (by first | exact .inl rfl | exact .inr rfl) (pe_meth (pv 0) F.cl F.mt_place G_place (hr.mono (by decide)) F.b_place .nil pass0 (pa_cons (pv 2) pa_nil)))
      (pss_one (ps_ret (pe_meth (pv 0) F.cl F.mt_listed G_listed (hr.mono (by decide)) F.b_listed .nil pass0 (pa_cons (pe_ix (r := rIxT K) ix_tup (pe_ix (r := rIxT K) ix_tup (pe_fld (pv 0) rfl) (pv 3) (fun _ _ => rfl)) (pv 4) (fun _ _ => rfl)) pa_nil)))))),
    (den_seq (den_asg (den_meth den_var (den_cons den_var den_nil)) den_gName)
      (den_seq (den_asg (den_meth den_var (den_cons den_var den_nil)) den_gName)
      (den_ret (den_meth den_var (den_cons (den_op opd_ixT (den_op opd_ixT (den_fld F.cl F.na_grid den_var) den_var) den_var) den_nil)))))⟩

def m_teq (C : Addr) : FS :=
  (sRet (fAndV (fIsV C (fVar 1)) (fAndV (fOp gEq (fFld C "names" (fVar 0)) (fFld C "names" (fVar 1))) (fAndV (fOp gEq (fFld C "same" (fVar 0)) (fFld C "same" (fVar 1))) (fAndV (fOp gEq (fFld C "turns" (fVar 0)) (fFld C "turns" (fVar 1))) (fOp gEq (fFld C "grid" (fVar 0)) (fFld C "grid" (fVar 1))))))))
def fn_teq (C : Addr) : List D → Option D := runF n_teq.length (m_teq C)
theorem ok_teq (F : Fa K mg ad fd) (T : Bl mg) : FnOk P w K mg base CX0 1 (ad 4211) (fd 4211) p_teq (spF K 2 (fn_teq (ad 9))) := by

  exact fn_den F.F_teq sc_teq fun cdv A outer s H E hr => ⟨_, PSs.nox (pss_one (ps_ret (pe_and (pe_callB (call_isV F.ins_Table) (by rfl) T.m_isinstance (by decide +kernel) (pa_cons (pv 1) (pa_cons (pe_glob (v := .ref (ad 9)) rfl F.g_Table rfl) pa_nil))) (pe_and (pe_cmpR (op_EQ hr.units) (pe_fld (pv 0) rfl) (pe_fld (pv 1) rfl) (nomark _)) (pe_and (pe_cmpR (op_EQ hr.units) (pe_fld (pv 0) rfl) (pe_fld (pv 1) rfl) (nomark _)) (pe_and (pe_cmpR (op_EQ hr.units) (pe_fld (pv 0) rfl) (pe_fld (pv 1) rfl) (nomark _)) (pe_one (pe_cmpR (op_EQ hr.units) (pe_fld (pv 0) rfl) (pe_fld (pv 1) rfl) (nomark _))))))))),
    (den_ret (den_andV (den_isV F.not_Table den_var) (den_andV (den_op opd_eq (den_fld F.cl F.na_names den_var) (den_fld F.cl F.na_names den_var)) (den_andV (den_op opd_eq (den_fld F.cl F.na_same den_var) (den_fld F.cl F.na_same den_var)) (den_andV (den_op opd_eq (den_fld F.cl F.na_turns den_var) (den_fld F.cl F.na_turns den_var)) (den_op opd_eq (den_fld F.cl F.na_grid den_var) (den_fld F.cl F.na_grid den_var)))))))⟩

def m_trows (C : Addr) : FS :=
  (sSeq (sAsg (fMeth C "kinds" 1 (fn_tkinds C) (fVar 0) fNil) (mName 1))
    (sSeq (sAsg (fLst (fCons (fOp gJoin (fC (.str " ")) (fOp gCatL (fLst (fCons (fC (.str "kinds")) fNil)) (fVar 1))) (fCons (fJoined [(fC (.str "same ")), (fFmt (fFld C "same" (fVar 0)))]) fNil))) (mName 2))
    (sSeq (sAsg (fLc (iL (fVar 1)) (mName 5) (fun _ => some true) (fJoined [(fC (.str "back ")), (fFmt (fVar 5)), (fC (.str " ")), (fFmt (fMeth C "back" 2 (fn_tback C) (fVar 0) (fCons (fVar 5) fNil)))]) [5]) (mName 3))
    (sSeq (sAsg (fLc2 (iL (fVar 1)) (mName 6) (fun _ => some true) (iL (fVar 1)) (mName 7) (fun _ => some true) (fOp gJoin (fC (.str " ")) (fOp gCatL (fLst (fCons (fC (.str "step")) (fCons (fVar 6) (fCons (fVar 7) (fCons (fC (.str "=")) fNil))))) (fMeth C "step" 3 (fn_tstep C) (fVar 0) (fCons (fVar 6) (fCons (fVar 7) fNil))))) [6, 7] [7]) (mName 4))
    (sRet (fOp gCatL (fOp gCatL (fVar 2) (fVar 3)) (fVar 4)))))))
def fn_trows (C : Addr) : List D → Option D := runF n_trows.length (m_trows C)
theorem ok_trows (F : Fa K mg ad fd) (T : Bl mg) : FnOk P w K mg base CX0 4 (ad 33) (fd 33) p_trows (spF K 1 (fn_trows (ad 9))) := by
  have G_tback := ok_tback (P := P) (w := w) (base := base) F T
  have G_tkinds := ok_tkinds (P := P) (w := w) (base := base) F T
  have G_tstep := ok_tstep (P := P) (w := w) (base := base) F T
  exact fn_den F.F_trows sc_trows fun cdv A outer s H E hr => ⟨_, PSs.nox (pss_cons (ps_set (i := 1) sc_trows.nd rfl (by first | exact .inl rfl | exact .inr rfl) (pe_meth0 (pv 0) F.cl F.mt_tkinds G_tkinds (hr.mono (by decide)) F.b_tkinds .nil pass0))
      (pss_cons (ps_set (i := 2) sc_trows.nd rfl (by first | exact .inl rfl | exact .inr rfl) (pe_lst (pa_cons (pe_join pe_str (pe_op op_cat (pe_lst (pa_cons pe_str pa_nil)) (pv 1))) (pa_cons (pe_joined (.cons pe_str (.cons (pe_fmt (pe_fld (pv 0) rfl)) .nil))) pa_nil))))
      (pss_cons (ps_setLc (i := 3) (own := [("name", 5)]) rfl sc_trows.nd rfl rfl (by rfl) (pi_list (pv 1)) (blkOk_by (N := n_trows) (sc := defScope s_trows) (by decide +kernel)) (fun _ _ _ _ _ => (pg_name (i := 5) sc_trows.nd rfl (by first | exact .inl rfl | exact .inr rfl))) (fun _ _ _ _ _ => pts_nil) (fun _ _ _ _ _ => (pe_joined (.cons pe_str (.cons (pe_fmt (pv 5)) (.cons pe_str (.cons (pe_fmt (pe_meth (pv 0) F.cl F.mt_tback G_tback (hr.mono (by decide)) F.b_tback .nil pass0 (pa_cons (pv 5) pa_nil))) .nil)))))))
      (pss_cons (ps_setLc2 (i := 4) (own := [("one", 6), ("other", 7)]) (vs1 := [7]) rfl sc_trows.nd rfl rfl (by rfl) (pi_list (pv 1)) (blkOk_by (N := n_trows) (sc := defScope s_trows) (by decide +kernel)) (by decide) (fun _ _ _ _ _ => (pg_name (i := 6) sc_trows.nd rfl (by first | exact .inl rfl | exact .inr rfl))) (fun _ _ _ _ _ => pts_nil) (fun _ _ _ _ _ => (pi_list (pv 1))) (fun _ _ _ _ _ => (pg_name (i := 7) sc_trows.nd rfl (by first | exact .inl rfl | exact .inr rfl))) (fun _ _ _ _ _ => pts_nil) (fun _ _ _ _ _ => (pe_join pe_str (pe_op op_cat (pe_lst (pa_cons pe_str (pa_cons (pv 6) (pa_cons (pv 7) (pa_cons pe_str pa_nil))))) (pe_meth (pv 0) F.cl F.mt_tstep G_tstep (hr.mono (by decide)) F.b_tstep .nil pass0 (pa_cons (pv 6) (pa_cons (pv 7) pa_nil)))))))
      (pss_one (ps_ret (pe_op op_cat (pe_op op_cat (pv 2) (pv 3)) (pv 4)))))))),
    (den_seq (den_asg (den_meth den_var den_nil) den_gName)
      (den_seq (den_asg (den_lst (den_cons (den_join den_str (den_op opd_catL (den_lst (den_cons den_str den_nil)) den_var)) (den_cons (den_joined (.cons den_str (.cons (den_fmt (den_fld F.cl F.na_same den_var)) .nil))) den_nil))) den_gName)
      (den_seq (den_asg (den_lc (den_iL den_var) den_gName (own_name (by decide)) den_tYes (den_joined (.cons den_str (.cons (den_fmt den_var) (.cons den_str (.cons (den_fmt (den_meth den_var (den_cons den_var den_nil))) .nil)))))) den_gName)
      (den_seq (den_asg (den_lc2 (den_iL den_var) den_gName (own_name (by decide)) den_tYes (den_iL den_var) den_gName (own_name (by decide)) den_tYes (den_join den_str (den_op opd_catL (den_lst (den_cons den_str (den_cons den_var (den_cons den_var (den_cons den_str den_nil))))) (den_meth den_var (den_cons den_var (den_cons den_var den_nil)))))) den_gName)
      (den_ret (den_op opd_catL (den_op opd_catL den_var den_var) den_var))))))⟩

def m_tstr (C : Addr) : FS :=
  (sRet (fOp gJoin (fC (.str "
")) (fCallN 1 (fn_trows C) (fCons (fVar 0) fNil))))
def fn_tstr (C : Addr) : List D → Option D := runF n_tstr.length (m_tstr C)
theorem ok_tstr (F : Fa K mg ad fd) (T : Bl mg) : FnOk P w K mg base CX0 5 (ad 4213) (fd 4213) p_tstr (spF K 1 (fn_tstr (ad 9))) := by
  have G_trows := ok_trows (P := P) (w := w) (base := base) F T
  exact fn_den F.F_tstr sc_tstr fun cdv A outer s H E hr => ⟨_, PSs.nox (pss_one (ps_ret (pe_join pe_str (pe_call G_trows (hr.mono (by decide)) (by rfl) F.g_trows F.F_trows.kp F.b_trows .nil pass0 (pa_cons (pv 0) pa_nil))))),
    (den_ret (den_join den_str (den_call (den_cons den_var den_nil))))⟩

end
end KK
end

section
set_option Elab.async false
set_option linter.all false
set_option maxRecDepth 100000
namespace KK
open PySem PySem.Spec PyProof.Rows L2 KW DL
section
variable {P : Program} {w : World} {K : PySem.W.Frag} {mg : Str → Option Value} {base : Heap} {ad : Nat → Addr} {fd : Nat → FuncData}
def m_shares : FS :=
  (sSeq (sFor (iR1 (fCons (fC (.int 60)) fNil)) (mName 2) (sIf (fTest (fOp gNe (fVar 1) (fC (.int 0)))) (sSeq (sAsg (fOp gMod (fVar 0) (fVar 1)) (mName 3))
    (sSeq (sAsg (fVar 1) (mName 0))
    (sAsg (fVar 3) (mName 1)))) sNext))
    (sRet (fVar 0)))
def fn_shares : List D → Option D := runF n_shares.length (m_shares)
theorem ok_shares (F : Fa K mg ad fd) (T : Bl mg) : FnOk P w K mg base CX0 1 (ad 39) (fd 39) p_shares (spF K 2 (fn_shares)) := by

  exact fn_den F.F_shares sc_shares fun cdv A outer s H E hr => ⟨_, PSs.nox (pss_cons (ps_for PassesOwn.never rfl (pi_range1 rfl T.m_range (pa_cons pe_int pa_nil)) (pg_name (i := 2) sc_shares.nd rfl (by first | exact .inl rfl | exact .inr rfl)) (pss_one (ps_if (pt_cmpR (op_NE hr.units) (pv 1) pe_int (nomark _)) (pss_cons (ps_set (i := 3) sc_shares.nd rfl (by first | exact .inl rfl | exact .inr rfl) (pe_op op_mod (pv 0) (pv 1)))
      (pss_cons (ps_set (i := 0) sc_shares.nd rfl (by first | exact .inl rfl | exact .inr rfl) (pv 1))
      (pss_one (ps_set (i := 1) sc_shares.nd rfl (by first | exact .inl rfl | exact .inr rfl) (pv 3))))) pss_nil)))
      (pss_one (ps_ret (pv 0)))),
    (den_seq (den_for (den_iR1 (den_cons den_int den_nil)) den_gName (den_ifS (den_test (den_op opd_ne den_var den_int)) (den_seq (den_asg (den_op opd_mod den_var den_var) den_gName)
      (den_seq (den_asg den_var den_gName)
      (den_asg den_var den_gName))) den_next))
      (den_ret den_var))⟩

def m_inord : FS :=
  (sRet (fLc (iL (fVar 0)) (mName 2) (fTest (fOp (gIn false) (fVar 2) (fVar 1))) (fVar 2) [2]))
def fn_inord : List D → Option D := runF n_inord.length (m_inord)
theorem ok_inord (F : Fa K mg ad fd) (T : Bl mg) : FnOk P w K mg base CX0 1 (ad 35) (fd 35) p_inord (spF K 2 (fn_inord)) := by

  exact fn_den F.F_inord sc_inord fun cdv A outer s H E hr => ⟨_, PSs.nox (pss_one (ps_ret (pe_lc (own := [("_law_kind", 2)]) rfl sc_inord.nd (pi_list (pv 0)) (blkOk_by (N := n_inord) (sc := defScope s_inord) (by decide +kernel)) (fun _ _ _ _ _ => (pg_name (i := 2) sc_inord.nd rfl (by first | exact .inl rfl | exact .inr rfl))) (fun _ _ _ _ _ => (pts_one (pt_cmpR (r := rIn K false) op_in_seq (pv 2) (pv 1) (by rfl)))) (fun _ _ _ _ _ => (pv 2))))),
    (den_ret (den_lc (den_iL den_var) den_gName (own_name (by decide)) (den_test (den_op opd_in den_var den_var)) den_var))⟩

def m_ltable : FS :=
  (sRet (fDisp (fPc (fC (.str "kinds")) (fCall gListOf (fCons (fVar 0) fNil)) (fPc (fC (.str "same")) (fVar 1) (fPc (fC (.str "back")) (fDz (fCons (fVar 0) (fCons (fVar 2) fNil))) (fPc (fC (.str "step")) (fVar 3) fPn))))))
def fn_ltable : List D → Option D := runF n_ltable.length (m_ltable)
theorem ok_ltable (F : Fa K mg ad fd) (T : Bl mg) : FnOk P w K mg base CX0 1 (ad 36) (fd 36) p_ltable (spF K 4 (fn_ltable)) := by

  exact fn_den F.F_ltable sc_ltable fun cdv A outer s H E hr => ⟨_, PSs.nox (pss_one (ps_ret (pe_disp (pps_cons pe_str (pe_callTy call_list_of (by rfl) T.m_list (by decide +kernel) (pa_cons (pv 0) pa_nil)) (pps_cons pe_str (pv 1) (pps_cons pe_str (pe_dictzip rfl (by rfl) T.m_dict (by rfl) T.m_zip (pa_cons (pv 0) (pa_cons (pv 2) pa_nil))) (pps_cons pe_str (pv 3) pps_nil)))) rfl rfl (by decide) (by decide)))),
    (den_ret (den_disp (den_pc den_str (den_cb cad_list (den_cons den_var den_nil)) (den_pc den_str den_var (den_pc den_str (den_dz (den_cons den_var (den_cons den_var den_nil))) (den_pc den_str den_var den_pn))))))⟩

def m_lkof : FS :=
  (sSeq (sIf (fTest (fOp gEq (fVar 0) (fC (.str "moments")))) (sRet (fLst (fCons (fC (.str "ahead")) (fCons (fC (.str "same")) (fCons (fC (.str "behind")) fNil))))) sNext)
    (sSeq (sIf (fTest (fOp gEq (fVar 0) (fC (.str "courses")))) (sRet (fLst (fCons (fC (.str "nw")) (fCons (fC (.str "n")) (fCons (fC (.str "ne")) (fCons (fC (.str "w")) (fCons (fC (.str "same")) (fCons (fC (.str "e")) (fCons (fC (.str "sw")) (fCons (fC (.str "s")) (fCons (fC (.str "se")) fNil))))))))))) sNext)
    (sSeq (sIf (fTest (fOp gEq (fVar 0) (fC (.str "branches")))) (sRet (fLst (fCons (fC (.str "up")) (fCons (fC (.str "same")) (fCons (fC (.str "down")) (fCons (fC (.str "apart")) fNil)))))) sNext)
    (sSeq (sIf (fTest (fOp gEq (fVar 0) (fC (.str "parts")))) (sRet (fLst (fCons (fC (.str "within")) (fCons (fC (.str "around")) (fCons (fC (.str "same")) (fCons (fC (.str "across")) (fCons (fC (.str "apart")) fNil))))))) sNext)
    (sSeq (sAsg (fLst (fCons (fC (.str "before")) (fCons (fC (.str "meets")) (fCons (fC (.str "overlaps")) (fCons (fC (.str "begins")) (fCons (fC (.str "within")) (fCons (fC (.str "ends")) (fCons (fC (.str "same")) fNil)))))))) (mName 1))
    (sRet (fOp gCatL (fVar 1) (fLst (fCons (fC (.str "ended")) (fCons (fC (.str "around")) (fCons (fC (.str "begun")) (fCons (fC (.str "overlaid")) (fCons (fC (.str "met")) (fCons (fC (.str "after")) fNil))))))))))))))
def fn_lkof : List D → Option D := runF n_lkof.length (m_lkof)
theorem ok_lkof (F : Fa K mg ad fd) (T : Bl mg) : FnOk P w K mg base CX0 1 (ad 43) (fd 43) p_lkof (spF K 1 (fn_lkof)) := by

  exact fn_den F.F_lkof sc_lkof fun cdv A outer s H E hr => ⟨_, PSs.nox (pss_cons (ps_if (pt_cmpR (op_EQ hr.units) (pv 0) pe_str (nomark _)) (pss_one (ps_ret (pe_lst (pa_cons pe_str (pa_cons pe_str (pa_cons pe_str pa_nil)))))) pss_nil)
      (pss_cons (ps_if (pt_cmpR (op_EQ hr.units) (pv 0) pe_str (nomark _)) (pss_one (ps_ret (pe_lst (pa_cons pe_str (pa_cons pe_str (pa_cons pe_str (pa_cons pe_str (pa_cons pe_str (pa_cons pe_str (pa_cons pe_str (pa_cons pe_str (pa_cons pe_str pa_nil)))))))))))) pss_nil)
      (pss_cons (ps_if (pt_cmpR (op_EQ hr.units) (pv 0) pe_str (nomark _)) (pss_one (ps_ret (pe_lst (pa_cons pe_str (pa_cons pe_str (pa_cons pe_str (pa_cons pe_str pa_nil))))))) pss_nil)
      (pss_cons (ps_if (pt_cmpR (op_EQ hr.units) (pv 0) pe_str (nomark _)) (pss_one (ps_ret (pe_lst (pa_cons pe_str (pa_cons pe_str (pa_cons pe_str (pa_cons pe_str (pa_cons pe_str pa_nil)))))))) pss_nil)
      (pss_cons (ps_set (i := 1) sc_lkof.nd rfl (by first | exact .inl rfl | exact .inr rfl) (pe_lst (pa_cons pe_str (pa_cons pe_str (pa_cons pe_str (pa_cons pe_str (pa_cons pe_str (pa_cons pe_str (pa_cons pe_str pa_nil)))))))))
      (pss_one (ps_ret (pe_op op_cat (pv 1) (pe_lst (pa_cons pe_str (pa_cons pe_str (pa_cons pe_str (pa_cons pe_str (pa_cons pe_str (pa_cons pe_str pa_nil))))))))))))))),
    (den_seq (den_ifS (den_test (den_op opd_eq den_var den_str)) (den_ret (den_lst (den_cons den_str (den_cons den_str (den_cons den_str den_nil))))) den_next)
      (den_seq (den_ifS (den_test (den_op opd_eq den_var den_str)) (den_ret (den_lst (den_cons den_str (den_cons den_str (den_cons den_str (den_cons den_str (den_cons den_str (den_cons den_str (den_cons den_str (den_cons den_str (den_cons den_str den_nil))))))))))) den_next)
      (den_seq (den_ifS (den_test (den_op opd_eq den_var den_str)) (den_ret (den_lst (den_cons den_str (den_cons den_str (den_cons den_str (den_cons den_str den_nil)))))) den_next)
      (den_seq (den_ifS (den_test (den_op opd_eq den_var den_str)) (den_ret (den_lst (den_cons den_str (den_cons den_str (den_cons den_str (den_cons den_str (den_cons den_str den_nil))))))) den_next)
      (den_seq (den_asg (den_lst (den_cons den_str (den_cons den_str (den_cons den_str (den_cons den_str (den_cons den_str (den_cons den_str (den_cons den_str den_nil)))))))) den_gName)
      (den_ret (den_op opd_catL den_var (den_lst (den_cons den_str (den_cons den_str (den_cons den_str (den_cons den_str (den_cons den_str (den_cons den_str den_nil))))))))))))))⟩

def m_lsign : FS :=
  (sRet (fIfE (fTest (fOp gLt (fVar 0) (fVar 1))) (fC (.int 0)) (fIfE (fTest (fOp gEq (fVar 0) (fVar 1))) (fC (.int 1)) (fC (.int 2)))))
def fn_lsign : List D → Option D := runF n_lsign.length (m_lsign)
theorem ok_lsign (F : Fa K mg ad fd) (T : Bl mg) : FnOk P w K mg base CX0 1 (ad 47) (fd 47) p_lsign (spF K 2 (fn_lsign)) := by

  exact fn_den F.F_lsign sc_lsign fun cdv A outer s H E hr => ⟨_, PSs.nox (pss_one (ps_ret (pe_ifExp (pt_cmpR op_lt (pv 0) (pv 1) (nomark _)) pe_int (pe_ifExp (pt_cmpR (op_EQ hr.units) (pv 0) (pv 1) (nomark _)) pe_int pe_int)))),
    (den_ret (den_ifE (den_test (den_op opd_lt den_var den_var)) den_int (den_ifE (den_test (den_op opd_eq den_var den_var)) den_int den_int)))⟩

def m_lpar : FS :=
  (sSeq (sIf (fTest (fOp gSetEq (fVar 0) (fVar 1))) (sRet (fC (.str "same"))) sNext)
    (sSeq (sIf (fTest (fOp gEq (fOp gSetSubLen (fVar 0) (fVar 1)) (fC (.int 0)))) (sRet (fC (.str "within"))) sNext)
    (sSeq (sIf (fTest (fOp gEq (fOp gSetSubLen (fVar 1) (fVar 0)) (fC (.int 0)))) (sRet (fC (.str "around"))) sNext)
    (sRet (fIfE (fTest (fOp gGt (fOp gSetAndLen (fVar 0) (fVar 1)) (fC (.int 0)))) (fC (.str "across")) (fC (.str "apart")))))))
def fn_lpar : List D → Option D := runF n_lpar.length (m_lpar)
theorem ok_lpar (F : Fa K mg ad fd) (T : Bl mg) : FnOk P w K mg base CX0 1 (ad 48) (fd 48) p_lpar (spF K 2 (fn_lpar)) := by

  exact fn_den F.F_lpar sc_lpar fun cdv A outer s H E hr => ⟨_, PSs.nox (pss_cons (ps_if (pt_cmpR (op_eqS hr.units0) (pe_callTy (cr_setJ rfl) (by rfl) T.m_set boot_set (pa_cons (pv 0) pa_nil)) (pe_callTy (cr_setJ rfl) (by rfl) T.m_set boot_set (pa_cons (pv 1) pa_nil)) (nomark _)) (pss_one (ps_ret pe_str)) pss_nil)
      (pss_cons (ps_if (pt_cmpR (op_EQ hr.units) (pe_callB cr_lenSI (by rfl) T.m_len PySem.boot_len (pa_cons (pe_op op_subS (pe_callTy (cr_setJ rfl) (by rfl) T.m_set boot_set (pa_cons (pv 0) pa_nil)) (pe_callTy (cr_setJ rfl) (by rfl) T.m_set boot_set (pa_cons (pv 1) pa_nil))) pa_nil)) pe_int (nomark _)) (pss_one (ps_ret pe_str)) pss_nil)
      (pss_cons (ps_if (pt_cmpR (op_EQ hr.units) (pe_callB cr_lenSI (by rfl) T.m_len PySem.boot_len (pa_cons (pe_op op_subS (pe_callTy (cr_setJ rfl) (by rfl) T.m_set boot_set (pa_cons (pv 1) pa_nil)) (pe_callTy (cr_setJ rfl) (by rfl) T.m_set boot_set (pa_cons (pv 0) pa_nil))) pa_nil)) pe_int (nomark _)) (pss_one (ps_ret pe_str)) pss_nil)
      (pss_one (ps_ret (pe_ifExp (pt_cmpR op_gt (pe_callB cr_lenSI (by rfl) T.m_len PySem.boot_len (pa_cons (pe_op op_andS (pe_callTy (cr_setJ rfl) (by rfl) T.m_set boot_set (pa_cons (pv 0) pa_nil)) (pe_callTy (cr_setJ rfl) (by rfl) T.m_set boot_set (pa_cons (pv 1) pa_nil))) pa_nil)) pe_int (nomark _)) pe_str pe_str)))))),
    (den_seq (den_ifS (den_test (den_setEq den_var den_var)) (den_ret den_str) den_next)
      (den_seq (den_ifS (den_test (den_op opd_eq (den_subLen den_var den_var) den_int)) (den_ret den_str) den_next)
      (den_seq (den_ifS (den_test (den_op opd_eq (den_subLen den_var den_var) den_int)) (den_ret den_str) den_next)
      (den_ret (den_ifE (den_test (den_op opd_gt (den_andLen den_var den_var) den_int)) den_str den_str)))))⟩

def m_lstr : FS :=
  (sSeq (sAsg (fVar 0) (mTup 2 (mCons (mName 2) (mCons (mName 3) mNil))))
    (sSeq (sAsg (fVar 1) (mTup 2 (mCons (mName 4) (mCons (mName 5) mNil))))
    (sSeq (sIf (fTest (fOp gLt (fVar 3) (fVar 4))) (sRet (fC (.str "before"))) sNext)
    (sSeq (sIf (fTest (fOp gEq (fVar 3) (fVar 4))) (sRet (fC (.str "meets"))) sNext)
    (sSeq (sIf (fTest (fOp gLt (fVar 5) (fVar 2))) (sRet (fC (.str "after"))) sNext)
    (sSeq (sIf (fTest (fOp gEq (fVar 5) (fVar 2))) (sRet (fC (.str "met"))) sNext)
    (sSeq (sIf (fTest (fOp gEq (fVar 2) (fVar 4))) (sRet (fOp gIxL (fLst (fCons (fC (.str "begins")) (fCons (fC (.str "same")) (fCons (fC (.str "begun")) fNil)))) (fCallN 2 (fn_lsign) (fCons (fVar 3) (fCons (fVar 5) fNil))))) sNext)
    (sSeq (sIf (fTest (fOp gEq (fVar 3) (fVar 5))) (sRet (fIfE (fTest (fOp gGt (fVar 2) (fVar 4))) (fC (.str "ends")) (fC (.str "ended")))) sNext)
    (sSeq (sIf (fTest (fOp gLt (fVar 2) (fVar 4))) (sRet (fIfE (fTest (fOp gLt (fVar 3) (fVar 5))) (fC (.str "overlaps")) (fC (.str "around")))) sNext)
    (sRet (fIfE (fTest (fOp gLt (fVar 3) (fVar 5))) (fC (.str "within")) (fC (.str "overlaid")))))))))))))
def fn_lstr : List D → Option D := runF n_lstr.length (m_lstr)
theorem ok_lstr (F : Fa K mg ad fd) (T : Bl mg) : FnOk P w K mg base CX0 2 (ad 49) (fd 49) p_lstr (spF K 2 (fn_lstr)) := by
  have G_lsign := ok_lsign (P := P) (w := w) (base := base) F T
  exact fn_den F.F_lstr sc_lstr fun cdv A outer s H E hr => ⟨_, PSs.nox (pss_cons (ps_asg (pv 0) (pg_tup rfl (pgs_cons (pg_name (i := 2) sc_lstr.nd rfl (by first | exact .inl rfl | exact .inr rfl)) (pgs_cons (pg_name (i := 3) sc_lstr.nd rfl (by first | exact .inl rfl | exact .inr rfl)) pgs_nil))))
      (pss_cons (ps_asg (pv 1) (pg_tup rfl (pgs_cons (pg_name (i := 4) sc_lstr.nd rfl (by first | exact .inl rfl | exact .inr rfl)) (pgs_cons (pg_name (i := 5) sc_lstr.nd rfl (by first | exact .inl rfl | exact .inr rfl)) pgs_nil))))
      (pss_cons (ps_if (pt_cmpR op_lt (pv 3) (pv 4) (nomark _)) (pss_one (ps_ret pe_str)) pss_nil)
      (pss_cons (ps_if (pt_cmpR (op_EQ hr.units) (pv 3) (pv 4) (nomark _)) (pss_one (ps_ret pe_str)) pss_nil)
      (pss_cons (ps_if (pt_cmpR op_lt (pv 5) (pv 2) (nomark _)) (pss_one (ps_ret pe_str)) pss_nil)
      (pss_cons (ps_if (pt_cmpR (op_EQ hr.units) (pv 5) (pv 2) (nomark _)) (pss_one (ps_ret pe_str)) pss_nil)
      (pss_cons (ps_if (pt_cmpR (op_EQ hr.units) (pv 2) (pv 4) (nomark _)) (pss_one (ps_ret (pe_ix (r := rIxL K) ix_list (pe_lst (pa_cons pe_str (pa_cons pe_str (pa_cons pe_str pa_nil)))) (pe_call G_lsign (hr.mono (by decide)) (by rfl) F.g_lsign F.F_lsign.kp F.b_lsign .nil pass0 (pa_cons (pv 3) (pa_cons (pv 5) pa_nil))) (fun _ _ => rfl)))) pss_nil)
      (pss_cons (ps_if (pt_cmpR (op_EQ hr.units) (pv 3) (pv 5) (nomark _)) (pss_one (ps_ret (pe_ifExp (pt_cmpR op_gt (pv 2) (pv 4) (nomark _)) pe_str pe_str))) pss_nil)
      (pss_cons (ps_if (pt_cmpR op_lt (pv 2) (pv 4) (nomark _)) (pss_one (ps_ret (pe_ifExp (pt_cmpR op_lt (pv 3) (pv 5) (nomark _)) pe_str pe_str))) pss_nil)
      (pss_one (ps_ret (pe_ifExp (pt_cmpR op_lt (pv 3) (pv 5) (nomark _)) pe_str pe_str)))))))))))),
    (den_seq (den_asg den_var (den_gTup (den_gCons den_gName (den_gCons den_gName den_gNil))))
      (den_seq (den_asg den_var (den_gTup (den_gCons den_gName (den_gCons den_gName den_gNil))))
      (den_seq (den_ifS (den_test (den_op opd_lt den_var den_var)) (den_ret den_str) den_next)
      (den_seq (den_ifS (den_test (den_op opd_eq den_var den_var)) (den_ret den_str) den_next)
      (den_seq (den_ifS (den_test (den_op opd_lt den_var den_var)) (den_ret den_str) den_next)
      (den_seq (den_ifS (den_test (den_op opd_eq den_var den_var)) (den_ret den_str) den_next)
      (den_seq (den_ifS (den_test (den_op opd_eq den_var den_var)) (den_ret (den_op opd_ixL (den_lst (den_cons den_str (den_cons den_str (den_cons den_str den_nil)))) (den_call (den_cons den_var (den_cons den_var den_nil))))) den_next)
      (den_seq (den_ifS (den_test (den_op opd_eq den_var den_var)) (den_ret (den_ifE (den_test (den_op opd_gt den_var den_var)) den_str den_str)) den_next)
      (den_seq (den_ifS (den_test (den_op opd_lt den_var den_var)) (den_ret (den_ifE (den_test (den_op opd_lt den_var den_var)) den_str den_str)) den_next)
      (den_ret (den_ifE (den_test (den_op opd_lt den_var den_var)) den_str den_str)))))))))))⟩

def m_lkind : FS :=
  (sSeq (sIf (fTest (fOp gEq (fVar 0) (fC (.str "moments")))) (sRet (fOp gIxL (fLst (fCons (fC (.str "ahead")) (fCons (fC (.str "same")) (fCons (fC (.str "behind")) fNil)))) (fCallN 2 (fn_lsign) (fCons (fVar 1) (fCons (fVar 2) fNil))))) sNext)
    (sSeq (sIf (fTest (fOp gEq (fVar 0) (fC (.str "courses")))) (sSeq (sAsg (fOp gIxL (fLst (fCons (fC (.str "w")) (fCons (fC (.str "")) (fCons (fC (.str "e")) fNil)))) (fCallN 2 (fn_lsign) (fCons (fOp gIxT (fVar 1) (fC (.int 0))) (fCons (fOp gIxT (fVar 2) (fC (.int 0))) fNil)))) (mName 3))
    (sSeq (sAsg (fOp gIxL (fLst (fCons (fC (.str "n")) (fCons (fC (.str "")) (fCons (fC (.str "s")) fNil)))) (fCallN 2 (fn_lsign) (fCons (fOp gIxT (fVar 1) (fC (.int 1))) (fCons (fOp gIxT (fVar 2) (fC (.int 1))) fNil)))) (mName 4))
    (sRet (fIfE (fTest (fOp gNe (fOp gCatS (fVar 4) (fVar 3)) (fC (.str "")))) (fOp gCatS (fVar 4) (fVar 3)) (fC (.str "same")))))) sNext)
    (sSeq (sIf (fTest (fOp gEq (fVar 0) (fC (.str "branches")))) (sSeq (sIf (fTest (fOp gEq (fVar 1) (fVar 2))) (sRet (fC (.str "same"))) sNext)
    (sSeq (sIf (fTest (fOp gEq (fSl gSlT (fVar 2) fOn (fOs (fCall gLenQ (fCons (fVar 1) fNil)))) (fVar 1))) (sRet (fC (.str "up"))) sNext)
    (sRet (fIfE (fTest (fOp gEq (fSl gSlT (fVar 1) fOn (fOs (fCall gLenQ (fCons (fVar 2) fNil)))) (fVar 2))) (fC (.str "down")) (fC (.str "apart")))))) sNext)
    (sSeq (sIf (fTest (fOp gEq (fVar 0) (fC (.str "parts")))) (sRet (fCallN 2 (fn_lpar) (fCons (fVar 1) (fCons (fVar 2) fNil)))) sNext)
    (sRet (fCallN 2 (fn_lstr) (fCons (fVar 1) (fCons (fVar 2) fNil))))))))
def fn_lkind : List D → Option D := runF n_lkind.length (m_lkind)
theorem ok_lkind (F : Fa K mg ad fd) (T : Bl mg) : FnOk P w K mg base CX0 3 (ad 50) (fd 50) p_lkind (spF K 3 (fn_lkind)) := by
  have G_lpar := ok_lpar (P := P) (w := w) (base := base) F T
  have G_lsign := ok_lsign (P := P) (w := w) (base := base) F T
  have G_lstr := ok_lstr (P := P) (w := w) (base := base) F T
  exact fn_den F.F_lkind sc_lkind fun cdv A outer s H E hr => ⟨_, PSs.nox (pss_cons (ps_if (pt_cmpR (op_EQ hr.units) (pv 0) pe_str (nomark _)) (pss_one (ps_ret (pe_ix (r := rIxL K) ix_list (pe_lst (pa_cons pe_str (pa_cons pe_str (pa_cons pe_str pa_nil)))) (pe_call G_lsign (hr.mono (by decide)) (by rfl) F.g_lsign F.F_lsign.kp F.b_lsign .nil pass0 (pa_cons (pv 1) (pa_cons (pv 2) pa_nil))) (fun _ _ => rfl)))) pss_nil)
      (pss_cons (ps_if (pt_cmpR (op_EQ hr.units) (pv 0) pe_str (nomark _)) (pss_cons (ps_set (i := 3) sc_lkind.nd rfl (by first | exact .inl rfl | exact .inr rfl) (pe_ix (r := rIxL K) ix_list (pe_lst (pa_cons pe_str (pa_cons pe_str (pa_cons pe_str pa_nil)))) (pe_call G_lsign (hr.mono (by decide)) (by rfl) F.g_lsign F.F_lsign.kp F.b_lsign .nil pass0 (pa_cons (pe_ix (r := rIxT K) ix_tup (pv 1) pe_int (fun _ _ => rfl)) (pa_cons (pe_ix (r := rIxT K) ix_tup (pv 2) pe_int (fun _ _ => rfl)) pa_nil))) (fun _ _ => rfl)))
      (pss_cons (ps_set (i := 4) sc_lkind.nd rfl (by first | exact .inl rfl | exact .inr rfl) (pe_ix (r := rIxL K) ix_list (pe_lst (pa_cons pe_str (pa_cons pe_str (pa_cons pe_str pa_nil)))) (pe_call G_lsign (hr.mono (by decide)) (by rfl) F.g_lsign F.F_lsign.kp F.b_lsign .nil pass0 (pa_cons (pe_ix (r := rIxT K) ix_tup (pv 1) pe_int (fun _ _ => rfl)) (pa_cons (pe_ix (r := rIxT K) ix_tup (pv 2) pe_int (fun _ _ => rfl)) pa_nil))) (fun _ _ => rfl)))
      (pss_one (ps_ret (pe_ifExp (pt_cmpR (op_NE hr.units) (pe_op op_add_str (pv 4) (pv 3)) pe_str (nomark _)) (pe_op op_add_str (pv 4) (pv 3)) pe_str))))) pss_nil)
      (pss_cons (ps_if (pt_cmpR (op_EQ hr.units) (pv 0) pe_str (nomark _)) (pss_cons (ps_if (pt_cmpR (op_EQ hr.units) (pv 1) (pv 2) (nomark _)) (pss_one (ps_ret pe_str)) pss_nil)
      (pss_cons (ps_if (pt_cmpR (op_EQ hr.units) (pe_slice sl_tupA (pv 2) po_none (po_some (pe_callB call_len_seq (by rfl) T.m_len PySem.boot_len (pa_cons (pv 1) pa_nil)))) (pv 1) (nomark _)) (pss_one (ps_ret pe_str)) pss_nil)
      (pss_one (ps_ret (pe_ifExp (pt_cmpR (op_EQ hr.units) (pe_slice sl_tupA (pv 1) po_none (po_some (pe_callB call_len_seq (by rfl) T.m_len PySem.boot_len (pa_cons (pv 2) pa_nil)))) (pv 2) (nomark _)) pe_str pe_str))))) pss_nil)
      (pss_cons (ps_if (pt_cmpR (op_EQ hr.units) (pv 0) pe_str (nomark _)) (pss_one (ps_ret (pe_call G_lpar (hr.mono (by decide)) (by rfl) F.g_lpar F.F_lpar.kp F.b_lpar .nil pass0 (pa_cons (pv 1) (pa_cons (pv 2) pa_nil))))) pss_nil)
      (pss_one (ps_ret (pe_call G_lstr (hr.mono (by decide)) (by rfl) F.g_lstr F.F_lstr.kp F.b_lstr .nil pass0 (pa_cons (pv 1) (pa_cons (pv 2) pa_nil))))))))),
    (den_seq (den_ifS (den_test (den_op opd_eq den_var den_str)) (den_ret (den_op opd_ixL (den_lst (den_cons den_str (den_cons den_str (den_cons den_str den_nil)))) (den_call (den_cons den_var (den_cons den_var den_nil))))) den_next)
      (den_seq (den_ifS (den_test (den_op opd_eq den_var den_str)) (den_seq (den_asg (den_op opd_ixL (den_lst (den_cons den_str (den_cons den_str (den_cons den_str den_nil)))) (den_call (den_cons (den_op opd_ixT den_var den_int) (den_cons (den_op opd_ixT den_var den_int) den_nil)))) den_gName)
      (den_seq (den_asg (den_op opd_ixL (den_lst (den_cons den_str (den_cons den_str (den_cons den_str den_nil)))) (den_call (den_cons (den_op opd_ixT den_var den_int) (den_cons (den_op opd_ixT den_var den_int) den_nil)))) den_gName)
      (den_ret (den_ifE (den_test (den_op opd_ne (den_op opd_catS den_var den_var) den_str)) (den_op opd_catS den_var den_var) den_str)))) den_next)
      (den_seq (den_ifS (den_test (den_op opd_eq den_var den_str)) (den_seq (den_ifS (den_test (den_op opd_eq den_var den_var)) (den_ret den_str) den_next)
      (den_seq (den_ifS (den_test (den_op opd_eq (den_sl sld_tup den_var den_on (den_os (den_cb cad_lenQ (den_cons den_var den_nil)))) den_var)) (den_ret den_str) den_next)
      (den_ret (den_ifE (den_test (den_op opd_eq (den_sl sld_tup den_var den_on (den_os (den_cb cad_lenQ (den_cons den_var den_nil)))) den_var)) den_str den_str)))) den_next)
      (den_seq (den_ifS (den_test (den_op opd_eq den_var den_str)) (den_ret (den_call (den_cons den_var (den_cons den_var den_nil)))) den_next)
      (den_ret (den_call (den_cons den_var (den_cons den_var den_nil))))))))⟩

def m_lthings : FS :=
  (sSeq (sIf (fTest (fOp gEq (fVar 0) (fC (.str "moments")))) (sRet (fLst (fCons (fC (.int 0)) (fCons (fC (.int 1)) (fCons (fC (.int 2)) fNil))))) sNext)
    (sSeq (sIf (fTest (fOp gEq (fVar 0) (fC (.str "courses")))) (sRet (fLc (iR1 (fCons (fC (.int 9)) fNil)) (mName 3) (fun _ => some true) (fTup (fCons (fOp gMod (fVar 3) (fC (.int 3))) (fCons (fOp gDiv (fVar 3) (fC (.int 3))) fNil))) [3])) sNext)
    (sSeq (sIf (fTest (fOp gEq (fVar 0) (fC (.str "branches")))) (sRet (fLst (fCons (fTup (fCons (fC (.int 0)) fNil)) (fCons (fTup (fCons (fC (.int 0)) (fCons (fC (.int 1)) fNil))) (fCons (fTup (fCons (fC (.int 0)) (fCons (fC (.int 2)) fNil))) (fCons (fTup (fCons (fC (.int 0)) (fCons (fC (.int 1)) (fCons (fC (.int 3)) fNil)))) (fCons (fTup (fCons (fC (.int 0)) (fCons (fC (.int 1)) (fCons (fC (.int 4)) fNil)))) (fCons (fTup (fCons (fC (.int 0)) (fCons (fC (.int 1)) (fCons (fC (.int 3)) (fCons (fC (.int 5)) fNil))))) (fCons (fTup (fCons (fC (.int 7)) fNil)) (fCons (fTup (fCons (fC (.int 7)) (fCons (fC (.int 8)) fNil))) fNil)))))))))) sNext)
    (sSeq (sIf (fTest (fOp gEq (fVar 0) (fC (.str "parts")))) (sRet (fLc (iR2 (fCons (fC (.int 1)) (fCons (fC (.int 128)) fNil))) (mName 3) (fun _ => some true) (fLc (iR1 (fCons (fC (.int 7)) fNil)) (mName 4) (fTru (fOp gAnd (fOp gShr (fVar 3) (fVar 4)) (fC (.int 1)))) (fVar 4) [4]) [3])) sNext)
    (sSeq (sAsg (fLst fNil) (mName 1))
    (sSeq (sFor (iR2 (fCons (fC (.int 1)) (fCons (fC (.int 6)) fNil))) (mName 2) (sAsg (fOp gCatL (fVar 1) (fLc (iR1 (fCons (fVar 2) fNil)) (mName 5) (fun _ => some true) (fTup (fCons (fVar 5) (fCons (fVar 2) fNil))) [5])) (mName 1)))
    (sRet (fVar 1))))))))
def fn_lthings : List D → Option D := runF n_lthings.length (m_lthings)
theorem ok_lthings (F : Fa K mg ad fd) (T : Bl mg) : FnOk P w K mg base CX0 1 (ad 45) (fd 45) p_lthings (spF K 1 (fn_lthings)) := by

  exact fn_den F.F_lthings sc_lthings fun cdv A outer s H E hr => ⟨_, PSs.nox (pss_cons (ps_if (pt_cmpR (op_EQ hr.units) (pv 0) pe_str (nomark _)) (pss_one (ps_ret (pe_lst (pa_cons pe_int (pa_cons pe_int (pa_cons pe_int pa_nil)))))) pss_nil)
      (pss_cons (ps_if (pt_cmpR (op_EQ hr.units) (pv 0) pe_str (nomark _)) (pss_one (ps_ret (pe_lc (own := [("_law_k", 3)]) rfl sc_lthings.nd (pi_range1 rfl T.m_range (pa_cons pe_int pa_nil)) (blkOk_by (N := n_lthings) (sc := defScope s_lthings) (by decide +kernel)) (fun _ _ _ _ _ => (pg_name (i := 3) sc_lthings.nd rfl (by first | exact .inl rfl | exact .inr rfl))) (fun _ _ _ _ _ => pts_nil) (fun _ _ _ _ _ => (pe_tup (pa_cons (pe_op op_mod (pv 3) pe_int) (pa_cons (pe_op op_fdiv (pv 3) pe_int) pa_nil))))))) pss_nil)
      (pss_cons (ps_if (pt_cmpR (op_EQ hr.units) (pv 0) pe_str (nomark _)) (pss_one (ps_ret (pe_lst (pa_cons (pe_tup (pa_cons pe_int pa_nil)) (pa_cons (pe_tup (pa_cons pe_int (pa_cons pe_int pa_nil))) (pa_cons (pe_tup (pa_cons pe_int (pa_cons pe_int pa_nil))) (pa_cons (pe_tup (pa_cons pe_int (pa_cons pe_int (pa_cons pe_int pa_nil)))) (pa_cons (pe_tup (pa_cons pe_int (pa_cons pe_int (pa_cons pe_int pa_nil)))) (pa_cons (pe_tup (pa_cons pe_int (pa_cons pe_int (pa_cons pe_int (pa_cons pe_int pa_nil))))) (pa_cons (pe_tup (pa_cons pe_int pa_nil)) (pa_cons (pe_tup (pa_cons pe_int (pa_cons pe_int pa_nil))) pa_nil))))))))))) pss_nil)
      (pss_cons (ps_if (pt_cmpR (op_EQ hr.units) (pv 0) pe_str (nomark _)) (pss_one (ps_ret (pe_lc (own := [("_law_k", 3)]) rfl sc_lthings.nd (pi_range2 rfl T.m_range (pa_cons pe_int (pa_cons pe_int pa_nil))) (blkOk_by (N := n_lthings) (sc := defScope s_lthings) (by decide +kernel)) (fun _ _ _ _ _ => (pg_name (i := 3) sc_lthings.nd rfl (by first | exact .inl rfl | exact .inr rfl))) (fun _ _ _ _ _ => pts_nil) (fun _ _ _ _ _ => (pe_lc (own := [("_law_mark", 4)]) rfl sc_lthings.nd (pi_range1 rfl T.m_range (pa_cons pe_int pa_nil)) (blkOk_by (by rfl)) (fun _ _ _ _ _ => (pg_name (i := 4) sc_lthings.nd rfl (by first | exact .inl rfl | exact .inr rfl))) (fun _ _ _ _ _ => (pts_one (pt_truth (pe_op op_and (pe_op op_shr (pv 3) (pv 4)) pe_int) (by intro _; rfl)))) (fun _ _ _ _ _ => (pv 4))))))) pss_nil)
      (pss_cons (ps_set (i := 1) sc_lthings.nd rfl (by first | exact .inl rfl | exact .inr rfl) (pe_lst pa_nil))
      (pss_cons (ps_for PassesOwn.never rfl (pi_range2 rfl T.m_range (pa_cons pe_int (pa_cons pe_int pa_nil))) (pg_name (i := 2) sc_lthings.nd rfl (by first | exact .inl rfl | exact .inr rfl)) (pss_one (ps_set (i := 1) sc_lthings.nd rfl (by first | exact .inl rfl | exact .inr rfl) (pe_op op_cat (pv 1) (pe_lc (own := [("_law_low", 5)]) rfl sc_lthings.nd (pi_range1 rfl T.m_range (pa_cons (pv 2) pa_nil)) (blkOk_by (N := n_lthings) (sc := defScope s_lthings) (by decide +kernel)) (fun _ _ _ _ _ => (pg_name (i := 5) sc_lthings.nd rfl (by first | exact .inl rfl | exact .inr rfl))) (fun _ _ _ _ _ => pts_nil) (fun _ _ _ _ _ => (pe_tup (pa_cons (pv 5) (pa_cons (pv 2) pa_nil)))))))))
      (pss_one (ps_ret (pv 1))))))))),
    (den_seq (den_ifS (den_test (den_op opd_eq den_var den_str)) (den_ret (den_lst (den_cons den_int (den_cons den_int (den_cons den_int den_nil))))) den_next)
      (den_seq (den_ifS (den_test (den_op opd_eq den_var den_str)) (den_ret (den_lc (den_iR1 (den_cons den_int den_nil)) den_gName (own_name (by decide)) den_tYes (den_tup (den_cons (den_op opd_mod den_var den_int) (den_cons (den_op opd_div den_var den_int) den_nil))))) den_next)
      (den_seq (den_ifS (den_test (den_op opd_eq den_var den_str)) (den_ret (den_lst (den_cons (den_tup (den_cons den_int den_nil)) (den_cons (den_tup (den_cons den_int (den_cons den_int den_nil))) (den_cons (den_tup (den_cons den_int (den_cons den_int den_nil))) (den_cons (den_tup (den_cons den_int (den_cons den_int (den_cons den_int den_nil)))) (den_cons (den_tup (den_cons den_int (den_cons den_int (den_cons den_int den_nil)))) (den_cons (den_tup (den_cons den_int (den_cons den_int (den_cons den_int (den_cons den_int den_nil))))) (den_cons (den_tup (den_cons den_int den_nil)) (den_cons (den_tup (den_cons den_int (den_cons den_int den_nil))) den_nil)))))))))) den_next)
      (den_seq (den_ifS (den_test (den_op opd_eq den_var den_str)) (den_ret (den_lc (den_iR2 (den_cons den_int (den_cons den_int den_nil))) den_gName (own_name (by decide)) den_tYes (den_lc (den_iR1 (den_cons den_int den_nil)) den_gName (own_name (by decide)) (den_truth (den_op opd_and (den_op opd_shr den_var den_var) den_int)) den_var))) den_next)
      (den_seq (den_asg (den_lst den_nil) den_gName)
      (den_seq (den_for (den_iR2 (den_cons den_int (den_cons den_int den_nil))) den_gName (den_asg (den_op opd_catL den_var (den_lc (den_iR1 (den_cons den_var den_nil)) den_gName (own_name (by decide)) den_tYes (den_tup (den_cons den_var (den_cons den_var den_nil))))) den_gName))
      (den_ret den_var)))))))⟩

def m_ltrip : FS :=
  (sSeq (sIf (fTest (fOp gEq (fVar 0) (fC (.str "parts")))) (sSeq (sOwnL 2)
    (sSeq (sFor (iR2 (fCons (fC (.int 1)) (fCons (fC (.int 128)) fNil))) (mName 4) (sSeq (sAsg (fLc (iR2 (fCons (fC (.int 1)) (fCons (fC (.int 8)) fNil))) (mName 8) (fTru (fOp gAnd (fOp gShr (fVar 4) (fOp gSub (fVar 8) (fC (.int 1)))) (fC (.int 1)))) (fVar 8) [8]) (mName 6))
    (sSeq (sAsg (fLc (iR1 (fCons (fC (.int 3)) fNil)) (mName 9) (fun _ => some true) (fLc (iL (fVar 6)) (mName 8) (fTru (fOp gAnd (fOp gShr (fVar 8) (fVar 9)) (fC (.int 1)))) (fVar 8) [8]) [9]) (mName 7))
    (sIf (fTest (fOp (gInD true) (fLst fNil) (fVar 7))) (sApp 2 (fTup (fCons (fOp gIxL (fVar 7) (fC (.int 0))) (fCons (fOp gIxL (fVar 7) (fC (.int 1))) (fCons (fOp gIxL (fVar 7) (fC (.int 2))) fNil))))) sNext))))
    (sRet (fVar 2)))) sNext)
    (sFrz (sSeq (sIf (fTest (fOp gEq (fVar 0) (fC (.str "courses")))) (sRet (fLst fNil)) sNext)
    (sSeq (sAsg (fCallN 1 (fn_lthings) (fCons (fVar 0) fNil)) (mName 1))
    (sSeq (sOwnL 2)
    (sFrz (sSeq (sFor (iL (fVar 1)) (mName 3) (sFor (iL (fVar 1)) (mName 5) (sAsg (fOp gCatL (fVar 2) (fLc (iL (fVar 1)) (mName 10) (fun _ => some true) (fTup (fCons (fVar 3) (fCons (fVar 5) (fCons (fVar 10) fNil)))) [10])) (mName 2))))
    (sRet (fVar 2)))))))))
def fn_ltrip : List D → Option D := runF n_ltrip.length (m_ltrip)
theorem ok_ltrip (F : Fa K mg ad fd) (T : Bl mg) : FnOk P w K mg base CX0 2 (ad 46) (fd 46) p_ltrip (spF K 1 (fn_ltrip)) := by
  have G_lthings := ok_lthings (P := P) (w := w) (base := base) F T
  exact fn_den F.F_ltrip sc_ltrip fun cdv A outer s H E hr => ⟨_, PSs.nox (pss_cons (ps_if (pt_cmpR (op_EQ hr.units) (pv 0) pe_str (nomark _)) (pss_cons (ps_set (i := 2) sc_ltrip.nd rfl (by first | exact .inl rfl | exact .inr rfl) (pe_lst pa_nil))
      (pss_cons (ps_for PassesOwn.never rfl (pi_range2 rfl T.m_range (pa_cons pe_int (pa_cons pe_int pa_nil))) (pg_name (i := 4) sc_ltrip.nd rfl (by first | exact .inl rfl | exact .inr rfl)) (pss_cons (ps_set (i := 6) sc_ltrip.nd rfl (by first | exact .inl rfl | exact .inr rfl) (pe_lc (own := [("_law_mark", 8)]) rfl sc_ltrip.nd (pi_range2 rfl T.m_range (pa_cons pe_int (pa_cons pe_int pa_nil))) (blkOk_by (N := n_ltrip) (sc := defScope s_ltrip) (by decide +kernel)) (fun _ _ _ _ _ => (pg_name (i := 8) sc_ltrip.nd rfl (by first | exact .inl rfl | exact .inr rfl))) (fun _ _ _ _ _ => (pts_one (pt_truth (pe_op op_and (pe_op op_shr (pv 4) (pe_op op_sub (pv 8) pe_int)) pe_int) (by intro _; rfl)))) (fun _ _ _ _ _ => (pv 8))))
      (pss_cons (ps_setLc (i := 7) (own := [("_law_at", 9)]) rfl sc_ltrip.nd rfl rfl (by rfl) (pi_range1 rfl T.m_range (pa_cons pe_int pa_nil)) (blkOk_by (N := n_ltrip) (sc := defScope s_ltrip) (by decide +kernel)) (fun _ _ _ _ _ => (pg_name (i := 9) sc_ltrip.nd rfl (by first | exact .inl rfl | exact .inr rfl))) (fun _ _ _ _ _ => pts_nil) (fun _ _ _ _ _ => (pe_lc (own := [("_law_mark", 8)]) rfl sc_ltrip.nd (pi_list (pv 6)) (blkOk_by (by rfl)) (fun _ _ _ _ _ => (pg_name (i := 8) sc_ltrip.nd rfl (by first | exact .inl rfl | exact .inr rfl))) (fun _ _ _ _ _ => (pts_one (pt_truth (pe_op op_and (pe_op op_shr (pv 8) (pv 9)) pe_int) (by intro _; rfl)))) (fun _ _ _ _ _ => (pv 8)))))
      (pss_one (ps_if (pt_cmpR (op_notInD hr.units65) (pe_lst pa_nil) (pv 7) (by rfl)) (pss_one (ps_expr (pe_bm PySem.F.plainAttrs_list PySem.F.slot_list_append PySem.F.type_list_append mt_append (pv 2) (pa_cons (pe_tup (pa_cons (pe_ix (r := rIxL K) ix_list (pv 7) pe_int (fun _ _ => rfl)) (pa_cons (pe_ix (r := rIxL K) ix_list (pv 7) pe_int (fun _ _ => rfl)) (pa_cons (pe_ix (r := rIxL K) ix_list (pv 7) pe_int (fun _ _ => rfl)) pa_nil)))) pa_nil)))) pss_nil)))))
      (pss_one (ps_ret (pv 2))))) pss_nil)
      (pss_cons (ps_if (pt_cmpR (op_EQ hr.units) (pv 0) pe_str (nomark _)) (pss_one (ps_ret (pe_lst pa_nil))) pss_nil)
      (pss_cons (ps_set (i := 1) sc_ltrip.nd rfl (by first | exact .inl rfl | exact .inr rfl) (pe_call G_lthings (hr.mono (by decide)) (by rfl) F.g_lthings F.F_lthings.kp F.b_lthings .nil pass0 (pa_cons (pv 0) pa_nil)))
      (pss_cons (ps_set (i := 2) sc_ltrip.nd rfl (by first | exact .inl rfl | exact .inr rfl) (pe_lst pa_nil))
      (pss_cons (ps_for PassesOwn.never rfl (pi_list (pv 1)) (pg_name (i := 3) sc_ltrip.nd rfl (by first | exact .inl rfl | exact .inr rfl)) (pss_one (ps_for PassesOwn.never rfl (pi_list (pv 1)) (pg_name (i := 5) sc_ltrip.nd rfl (by first | exact .inl rfl | exact .inr rfl)) (pss_one (ps_set (i := 2) sc_ltrip.nd rfl (by first | exact .inl rfl | exact .inr rfl) (pe_op op_cat (pv 2) (pe_lc (own := [("_law_third", 10)]) rfl sc_ltrip.nd (pi_list (pv 1)) (blkOk_by (N := n_ltrip) (sc := defScope s_ltrip) (by decide +kernel)) (fun _ _ _ _ _ => (pg_name (i := 10) sc_ltrip.nd rfl (by first | exact .inl rfl | exact .inr rfl))) (fun _ _ _ _ _ => pts_nil) (fun _ _ _ _ _ => (pe_tup (pa_cons (pv 3) (pa_cons (pv 5) (pa_cons (pv 10) pa_nil))))))))))))
      (pss_one (ps_ret (pv 2)))))))),
    (den_seq (den_ifS (den_test (den_op opd_eq den_var den_str)) (den_seq den_ownL
      (den_seq (den_for (den_iR2 (den_cons den_int (den_cons den_int den_nil))) den_gName (den_seq (den_asg (den_lc (den_iR2 (den_cons den_int (den_cons den_int den_nil))) den_gName (own_name (by decide)) (den_truth (den_op opd_and (den_op opd_shr den_var (den_op opd_sub den_var den_int)) den_int)) den_var) den_gName)
      (den_seq (den_asg (den_lc (den_iR1 (den_cons den_int den_nil)) den_gName (own_name (by decide)) den_tYes (den_lc (den_iL den_var) den_gName (own_name (by decide)) (den_truth (den_op opd_and (den_op opd_shr den_var den_var) den_int)) den_var)) den_gName)
      (den_ifS (den_test (den_op opd_notInD (den_lst den_nil) den_var)) (den_app (den_tup (den_cons (den_op opd_ixL den_var den_int) (den_cons (den_op opd_ixL den_var den_int) (den_cons (den_op opd_ixL den_var den_int) den_nil))))) den_next))))
      (den_ret den_var))) den_next)
      (den_frz (den_seq (den_ifS (den_test (den_op opd_eq den_var den_str)) (den_ret (den_lst den_nil)) den_next)
      (den_seq (den_asg (den_call (den_cons den_var den_nil)) den_gName)
      (den_seq den_ownL
      (den_frz (den_seq (den_for (den_iL den_var) den_gName (den_for (den_iL den_var) den_gName (den_asg (den_op opd_catL den_var (den_lc (den_iL den_var) den_gName (own_name (by decide)) den_tYes (den_tup (den_cons den_var (den_cons den_var (den_cons den_var den_nil)))))) den_gName)))
      (den_ret den_var))))))))⟩

def m_llines : FS :=
  (sRet (fLc (iL (fOp gDGet (fVar 0) (fC (.str "kinds")))) (mName 1) (fun _ => some true) (fLc (iL (fOp gDGet (fVar 0) (fC (.str "kinds")))) (mName 2) (fun _ => some true) (fCall gListOf (fCons (fOp gDGet (fOp gDGet (fVar 0) (fC (.str "step"))) (fTup (fCons (fVar 1) (fCons (fVar 2) fNil)))) fNil)) [2]) [1]))
def fn_llines : List D → Option D := runF n_llines.length (m_llines)
theorem ok_llines (F : Fa K mg ad fd) (T : Bl mg) : FnOk P w K mg base CX0 1 (ad 53) (fd 53) p_llines (spF K 1 (fn_llines)) := by

  exact fn_den F.F_llines sc_llines fun cdv A outer s H E hr => ⟨_, PSs.nox (pss_one (ps_ret (pe_lc (own := [("_law_one", 1)]) rfl sc_llines.nd (pi_list (pe_dget (hu_of hr) (pv 0) pe_str (fun _ _ => rfl))) (blkOk_by (N := n_llines) (sc := defScope s_llines) (by decide +kernel)) (fun _ _ _ _ _ => (pg_name (i := 1) sc_llines.nd rfl (by first | exact .inl rfl | exact .inr rfl))) (fun _ _ _ _ _ => pts_nil) (fun _ _ _ _ _ => (pe_lc (own := [("_law_other", 2)]) rfl sc_llines.nd (pi_list (pe_dget (hu_of hr) (pv 0) pe_str (fun _ _ => rfl))) (blkOk_by (by rfl)) (fun _ _ _ _ _ => (pg_name (i := 2) sc_llines.nd rfl (by first | exact .inl rfl | exact .inr rfl))) (fun _ _ _ _ _ => pts_nil) (fun _ _ _ _ _ => (pe_callTy call_list_of (by rfl) T.m_list (by decide +kernel) (pa_cons (pe_dget (hu_of hr) (pe_dget (hu_of hr) (pv 0) pe_str (fun _ _ => rfl)) (pe_tup (pa_cons (pv 1) (pa_cons (pv 2) pa_nil))) (fun _ _ => rfl)) pa_nil)))))))),
    (den_ret (den_lc (den_iL (den_dget den_var den_str)) den_gName (own_name (by decide)) den_tYes (den_lc (den_iL (den_dget den_var den_str)) den_gName (own_name (by decide)) den_tYes (den_cb cad_list (den_cons (den_dget (den_dget den_var den_str) (den_tup (den_cons den_var (den_cons den_var den_nil)))) den_nil)))))⟩

def m_lhand : FS :=
  (sRet (fTup (fCons (fCall gListOf (fCons (fOp gDGet (fVar 0) (fC (.str "kinds"))) fNil)) (fCons (fOp gDGet (fVar 0) (fC (.str "same"))) (fCons (fLc (iL (fOp gDGet (fVar 0) (fC (.str "kinds")))) (mName 1) (fun _ => some true) (fOp gDGet (fOp gDGet (fVar 0) (fC (.str "back"))) (fVar 1)) [1]) (fCons (fCallN 1 (fn_llines) (fCons (fVar 0) fNil)) fNil))))))
def fn_lhand : List D → Option D := runF n_lhand.length (m_lhand)
theorem ok_lhand (F : Fa K mg ad fd) (T : Bl mg) : FnOk P w K mg base CX0 2 (ad 54) (fd 54) p_lhand (spF K 1 (fn_lhand)) := by
  have G_llines := ok_llines (P := P) (w := w) (base := base) F T
  exact fn_den F.F_lhand sc_lhand fun cdv A outer s H E hr => ⟨_, PSs.nox (pss_one (ps_ret (pe_tup (pa_cons (pe_callTy call_list_of (by rfl) T.m_list (by decide +kernel) (pa_cons (pe_dget (hu_of hr) (pv 0) pe_str (fun _ _ => rfl)) pa_nil)) (pa_cons (pe_dget (hu_of hr) (pv 0) pe_str (fun _ _ => rfl)) (pa_cons (pe_lc (own := [("_law_one", 1)]) rfl sc_lhand.nd (pi_list (pe_dget (hu_of hr) (pv 0) pe_str (fun _ _ => rfl))) (blkOk_by (N := n_lhand) (sc := defScope s_lhand) (by decide +kernel)) (fun _ _ _ _ _ => (pg_name (i := 1) sc_lhand.nd rfl (by first | exact .inl rfl | exact .inr rfl))) (fun _ _ _ _ _ => pts_nil) (fun _ _ _ _ _ => (pe_dget (hu_of hr) (pe_dget (hu_of hr) (pv 0) pe_str (fun _ _ => rfl)) (pv 1) (fun _ _ => rfl)))) (pa_cons (pe_call G_llines (hr.mono (by decide)) (by rfl) F.g_llines F.F_llines.kp F.b_llines .nil pass0 (pa_cons (pv 0) pa_nil)) pa_nil))))))),
    (den_ret (den_tup (den_cons (den_cb cad_list (den_cons (den_dget den_var den_str) den_nil)) (den_cons (den_dget den_var den_str) (den_cons (den_lc (den_iL (den_dget den_var den_str)) den_gName (own_name (by decide)) den_tYes (den_dget (den_dget den_var den_str) den_var)) (den_cons (den_call (den_cons den_var den_nil)) den_nil))))))⟩

end
end KK
end

section
set_option Elab.async false
set_option linter.all false
set_option maxRecDepth 100000
namespace KK
open PySem PySem.Spec PyProof.Rows L2 KW DL
section
variable {P : Program} {w : World} {K : PySem.W.Frag} {mg : Str → Option Value} {base : Heap} {ad : Nat → Addr} {fd : Nat → FuncData}
theorem divW {i z : Int} (h0 : 0 < z) (h1 : z < 2 ^ 100) : CDivW i z := wide_div (b := 100) h0 (by omega) (by decide) (by decide)
theorem ok_draw (F : Fa K mg ad fd) (T : Bl mg) : FnOk P w K mg base CX0 1 (ad 38) (fd 38) p_draw spDraw := by
  refine F.F_draw.ok sc_draw (fun vs H Q E h => ?_) (fun cdv A outer s H vs Q E hr h => ?_)
  · obtain ⟨_, _, _, _, _, _, _, rfl, _⟩ := h
    rfl
  · obtain ⟨p, sc, ns, a, b, c, z, rfl, hf, hs, ⟨ha, hb, hc0, hc1⟩, hz0, hz1, q⟩ := h
    refine ⟨_, (pss_cons (ps_if (pt_cmpR op_gt (pe_ix ix_list (pv 0) pe_int (fun _ _ => rfl)) pe_int (nomark _)) (pss_cons (ps_set (i := 5) sc_draw.nd rfl (.inl rfl) (pe_op op_mod (pe_ix ix_list (pv 0) pe_int (fun _ _ => rfl)) (pv 1)))
      (pss_cons (ps_asg (pe_op op_fdivW (pe_ix ix_list (pv 0) pe_int (fun _ _ => rfl)) (pv 1)) (pg_sub (pv 0) pe_int set_list))
      (pss_one (ps_ret (pv 5))))) pss_nil)
      (pss_cons (ps_set (i := 2) sc_draw.nd rfl (.inl rfl) pe_int)
      (Evl.pss_cut (ps_if (pt_cmpR op_lt (pe_ix ix_list (pv 0) pe_int (fun _ _ => rfl)) (pe_callB call_len_seq (by rfl) T.m_len PySem.boot_len (pa_cons (pe_ix ix_list (pv 0) pe_int (fun _ _ => rfl)) pa_nil)) (nomark _)) (pss_one (ps_set (i := 2) sc_draw.nd rfl (.inl rfl) (pe_ix ix_list (pe_ix ix_list (pv 0) pe_int (fun _ _ => rfl)) (pe_ix ix_list (pv 0) pe_int (fun _ _ => rfl)) (fun _ _ => rfl)))) pss_nil)
      (pss_cons (ps_asg (pe_op op_add (pe_ix ix_list (pv 0) pe_int (fun _ _ => rfl)) pe_int) (pg_sub (pv 0) pe_int set_list))
      (pss_cons (ps_if (pt_cmpR op_ge (pe_callB call_abs (by rfl) T.m_abs (by decide +kernel) (pa_cons (pv 2) pa_nil)) (pe_op op_pow pe_int pe_int) (nomark _)) (pss_cons (ps_set (i := 5) sc_draw.nd rfl (.inl rfl) (pe_op op_mod (pe_callB call_abs (by rfl) T.m_abs (by decide +kernel) (pa_cons (pv 2) pa_nil)) (pv 1)))
      (pss_cons (ps_asg (pe_op op_fdivW (pe_callB call_abs (by rfl) T.m_abs (by decide +kernel) (pa_cons (pv 2) pa_nil)) (pv 1)) (pg_sub (pv 0) pe_int set_list))
      (pss_one (ps_ret (pv 5))))) pss_nil)
      (pss_cons (ps_set (i := 3) sc_draw.nd rfl (.inl rfl) (pe_op op_add (pe_op op_add (pe_op op_mul (pe_ix ix_list (pv 0) pe_int (fun _ _ => rfl)) pe_int) (pe_op op_mul (pv 2) pe_int)) pe_int))
      (pss_cons (ps_set (i := 3) sc_draw.nd rfl (.inl rfl) (pe_op op_mod (pe_op op_add (pv 3) (pe_op op_mul (pe_ix ix_list (pv 0) pe_int (fun _ _ => rfl)) pe_int)) pe_int))
      (pss_cons (ps_asg (pv 3) (pg_sub (pv 0) pe_int set_list))
      (pss_cons (ps_set (i := 4) sc_draw.nd rfl (.inl rfl) (pe_op op_add (pe_op op_mul (pv 3) pe_int) (pe_op op_mul (pe_op op_fdiv (pv 3) pe_int) pe_int)))
      (pss_cons (ps_if (pt_cmpR op_gt (pv 1) (pe_op op_pow pe_int pe_int) (nomark _)) (pss_one (ps_ret (pe_op op_mod (pe_op op_mul (pv 4) (pv 3)) (pv 1)))) pss_nil)
      (pss_one (ps_ret (pe_op op_mod (pe_op op_fdiv (pe_op op_mod (pv 4) pe_int) pe_int) (pv 1)))))))))))))), ?_⟩
    have nps : p ≠ sc := fun e => by
      rw [e, hs] at hf
      cases ns with
      | nil => cases hf
      | cons x r => cases hf
    have hF : SqL K H p [.ref sc, .int a, .int b, .int c] := .inl (.inl hf)
    -- if flow[2] > 0
    refine ⟨_, rfl, p, _, 2, .int b, rfl, rfl, hF, rfl, _, _, rfl, rfl, _, rfl, ite2 (fun e => ?_) (fun e => ?_)⟩
    · have e0 : 0 < b := of_decide_eq_true e
      refine ⟨_, rfl, p, _, 2, .int b, rfl, rfl, hF, rfl, _, rfl, b, z, rfl, rfl, hz0, ?_⟩
      refine ⟨_, rfl, p, _, 2, .int b, rfl, rfl, hF, rfl, _, rfl, b, z, rfl, rfl, divW hz0 hz1, _, rfl, p, _, 2, 2, rfl, rfl, hf, rfl, ?_⟩
      exact ⟨_, rfl, q (b % z) a (b / z) c (Int.emod_nonneg _ (by omega)) (Int.emod_lt_of_pos _ hz0) ⟨ha, Int.ediv_nonneg hb (by omega), hc0, hc1⟩⟩
    · -- cell = 0; if flow[1] < len(flow[0]): cell = flow[0][flow[1]]
      have hS : SqL K H sc (ns.map V.int) := .inl (.inl hs)
      refine ⟨fun σ' H' => H' = H ∧ ∃ x : Int, σ' = [some (.ref p), some (.int z), some (.int x), none, none, none], ?_, ?_⟩
      · refine ⟨_, rfl, p, _, 1, .int a, rfl, rfl, hF, rfl, _, rfl, p, _, 0, .ref sc, rfl, rfl, hF, rfl, sc, _, rfl, .inl hS, _, _, rfl, rfl, _, rfl, ite2 (fun e2 => ?_) (fun e2 => ?_)⟩
        · have e3 : a < ((ns.map V.int).length : Int) := of_decide_eq_true e2
          rw [List.length_map] at e3
          obtain ⟨v, hat⟩ : ∃ v : Int, atI (ns.map V.int) a = some (.int v) := by
            obtain ⟨n, rfl⟩ : ∃ n : Nat, a = n := ⟨a.toNat, by omega⟩
            have hl : n < ns.length := by omega
            refine ⟨ns[n], atI_nat ?_⟩
            rw [List.getElem?_map, List.getElem?_eq_getElem hl]
            rfl
          exact ⟨_, rfl, p, _, 0, .ref sc, rfl, rfl, hF, rfl, _, rfl, p, _, 1, .int a, rfl, rfl, hF, rfl, sc, _, a, _, rfl, rfl, hS, hat, rfl, _, rfl⟩
        · exact ⟨rfl, 0, rfl⟩
      · rintro σ' H' ⟨rfl, x, rfl⟩
        -- flow[1] = flow[1] + 1
        refine ⟨_, rfl, p, _, 1, .int a, rfl, rfl, hF, rfl, _, _, rfl, rfl, _, rfl, p, _, 1, 1, rfl, rfl, hf, rfl, ?_⟩
        have hf1 : upd H' p (.lst [.ref sc, .int (a + 1), .int b, .int c]) p = some (.lst [.ref sc, .int (a + 1), .int b, .int c]) := upd_same
        have hF1 : SqL K (upd H' p (.lst [.ref sc, .int (a + 1), .int b, .int c])) p [.ref sc, .int (a + 1), .int b, .int c] := .inl (.inl upd_same)
        -- if abs(cell) >= 10 ** 18
        refine ⟨_, rfl, _, rfl, _, _, rfl, rfl, ⟨by decide, by decide, by decide⟩, _, _, rfl, rfl, _, rfl, ite2 (fun e2 => ?_) (fun e2 => ?_)⟩
        · have e3 : (10 : Int) ^ 18 ≤ (if x < 0 then -x else x) := of_decide_eq_true e2
          have e4 : 0 ≤ (if x < 0 then -x else x) := by omega
          refine ⟨_, rfl, x, rfl, _, rfl, _, z, rfl, rfl, hz0, ?_⟩
          refine ⟨_, rfl, x, rfl, _, rfl, _, z, rfl, rfl, divW hz0 hz1, _, rfl, p, _, 2, 2, rfl, rfl, hf1, rfl, ?_⟩
          refine ⟨_, rfl, ?_⟩
          rw [upd_upd]
          exact q _ (a + 1) _ c (Int.emod_nonneg _ (by omega)) (Int.emod_lt_of_pos _ hz0) ⟨by omega, Int.ediv_nonneg e4 (by omega), hc0, hc1⟩
        · refine ⟨_, rfl, p, _, 3, .int c, rfl, rfl, hF1, rfl, c, _, rfl, rfl, .inr ⟨by decide, by decide⟩, _, rfl, x, _, rfl, rfl, .inr ⟨by decide, by decide⟩, _, _, rfl, rfl, _, _, rfl, rfl, ?_⟩
          refine ⟨_, rfl, _, rfl, p, _, 1, .int (a + 1), rfl, rfl, hF1, rfl, _, _, rfl, rfl, .inr ⟨by decide, by decide⟩, _, _, rfl, rfl, _, _, rfl, rfl, by show (0 : Int) < 2305843009213693951; decide, ?_⟩
          have hM : ∀ m : Int, 0 ≤ m % 2305843009213693951 ∧ m % 2305843009213693951 < 2305843009213693951 := fun m => ⟨Int.emod_nonneg _ (by decide), Int.emod_lt_of_pos _ (by decide)⟩
          refine ⟨_, rfl, _, rfl, p, _, 3, 3, rfl, rfl, hf1, rfl, ?_⟩
          rw [upd_upd]
          refine ⟨_, rfl, _, _, rfl, rfl, .inr ⟨by decide, by decide⟩, _, rfl, _, _, rfl, rfl, ⟨by decide, by decide⟩, _, _, rfl, rfl, .inr ⟨by decide, by decide⟩, _, _, rfl, rfl, ?_⟩
          refine ⟨_, rfl, _, _, rfl, rfl, ⟨by decide, by decide, by decide⟩, _, _, rfl, rfl, _, rfl, ite2 (fun e3 => ?_) (fun e3 => ?_)⟩
          · refine ⟨_, rfl, _, rfl, _, _, rfl, rfl, .inr ⟨Int.lt_of_lt_of_le (by decide) (hM _).1, Int.lt_trans (hM _).2 (by decide)⟩, _, rfl, _, _, rfl, rfl, hz0, ?_⟩
            exact q _ (a + 1) b _ (Int.emod_nonneg _ (by omega)) (Int.emod_lt_of_pos _ hz0) ⟨by omega, hb, (hM _).1, (hM _).2⟩
          · refine ⟨_, rfl, _, _, rfl, rfl, by show (0 : Int) < 2147483647; decide, _, _, rfl, rfl, ⟨by decide, by decide⟩, _, rfl, _, _, rfl, rfl, hz0, ?_⟩
            exact q _ (a + 1) b _ (Int.emod_nonneg _ (by omega)) (Int.emod_lt_of_pos _ hz0) ⟨by omega, hb, (hM _).1, (hM _).2⟩

end
end KK
end

section
set_option Elab.async false
set_option linter.all false
set_option maxRecDepth 100000
namespace KK
open PySem PySem.Spec PyProof.Rows L2 KW DL
section
variable {P : Program} {w : World} {K : PySem.W.Frag} {mg : Str → Option Value} {base : Heap} {ad : Nat → Addr} {fd : Nat → FuncData}

def m_lwords (f : Addr) : WS :=
  (wSeq (wAsg (wOp gIxL (wE (fLst (fCons (fC (.str "")) (fCons (fC (.str "a")) (fCons (fC (.str "qu")) (fCons (fC (.str "abcdefg")) (fCons (fC (.str "zz")) fNil))))))) (wDraw f 0 (fC (.int 5)))) (mName 2))
    (wSeq (wS (sAsg (fC (.str "abcdefghijklmnopqrstuvwxyz")) (mName 3)))
    (wSeq (wAsg (wDraw f 0 (fC (.int 26))) (mName 4))
    (wSeq (wAsg (wOp gIxL (wE (fLst (fCons (fC (.int 1)) (fCons (fC (.int 3)) (fCons (fC (.int 5)) (fCons (fC (.int 7)) (fCons (fC (.int 9)) (fCons (fC (.int 11)) fNil)))))))) (wDraw f 0 (fC (.int 6)))) (mName 5))
    (wSeq (wAsg (wDraw f 0 (fOp gAdd (fCall gLenS (fCons (fVar 2) fNil)) (fC (.int 1)))) (mName 6))
    (wSeq (wIf (wTest (wOp gEq (wDraw f 0 (fC (.int 5))) (wE (fC (.int 0))))) (wS (sRet (fLc (iR1 (fCons (fVar 1) fNil)) (mName 7) (fun _ => some true) (fOp gRepC (fOp gIxS (fVar 3) (fOp gAdd (fOp gMod (fVar 4) (fC (.int 20))) (fOp gDiv (fVar 7) (fC (.int 8))))) (fOp gAdd (fC (.int 1)) (fOp gMod (fVar 7) (fC (.int 8))))) [7]))) (wS sNext))
    (wS (sRet (fLc (iR1 (fCons (fVar 1) fNil)) (mName 7) (fun _ => some true) (fOp gCatS (fOp gCatS (fSl gSlS (fVar 2) fOn (fOs (fVar 6))) (fOp gIxS (fVar 3) (fOp gMod (fOp gAdd (fVar 4) (fOp gMul (fVar 5) (fVar 7))) (fC (.int 26))))) (fSl gSlS (fVar 2) (fOs (fVar 6)) fOn)) [7])))))))))
def fw_lwords : List D → (D → Prop) → Prop := runW n_lwords.length m_lwords
theorem ok_lwords (F : Fa K mg ad fd) (T : Bl mg) : FnOk P w K mg base CX0 2 (ad 40) (fd 40) p_lwords (spW K 1 fw_lwords) := by
  have G_draw := ok_draw (P := P) (w := w) (base := base) F T
  exact fn_denW F.F_lwords sc_lwords rfl fun f cdv A outer s H E hr => ⟨_, PSs.nox (pss_cons (ps_set (i := 2) sc_lwords.nd rfl (by first | exact .inl rfl | exact .inr rfl) (pe_ix (r := rIxL K) ix_list (pe_lst (pa_cons pe_str (pa_cons pe_str (pa_cons pe_str (pa_cons pe_str (pa_cons pe_str pa_nil)))))) (pe_call G_draw (hr.mono (by decide)) (by rfl) F.g_draw F.F_draw.kp F.b_draw .nil pass0 (pa_cons (pv 0) (pa_cons pe_int pa_nil))) (fun _ _ => rfl)))
      (pss_cons (ps_set (i := 3) sc_lwords.nd rfl (by first | exact .inl rfl | exact .inr rfl) pe_str)
      (pss_cons (ps_set (i := 4) sc_lwords.nd rfl (by first | exact .inl rfl | exact .inr rfl) (pe_call G_draw (hr.mono (by decide)) (by rfl) F.g_draw F.F_draw.kp F.b_draw .nil pass0 (pa_cons (pv 0) (pa_cons pe_int pa_nil))))
      (pss_cons (ps_set (i := 5) sc_lwords.nd rfl (by first | exact .inl rfl | exact .inr rfl) (pe_ix (r := rIxL K) ix_list (pe_lst (pa_cons pe_int (pa_cons pe_int (pa_cons pe_int (pa_cons pe_int (pa_cons pe_int (pa_cons pe_int pa_nil))))))) (pe_call G_draw (hr.mono (by decide)) (by rfl) F.g_draw F.F_draw.kp F.b_draw .nil pass0 (pa_cons (pv 0) (pa_cons pe_int pa_nil))) (fun _ _ => rfl)))
      (pss_cons (ps_set (i := 6) sc_lwords.nd rfl (by first | exact .inl rfl | exact .inr rfl) (pe_call G_draw (hr.mono (by decide)) (by rfl) F.g_draw F.F_draw.kp F.b_draw .nil pass0 (pa_cons (pv 0) (pa_cons (pe_op op_add (pe_callB call_len_str (by rfl) T.m_len PySem.boot_len (pa_cons (pv 2) pa_nil)) pe_int) pa_nil))))
      (pss_cons (ps_if (pt_cmpR (op_EQ hr.units) (pe_call G_draw (hr.mono (by decide)) (by rfl) F.g_draw F.F_draw.kp F.b_draw .nil pass0 (pa_cons (pv 0) (pa_cons pe_int pa_nil))) pe_int (nomark _)) (pss_one (ps_ret (pe_lc (own := [("_law_k", 7)]) rfl sc_lwords.nd (pi_range1 rfl T.m_range (pa_cons (pv 1) pa_nil)) (blkOk_by (N := n_lwords) (sc := defScope s_lwords) (by decide +kernel)) (fun _ _ _ _ _ => (pg_name (i := 7) sc_lwords.nd rfl (by first | exact .inl rfl | exact .inr rfl))) (fun _ _ _ _ _ => pts_nil) (fun _ _ _ _ _ => (pe_op (r := rRepC) op_repC (pe_ix (r := rIxS) ix_str (pv 3) (pe_op op_add (pe_op op_mod (pv 4) pe_int) (pe_op op_fdiv (pv 7) pe_int)) (fun _ _ => rfl)) (pe_op op_add pe_int (pe_op op_mod (pv 7) pe_int))))))) pss_nil)
      (pss_one (ps_ret (pe_lc (own := [("_law_k", 7)]) rfl sc_lwords.nd (pi_range1 rfl T.m_range (pa_cons (pv 1) pa_nil)) (blkOk_by (N := n_lwords) (sc := defScope s_lwords) (by decide +kernel)) (fun _ _ _ _ _ => (pg_name (i := 7) sc_lwords.nd rfl (by first | exact .inl rfl | exact .inr rfl))) (fun _ _ _ _ _ => pts_nil) (fun _ _ _ _ _ => (pe_op op_add_str (pe_op op_add_str (pe_slice sl_str (pv 2) po_none (po_some (pv 6))) (pe_ix (r := rIxS) ix_str (pv 3) (pe_op op_mod (pe_op op_add (pv 4) (pe_op op_mul (pv 5) (pv 7))) pe_int) (fun _ _ => rfl))) (pe_slice sl_str (pv 2) (po_some (pv 6)) po_none)))))))))))),
    (denw_seq (denw_asg (denw_op opd_ixL (denw_e (den_lst (den_cons den_str (den_cons den_str (den_cons den_str (den_cons den_str (den_cons den_str den_nil))))))) (denw_draw den_int)) den_gName)
      (denw_seq (denw_s (den_asg den_str den_gName))
      (denw_seq (denw_asg (denw_draw den_int) den_gName)
      (denw_seq (denw_asg (denw_op opd_ixL (denw_e (den_lst (den_cons den_int (den_cons den_int (den_cons den_int (den_cons den_int (den_cons den_int (den_cons den_int den_nil)))))))) (denw_draw den_int)) den_gName)
      (denw_seq (denw_asg (denw_draw (den_op opd_add (den_cb cad_lenS (den_cons den_var den_nil)) den_int)) den_gName)
      (denw_seq (denw_if (denw_test (denw_op opd_eq (denw_draw den_int) (denw_e den_int))) (denw_s (den_ret (den_lc (den_iR1 (den_cons den_var den_nil)) den_gName (own_name (by decide)) den_tYes (den_op opd_repC (den_op opd_ixS den_var (den_op opd_add (den_op opd_mod den_var den_int) (den_op opd_div den_var den_int))) (den_op opd_add den_int (den_op opd_mod den_var den_int)))))) (denw_s den_next))
      (denw_s (den_ret (den_lc (den_iR1 (den_cons den_var den_nil)) den_gName (own_name (by decide)) den_tYes (den_op opd_catS (den_op opd_catS (den_sl sld_str den_var den_on (den_os den_var)) (den_op opd_ixS den_var (den_op opd_mod (den_op opd_add den_var (den_op opd_mul den_var den_var)) den_int))) (den_sl sld_str den_var (den_os den_var) den_on)))))))))))⟩

def m_lringof (f : Addr) : WS :=
  (wSeq (wS (sAsg (fLc (iR2 (fCons (fC (.int 1)) (fCons (fOp gAdd (fVar 1) (fC (.int 1))) fNil))) (mName 4) (fTest (fOp gEq (fCallN 2 (fn_shares) (fCons (fVar 4) (fCons (fVar 1) fNil))) (fC (.int 1)))) (fVar 4) [4]) (mName 2)))
    (wSeq (wAsg (wOp gIxL (wE (fLst (fCons (fLst (fCons (fC (.int 1)) fNil)) (fCons (fLst (fCons (fC (.int 1)) (fCons (fOp gSub (fVar 1) (fC (.int 1))) fNil))) (fCons (fVar 2) fNil))))) (wDraw f 0 (fC (.int 3)))) (mName 2))
    (wSeq (wS (sOwnL 3))
    (wSeq (wS (sFor (iR1 (fCons (fVar 1) fNil)) (mName 4) (sSeq (sAsg (fUn gSortSet (fLc (iL (fVar 2)) (mName 13) (fun _ => some true) (fOp gMod (fOp gMul (fVar 4) (fVar 13)) (fVar 1)) [13])) (mName 9))
    (sIf (fTest (fScal (fOp (gInD true) (fVar 9) (fVar 3)))) (sApp 3 (fVar 9)) sNext))))
    (wFrz (wSeq (wAsg (wCallW f 0 1 fw_lwords (wCons (wE (fCall gLenQ (fCons (fVar 3) fNil))) wNil)) (mName 5))
    (wSeq (wS (sOwnT 6))
    (wSeq (wS (sFor (iR1 (fCons (fCall gLenQ (fCons (fVar 3) fNil)) fNil)) (mName 7) (sFor (iR1 (fCons (fCall gLenQ (fCons (fVar 3) fNil)) fNil)) (mName 10) (sSeq (sAsg (fLc (iL (fOp gIxL (fVar 3) (fVar 10))) (mName 4) (fun _ => some true) (fOp gMod (fOp gAdd (fOp gIxL (fOp gIxL (fVar 3) (fVar 7)) (fC (.int 0))) (fVar 4)) (fVar 1)) [4]) (mName 11))
    (sSeq (sAsg (fLc (iR1 (fCons (fCall gLenQ (fCons (fVar 3) fNil)) fNil)) (mName 4) (fTest (fCall gAny (fCons (fLc (iL (fOp gIxL (fVar 3) (fVar 4))) (mName 14) (fun _ => some true) (fOp (gIn false) (fVar 14) (fVar 11)) [14]) fNil))) (fVar 4) [4]) (mName 12))
    (sPut 6 (fTup (fCons (fOp gIxL (fVar 5) (fVar 7)) (fCons (fOp gIxL (fVar 5) (fVar 10)) fNil))) (fLc (iL (fVar 12)) (mName 4) (fun _ => some true) (fOp gIxL (fVar 5) (fVar 4)) [4])))))))
    (wFrz (wSeq (wS (sAsg (fLc (iL (fVar 3)) (mName 9) (fun _ => some true) (fOp gIxL (fVar 5) (fMt gIndexD (fVar 3) (fCons (fCall gSorted (fCons (fLc (iL (fVar 9)) (mName 4) (fun _ => some true) (fOp gMod (fUn gNeg (fVar 4)) (fVar 1)) [4]) fNil)) fNil))) [9]) (mName 8)))
    (wS (sRet (fCallN 4 (fn_ltable) (fCons (fVar 5) (fCons (fOp gIxL (fVar 5) (fC (.int 0))) (fCons (fVar 8) (fCons (fVar 6) fNil)))))))))))))))))
def fw_lringof : List D → (D → Prop) → Prop := runW n_lringof.length m_lringof
theorem ok_lringof (F : Fa K mg ad fd) (T : Bl mg) : FnOk P w K mg base CX0 3 (ad 41) (fd 41) p_lringof (spW K 1 fw_lringof) := by
  have G_draw := ok_draw (P := P) (w := w) (base := base) F T
  have G_ltable := ok_ltable (P := P) (w := w) (base := base) F T
  have G_lwords := ok_lwords (P := P) (w := w) (base := base) F T
  have G_shares := ok_shares (P := P) (w := w) (base := base) F T
  exact fn_denW F.F_lringof sc_lringof rfl fun f cdv A outer s H E hr => ⟨_, PSs.nox (pss_cons (ps_setLc (i := 2) (own := [("_law_k", 4)]) rfl sc_lringof.nd rfl rfl (by rfl) (pi_range2 rfl T.m_range (pa_cons pe_int (pa_cons (pe_op op_add (pv 1) pe_int) pa_nil))) (blkOk_by (N := n_lringof) (sc := defScope s_lringof) (by decide +kernel)) (fun _ _ _ _ _ => (pg_name (i := 4) sc_lringof.nd rfl (by first | exact .inl rfl | exact .inr rfl))) (fun _ _ _ _ _ => (pts_one (pt_cmpR (op_EQ hr.units) (pe_call G_shares (hr.mono (by decide)) (by rfl) F.g_shares F.F_shares.kp F.b_shares .nil pass0 (pa_cons (pv 4) (pa_cons (pv 1) pa_nil))) pe_int (nomark _)))) (fun _ _ _ _ _ => (pv 4)))
      (pss_cons (ps_set (i := 2) sc_lringof.nd rfl (by first | exact .inl rfl | exact .inr rfl) (pe_ix (r := rIxL K) ix_list (pe_lst (pa_cons (pe_lst (pa_cons pe_int pa_nil)) (pa_cons (pe_lst (pa_cons pe_int (pa_cons (pe_op op_sub (pv 1) pe_int) pa_nil))) (pa_cons (pv 2) pa_nil)))) (pe_call G_draw (hr.mono (by decide)) (by rfl) F.g_draw F.F_draw.kp F.b_draw .nil pass0 (pa_cons (pv 0) (pa_cons pe_int pa_nil))) (fun _ _ => rfl)))
      (pss_cons (ps_set (i := 3) sc_lringof.nd rfl (by first | exact .inl rfl | exact .inr rfl) (pe_lst pa_nil))
      (pss_cons (ps_for PassesOwn.never rfl (pi_range1 rfl T.m_range (pa_cons (pv 1) pa_nil)) (pg_name (i := 4) sc_lringof.nd rfl (by first | exact .inl rfl | exact .inr rfl)) (pss_cons (ps_set (i := 9) sc_lringof.nd rfl (by first | exact .inl rfl | exact .inr rfl) (pe_callB (cr_sortedSet rfl) (by rfl) T.m_sorted (by decide +kernel) (pa_cons (pe_callTy (cr_setJ rfl) (by rfl) T.m_set boot_set (pa_cons (pe_lc (own := [("_law_unit", 13)]) rfl sc_lringof.nd (pi_list (pv 2)) (blkOk_by (N := n_lringof) (sc := defScope s_lringof) (by decide +kernel)) (fun _ _ _ _ _ => (pg_name (i := 13) sc_lringof.nd rfl (by first | exact .inl rfl | exact .inr rfl))) (fun _ _ _ _ _ => pts_nil) (fun _ _ _ _ _ => (pe_op op_mod (pe_op op_mul (pv 4) (pv 13)) (pv 1)))) pa_nil)) pa_nil)))
      (pss_one (ps_if (pt_cmpR (op_notInD hr.units65) (pv 9) (pv 3) (by rfl)) (pss_one (ps_expr (pe_bm PySem.F.plainAttrs_list PySem.F.slot_list_append PySem.F.type_list_append mt_append (pv 3) (pa_cons (pv 9) pa_nil)))) pss_nil))))
      (pss_cons (ps_set (i := 5) sc_lringof.nd rfl (by first | exact .inl rfl | exact .inr rfl) (pe_call G_lwords (hr.mono (by decide)) (by rfl) F.g_lwords F.F_lwords.kp F.b_lwords .nil pass0 (pa_cons (pv 0) (pa_cons (pe_callB call_len_seq (by rfl) T.m_len PySem.boot_len (pa_cons (pv 3) pa_nil)) pa_nil))))
      (pss_cons (ps_set (i := 6) sc_lringof.nd rfl (by first | exact .inl rfl | exact .inr rfl) pe_dnewT)
      (pss_cons (ps_for PassesOwn.never rfl (pi_range1 rfl T.m_range (pa_cons (pe_callB call_len_seq (by rfl) T.m_len PySem.boot_len (pa_cons (pv 3) pa_nil)) pa_nil)) (pg_name (i := 7) sc_lringof.nd rfl (by first | exact .inl rfl | exact .inr rfl)) (pss_one (ps_for PassesOwn.never rfl (pi_range1 rfl T.m_range (pa_cons (pe_callB call_len_seq (by rfl) T.m_len PySem.boot_len (pa_cons (pv 3) pa_nil)) pa_nil)) (pg_name (i := 10) sc_lringof.nd rfl (by first | exact .inl rfl | exact .inr rfl)) (pss_cons (ps_set (i := 11) sc_lringof.nd rfl (by first | exact .inl rfl | exact .inr rfl) (pe_lc (own := [("_law_k", 4)]) rfl sc_lringof.nd (pi_list (pe_ix (r := rIxL K) ix_list (pv 3) (pv 10) (fun _ _ => rfl))) (blkOk_by (N := n_lringof) (sc := defScope s_lringof) (by decide +kernel)) (fun _ _ _ _ _ => (pg_name (i := 4) sc_lringof.nd rfl (by first | exact .inl rfl | exact .inr rfl))) (fun _ _ _ _ _ => pts_nil) (fun _ _ _ _ _ => (pe_op op_mod (pe_op op_add (pe_ix (r := rIxL K) ix_list (pe_ix (r := rIxL K) ix_list (pv 3) (pv 7) (fun _ _ => rfl)) pe_int (fun _ _ => rfl)) (pv 4)) (pv 1)))))
      (pss_cons (ps_setLc (i := 12) (own := [("_law_k", 4)]) rfl sc_lringof.nd rfl rfl (by rfl) (pi_range1 rfl T.m_range (pa_cons (pe_callB call_len_seq (by rfl) T.m_len PySem.boot_len (pa_cons (pv 3) pa_nil)) pa_nil)) (blkOk_by (N := n_lringof) (sc := defScope s_lringof) (by decide +kernel)) (fun _ _ _ _ _ => (pg_name (i := 4) sc_lringof.nd rfl (by first | exact .inl rfl | exact .inr rfl))) (fun _ _ _ _ _ => (pts_one (pt_val (pe_callB (cr_any rfl) (by rfl) T.m_any (by decide +kernel) (pa_cons (pe_lc (own := [("_law_one", 14)]) rfl sc_lringof.nd (pi_list (pe_ix (r := rIxL K) ix_list (pv 3) (pv 4) (fun _ _ => rfl))) (blkOk_by (by rfl)) (fun _ _ _ _ _ => (pg_name (i := 14) sc_lringof.nd rfl (by first | exact .inl rfl | exact .inr rfl))) (fun _ _ _ _ _ => pts_nil) (fun _ _ _ _ _ => (pe_cmpR (r := rIn K false) op_in_seq (pv 14) (pv 11) (by rfl)))) pa_nil))))) (fun _ _ _ _ _ => (pv 4)))
      (pss_one (ps_dput (hu_of hr) (pv 6) (pe_tup (pa_cons (pe_ix (r := rIxL K) ix_list (pv 5) (pv 7) (fun _ _ => rfl)) (pa_cons (pe_ix (r := rIxL K) ix_list (pv 5) (pv 10) (fun _ _ => rfl)) pa_nil))) (pe_lc (own := [("_law_k", 4)]) rfl sc_lringof.nd (pi_list (pv 12)) (blkOk_by (N := n_lringof) (sc := defScope s_lringof) (by decide +kernel)) (fun _ _ _ _ _ => (pg_name (i := 4) sc_lringof.nd rfl (by first | exact .inl rfl | exact .inr rfl))) (fun _ _ _ _ _ => pts_nil) (fun _ _ _ _ _ => (pe_ix (r := rIxL K) ix_list (pv 5) (pv 4) (fun _ _ => rfl)))) rfl)))))))
      (pss_cons (ps_setLc (i := 8) (own := [("_law_block", 9)]) rfl sc_lringof.nd rfl rfl (by rfl) (pi_list (pv 3)) (blkOk_by (N := n_lringof) (sc := defScope s_lringof) (by decide +kernel)) (fun _ _ _ _ _ => (pg_name (i := 9) sc_lringof.nd rfl (by first | exact .inl rfl | exact .inr rfl))) (fun _ _ _ _ _ => pts_nil) (fun _ _ _ _ _ => (pe_ix (r := rIxL K) ix_list (pv 5) (pe_bm PySem.F.plainAttrs_list PySem.F.slot_list_index PySem.F.type_list_index (mt_indexD hr.units65) (pv 3) (pa_cons (pe_callB cr_sorted (by rfl) T.m_sorted (by decide +kernel) (pa_cons (pe_lc (own := [("_law_k", 4)]) rfl sc_lringof.nd (pi_list (pv 9)) (blkOk_by (by rfl)) (fun _ _ _ _ _ => (pg_name (i := 4) sc_lringof.nd rfl (by first | exact .inl rfl | exact .inr rfl))) (fun _ _ _ _ _ => pts_nil) (fun _ _ _ _ _ => (pe_op op_mod (pe_un un_neg (pv 4)) (pv 1)))) pa_nil)) pa_nil)) (fun _ _ => rfl))))
      (pss_one (ps_ret (pe_call G_ltable (hr.mono (by decide)) (by rfl) F.g_ltable F.F_ltable.kp F.b_ltable .nil pass0 (pa_cons (pv 5) (pa_cons (pe_ix (r := rIxL K) ix_list (pv 5) pe_int (fun _ _ => rfl)) (pa_cons (pv 8) (pa_cons (pv 6) pa_nil))))))))))))))),
    (denw_seq (denw_s (den_asg (den_lc (den_iR2 (den_cons den_int (den_cons (den_op opd_add den_var den_int) den_nil))) den_gName (own_name (by decide)) (den_test (den_op opd_eq (den_call (den_cons den_var (den_cons den_var den_nil))) den_int)) den_var) den_gName))
      (denw_seq (denw_asg (denw_op opd_ixL (denw_e (den_lst (den_cons (den_lst (den_cons den_int den_nil)) (den_cons (den_lst (den_cons den_int (den_cons (den_op opd_sub den_var den_int) den_nil))) (den_cons den_var den_nil))))) (denw_draw den_int)) den_gName)
      (denw_seq (denw_s den_ownL)
      (denw_seq (denw_s (den_for (den_iR1 (den_cons den_var den_nil)) den_gName (den_seq (den_asg (den_sortSet (den_lc (den_iL den_var) den_gName (own_name (by decide)) den_tYes (den_op opd_mod (den_op opd_mul den_var den_var) den_var))) den_gName)
      (den_ifS (den_test (den_scal (den_op opd_notInD den_var den_var))) (den_app den_var) den_next))))
      (denw_frz (denw_seq (denw_asg (denw_callW (denw_cons (denw_e (den_cb cad_lenQ (den_cons den_var den_nil))) denw_nil)) den_gName)
      (denw_seq (denw_s den_ownT)
      (denw_seq (denw_s (den_for (den_iR1 (den_cons (den_cb cad_lenQ (den_cons den_var den_nil)) den_nil)) den_gName (den_for (den_iR1 (den_cons (den_cb cad_lenQ (den_cons den_var den_nil)) den_nil)) den_gName (den_seq (den_asg (den_lc (den_iL (den_op opd_ixL den_var den_var)) den_gName (own_name (by decide)) den_tYes (den_op opd_mod (den_op opd_add (den_op opd_ixL (den_op opd_ixL den_var den_var) den_int) den_var) den_var)) den_gName)
      (den_seq (den_asg (den_lc (den_iR1 (den_cons (den_cb cad_lenQ (den_cons den_var den_nil)) den_nil)) den_gName (own_name (by decide)) (den_tb (den_cb cad_any (den_cons (den_lc (den_iL (den_op opd_ixL den_var den_var)) den_gName (own_name (by decide)) den_tYes (den_op opd_in den_var den_var)) den_nil))) den_var) den_gName)
      (den_put (den_tup (den_cons (den_op opd_ixL den_var den_var) (den_cons (den_op opd_ixL den_var den_var) den_nil))) (den_lc (den_iL den_var) den_gName (own_name (by decide)) den_tYes (den_op opd_ixL den_var den_var))))))))
      (denw_frz (denw_seq (denw_s (den_asg (den_lc (den_iL den_var) den_gName (own_name (by decide)) den_tYes (den_op opd_ixL den_var (den_indexD den_var (den_cons (den_cb cad_sorted (den_cons (den_lc (den_iL den_var) den_gName (own_name (by decide)) den_tYes (den_op opd_mod (den_un und_neg den_var) den_var)) den_nil)) den_nil)))) den_gName))
      (denw_s (den_ret (den_call (den_cons den_var (den_cons (den_op opd_ixL den_var den_int) (den_cons den_var (den_cons den_var den_nil)))))))))))))))))⟩

def m_lring (f : Addr) : WS :=
  (wRet (wCallW f 0 1 fw_lringof (wCons (wOp gAdd (wE (fC (.int 1))) (wDraw f 0 (fC (.int 13)))) wNil)))
def fw_lring : List D → (D → Prop) → Prop := runW n_lring.length m_lring
theorem ok_lring (F : Fa K mg ad fd) (T : Bl mg) : FnOk P w K mg base CX0 4 (ad 42) (fd 42) p_lring (spW K 0 fw_lring) := by
  have G_draw := ok_draw (P := P) (w := w) (base := base) F T
  have G_lringof := ok_lringof (P := P) (w := w) (base := base) F T
  exact fn_denW F.F_lring sc_lring rfl fun f cdv A outer s H E hr => ⟨_, PSs.nox (pss_one (ps_ret (pe_call G_lringof (hr.mono (by decide)) (by rfl) F.g_lringof F.F_lringof.kp F.b_lringof .nil pass0 (pa_cons (pv 0) (pa_cons (pe_op op_add pe_int (pe_call G_draw (hr.mono (by decide)) (by rfl) F.g_draw F.F_draw.kp F.b_draw .nil pass0 (pa_cons (pv 0) (pa_cons pe_int pa_nil)))) pa_nil))))),
    (denw_ret (denw_callW (denw_cons (denw_op opd_add (denw_e den_int) (denw_draw den_int)) denw_nil)))⟩

end
end KK
end

section
/-! The laws' rings by their turnings, as numbers alone: which kinds there are, their backs, their steps; all lawful. Nothing of the program stands here. -/
namespace KwRing
/-- the units by the drawn way -/
def units (n way : Nat) : List Nat := match way with
  | 0 => [1]
  | 1 => [1, n - 1]
  | _ => (List.range' 1 n).filter fun k => Nat.gcd k n == 1
/-- k's block: rising, each once -/
def block (n : Nat) (us : List Nat) (k : Nat) : List Nat := (List.range n).filter fun j => us.any fun u => k * u % n == j
def classes (n : Nat) (us : List Nat) : List (List Nat) := (List.range n).foldl (fun cs k => if cs.contains (block n us k) then cs else cs ++ [block n us k]) []
def sums (n : Nat) (cs : List (List Nat)) (a b : Nat) : List Nat := (cs.getD b []).map fun k => ((cs.getD a []).headD 0 + k) % n
/-- the places in the step of a and b -/
def step (n : Nat) (cs : List (List Nat)) (a b : Nat) : List Nat := (List.range cs.length).filter fun k => (cs.getD k []).any fun x => (sums n cs a b).contains x
/-- the place of a's back -/
def back (n : Nat) (cs : List (List Nat)) (a : Nat) : Nat := cs.idxOf ((List.range n).filter fun j => (cs.getD a []).any fun k => (n - k % n) % n == j)
structure Tab where
  m : Nat
  same : Nat
  backs : List Nat
  grid : List (List Nat)
  deriving DecidableEq
/-- a set of places as a number -/
def bits (l : List Nat) : Nat := l.foldl (fun r k => r ||| 1 <<< k) 0
def ring (n way : Nat) : Tab :=
  let cs := classes n (units n way)
  ⟨cs.length, 0, (List.range cs.length).map (back n cs), (List.range cs.length).map fun a => (List.range cs.length).map fun b => bits (step n cs a b)⟩
def Tab.b (t : Tab) (a : Nat) : Nat := t.backs.getD a 0
def Tab.g (t : Tab) (a b : Nat) : Nat := (t.grid.getD a []).getD b 0
def Tab.all (t : Tab) (f : Nat → Bool) : Bool := (List.range t.m).all f
def Tab.has (t : Tab) (a b c : Nat) : Bool := (t.g a b).testBit c
/-- the union of the steps of a set's kinds and c -/
def Tab.left (t : Tab) (s c : Nat) : Nat := (List.range t.m).foldl (fun r k => if s.testBit k then r ||| t.g k c else r) 0
def Tab.right (t : Tab) (a s : Nat) : Nat := (List.range t.m).foldl (fun r k => if s.testBit k then r ||| t.g a k else r) 0
/-- lawful, rule by rule as the document has them -/
def Tab.lawful (t : Tab) : Bool :=
  (t.all fun a => decide (t.b a < t.m) && t.b (t.b a) == a) && (t.b t.same == t.same) && (t.all fun a => t.g t.same a == 1 <<< a && t.g a t.same == 1 <<< a) &&
  (t.all fun a => t.all fun b => t.all fun c => t.has a b c == t.has c (t.b b) a && t.has a b c == t.has (t.b a) c b) &&
  (t.all fun a => t.all fun b => t.all fun c => t.left (t.g a b) c == t.right a (t.g b c))
def rings : List (Nat × Nat) := (List.range' 1 13).flatMap fun n => [(n, 0), (n, 1), (n, 2)]
set_option maxRecDepth 100000 in
set_option maxHeartbeats 0 in
theorem rings_lawful : (rings.all fun q => (ring q.1 q.2).lawful) = true := by decide +kernel
theorem ring_lawful {n way : Nat} (h0 : 1 ≤ n) (h1 : n ≤ 13) (hw : way < 3) : (ring n way).lawful = true := by
  have h := List.all_eq_true.mp rings_lawful (n, way) ?_
  · exact h
  · unfold rings
    refine List.mem_flatMap.mpr ⟨n, List.mem_range'_1.mpr ⟨h0, by omega⟩, ?_⟩
    have : way = 0 ∨ way = 1 ∨ way = 2 := by omega
    rcases this with rfl | rfl | rfl <;> simp
end KwRing
end

section
/-! The tables that the laws see of their own things, as numbers alone; all lawful. Nothing of the program stands here. -/
namespace KwSeen
open KwRing
def sg (a b : Nat) : Nat := if a < b then 0 else if a = b then 1 else 2
/-- of two ways in a forest: up, same, down, apart -/
def kBr (a b : List Nat) : Nat := if a = b then 1 else if b.take a.length = a then 0 else if a.take b.length = b then 2 else 3
/-- of two sets: within, around, same, across, apart -/
def kPa (a b : List Nat) : Nat := if a = b then 2 else if a.all b.contains then 0 else if b.all a.contains then 1 else if a.any b.contains then 3 else 4
/-- of two stretches -/
def kSt (x y : Nat × Nat) : Nat :=
  if x.2 < y.1 then 0 else if x.2 = y.1 then 1 else if y.2 < x.1 then 12 else if y.2 = x.1 then 11 else
  if x.1 = y.1 then [3, 6, 9].getD (sg x.2 y.2) 0 else if x.2 = y.2 then (if x.1 > y.1 then 5 else 7) else
  if x.1 < y.1 then (if x.2 < y.2 then 2 else 8) else if x.2 < y.2 then 4 else 10
/-- three things: the kinds of the first two, the last two, the outer two; the back of the first -/
def four {T : Type} (k : T → T → Nat) (q : T × T × T) : Nat × Nat × Nat × Nat := (k q.1 q.2.1, k q.2.1 q.2.2, k q.1 q.2.2, k q.2.1 q.1)
def threes {T : Type} (l : List T) : List (T × T × T) := l.flatMap fun a => l.flatMap fun b => l.map fun c => (a, b, c)
def seen (m same : Nat) (l : List (Nat × Nat × Nat × Nat)) : Tab :=
  ⟨m, same, (List.range m).map fun a => (l.findSome? fun q => if q.1 = a then some q.2.2.2 else none).getD 99,
    (List.range m).map fun a => (List.range m).map fun b => l.foldl (fun r q => if q.1 = a ∧ q.2.1 = b then r ||| 1 <<< q.2.2.1 else r) 0⟩
def thBr : List (List Nat) := [[0], [0, 1], [0, 2], [0, 1, 3], [0, 1, 4], [0, 1, 3, 5], [7], [7, 8]]
def thSt : List (Nat × Nat) := (List.range' 1 5).flatMap fun h => (List.range h).map fun l => (l, h)
def setsPa (shape : Nat) : List (List Nat) := (List.range 3).map fun at_ => ((List.range' 1 7).filter fun k => shape.testBit (k - 1)).filter fun k => k.testBit at_
def thPa : List (List Nat × List Nat × List Nat) := ((List.range' 1 127).map setsPa).filterMap fun s => match s with
  | [a, b, c] => if a = [] ∨ b = [] ∨ c = [] then none else some (a, b, c)
  | _ => none
def moments : Tab := seen 3 1 ((threes [0, 1, 2]).map (four sg))
def branches : Tab := seen 4 1 ((threes thBr).map (four kBr))
def parts : Tab := seen 5 2 (thPa.map (four kPa))
/-- a triple for each three kinds that some triple shows -/
def witSt : List ((Nat × Nat) × (Nat × Nat) × Nat × Nat) := [((0, 1), (2, 3), 4, 5), ((0, 1), (2, 3), 3, 4), ((0, 1), (2, 4), 3, 5), ((0, 1), (2, 3), 2, 4), ((0, 1), (3, 4), 2, 5), ((0, 1), (2, 3), 1, 4), ((0, 2), (3, 4), 1, 5), ((0, 1), (2, 3), 0, 4), ((1, 2), (3, 4), 0, 5), ((0, 1), (3, 4), 2, 4), ((0, 1), (2, 3), 1, 3), ((0, 2), (3, 4), 1, 4), ((0, 1), (2, 3), 0, 3), ((1, 2), (3, 4), 0, 4), ((0, 1), (2, 3), 2, 3), ((0, 1), (2, 4), 3, 4), ((0, 1), (2, 5), 3, 4), ((0, 1), (2, 4), 2, 3), ((0, 1), (3, 5), 2, 4), ((0, 1), (2, 4), 1, 3), ((0, 2), (3, 5), 1, 4), ((0, 1), (2, 4), 0, 3), ((1, 2), (3, 5), 0, 4), ((0, 1), (3, 4), 2, 3), ((0, 1), (2, 3), 1, 2), ((0, 2), (3, 4), 1, 3), ((0, 1), (2, 3), 0, 2), ((1, 2), (3, 4), 0, 3), ((0, 1), (4, 5), 2, 3), ((0, 1), (3, 4), 1, 2), ((0, 2), (4, 5), 1, 3), ((0, 1), (3, 4), 0, 2), ((1, 2), (4, 5), 0, 3), ((1, 2), (3, 4), 0, 2), ((0, 1), (2, 3), 0, 1), ((0, 2), (3, 4), 1, 2), ((0, 3), (4, 5), 1, 2), ((0, 2), (3, 4), 0, 1), ((1, 3), (4, 5), 0, 2), ((1, 2), (3, 4), 0, 1), ((2, 3), (4, 5), 0, 1), ((0, 1), (1, 2), 3, 4), ((0, 1), (1, 2), 2, 3), ((0, 1), (1, 3), 2, 4), ((0, 1), (1, 2), 1, 3), ((0, 2), (2, 3), 1, 4), ((0, 1), (1, 2), 0, 3), ((1, 2), (2, 3), 0, 4), ((0, 2), (2, 3), 1, 3), ((0, 1), (1, 2), 0, 2), ((1, 2), (2, 3), 0, 3), ((0, 1), (1, 2), 1, 2), ((0, 1), (1, 3), 2, 3), ((0, 1), (1, 4), 2, 3), ((0, 1), (1, 3), 1, 2), ((0, 2), (2, 4), 1, 3), ((0, 1), (1, 3), 0, 2), ((1, 2), (2, 4), 0, 3), ((1, 2), (2, 3), 0, 2), ((0, 1), (1, 2), 0, 1), ((0, 2), (2, 3), 1, 2), ((0, 3), (3, 4), 1, 2), ((0, 2), (2, 3), 0, 1), ((1, 3), (3, 4), 0, 2), ((1, 2), (2, 3), 0, 1), ((2, 3), (3, 4), 0, 1), ((0, 2), (1, 3), 4, 5), ((0, 2), (1, 3), 3, 4), ((0, 2), (1, 4), 3, 5), ((0, 2), (1, 3), 2, 4), ((0, 3), (1, 4), 2, 5), ((0, 2), (1, 3), 1, 4), ((0, 3), (2, 4), 1, 5), ((0, 2), (1, 3), 0, 4), ((1, 3), (2, 4), 0, 5), ((0, 3), (2, 4), 1, 4), ((0, 2), (1, 3), 0, 3), ((1, 3), (2, 4), 0, 4), ((0, 2), (1, 3), 1, 3), ((0, 2), (1, 4), 3, 4), ((0, 2), (1, 3), 2, 3), ((0, 3), (1, 4), 2, 4), ((0, 2), (1, 5), 3, 4), ((0, 2), (1, 4), 2, 3), ((0, 3), (1, 5), 2, 4), ((0, 3), (1, 4), 2, 3), ((0, 4), (1, 5), 2, 3), ((0, 2), (1, 4), 1, 3), ((0, 2), (1, 3), 1, 2), ((0, 3), (1, 4), 1, 2), ((0, 3), (2, 5), 1, 4), ((0, 2), (1, 4), 0, 3), ((1, 3), (2, 5), 0, 4), ((1, 3), (2, 4), 0, 3), ((0, 2), (1, 3), 0, 2), ((0, 3), (2, 4), 1, 3), ((0, 4), (2, 5), 1, 3), ((0, 3), (1, 4), 0, 2), ((1, 4), (2, 5), 0, 3), ((0, 3), (2, 4), 1, 2), ((0, 2), (1, 3), 0, 1), ((1, 3), (2, 4), 0, 2), ((0, 4), (3, 5), 1, 2), ((0, 3), (2, 4), 0, 1), ((1, 4), (3, 5), 0, 2), ((1, 3), (2, 4), 0, 1), ((2, 4), (3, 5), 0, 1), ((0, 1), (0, 2), 3, 4), ((0, 1), (0, 2), 2, 3), ((0, 1), (0, 3), 2, 4), ((0, 1), (0, 2), 1, 3), ((0, 2), (0, 3), 1, 4), ((0, 1), (0, 2), 0, 3), ((1, 2), (1, 3), 0, 4), ((1, 2), (1, 3), 0, 3), ((0, 1), (0, 2), 0, 2), ((0, 1), (0, 3), 2, 3), ((0, 1), (0, 2), 1, 2), ((0, 2), (0, 3), 1, 3), ((0, 1), (0, 4), 2, 3), ((0, 1), (0, 3), 1, 2), ((0, 2), (0, 4), 1, 3), ((0, 2), (0, 3), 1, 2), ((0, 3), (0, 4), 1, 2), ((0, 1), (0, 3), 0, 2), ((0, 1), (0, 2), 0, 1), ((0, 2), (0, 3), 0, 1), ((1, 2), (1, 4), 0, 3), ((1, 2), (1, 3), 0, 2), ((1, 3), (1, 4), 0, 2), ((1, 2), (1, 3), 0, 1), ((2, 3), (2, 4), 0, 1), ((1, 2), (0, 3), 4, 5), ((1, 2), (0, 3), 3, 4), ((1, 2), (0, 4), 3, 5), ((1, 2), (0, 3), 2, 4), ((1, 3), (0, 4), 2, 5), ((1, 2), (0, 3), 1, 4), ((2, 3), (0, 4), 1, 5), ((1, 2), (0, 3), 0, 4), ((2, 3), (1, 4), 0, 5), ((2, 3), (1, 4), 0, 4), ((1, 2), (0, 3), 0, 3), ((1, 2), (0, 4), 3, 4), ((1, 2), (0, 3), 2, 3), ((1, 3), (0, 4), 2, 4), ((1, 2), (0, 3), 1, 3), ((2, 3), (0, 4), 1, 4), ((1, 2), (0, 5), 3, 4), ((1, 2), (0, 4), 2, 3), ((1, 3), (0, 5), 2, 4), ((1, 2), (0, 4), 1, 3), ((2, 3), (0, 5), 1, 4), ((2, 3), (0, 4), 1, 3), ((1, 2), (0, 3), 1, 2), ((1, 3), (0, 4), 2, 3), ((1, 4), (0, 5), 2, 3), ((1, 3), (0, 4), 1, 2), ((2, 4), (0, 5), 1, 3), ((2, 3), (0, 4), 1, 2), ((3, 4), (0, 5), 1, 2), ((1, 2), (0, 4), 0, 3), ((1, 2), (0, 3), 0, 2), ((1, 3), (0, 4), 0, 2), ((1, 2), (0, 3), 0, 1), ((2, 3), (0, 4), 0, 1), ((2, 3), (1, 5), 0, 4), ((2, 3), (1, 4), 0, 3), ((2, 4), (1, 5), 0, 3), ((2, 3), (1, 4), 0, 2), ((3, 4), (1, 5), 0, 2), ((2, 3), (1, 4), 0, 1), ((3, 4), (2, 5), 0, 1), ((1, 2), (0, 2), 3, 4), ((1, 2), (0, 2), 2, 3), ((1, 3), (0, 3), 2, 4), ((1, 2), (0, 2), 1, 3), ((2, 3), (0, 3), 1, 4), ((1, 2), (0, 2), 0, 3), ((2, 3), (1, 3), 0, 4), ((2, 3), (1, 3), 0, 3), ((1, 2), (0, 2), 0, 2), ((2, 3), (0, 3), 1, 3), ((1, 2), (0, 2), 1, 2), ((1, 3), (0, 3), 2, 3), ((1, 4), (0, 4), 2, 3), ((1, 3), (0, 3), 1, 2), ((2, 4), (0, 4), 1, 3), ((2, 3), (0, 3), 1, 2), ((3, 4), (0, 4), 1, 2), ((1, 3), (0, 3), 0, 2), ((1, 2), (0, 2), 0, 1), ((2, 3), (0, 3), 0, 1), ((2, 4), (1, 4), 0, 3), ((2, 3), (1, 3), 0, 2), ((3, 4), (1, 4), 0, 2), ((2, 3), (1, 3), 0, 1), ((3, 4), (2, 4), 0, 1), ((0, 1), (0, 1), 2, 3), ((0, 1), (0, 1), 1, 2), ((0, 2), (0, 2), 1, 3), ((0, 1), (0, 1), 0, 2), ((1, 2), (1, 2), 0, 3), ((1, 2), (1, 2), 0, 2), ((0, 1), (0, 1), 0, 1), ((0, 2), (0, 2), 1, 2), ((0, 3), (0, 3), 1, 2), ((0, 2), (0, 2), 0, 1), ((1, 3), (1, 3), 0, 2), ((1, 2), (1, 2), 0, 1), ((2, 3), (2, 3), 0, 1), ((0, 2), (1, 2), 3, 4), ((0, 2), (1, 2), 2, 3), ((0, 3), (1, 3), 2, 4), ((0, 2), (1, 2), 1, 3), ((0, 3), (2, 3), 1, 4), ((0, 2), (1, 2), 0, 3), ((1, 3), (2, 3), 0, 4), ((1, 3), (2, 3), 0, 3), ((0, 2), (1, 2), 0, 2), ((0, 3), (2, 3), 1, 3), ((0, 2), (1, 2), 1, 2), ((0, 3), (1, 3), 2, 3), ((0, 4), (1, 4), 2, 3), ((0, 3), (1, 3), 1, 2), ((0, 4), (2, 4), 1, 3), ((0, 3), (1, 3), 0, 2), ((1, 4), (2, 4), 0, 3), ((0, 3), (2, 3), 1, 2), ((0, 2), (1, 2), 0, 1), ((1, 3), (2, 3), 0, 2), ((0, 4), (3, 4), 1, 2), ((0, 3), (2, 3), 0, 1), ((1, 4), (3, 4), 0, 2), ((1, 3), (2, 3), 0, 1), ((2, 4), (3, 4), 0, 1), ((0, 3), (1, 2), 4, 5), ((0, 3), (1, 2), 3, 4), ((0, 4), (1, 2), 3, 5), ((0, 4), (1, 2), 3, 4), ((0, 5), (1, 2), 3, 4), ((0, 3), (1, 2), 2, 4), ((0, 3), (1, 2), 2, 3), ((0, 4), (1, 2), 2, 3), ((0, 4), (1, 3), 2, 5), ((0, 4), (1, 3), 2, 4), ((0, 5), (1, 3), 2, 4), ((0, 3), (1, 2), 1, 4), ((0, 3), (1, 2), 1, 3), ((0, 4), (1, 2), 1, 3), ((0, 4), (2, 3), 1, 5), ((0, 3), (1, 2), 0, 4), ((1, 4), (2, 3), 0, 5), ((1, 4), (2, 3), 0, 4), ((0, 3), (1, 2), 0, 3), ((0, 4), (2, 3), 1, 4), ((0, 5), (2, 3), 1, 4), ((0, 4), (1, 2), 0, 3), ((1, 5), (2, 3), 0, 4), ((0, 4), (2, 3), 1, 3), ((0, 3), (1, 2), 0, 2), ((1, 4), (2, 3), 0, 3), ((0, 3), (1, 2), 1, 2), ((0, 4), (1, 3), 2, 3), ((0, 5), (1, 4), 2, 3), ((0, 4), (1, 3), 1, 2), ((0, 5), (2, 4), 1, 3), ((0, 4), (1, 3), 0, 2), ((1, 5), (2, 4), 0, 3), ((0, 4), (2, 3), 1, 2), ((0, 3), (1, 2), 0, 1), ((1, 4), (2, 3), 0, 2), ((0, 5), (3, 4), 1, 2), ((0, 4), (2, 3), 0, 1), ((1, 5), (3, 4), 0, 2), ((1, 4), (2, 3), 0, 1), ((2, 5), (3, 4), 0, 1), ((0, 2), (0, 1), 3, 4), ((0, 2), (0, 1), 2, 3), ((0, 3), (0, 1), 2, 4), ((0, 3), (0, 1), 2, 3), ((0, 4), (0, 1), 2, 3), ((0, 2), (0, 1), 1, 3), ((0, 2), (0, 1), 1, 2), ((0, 3), (0, 1), 1, 2), ((0, 3), (0, 2), 1, 4), ((0, 3), (0, 2), 1, 3), ((0, 4), (0, 2), 1, 3), ((0, 2), (0, 1), 0, 3), ((0, 2), (0, 1), 0, 2), ((0, 3), (0, 1), 0, 2), ((1, 3), (1, 2), 0, 4), ((1, 3), (1, 2), 0, 3), ((1, 4), (1, 2), 0, 3), ((1, 3), (1, 2), 0, 2), ((0, 2), (0, 1), 0, 1), ((0, 3), (0, 2), 1, 2), ((0, 4), (0, 3), 1, 2), ((0, 3), (0, 2), 0, 1), ((1, 4), (1, 3), 0, 2), ((1, 3), (1, 2), 0, 1), ((2, 4), (2, 3), 0, 1), ((1, 3), (0, 2), 4, 5), ((1, 3), (0, 2), 3, 4), ((1, 4), (0, 2), 3, 5), ((1, 4), (0, 2), 3, 4), ((1, 5), (0, 2), 3, 4), ((1, 3), (0, 2), 2, 4), ((1, 3), (0, 2), 2, 3), ((1, 4), (0, 2), 2, 3), ((1, 4), (0, 3), 2, 5), ((1, 3), (0, 2), 1, 4), ((2, 4), (0, 3), 1, 5), ((2, 4), (0, 3), 1, 4), ((1, 3), (0, 2), 1, 3), ((1, 4), (0, 3), 2, 4), ((1, 5), (0, 3), 2, 4), ((1, 4), (0, 2), 1, 3), ((2, 5), (0, 3), 1, 4), ((1, 3), (0, 2), 0, 4), ((1, 3), (0, 2), 0, 3), ((1, 4), (0, 2), 0, 3), ((2, 4), (1, 3), 0, 5), ((2, 4), (1, 3), 0, 4), ((2, 5), (1, 3), 0, 4), ((2, 4), (1, 3), 0, 3), ((1, 3), (0, 2), 0, 2), ((1, 4), (0, 3), 2, 3), ((1, 3), (0, 2), 1, 2), ((2, 4), (0, 3), 1, 3), ((1, 5), (0, 4), 2, 3), ((1, 4), (0, 3), 1, 2), ((2, 5), (0, 4), 1, 3), ((2, 4), (0, 3), 1, 2), ((3, 5), (0, 4), 1, 2), ((1, 4), (0, 3), 0, 2), ((1, 3), (0, 2), 0, 1), ((2, 4), (0, 3), 0, 1), ((2, 5), (1, 4), 0, 3), ((2, 4), (1, 3), 0, 2), ((3, 5), (1, 4), 0, 2), ((2, 4), (1, 3), 0, 1), ((3, 5), (2, 4), 0, 1), ((1, 2), (0, 1), 3, 4), ((1, 2), (0, 1), 2, 3), ((1, 3), (0, 1), 2, 4), ((1, 3), (0, 1), 2, 3), ((1, 4), (0, 1), 2, 3), ((1, 2), (0, 1), 1, 3), ((1, 2), (0, 1), 1, 2), ((1, 3), (0, 1), 1, 2), ((2, 3), (0, 2), 1, 4), ((2, 3), (0, 2), 1, 3), ((2, 4), (0, 2), 1, 3), ((1, 2), (0, 1), 0, 3), ((1, 2), (0, 1), 0, 2), ((1, 3), (0, 1), 0, 2), ((2, 3), (1, 2), 0, 4), ((2, 3), (1, 2), 0, 3), ((2, 4), (1, 2), 0, 3), ((2, 3), (1, 2), 0, 2), ((1, 2), (0, 1), 0, 1), ((2, 3), (0, 2), 1, 2), ((3, 4), (0, 3), 1, 2), ((2, 3), (0, 2), 0, 1), ((3, 4), (1, 3), 0, 2), ((2, 3), (1, 2), 0, 1), ((3, 4), (2, 3), 0, 1), ((2, 3), (0, 1), 4, 5), ((2, 3), (0, 1), 3, 4), ((2, 4), (0, 1), 3, 5), ((2, 3), (0, 1), 2, 4), ((3, 4), (0, 1), 2, 5), ((3, 4), (0, 1), 2, 4), ((2, 3), (0, 1), 2, 3), ((2, 4), (0, 1), 3, 4), ((2, 5), (0, 1), 3, 4), ((2, 4), (0, 1), 2, 3), ((3, 5), (0, 1), 2, 4), ((3, 4), (0, 1), 2, 3), ((4, 5), (0, 1), 2, 3), ((2, 3), (0, 1), 1, 4), ((2, 3), (0, 1), 1, 3), ((2, 4), (0, 1), 1, 3), ((2, 3), (0, 1), 1, 2), ((3, 4), (0, 1), 1, 2), ((3, 4), (0, 2), 1, 5), ((3, 4), (0, 2), 1, 4), ((3, 5), (0, 2), 1, 4), ((3, 4), (0, 2), 1, 3), ((4, 5), (0, 2), 1, 3), ((2, 3), (0, 1), 0, 4), ((2, 3), (0, 1), 0, 3), ((2, 4), (0, 1), 0, 3), ((2, 3), (0, 1), 0, 2), ((3, 4), (0, 1), 0, 2), ((3, 4), (1, 2), 0, 5), ((3, 4), (1, 2), 0, 4), ((3, 5), (1, 2), 0, 4), ((3, 4), (1, 2), 0, 3), ((4, 5), (1, 2), 0, 3), ((3, 4), (1, 2), 0, 2), ((2, 3), (0, 1), 0, 1), ((3, 4), (0, 2), 1, 2), ((4, 5), (0, 3), 1, 2), ((3, 4), (0, 2), 0, 1), ((4, 5), (1, 3), 0, 2), ((3, 4), (1, 2), 0, 1), ((4, 5), (2, 3), 0, 1)]
/-- the pairs of the moments: place 3 * up + across -/
def courses : Tab := ⟨9, 4, (List.range 9).map fun a => 3 * moments.b (a / 3) + moments.b (a % 3),
  (List.range 9).map fun a => (List.range 9).map fun b => bits ((List.range 9).filter fun c => moments.has (a / 3) (b / 3) (c / 3) && moments.has (a % 3) (b % 3) (c % 3))⟩
/-! ### written out -/
def moments' : Tab := ⟨3, 1, [2, 1, 0], [[1, 1, 7], [1, 2, 4], [7, 4, 4]]⟩
def branches' : Tab := ⟨4, 1, [2, 1, 0, 3], [[1, 1, 7, 9], [1, 2, 4, 8], [15, 4, 4, 8], [8, 8, 12, 15]]⟩
def parts' : Tab := ⟨5, 2, [1, 0, 2, 3, 4], [[1, 31, 1, 25, 16], [15, 2, 2, 10, 26], [1, 2, 4, 8, 16], [9, 26, 8, 31, 26], [25, 16, 16, 25, 31]]⟩
def courses' : Tab := ⟨9, 4, [8, 7, 6, 5, 4, 3, 2, 1, 0], [[1, 1, 7, 1, 1, 7, 73, 73, 511], [1, 2, 4, 1, 2, 4, 73, 146, 292], [7, 4, 4, 7, 4, 4, 511, 292, 292], [1, 1, 7, 8, 8, 56, 64, 64, 448], [1, 2, 4, 8, 16, 32, 64, 128, 256], [7, 4, 4, 56, 32, 32, 448, 256, 256], [73, 73, 511, 64, 64, 448, 64, 64, 448], [73, 146, 292, 64, 128, 256, 64, 128, 256], [511, 292, 292, 448, 256, 256, 448, 256, 256]]⟩
def stretches' : Tab := ⟨13, 6, [12, 11, 10, 9, 8, 7, 6, 5, 4, 3, 2, 1, 0], [[1, 1, 1, 1, 31, 31, 1, 1, 1, 1, 31, 31, 8191], [1, 1, 1, 2, 28, 28, 2, 1, 1, 2, 28, 224, 7936], [1, 1, 7, 4, 28, 28, 4, 7, 391, 388, 2044, 1792, 7936], [1, 1, 7, 8, 16, 16, 8, 7, 391, 584, 1072, 2048, 4096], [1, 1, 31, 16, 16, 16, 16, 31, 8191, 7216, 7216, 4096, 4096], [1, 2, 28, 16, 16, 32, 32, 224, 7936, 7168, 7168, 4096, 4096], [1, 2, 4, 8, 16, 32, 64, 128, 256, 512, 1024, 2048, 4096], [1, 2, 4, 4, 28, 224, 128, 128, 256, 256, 1792, 1792, 7936], [391, 388, 388, 388, 2044, 1792, 256, 256, 256, 256, 1792, 1792, 7936], [391, 388, 388, 584, 1072, 1024, 512, 256, 256, 512, 1024, 2048, 4096], [391, 388, 2044, 1072, 1072, 1024, 1024, 1792, 7936, 7168, 7168, 4096, 4096], [391, 584, 1072, 1072, 1072, 2048, 2048, 2048, 4096, 4096, 4096, 4096, 4096], [8191, 7216, 7216, 7216, 7216, 4096, 4096, 4096, 4096, 4096, 4096, 4096, 4096]]⟩
set_option maxRecDepth 100000
set_option maxHeartbeats 0
theorem moments_eq : moments = moments' := by decide +kernel
theorem moments_lawful : moments.lawful = true := by decide +kernel
theorem branches_lawful : branches.lawful = true := by decide +kernel
theorem parts_lawful : parts.lawful = true := by decide +kernel
theorem courses_lawful : courses.lawful = true := by decide +kernel
theorem branches_eq : branches = branches' := by decide +kernel
theorem parts_eq : parts = parts' := by decide +kernel
theorem courses_eq : courses = courses' := by decide +kernel
theorem stretches_lawful' : stretches'.lawful = true := by decide +kernel
theorem stretches_wit : seen 13 6 (witSt.map (four kSt)) = stretches' := by decide +kernel
end KwSeen
end

section
set_option Elab.async false
set_option linter.all false
set_option maxRecDepth 100000
/-! M1: what the program's functions over trees are worth: sets as numbers, the rules. -/
namespace KK
open PySem PySem.Spec PyProof.Rows L2 KW DL
open KwRing (Tab)
theorem w_setof {l : List Nat} (h : ∀ k ∈ l, k ≤ 1000) : fn_setof [.lst (l.map nat)] = some (nat (bitsN l)) := by
  refine runF_rt ?_
  show m_setof [some (.pur (.lst (l.map nat))), none, none] = _
  unfold m_setof
  rw [sSeq_nx (ρ' := [some (.pur (.lst (l.map nat))), some (.pur (.int 0)), none]) rfl]
  obtain ⟨ρ', e, y, rfl⟩ := sFor_nx (fs := iL (fVar 0)) (mt := mName 2) (mb := sAug gOr 1 (fOp gShl (fC (.int 1)) (fVar 2))) (fun i ρ => ∃ y, ρ = [some (.pur (.lst (l.map nat))), some (.pur (nat (bitsN (l.take i)))), y]) (ds := l.map nat) (ρ := [some (.pur (.lst (l.map nat))), some (.pur (.int 0)), none]) rfl ⟨none, rfl⟩ (by
    rintro i d ρ hd ⟨y, rfl⟩
    rw [List.getElem?_map] at hd
    obtain ⟨k, hk, rfl⟩ := Option.map_eq_some_iff.mp hd
    have hk1 := h k (List.mem_of_getElem? hk)
    refine ⟨_, _, rfl, sAug_eq rfl (fOp_eq rfl rfl (gShl_one hk1)) (gOr_nat _ _), some (.pur (nat k)), ?_⟩
    rw [List.take_succ, hk]
    unfold bitsN
    rw [List.foldl_append]
    rfl)
  rw [List.length_map, List.take_length] at e
  rw [sSeq_nx e]
  rfl
theorem filterMap_if {α β : Type} (p : α → Bool) (f : α → β) : ∀ l : List α, (l.filterMap fun x => if p x = true then some (f x) else none) = (l.filter p).map f
  | [] => rfl
  | x :: l => by
    rw [List.filterMap_cons, List.filter_cons, filterMap_if p f l]
    cases h : p x <;> simp
theorem w_plin {a : Nat} (h : a < 2 ^ 60) : fn_plin [nat a] = some (.lst ((plN a).map nat)) := by
  refine runF_rt (sRet_eq ?_)
  have hb : (if a = 0 then 0 else a.log2 + 1) ≤ 1000 := by
    split
    · omega
    · rename_i h0
      have := (Nat.log2_lt h0).mpr h
      omega
  refine (fLc_filter (ds := (List.range (if a = 0 then 0 else a.log2 + 1)).map nat) (fun d => match d with | .int i => if a.testBit i.toNat = true then some d else none | _ => none) ?_ ?_ ?_).trans ?_
  · refine iR1_eq (fCons_eq (fUn_eq rfl ?_) rfl) (by omega)
    show some (D.int ((Builtin.Int.intBits (a : Int) : Nat) : Int)) = _
    rw [bits_len]
  · rw [List.length_map, List.length_range]
    omega
  · intro d hd
    obtain ⟨k, hk, rfl⟩ := List.mem_map.mp hd
    refine (turn_if (b := a.testBit k) rfl (fTru_eq (x := nat ((a >>> k) % 2)) ?_ (bit_tru a k)) rfl).trans ?_
    · unfold fOp
      exact shr_and a k
    · show some (if a.testBit k = true then some (nat k) else none) = some (if a.testBit ((k : Int)).toNat = true then some (nat k) else none)
      rw [Int.toNat_natCast]
  · congr 2
    rw [List.filterMap_map]
    unfold plN
    rw [← filterMap_if]
    congr 1
theorem gIxT_nat {l : List D} {k : Nat} {d : D} (h : l[k]? = some d) : gIxT (.tup l) (nat k) = some d := atI_nat h
theorem gIxL_nat {l : List D} {k : Nat} {d : D} (h : l[k]? = some d) : gIxL (.lst l) (nat k) = some d := atI_nat h
/-- the sets at the places of a set, put together -/
def unN (l : List Nat) (a : Nat) : Nat := (plN a).foldl (fun r k => r ||| l.getD k 0) 0
theorem or_test {f : Nat → Nat} {c : Nat} : ∀ (ks : List Nat) (r : Nat), (ks.foldl (fun r k => r ||| f k) r).testBit c = true ↔ r.testBit c = true ∨ ∃ k ∈ ks, (f k).testBit c = true := by
  intro ks
  induction ks with
  | nil => intro r; simp
  | cons x ks ih =>
    intro r
    rw [List.foldl_cons, ih, Nat.testBit_or, Bool.or_eq_true]
    constructor
    · rintro ((h | h) | ⟨k, hk, h⟩)
      · exact .inl h
      · exact .inr ⟨x, List.mem_cons_self, h⟩
      · exact .inr ⟨k, List.mem_cons_of_mem _ hk, h⟩
    · rintro (h | ⟨k, hk, h⟩)
      · exact .inl (.inl h)
      · rcases List.mem_cons.mp hk with rfl | hk
        · exact .inl (.inr h)
        · exact .inr ⟨k, hk, h⟩
theorem unN_test {l : List Nat} {a c : Nat} : (unN l a).testBit c = true ↔ ∃ k, a.testBit k = true ∧ (l.getD k 0).testBit c = true := by
  unfold unN
  rw [or_test (f := fun k => l.getD k 0)]
  constructor
  · rintro (h | ⟨k, hk, h⟩)
    · simp at h
    · exact ⟨k, plN_mem.mp hk, h⟩
  · rintro ⟨k, hk, h⟩
    exact .inr ⟨k, plN_mem.mpr hk, h⟩
theorem map_nat {l : List Nat} {k : Nat} (hk : k < l.length) : (l.map nat)[k]? = some (nat (l.getD k 0)) := by
  rw [List.getElem?_map, List.getElem?_eq_getElem hk, List.getD_eq_getElem?_getD, List.getElem?_eq_getElem hk]
  rfl
theorem w_unat {x : D} {l : List Nat} {a : Nat} (hx : x = .tup (l.map nat) ∨ x = .lst (l.map nat)) (h : a < 2 ^ 60) (hl : ∀ k, a.testBit k = true → k < l.length) : fn_unat [x, nat a] = some (nat (unN l a)) := by
  refine runF_rt ?_
  have hx' : ∀ k, k < l.length → gIxA x (nat k) = some (nat (l.getD k 0)) := fun k hk => by
    rcases hx with rfl | rfl
    · exact gIxT_nat (map_nat hk)
    · exact gIxL_nat (map_nat hk)
  show m_unat [some (.pur x), some (.pur (nat a)), none, none] = _
  unfold m_unat
  rw [sSeq_nx (ρ' := [some (.pur x), some (.pur (nat a)), some (.pur (.int 0)), none]) rfl]
  obtain ⟨ρ', e, y, rfl⟩ := sFor_nx (fs := iL (fCallN 1 fn_plin (fCons (fVar 1) fNil))) (mt := mName 3) (mb := sAug gOr 2 (fOp gIxA (fVar 0) (fVar 3))) (fun i ρ => ∃ y, ρ = [some (.pur x), some (.pur (nat a)), some (.pur (nat (((plN a).take i).foldl (fun r k => r ||| l.getD k 0) 0))), y]) (ds := (plN a).map nat) (ρ := [some (.pur x), some (.pur (nat a)), some (.pur (.int 0)), none]) (by
    exact iL_eq (fCallN_eq (n := 1) (xs := [nat a]) rfl rfl (w_plin h))) ⟨none, rfl⟩ (by
    rintro i d ρ hd ⟨y, rfl⟩
    rw [List.getElem?_map] at hd
    obtain ⟨k, hk, rfl⟩ := Option.map_eq_some_iff.mp hd
    have hk1 := hl k (plN_mem.mp (List.mem_of_getElem? hk))
    refine ⟨_, _, rfl, sAug_eq rfl (fOp_eq rfl rfl (hx' k hk1)) (gOr_nat _ _), some (.pur (nat k)), ?_⟩
    rw [List.take_succ, hk, List.foldl_append]
    rfl)
  rw [List.length_map, List.take_length] at e
  rw [sSeq_nx e]
  rfl
/-! ### the rules -/
def turnsD (t : Tab) : D := .tup (t.backs.map nat)
def gridD (t : Tab) : D := .tup (t.grid.map fun r => .tup (r.map nat))
/-- a table of the form that the program holds -/
structure WF (t : Tab) : Prop where
  m13 : t.m ≤ 13
  m1 : 1 ≤ t.m
  same : t.same < t.m
  bl : t.backs.length = t.m
  bk : ∀ a, a < t.m → t.b a < t.m
  gl : t.grid.length = t.m
  rl : ∀ r ∈ t.grid, r.length = t.m
  gr : ∀ a b, a < t.m → b < t.m → t.g a b < 2 ^ t.m
theorem WF.row {t : Tab} (h : WF t) {a : Nat} (ha : a < t.m) : ∃ r, t.grid[a]? = some r ∧ r.length = t.m ∧ (t.grid.map fun r => D.tup (r.map nat))[a]? = some (.tup (r.map nat)) ∧ ∀ b, r.getD b 0 = t.g a b := by
  have hl : a < t.grid.length := by rw [h.gl]; exact ha
  refine ⟨t.grid[a], List.getElem?_eq_getElem hl, h.rl _ (List.getElem_mem hl), ?_, fun b => ?_⟩
  · rw [List.getElem?_map, List.getElem?_eq_getElem hl]
    rfl
  · unfold Tab.g
    rw [List.getD_eq_getElem?_getD (l := t.grid), List.getElem?_eq_getElem hl]
    rfl
theorem WF.ix {t : Tab} (h : WF t) {ρ : En} {fa fb fc : FE} {a b : Nat} (ha : a < t.m) (hb : b < t.m) (e0 : fa ρ = some (gridD t)) (e1 : fb ρ = some (nat a)) (e2 : fc ρ = some (nat b)) : fOp gIxT (fOp gIxT fa fb) fc ρ = some (nat (t.g a b)) := by
  obtain ⟨r, e, hl, er, hg⟩ := h.row ha
  refine fOp_eq (fOp_eq e0 e1 (gIxT_nat er)) e2 ?_
  rw [← hg b]
  exact gIxT_nat (map_nat (by rw [hl]; exact hb))
theorem WF.bx {t : Tab} (h : WF t) {ρ : En} {fa fb : FE} {a : Nat} (ha : a < t.m) (e0 : fa ρ = some (turnsD t)) (e1 : fb ρ = some (nat a)) : fOp gIxT fa fb ρ = some (nat (t.b a)) :=
  fOp_eq e0 e1 (gIxT_nat (map_nat (by rw [h.bl]; exact ha)))
theorem ne_nat {a b : Nat} : gNe (nat a) (nat b) = some (.bl (!decide (a = b))) := by
  show some (D.bl (!decide ((a : Int) = (b : Int)))) = _
  congr 3
  exact decide_eq_decide.mpr (by omega)
theorem ne_same {a : Nat} : gNe (nat a) (nat a) = some (.bl false) := by
  rw [ne_nat]
  simp
theorem w_fback {t : Tab} (h : WF t) (hb : ∀ a, a < t.m → t.b (t.b a) = a) : fn_fback [turnsD t] = some .non := by
  refine runF_rt ?_
  show m_fback [some (.pur (turnsD t)), none, none] = _
  unfold m_fback
  obtain ⟨ρ', e, y1, y2, rfl⟩ := sFor_nx (fs := iET (fCons (fVar 0) fNil)) (mt := mTup 2 (mCons (mName 1) (mCons (mName 2) mNil))) (mb := sIf (fTest (fOp gNe (fOp gIxT (fVar 0) (fVar 2)) (fVar 1))) (sRet (fTup (fCons (fC (.str "back")) (fCons (fVar 1) fNil)))) sNext)
    (fun i ρ => ∃ y1 y2, ρ = [some (.pur (turnsD t)), y1, y2]) (ds := nums (t.backs.map nat)) (ρ := [some (.pur (turnsD t)), none, none]) rfl ⟨none, none, rfl⟩ (by
    rintro i d ρ hd ⟨y1, y2, rfl⟩
    unfold nums at hd
    rw [List.getElem?_map, List.length_map, h.bl] at hd
    obtain ⟨k, hk, rfl⟩ := Option.map_eq_some_iff.mp hd
    have hki : k < t.m := List.mem_range.mp (List.mem_of_getElem? hk)
    have ek : (t.backs.map nat).getD k D.non = nat (t.b k) := by
      rw [List.getD_eq_getElem?_getD, map_nat (by rw [h.bl]; exact hki)]
      rfl
    rw [ek]
    refine ⟨_, _, rfl, sIf_f (fTest_eq (fOp_eq (h.bx (h.bk k hki) rfl rfl) rfl (by rw [hb k hki]; exact ne_same))) rfl, some (.pur (nat k)), some (.pur (nat (t.b k))), rfl⟩)
  rw [sSeq_nx e]
  rfl
theorem w_fown {t : Tab} (h : WF t) (hs : t.b t.same = t.same) : fn_fown [nat t.same, turnsD t] = some .non := by
  refine runF_rt ?_
  show m_fown [some (.pur (nat t.same)), some (.pur (turnsD t))] = _
  unfold m_fown
  rw [sSeq_nx (sIf_f (fTest_eq (fOp_eq (h.bx h.same rfl rfl) rfl (by rw [hs]; exact ne_same))) rfl)]
  rfl
theorem len_grid {t : Tab} (h : WF t) : gLenQ [gridD t] = some (nat t.m) := by
  show some (D.int ((t.grid.map fun r => D.tup (r.map nat)).length : Nat)) = _
  rw [List.length_map, h.gl]
theorem w_fsame {t : Tab} (h : WF t) (hs : ∀ a, a < t.m → t.g t.same a = 1 <<< a ∧ t.g a t.same = 1 <<< a) : fn_fsame [nat t.same, gridD t] = some .non := by
  refine runF_rt ?_
  have m13 := h.m13
  show m_fsame [some (.pur (nat t.same)), some (.pur (gridD t)), none] = _
  refine seq_for (ds := (List.range t.m).map nat) (fun i ρ => ∃ y1, ρ = [some (.pur (nat t.same)), some (.pur (gridD t)), y1]) (iR1_eq (fCons_eq (fCall_eq (xs := [gridD t]) rfl (len_grid h)) rfl) (by omega)) ⟨none, rfl⟩ ?_ (fun ρ' ⟨y, e⟩ => by rw [e]; rfl)
  rintro i d ρ hd ⟨y1, rfl⟩
  rw [List.getElem?_map] at hd
  obtain ⟨k, hk, rfl⟩ := Option.map_eq_some_iff.mp hd
  have hki : k < t.m := List.mem_range.mp (List.mem_of_getElem? hk)
  obtain ⟨s1, s2⟩ := hs k hki
  have hk0 : k ≤ 1000 := by omega
  exact ⟨_, _, rfl, sIf_f (fOrT_f (fTest_eq (fOp_eq (h.ix h.same hki rfl rfl rfl) (fOp_eq rfl rfl (gShl_one hk0)) (by rw [s1]; exact ne_same))) (fTest_eq (fOp_eq (h.ix hki h.same rfl rfl rfl) (fOp_eq rfl rfl (gShl_one hk0)) (by rw [s2]; exact ne_same)))) rfl, some (.pur (nat k)), rfl⟩
/-- held >> k & 1 of anything -/
theorem bitv {ρ : En} {fa fb : FE} {a k : Nat} (h1 : fa ρ = some (nat a)) (h2 : fb ρ = some (nat k)) : fOp gAnd (fOp gShr fa fb) (fC (.int 1)) ρ = some (nat ((a >>> k) % 2)) := by
  unfold fOp
  rw [h1, Option.bind_some, h2, Option.bind_some]
  exact shr_and a k
theorem bit_mod (a k : Nat) : (a >>> k) % 2 = (a.testBit k).toNat := by
  rw [Nat.testBit, Nat.one_and_eq_mod_two]
  have : (a >>> k) % 2 = 0 ∨ (a >>> k) % 2 = 1 := by omega
  rcases this with h | h <;> rw [h] <;> rfl
theorem w_fturn {t : Tab} (h : WF t) (hb : ∀ a b c, a < t.m → b < t.m → c < t.m → t.has a b c = t.has c (t.b b) a ∧ t.has a b c = t.has (t.b a) c b) : fn_fturn [turnsD t, gridD t] = some .non := by
  refine runF_rt ?_
  have m13 := h.m13
  show m_fturn [some (.pur (turnsD t)), some (.pur (gridD t)), none, none, none, none, none, none, none] = _
  refine seq_nx (ρ' := [some (.pur (turnsD t)), some (.pur (gridD t)), some (.pur (.lst ((List.range t.m).map nat))), none, none, none, none, none, none]) (sAsg_eq (fListR_eq (fCons_eq (fCall_eq (xs := [gridD t]) rfl (len_grid h)) rfl) (by omega)) rfl) ?_
  have dr : ∀ {i : Nat} {d : D}, ((List.range t.m).map nat)[i]? = some d → ∃ k, d = nat k ∧ k < t.m := fun {i d} hd => by
    rw [List.getElem?_map] at hd
    obtain ⟨k, hk, rfl⟩ := Option.map_eq_some_iff.mp hd
    exact ⟨k, rfl, List.mem_range.mp (List.mem_of_getElem? hk)⟩
  refine seq_for (ds := (List.range t.m).map nat) (fun i ρ => ∃ y3 y4 y5 y6 y7 y8, ρ = [some (.pur (turnsD t)), some (.pur (gridD t)), some (.pur (.lst ((List.range t.m).map nat))), y3, y4, y5, y6, y7, y8]) rfl ⟨_, _, _, _, _, _, rfl⟩ ?_ (fun ρ' ⟨_, _, _, _, _, _, e⟩ => by rw [e]; rfl)
  rintro i d ρ hd ⟨y3, y4, y5, y6, y7, y8, rfl⟩
  obtain ⟨a, rfl, ha⟩ := dr hd
  obtain ⟨ρ2, e2, z4, z5, z6, z7, z8, rfl⟩ := for_nx (k := .rt .non) (mt := mName 4) (mb := sFor (iL (fVar 2)) (mName 5) (sSeq (sAsg (fOp gAnd (fOp gShr (fOp gIxT (fOp gIxT (fVar 1) (fVar 3)) (fVar 4)) (fVar 5)) (fC (.int 1))) (mName 6))
    (sSeq (sAsg (fOp gAnd (fOp gShr (fOp gIxT (fOp gIxT (fVar 1) (fVar 5)) (fOp gIxT (fVar 0) (fVar 4))) (fVar 3)) (fC (.int 1))) (mName 7))
    (sSeq (sAsg (fOp gAnd (fOp gShr (fOp gIxT (fOp gIxT (fVar 1) (fOp gIxT (fVar 0) (fVar 3))) (fVar 5)) (fVar 4)) (fC (.int 1))) (mName 8))
    (sIf (fOrT (fTest (fOp gNe (fVar 6) (fVar 7))) (fTest (fOp gNe (fVar 6) (fVar 8)))) (sRet (fTup (fCons (fC (.str "turn")) (fCons (fVar 3) (fCons (fVar 4) (fCons (fVar 5) fNil)))))) sNext)))))
    (fs := iL (fVar 2)) (ds := (List.range t.m).map nat) (fun i ρ => ∃ y4 y5 y6 y7 y8, ρ = [some (.pur (turnsD t)), some (.pur (gridD t)), some (.pur (.lst ((List.range t.m).map nat))), some (.pur (nat a)), y4, y5, y6, y7, y8]) (ρ := [some (.pur (turnsD t)), some (.pur (gridD t)), some (.pur (.lst ((List.range t.m).map nat))), some (.pur (nat a)), y4, y5, y6, y7, y8]) rfl ⟨_, _, _, _, _, rfl⟩ (by
      rintro i d ρ hd ⟨y4, y5, y6, y7, y8, rfl⟩
      obtain ⟨b, rfl, hb'⟩ := dr hd
      obtain ⟨ρ3, e3, z5, z6, z7, z8, rfl⟩ := for_nx (k := .rt .non) (mt := mName 5) (mb := (sSeq (sAsg (fOp gAnd (fOp gShr (fOp gIxT (fOp gIxT (fVar 1) (fVar 3)) (fVar 4)) (fVar 5)) (fC (.int 1))) (mName 6))
        (sSeq (sAsg (fOp gAnd (fOp gShr (fOp gIxT (fOp gIxT (fVar 1) (fVar 5)) (fOp gIxT (fVar 0) (fVar 4))) (fVar 3)) (fC (.int 1))) (mName 7))
        (sSeq (sAsg (fOp gAnd (fOp gShr (fOp gIxT (fOp gIxT (fVar 1) (fOp gIxT (fVar 0) (fVar 3))) (fVar 5)) (fVar 4)) (fC (.int 1))) (mName 8))
        (sIf (fOrT (fTest (fOp gNe (fVar 6) (fVar 7))) (fTest (fOp gNe (fVar 6) (fVar 8)))) (sRet (fTup (fCons (fC (.str "turn")) (fCons (fVar 3) (fCons (fVar 4) (fCons (fVar 5) fNil)))))) sNext)))))
        (fs := iL (fVar 2)) (ds := (List.range t.m).map nat) (fun i ρ => ∃ y5 y6 y7 y8, ρ = [some (.pur (turnsD t)), some (.pur (gridD t)), some (.pur (.lst ((List.range t.m).map nat))), some (.pur (nat a)), some (.pur (nat b)), y5, y6, y7, y8]) (ρ := [some (.pur (turnsD t)), some (.pur (gridD t)), some (.pur (.lst ((List.range t.m).map nat))), some (.pur (nat a)), some (.pur (nat b)), y5, y6, y7, y8]) rfl ⟨_, _, _, _, rfl⟩ (by
          rintro i d ρ hd ⟨y5, y6, y7, y8, rfl⟩
          obtain ⟨c, rfl, hc⟩ := dr hd
          obtain ⟨q1, q2⟩ := hb a b c ha hb' hc
          unfold Tab.has at q1 q2
          refine ⟨_, [some (.pur (turnsD t)), some (.pur (gridD t)), some (.pur (.lst ((List.range t.m).map nat))), some (.pur (nat a)), some (.pur (nat b)), some (.pur (nat c)), some (.pur (nat ((t.g a b >>> c) % 2))), some (.pur (nat ((t.g c (t.b b) >>> a) % 2))), some (.pur (nat ((t.g (t.b a) c >>> b) % 2)))], rfl, ?_, _, _, _, _, rfl⟩
          refine seq_nx (sAsg_eq (bitv (h.ix ha hb' rfl rfl rfl) rfl) rfl) ?_
          refine seq_nx (sAsg_eq (bitv (h.ix hc (h.bk b hb') rfl rfl (h.bx hb' rfl rfl)) rfl) rfl) ?_
          refine seq_nx (sAsg_eq (bitv (h.ix (h.bk a ha) hc rfl (h.bx ha rfl rfl) rfl) rfl) rfl) ?_
          refine sIf_f (fOrT_f (fTest_eq (fOp_eq rfl rfl ?_)) (fTest_eq (fOp_eq rfl rfl ?_))) rfl
          · rw [bit_mod, bit_mod, q1]
            exact ne_same
          · rw [bit_mod, bit_mod, q2]
            exact ne_same)
      exact ⟨_, _, rfl, e3, _, _, _, _, _, rfl⟩)
  exact ⟨_, _, rfl, e2, _, _, _, _, _, _, rfl⟩
def stepsL (t : Tab) : D := .lst (t.grid.map fun r => .lst (r.map fun g => .lst ((plN g).map nat)))
def leftN (t : Tab) (s c : Nat) : Nat := (plN s).foldl (fun r k => r ||| t.g k c) 0
def rightN (t : Tab) (a s : Nat) : Nat := (plN s).foldl (fun r k => r ||| t.g a k) 0
theorem test_lt {x m k : Nat} (h : x < 2 ^ m) (hk : x.testBit k = true) : k < m := by
  by_cases z : k < m
  · exact z
  · exfalso
    have : 2 ^ m ≤ 2 ^ k := Nat.pow_le_pow_right (by decide) (by omega)
    have := Nat.ge_two_pow_of_testBit hk
    omega
theorem WF.g60 {t : Tab} (h : WF t) {a b : Nat} (ha : a < t.m) (hb : b < t.m) : t.g a b < 2 ^ 60 := by
  have m13 := h.m13
  exact Nat.lt_of_lt_of_le (h.gr a b ha hb) (Nat.pow_le_pow_right (by decide) (by omega))
theorem WF.mem {t : Tab} (h : WF t) {r : List Nat} {g : Nat} (hr : r ∈ t.grid) (hg : g ∈ r) : g < 2 ^ 60 := by
  obtain ⟨a, ha⟩ := List.getElem?_of_mem hr
  obtain ⟨b, hb⟩ := List.getElem?_of_mem hg
  have ha' : a < t.m := by
    rw [← h.gl]
    exact (List.getElem?_eq_some_iff.mp ha).1
  have hb' : b < t.m := by
    rw [← h.rl r hr]
    exact (List.getElem?_eq_some_iff.mp hb).1
  have e : t.g a b = g := by
    unfold Tab.g
    rw [List.getD_eq_getElem?_getD (l := t.grid), ha]
    show r.getD b 0 = g
    rw [List.getD_eq_getElem?_getD, hb]
    rfl
  rw [← e]
  exact h.g60 ha' hb'
theorem WF.st {t : Tab} (h : WF t) {ρ : En} {fa fb fc : FE} {a b : Nat} (ha : a < t.m) (hb : b < t.m) (e0 : fa ρ = some (stepsL t)) (e1 : fb ρ = some (nat a)) (e2 : fc ρ = some (nat b)) : fOp gIxL (fOp gIxL fa fb) fc ρ = some (.lst ((plN (t.g a b)).map nat)) := by
  obtain ⟨r, e, hl, er, hg⟩ := h.row ha
  have er' : (t.grid.map fun r => D.lst (r.map fun g => D.lst ((plN g).map nat)))[a]? = some (.lst (r.map fun g => .lst ((plN g).map nat))) := by
    rw [List.getElem?_map, e]
    rfl
  refine fOp_eq (fOp_eq e0 e1 (gIxL_nat er')) e2 (gIxL_nat ?_)
  rw [List.getElem?_map, List.getElem?_eq_getElem (by rw [hl]; exact hb), ← hg b, List.getD_eq_getElem?_getD, List.getElem?_eq_getElem (by rw [hl]; exact hb)]
  rfl
theorem w_frow {t : Tab} (h : WF t) (hr : ∀ a b c, a < t.m → b < t.m → c < t.m → leftN t (t.g a b) c = rightN t a (t.g b c)) : fn_frow [gridD t] = some .non := by
  refine runF_rt ?_
  have m13 := h.m13
  show m_frow [some (.pur (gridD t)), none, none, none, none, none, none, none, none, none, none] = _
  refine seq_nx (ρ' := [some (.pur (gridD t)), some (.pur (stepsL t)), none, none, none, none, none, none, none, none, none]) (sAsg_eq (x := stepsL t) ?_ rfl) ?_
  · refine (fLc_map (ds := t.grid.map fun r => D.tup (r.map nat)) (fun d => match d with | .tup r => .lst (r.map fun g => match g with | .int g => .lst ((plN g.toNat).map nat) | _ => .non) | _ => .non) (iT_eq rfl) (by rw [List.length_map, h.gl]; omega) ?_).trans ?_
    · intro d hd
      obtain ⟨r, hr', rfl⟩ := List.mem_map.mp hd
      refine turn_one rfl ?_
      refine (fLc_map (ds := r.map nat) (fun g => match g with | .int g => .lst ((plN g.toNat).map nat) | _ => .non) (iT_eq rfl) (by rw [List.length_map, h.rl r hr']; omega) ?_).trans rfl
      intro d hd
      obtain ⟨g, hg, rfl⟩ := List.mem_map.mp hd
      refine turn_one rfl (fCallN_eq (xs := [nat g]) rfl rfl ?_)
      show _ = some (D.lst ((plN ((g : Int)).toNat).map nat))
      rw [Int.toNat_natCast]
      exact w_plin (h.mem hr' hg)
    · congr 1
      unfold stepsL
      rw [List.map_map]
      congr 1
      refine List.map_congr_left fun r _ => ?_
      show D.lst ((r.map nat).map _) = _
      rw [List.map_map]
      congr 1
  refine seq_nx (ρ' := [some (.pur (gridD t)), some (.pur (stepsL t)), some (.pur (.lst ((List.range t.m).map nat))), none, none, none, none, none, none, none, none]) (sAsg_eq (fListR_eq (fCons_eq (fCall_eq (xs := [gridD t]) rfl (len_grid h)) rfl) (by omega)) rfl) ?_
  have dr : ∀ {i : Nat} {d : D}, ((List.range t.m).map nat)[i]? = some d → ∃ k, d = nat k ∧ k < t.m := fun {i d} hd => by
    rw [List.getElem?_map] at hd
    obtain ⟨k, hk, rfl⟩ := Option.map_eq_some_iff.mp hd
    exact ⟨k, rfl, List.mem_range.mp (List.mem_of_getElem? hk)⟩
  refine seq_for (ds := (List.range t.m).map nat) (fun i ρ => ∃ y3 y4 y5 y6 y7 y8 y9 y10, ρ = [some (.pur (gridD t)), some (.pur (stepsL t)), some (.pur (.lst ((List.range t.m).map nat))), y3, y4, y5, y6, y7, y8, y9, y10]) rfl ⟨_, _, _, _, _, _, _, _, rfl⟩ ?_ (fun ρ' ⟨_, _, _, _, _, _, _, _, e⟩ => by rw [e]; rfl)
  rintro i d ρ hd ⟨y3, y4, y5, y6, y7, y8, y9, y10, rfl⟩
  obtain ⟨a, rfl, ha⟩ := dr hd
  refine Exists.intro _ (Exists.elim (for_nx (k := .rt .non) (ds := (List.range t.m).map nat) (fs := iL (fVar 2)) (mt := mName 4) (fun i ρ => ∃ y4 y5 y6 y7 y8 y9 y10, ρ = [some (.pur (gridD t)), some (.pur (stepsL t)), some (.pur (.lst ((List.range t.m).map nat))), some (.pur (nat a)), y4, y5, y6, y7, y8, y9, y10]) (ρ := [some (.pur (gridD t)), some (.pur (stepsL t)), some (.pur (.lst ((List.range t.m).map nat))), some (.pur (nat a)), y4, y5, y6, y7, y8, y9, y10]) rfl ⟨_, _, _, _, _, _, _, rfl⟩ ?_) fun ρ2 ⟨e2, z4, z5, z6, z7, z8, z9, z10, e⟩ => ⟨ρ2, rfl, e2, _, _, _, _, _, _, _, _, e⟩)
  rintro i d ρ hd ⟨y4, y5, y6, y7, y8, y9, y10, rfl⟩
  obtain ⟨b, rfl, hb⟩ := dr hd
  refine Exists.intro _ (Exists.elim (for_nx (k := .rt .non) (ds := (List.range t.m).map nat) (fs := iL (fVar 2)) (mt := mName 6) (fun i ρ => ∃ y5 y6 y7 y8 y9 y10, ρ = [some (.pur (gridD t)), some (.pur (stepsL t)), some (.pur (.lst ((List.range t.m).map nat))), some (.pur (nat a)), some (.pur (nat b)), y5, y6, y7, y8, y9, y10]) (ρ := [some (.pur (gridD t)), some (.pur (stepsL t)), some (.pur (.lst ((List.range t.m).map nat))), some (.pur (nat a)), some (.pur (nat b)), y5, y6, y7, y8, y9, y10]) rfl ⟨_, _, _, _, _, _, rfl⟩ ?_) fun ρ2 ⟨e2, z5, z6, z7, z8, z9, z10, e⟩ => ⟨ρ2, rfl, e2, _, _, _, _, _, _, _, e⟩)
  rintro i d ρ hd ⟨y5, y6, y7, y8, y9, y10, rfl⟩
  obtain ⟨c, rfl, hc⟩ := dr hd
  -- the two unions
  obtain ⟨r1, f1, u10, rfl⟩ := for_nx (k := .rt .non) (fs := iL (fOp gIxL (fOp gIxL (fVar 1) (fVar 3)) (fVar 4))) (mt := mName 10) (mb := sAug gOr 8 (fOp gIxT (fOp gIxT (fVar 0) (fVar 10)) (fVar 6))) (ds := (plN (t.g a b)).map nat)
    (fun i ρ => ∃ y10, ρ = [some (.pur (gridD t)), some (.pur (stepsL t)), some (.pur (.lst ((List.range t.m).map nat))), some (.pur (nat a)), some (.pur (nat b)), y5, some (.pur (nat c)), y7, some (.pur (nat (((plN (t.g a b)).take i).foldl (fun r k => r ||| t.g k c) 0))), some (.pur (.int 0)), y10])
    (ρ := [some (.pur (gridD t)), some (.pur (stepsL t)), some (.pur (.lst ((List.range t.m).map nat))), some (.pur (nat a)), some (.pur (nat b)), y5, some (.pur (nat c)), y7, some (.pur (.int 0)), some (.pur (.int 0)), y10]) (iL_eq (h.st ha hb rfl rfl rfl)) ⟨_, rfl⟩ (by
      rintro i d ρ hd ⟨y10, rfl⟩
      rw [List.getElem?_map] at hd
      obtain ⟨k, hk, rfl⟩ := Option.map_eq_some_iff.mp hd
      have hk1 : k < t.m := test_lt (h.gr a b ha hb) (plN_mem.mp (List.mem_of_getElem? hk))
      refine ⟨_, _, rfl, sAug_eq rfl (h.ix hk1 hc rfl rfl rfl) (gOr_nat _ _), some (.pur (nat k)), ?_⟩
      rw [List.take_succ, hk, List.foldl_append]
      rfl)
  obtain ⟨r2, f2, v10, rfl⟩ := for_nx (k := .rt .non) (fs := iL (fOp gIxL (fOp gIxL (fVar 1) (fVar 4)) (fVar 6))) (mt := mName 10) (mb := sAug gOr 9 (fOp gIxT (fOp gIxT (fVar 0) (fVar 3)) (fVar 10))) (ds := (plN (t.g b c)).map nat)
    (fun i ρ => ∃ y10, ρ = [some (.pur (gridD t)), some (.pur (stepsL t)), some (.pur (.lst ((List.range t.m).map nat))), some (.pur (nat a)), some (.pur (nat b)), y5, some (.pur (nat c)), y7, some (.pur (nat (leftN t (t.g a b) c))), some (.pur (nat (((plN (t.g b c)).take i).foldl (fun r k => r ||| t.g a k) 0))), y10])
    (ρ := [some (.pur (gridD t)), some (.pur (stepsL t)), some (.pur (.lst ((List.range t.m).map nat))), some (.pur (nat a)), some (.pur (nat b)), y5, some (.pur (nat c)), y7, some (.pur (nat (leftN t (t.g a b) c))), some (.pur (.int 0)), u10]) (iL_eq (h.st hb hc rfl rfl rfl)) ⟨_, rfl⟩ (by
      rintro i d ρ hd ⟨y10, rfl⟩
      rw [List.getElem?_map] at hd
      obtain ⟨k, hk, rfl⟩ := Option.map_eq_some_iff.mp hd
      have hk1 : k < t.m := test_lt (h.gr b c hb hc) (plN_mem.mp (List.mem_of_getElem? hk))
      refine ⟨_, _, rfl, sAug_eq rfl (h.ix ha hk1 rfl rfl rfl) (gOr_nat _ _), some (.pur (nat k)), ?_⟩
      rw [List.take_succ, hk, List.foldl_append]
      rfl)
  rw [List.length_map, List.take_length] at f1 f2
  refine ⟨_, _, rfl, seq_nx (ρ' := [some (.pur (gridD t)), some (.pur (stepsL t)), some (.pur (.lst ((List.range t.m).map nat))), some (.pur (nat a)), some (.pur (nat b)), y5, some (.pur (nat c)), y7, some (.pur (.int 0)), some (.pur (.int 0)), y10]) rfl (seq_nx f1 (seq_nx f2 (sIf_f (fTest_eq (fOp_eq rfl rfl ?_)) rfl))), _, _, _, _, _, _, rfl⟩
  show gNe (nat (leftN t (t.g a b) c)) (nat (rightN t a (t.g b c))) = _
  rw [hr a b c ha hb hc]
  exact ne_same
/-! ### lawful -/
structure Law (t : Tab) : Prop where
  wf : WF t
  back : ∀ a, a < t.m → t.b (t.b a) = a
  own : t.b t.same = t.same
  same : ∀ a, a < t.m → t.g t.same a = 1 <<< a ∧ t.g a t.same = 1 <<< a
  turn : ∀ a b c, a < t.m → b < t.m → c < t.m → t.has a b c = t.has c (t.b b) a ∧ t.has a b c = t.has (t.b a) c b
  row : ∀ a b c, a < t.m → b < t.m → c < t.m → leftN t (t.g a b) c = rightN t a (t.g b c)
theorem w_ffirst {t : Tab} (h : Law t) : fn_ffirst [nat t.same, turnsD t, gridD t] = some .non := by
  refine runF_rt (sRet_eq ?_)
  refine fOrU_n (fCallN_eq (xs := [turnsD t]) rfl rfl (w_fback h.wf h.back)) ?_
  refine fOrU_n (fCallN_eq (xs := [nat t.same, turnsD t]) rfl rfl (w_fown h.wf h.own)) ?_
  refine fOrU_n (fCallN_eq (xs := [nat t.same, gridD t]) rfl rfl (w_fsame h.wf h.same)) ?_
  refine fOrU_n (fCallN_eq (xs := [turnsD t, gridD t]) rfl rfl (w_fturn h.wf h.turn)) ?_
  exact fCallN_eq (xs := [gridD t]) rfl rfl (w_frow h.wf h.row)
theorem w_nfault {x : D} : fn_nfault [x, .non] = some .non := runF_rt (sSeq_rt (sIf_t (fTest_eq (fOp_eq (x := .non) (y := .non) rfl rfl rfl)) rfl))
end KK
end

section
/-! The names that the laws draw for kinds, as lists of signs' numbers: each a name, no two alike. Nothing of the program stands here. -/
namespace KwWords
def stems : List (List Nat) := [[], [97], [113, 117], [97, 98, 99, 100, 101, 102, 103], [122, 122]]
def ways : List Nat := [1, 3, 5, 7, 9, 11]
def letter (first step k : Nat) : Nat := 97 + (first + step * k) % 26
/-- a letter put into a stem -/
def put (stem : List Nat) (at_ c : Nat) : List Nat := stem.take at_ ++ [c] ++ stem.drop at_
/-- one letter, so often -/
def rep (first k : Nat) : List Nat := List.replicate (1 + k % 8) (97 + (first % 20 + k / 8))
def isName (l : List Nat) : Bool := decide (1 ≤ l.length) && decide (l.length ≤ 8) && l.all fun c => decide (97 ≤ c) && decide (c ≤ 122)
theorem letters_apart : ((List.range 26).all fun first => ways.all fun step => (List.range 13).all fun j => (List.range 13).all fun k => decide (j = k) || decide (letter first step j ≠ letter first step k)) = true := by decide +kernel
theorem letter_inj {first step j k : Nat} (hf : first < 26) (hs : step ∈ ways) (hj : j < 13) (hk : k < 13) (e : letter first step j = letter first step k) : j = k := by
  have h := List.all_eq_true.mp (List.all_eq_true.mp (List.all_eq_true.mp (List.all_eq_true.mp letters_apart first (List.mem_range.mpr hf)) step hs) j (List.mem_range.mpr hj)) k (List.mem_range.mpr hk)
  rcases Bool.or_eq_true_iff.mp h with q | q
  · exact of_decide_eq_true q
  · exact absurd e (of_decide_eq_true q)
theorem letter_in (first step k : Nat) : 97 ≤ letter first step k ∧ letter first step k ≤ 122 := by
  unfold letter
  omega
theorem put_inj {stem : List Nat} {a c d : Nat} (e : put stem a c = put stem a d) : c = d := by
  unfold put at e
  rw [List.append_assoc, List.append_assoc] at e
  have e2 := List.append_cancel_left e
  injection e2
theorem put_name {stem : List Nat} {a c : Nat} (h : stem ∈ stems) (c0 : 97 ≤ c) (c1 : c ≤ 122) : isName (put stem a c) = true := by
  have hl : stem.length ≤ 7 := by
    revert stem
    decide
  have hc : ∀ x ∈ stem, 97 ≤ x ∧ x ≤ 122 := by
    revert stem
    decide
  have len : (put stem a c).length = stem.length + 1 := by
    unfold put
    simp only [List.length_append, List.length_take, List.length_drop, List.length_singleton]
    omega
  unfold isName
  simp only [Bool.and_eq_true, decide_eq_true_eq, List.all_eq_true]
  refine ⟨⟨by omega, by omega⟩, fun x hx => ?_⟩
  unfold put at hx
  rcases List.mem_append.mp hx with hx | hx
  · rcases List.mem_append.mp hx with hx | hx
    · exact hc x (List.mem_of_mem_take hx)
    · rw [List.mem_singleton.mp hx]
      exact ⟨c0, c1⟩
  · exact hc x (List.mem_of_mem_drop hx)
theorem reps_good : ((List.range 26).all fun first => (List.range 13).all fun j => isName (rep first j) && (List.range 13).all fun k => decide (j = k) || decide (rep first j ≠ rep first k)) = true := by decide +kernel
theorem rep_name {first j : Nat} (hf : first < 26) (hj : j < 13) : isName (rep first j) = true :=
  (Bool.and_eq_true_iff.mp (List.all_eq_true.mp (List.all_eq_true.mp reps_good first (List.mem_range.mpr hf)) j (List.mem_range.mpr hj))).1
theorem rep_inj {first j k : Nat} (hf : first < 26) (hj : j < 13) (hk : k < 13) (e : rep first j = rep first k) : j = k := by
  have h := List.all_eq_true.mp (Bool.and_eq_true_iff.mp (List.all_eq_true.mp (List.all_eq_true.mp reps_good first (List.mem_range.mpr hf)) j (List.mem_range.mpr hj))).2 k (List.mem_range.mpr hk)
  rcases Bool.or_eq_true_iff.mp h with q | q
  · exact of_decide_eq_true q
  · exact absurd e (of_decide_eq_true q)
end KwWords
end

section
set_option Elab.async false
set_option linter.all false
set_option maxRecDepth 100000
/-! M2: names, places, what is handed to a table. -/
namespace KK
open PySem PySem.Spec PyProof.Rows L2 KW DL
open KwRing (Tab)
/-- a name: 1 to 8 small letters -/
def NameS (x : Str) : Prop := 1 ≤ x.length ∧ x.length ≤ 8 ∧ ∀ c ∈ x.cps.toList, 97 ≤ c ∧ c ≤ 122
abbrev abc : Str := "abcdefghijklmnopqrstuvwxyz"
theorem abc_mem {c : Nat} (h : 97 ≤ c ∧ c ≤ 122) : c ∈ abc.cps.toList := by
  have all : ((List.range 26).all fun j => decide ((97 + j) ∈ abc.cps.toList)) = true := by decide +kernel
  have := of_decide_eq_true (List.all_eq_true.mp all (c - 97) (List.mem_range.mpr (by omega)))
  rwa [show 97 + (c - 97) = c by omega] at this
theorem bools_true : ∀ n : Nat, bools (List.replicate n (.bl true)) = some (List.replicate n true)
  | 0 => rfl
  | n + 1 => by
    rw [List.replicate_succ]
    unfold bools
    rw [bools_true n]
    rfl
theorem map_const {α : Type} (d : D) (l : List α) : l.map (fun _ => d) = List.replicate l.length d := by
  induction l with
  | nil => rfl
  | cons x l ih => rw [List.map_cons, ih, List.length_cons, List.replicate_succ]
theorem gAll_true {α : Type} (l : List α) : gAll [.lst (l.map fun _ => .bl true)] = some (.bl true) := by
  rw [map_const]
  show (bools _).map _ = _
  rw [bools_true]
  show some (D.bl ((List.replicate l.length true).all id)) = _
  congr 2
  rw [List.all_eq_true]
  intro b hb
  exact (List.mem_replicate.mp hb).2
theorem len_str {x : Str} (h : x.length ≤ 100000) : gLenS [.str x] = some (nat x.length) := by
  show (if x.length ≤ 100000 then _ else _) = _
  rw [if_pos h]
theorem gLe_nat {a b : Nat} : gLe (nat a) (nat b) = some (.bl (decide (a ≤ b))) := by
  show some (D.bl (decide ((a : Int) ≤ (b : Int)))) = _
  congr 2
  exact decide_eq_decide.mpr (by omega)
theorem fChain_t {g g' : D → D → Option D} {fa fb fc : FE} {ρ : En} {x y z : D} {w : D} (h1 : fa ρ = some x) (h2 : fb ρ = some y) (h3 : g x y = some (.bl true)) (h4 : fc ρ = some z) (h5 : g' y z = some w) : fChain g g' fa fb fc ρ = some w := by
  unfold fChain
  rw [h1, Option.bind_some, h2, Option.bind_some, h3, Option.bind_some]
  show (if true = true then (fc ρ).bind (fun w => g' y w) else some (D.bl false)) = _
  rw [if_pos rfl, h4, Option.bind_some, h5]
theorem w_isname {x : Str} (h : NameS x) : fn_isname [.str x] = some (.bl true) := by
  refine runF_rt ?_
  obtain ⟨h1, h2, h3⟩ := h
  show m_isname [some (.pur (.str x)), none] = _
  refine seq_nx (ρ' := [some (.pur (.str x)), none]) (sIf_f (fOrT_f (fNotT_eq (b := true) (fTest_eq rfl)) (fNotT_eq (b := true) (fTest_eq (fChain_t rfl (fCall_eq (xs := [.str x]) rfl (len_str (by omega))) ?_ rfl ?_)))) rfl) (sRet_eq ?_)
  · rw [show D.int 1 = nat 1 from rfl, gLe_nat, decide_eq_true h1]
  · rw [show D.int 8 = nat 8 from rfl, gLe_nat, decide_eq_true h2]
  · refine fCall_eq (fCons_eq (x := .lst ((DL.signs x).map fun _ => .bl true)) ?_ rfl) (gAll_true _)
    refine fLc_map (ds := DL.signs x) (fun _ => .bl true) rfl ?_ fun d hd => ?_
    · unfold DL.signs
      rw [List.length_map, Array.length_toList]
      show x.length ≤ _
      omega
    · unfold DL.signs at hd
      obtain ⟨c, hc, rfl⟩ := List.mem_map.mp hd
      refine turn_one rfl (fOp_eq rfl rfl ?_)
      show (if (#[c] : Array Nat).size = 1 then some (D.bl (decide (([c] : List Nat).headD 0 ∈ abc.cps.toList))) else none) = _
      rw [if_pos (show (#[c] : Array Nat).size = 1 from rfl)]
      congr 2
      exact decide_eq_true (abc_mem (h3 c hc))
/-- the names of a table's kinds -/
structure Nms (ks : List Str) : Prop where
  nd : ks.Nodup
  l1 : 1 ≤ ks.length
  l13 : ks.length ≤ 13
  nm : ∀ k ∈ ks, NameS k
def strL (ks : List Str) : List D := ks.map .str
theorem strsD_strL : ∀ ks : List Str, strsD (strL ks) = some ks
  | [] => rfl
  | k :: ks => by
    show (strsD (strL ks)).map (k :: ·) = _
    rw [strsD_strL ks]
    rfl
theorem dcount_nodup {α : Type} [DecidableEq α] : ∀ {l : List α}, l.Nodup → dcount l = l.length
  | [], _ => rfl
  | x :: l, h => by
    obtain ⟨h1, h2⟩ := List.nodup_cons.mp h
    show (if x ∈ l then 0 else 1) + dcount l = _
    rw [if_neg h1, dcount_nodup h2, List.length_cons]
    omega
theorem len_lst {l : List D} : gLenQ [.lst l] = some (nat l.length) := rfl
theorem len_tup {l : List D} : gLenQ [.tup l] = some (nat l.length) := rfl
theorem eq_nat {a b : Nat} : gEq (nat a) (nat b) = some (.bl (decide (a = b))) := by
  show some (D.bl (decide ((a : Int) = (b : Int)))) = _
  congr 2
  exact decide_eq_decide.mpr (by omega)
theorem w_arek {ks : List Str} (h : Nms ks) : fn_arek [.lst (strL ks)] = some (.bl true) := by
  refine runF_rt ?_
  have hl : (strL ks).length = ks.length := List.length_map _
  have l1 := h.l1
  have l13 := h.l13
  show m_arek [some (.pur (.lst (strL ks))), none] = _
  refine seq_nx (ρ' := [some (.pur (.lst (strL ks))), none]) (sIf_f (fOrT_f (fNotT_eq (b := true) (fTest_eq rfl)) (fNotT_eq (b := true) (fTest_eq (fChain_t rfl (fCall_eq (xs := [.lst (strL ks)]) rfl len_lst) ?_ rfl ?_)))) rfl) (sRet_eq ?_)
  · rw [show D.int 1 = nat 1 from rfl, gLe_nat, hl, decide_eq_true l1]
  · rw [show D.int 13 = nat 13 from rfl, gLe_nat, hl, decide_eq_true l13]
  · refine fAndV_t (fCall_eq (fCons_eq (x := .lst ((strL ks).map fun _ => .bl true)) ?_ rfl) (gAll_true _)) (fOp_eq (x := nat ks.length) (y := nat ks.length) (fUn_eq rfl ?_) (fCall_eq (xs := [.lst (strL ks)]) rfl (by rw [len_lst, hl])) (by rw [eq_nat]; simp))
    · refine fLc_map (ds := strL ks) (fun _ => .bl true) rfl (by omega) fun d hd => ?_
      obtain ⟨k, hk, rfl⟩ := List.mem_map.mp hd
      exact turn_one rfl (fCallN_eq (xs := [.str k]) rfl rfl (w_isname (h.nm k hk)))
    · show (strsD (strL ks)).bind _ = _
      rw [strsD_strL]
      show (if ks.length ≤ 1000 then some (D.int ((dcount ks : Nat) : Int)) else none) = _
      rw [if_pos (by omega), dcount_nodup h.nd]
/-! ### places -/
def plD (ks : List Str) : List (Key × D) := ks.zipIdx.map fun p => (Sum.inr p.1, nat p.2)
theorem putD_new {κ : Type} [DecidableEq κ] {kvs : List (κ × D)} {k : κ} {v : D} (h : k ∉ kvs.map (·.1)) : putD kvs k v = kvs ++ [(k, v)] := by
  unfold putD
  rw [if_neg]
  intro z
  obtain ⟨p, hp, e⟩ := List.any_eq_true.mp z
  exact h (List.mem_map.mpr ⟨p, hp, of_decide_eq_true e⟩)
theorem goK_new {m : D → En → Option En} {ft : FT} {fk fv : FE} {ρ : En} {kf : D → Key} {vf : D → D} : ∀ {ds : List D} {acc : List (Key × D)}, (∀ d ∈ ds, turnK m ft fk fv ρ d = some (some (kf d, vf d))) → (acc.map (·.1) ++ ds.map kf).Nodup → goK m ft fk fv ρ ds acc = some (acc ++ ds.map fun d => (kf d, vf d))
  | [], acc, _, _ => by
    show some acc = _
    rw [List.map_nil, List.append_nil]
  | d :: ds, acc, h, nd => by
    unfold goK
    rw [h d List.mem_cons_self]
    show goK m ft fk fv ρ ds (putD acc (kf d) (vf d)) = _
    have hd : kf d ∉ acc.map (·.1) := fun z => by
      obtain ⟨_, _, h3⟩ := List.nodup_append.mp nd
      exact h3 _ z _ (by rw [List.map_cons]; exact List.mem_cons_self) rfl
    rw [putD_new hd, goK_new (fun d hd => h d (List.mem_cons_of_mem _ hd)) (by rw [List.map_append, List.append_assoc]; exact nd), List.map_cons, List.append_assoc]
    rfl
theorem fDc_new {fs : FA} {m : D → En → Option En} {ft : FT} {fk fv : FE} {vs : List Nat} {ρ : En} {ds : List D} (kf : D → Key) (vf : D → D) (e : fs ρ = some ds) (hl : ds.length ≤ 100000) (hs : ∀ d ∈ ds, turnK m ft fk fv (wipeE ρ vs) d = some (some (kf d, vf d))) (nd : (ds.map kf).Nodup) : fDc fs m ft fk fv vs ρ = some (.dic (ds.map fun d => (kf d, vf d))) := by
  unfold fDc
  rw [e]
  show (if ds.length ≤ 100000 then _ else _) = _
  rw [if_pos hl, goK_new (acc := []) hs nd]
  rfl
theorem nums_eq (l : List D) : nums l = l.zipIdx.map fun p => .tup [nat p.2, p.1] := by
  unfold nums
  apply List.ext_getElem?
  intro i
  rw [List.getElem?_map, List.getElem?_map, List.getElem?_zipIdx]
  by_cases h : i < l.length
  · rw [List.getElem?_range h, List.getElem?_eq_getElem h]
    show some (D.tup [nat i, l.getD i .non]) = some (D.tup [nat (0 + i), l[i]])
    rw [List.getD_eq_getElem?_getD, List.getElem?_eq_getElem h, Nat.zero_add]
    rfl
  · rw [List.getElem?_eq_none (by rw [List.length_range]; omega), List.getElem?_eq_none (by omega)]
    rfl
theorem zip_strL (ks : List Str) : (strL ks).zipIdx = ks.zipIdx.map fun p => (D.str p.1, p.2) := by
  unfold strL
  rw [List.zipIdx_map]
  rfl
theorem w_pbn {ks : List Str} (h : Nms ks) : fn_pbn [.lst (strL ks)] = some (.dic (plD ks)) := by
  refine runF_rt (sRet_eq ?_)
  have l13 := h.l13
  refine (fDc_new (ds := nums (strL ks)) (fun d => match d with | .tup [_, .str k] => .inr k | _ => .inl 0) (fun d => match d with | .tup [i, _] => i | _ => .non) rfl ?_ ?_ ?_).trans ?_
  · rw [nums_eq, List.length_map, List.length_zipIdx]
    show ((strL ks).length) ≤ _
    unfold strL
    rw [List.length_map]
    omega
  · intro d hd
    rw [nums_eq, zip_strL, List.map_map] at hd
    obtain ⟨p, hp, rfl⟩ := List.mem_map.mp hd
    rfl
  · rw [nums_eq, zip_strL, List.map_map, List.map_map]
    show (ks.zipIdx.map fun p => (Sum.inr p.1 : Key)).Nodup
    rw [show (fun p : Str × Nat => (Sum.inr p.1 : Key)) = (Sum.inr ∘ Prod.fst) from rfl, ← List.map_map, List.zipIdx_map_fst]
    exact List.pairwise_map.mpr (h.nd.imp fun hne e => hne (by injection e))
  · congr 2
    rw [nums_eq, zip_strL, List.map_map, List.map_map]
    rfl
theorem valD_pl {ks : List Str} (nd : ks.Nodup) {i : Nat} {k : Str} (h : ks[i]? = some k) : valD (plD ks) (Sum.inr k : Key) = some (nat i) := by
  have aux : ∀ (ks : List Str) (n : Nat), ks.Nodup → ∀ {i : Nat} {k : Str}, ks[i]? = some k → valD ((ks.zipIdx n).map fun p => ((Sum.inr p.1 : Key), nat p.2)) (Sum.inr k : Key) = some (nat (n + i)) := by
    intro ks
    induction ks with
    | nil => intro n _ i k h; simp at h
    | cons x ks ih =>
      intro n nd i k h
      obtain ⟨h1, h2⟩ := List.nodup_cons.mp nd
      rw [List.zipIdx_cons, List.map_cons]
      unfold valD
      rw [List.find?_cons]
      cases i with
      | zero =>
        simp at h
        subst h
        simp
      | succ i =>
        have h' : ks[i]? = some k := by simpa using h
        have ne : ¬ ((Sum.inr x : Key) = Sum.inr k) := fun z => by
          injection z with z
          exact h1 (z ▸ List.mem_of_getElem? h')
        simp only [decide_eq_false ne]
        have := ih (n + 1) h2 h'
        unfold valD at this
        rw [this]
        congr 2
        omega
  have := aux ks 0 nd h
  rwa [Nat.zero_add] at this
theorem valD_no {ks : List Str} {k : Str} (h : k ∉ ks) : valD (plD ks) (Sum.inr k : Key) = none := by
  unfold valD plD
  rw [List.find?_eq_none.mpr]
  · rfl
  · intro p hp z
    obtain ⟨q, hq, rfl⟩ := List.mem_map.mp hp
    have e : (Sum.inr q.1 : Key) = Sum.inr k := of_decide_eq_true z
    injection e with e
    have : q.1 ∈ ks := (List.mem_zipIdx_iff_getElem?.mp hq) |> List.mem_of_getElem?
    exact h (e ▸ this)
end KK
end

section
set_option Elab.async false
set_option linter.all false
set_option maxRecDepth 100000
/-! M3: what is handed to a table, and what a table tells. -/
namespace KK
open PySem PySem.Spec PyProof.Rows L2 KW DL
open KwRing (Tab)
def nm (ks : List Str) (i : Nat) : Str := ks.getD i default
/-- a list of kinds by their places -/
def kl (ks : List Str) (l : List Nat) : D := .lst (l.map fun i => .str (nm ks i))
theorem nm_get {ks : List Str} {i : Nat} (h : i < ks.length) : ks[i]? = some (nm ks i) := by
  unfold nm
  rw [List.getD_eq_getElem?_getD, List.getElem?_eq_getElem h]
  rfl
theorem pl_get {ks : List Str} (h : Nms ks) {i : Nat} (hi : i < ks.length) : valD (plD ks) (Sum.inr (nm ks i) : Key) = some (nat i) := valD_pl h.nd (nm_get hi)
theorem gDGet_pl {ks : List Str} (h : Nms ks) {i : Nat} (hi : i < ks.length) : gDGet (.dic (plD ks)) (.str (nm ks i)) = some (nat i) := by
  show (some (valD (plD ks) (Sum.inr (nm ks i) : Key))).bind id = _
  rw [pl_get h hi]
  rfl
theorem gDIn_pl {ks : List Str} (h : Nms ks) {i : Nat} (hi : i < ks.length) : gDIn (.str (nm ks i)) (.dic (plD ks)) = some (.bl true) := by
  show (some (valD (plD ks) (Sum.inr (nm ks i) : Key))).map (fun o => D.bl o.isSome) = _
  rw [pl_get h hi]
  rfl
theorem w_iskind {ks : List Str} (h : Nms ks) {i : Nat} (hi : i < ks.length) : fn_iskind [.str (nm ks i), .dic (plD ks)] = some (.bl true) :=
  runF_rt (sRet_eq (fAndV_t rfl (fOp_eq rfl rfl (gDIn_pl h hi))))
theorem w_islist {l : List D} {n : Nat} (h : l.length = n) : fn_islist [.lst l, nat n] = some (.bl true) := by
  refine runF_rt (sRet_eq (fAndV_t rfl (fOp_eq (x := nat l.length) (y := nat n) rfl rfl ?_)))
  rw [eq_nat, decide_eq_true h]
theorem w_allk {ks : List Str} (h : Nms ks) {l : List Nat} (hl : ∀ i ∈ l, i < ks.length) (hn : l.length ≤ 100000) : fn_allk [kl ks l, .dic (plD ks)] = some (.bl true) := by
  refine runF_rt (sRet_eq (fAndV_t rfl (fCall_eq (fCons_eq (fLc_map (ds := l.map fun i => .str (nm ks i)) (fun _ => .bl true) rfl (by rw [List.length_map]; exact hn) ?_) rfl) (gAll_true _))))
  intro d hd
  obtain ⟨i, hi, rfl⟩ := List.mem_map.mp hd
  exact turn_one rfl (fCallN_eq (xs := [.str (nm ks i), .dic (plD ks)]) rfl rfl (w_iskind h (hl i hi)))
/-- a comprehension over a list whose elements are told by others -/
theorem goF_list {α : Type} {f g : α → D} {m : D → En → Option En} {ft : FT} {fe : FE} {ρ : En} : ∀ {l : List α}, (∀ x ∈ l, turnF m ft fe ρ (f x) = some (some (g x))) → goF m ft fe ρ (l.map f) = some (l.map g)
  | [], _ => rfl
  | x :: l, h => by
    rw [List.map_cons]
    unfold goF
    rw [h x List.mem_cons_self, goF_list fun y hy => h y (List.mem_cons_of_mem _ hy)]
    rfl
theorem fLc_list {α : Type} {f g : α → D} {l : List α} {fs : FA} {m : D → En → Option En} {ft : FT} {fe : FE} {vs : List Nat} {ρ : En} (e : fs ρ = some (l.map f)) (hl : l.length ≤ 100000) (hs : ∀ x ∈ l, turnF m ft fe (wipeE ρ vs) (f x) = some (some (g x))) : fLc fs m ft fe vs ρ = some (.lst (l.map g)) := by
  unfold fLc
  rw [e, Option.bind_some, if_pos (by rw [List.length_map]; exact hl), goF_list hs]
  rfl
/-- the steps as handed: lists of places -/
def stD (ks : List Str) (L : List (List (List Nat))) : D := .lst (L.map fun r => .lst (r.map (kl ks)))
structure Lines (n : Nat) (L : List (List (List Nat))) : Prop where
  l0 : L.length = n
  l1 : ∀ r ∈ L, r.length = n
  l2 : ∀ r ∈ L, ∀ l ∈ r, l.length ≤ 1000 ∧ ∀ i ∈ l, i < n
theorem plD_len (ks : List Str) : (plD ks).length = ks.length := by
  unfold plD
  rw [List.length_map, List.length_zipIdx]
theorem goL_map {f : D → Option (List D)} {g : D → List D} : ∀ {ds : List D}, (∀ d ∈ ds, f d = some (g d)) → goL f ds = some (ds.flatMap g)
  | [], _ => rfl
  | d :: ds, h => by
    unfold goL
    rw [h d List.mem_cons_self, goL_map fun d hd => h d (List.mem_cons_of_mem _ hd)]
    rfl
theorem fLc2_map {fs : FA} {m : D → En → Option En} {ft : FT} {fs1 : FA} {m1 : D → En → Option En} {ft1 : FT} {fe : FE} {vs vs1 : List Nat} {ρ : En} {ds : List D} (g : D → List D) (e : fs ρ = some ds) (h : ∀ d ∈ ds, turn2 m ft fs1 m1 ft1 fe vs1 (wipeE ρ vs) d = some (g d)) (hl : (ds.flatMap g).length ≤ 100000) : fLc2 fs m ft fs1 m1 ft1 fe vs vs1 ρ = some (.lst (ds.flatMap g)) := by
  unfold fLc2
  rw [e, Option.bind_some, goL_map h, Option.bind_some, if_pos hl]
theorem turn2_one {m : D → En → Option En} {fs1 : FA} {m1 : D → En → Option En} {ft1 : FT} {fe : FE} {vs1 : List Nat} {ρ ρ' : En} {d : D} {ds1 r : List D} (h0 : m d ρ = some ρ') (h1 : fs1 ρ' = some ds1) (h2 : goF m1 ft1 fe (wipeE ρ' vs1) ds1 = some r) : turn2 m (fun _ => some true) fs1 m1 ft1 fe vs1 ρ d = some r := by
  unfold turn2
  rw [h0, Option.bind_some, Option.bind_some, if_pos rfl, h1, Option.bind_some, h2]
theorem flat_len {α β : Type} {g : α → List β} {n : Nat} : ∀ {l : List α}, (∀ x ∈ l, (g x).length ≤ n) → (l.flatMap g).length ≤ l.length * n
  | [], _ => by simp
  | x :: l, h => by
    rw [List.flatMap_cons, List.length_append, List.length_cons, Nat.succ_mul]
    have h1 := h x List.mem_cons_self
    have h2 := flat_len (g := g) (l := l) fun y hy => h y (List.mem_cons_of_mem _ hy)
    omega
theorem w_issq {ks : List Str} (h : Nms ks) {L : List (List (List Nat))} (hL : Lines ks.length L) : fn_issq [stD ks L, .dic (plD ks)] = some (.bl true) := by
  have l13 := h.l13
  refine runF_rt ?_
  show m_issq [some (.pur (stD ks L)), some (.pur (.dic (plD ks))), none, none, none] = _
  refine seq_nx (ρ' := [some (.pur (stD ks L)), some (.pur (.dic (plD ks))), some (.pur (nat ks.length)), none, none]) (sAsg_eq (fCall_eq (xs := [.dic (plD ks)]) rfl (show some (nat (plD ks).length) = _ by rw [plD_len])) rfl) ?_
  refine seq_nx (ρ' := [some (.pur (stD ks L)), some (.pur (.dic (plD ks))), some (.pur (nat ks.length)), none, none]) (sIf_f (fOrT_f (fNotT_eq (b := true) (fTest_eq (fCallN_eq (xs := [stD ks L, nat ks.length]) rfl rfl (w_islist (by rw [List.length_map]; exact hL.l0))))) (fNotT_eq (b := true) (fTest_eq (fCall_eq (fCons_eq (fLc_map (ds := L.map fun r => .lst (r.map (kl ks))) (fun _ => .bl true) rfl (by rw [List.length_map, hL.l0]; omega) ?_) rfl) (gAll_true _))))) rfl) (sRet_eq ?_)
  · intro d hd
    obtain ⟨r, hr, rfl⟩ := List.mem_map.mp hd
    exact turn_one rfl (fCallN_eq (xs := [.lst (r.map (kl ks)), nat ks.length]) rfl rfl (w_islist (by rw [List.length_map]; exact hL.l1 r hr)))
  · have hg : ∀ d ∈ (L.map fun r => D.lst (r.map (kl ks))), (seqD d).isSome = true ∧ ((seqD d).getD []).length ≤ 13 := fun d hd => by
      obtain ⟨r, hr, rfl⟩ := List.mem_map.mp hd
      refine ⟨rfl, ?_⟩
      show (r.map (kl ks)).length ≤ 13
      rw [List.length_map, hL.l1 r hr]
      exact l13
    refine fCall_eq (fCons_eq (fLc2_map (ds := L.map fun r => .lst (r.map (kl ks))) (fun d => ((seqD d).getD []).map fun _ => .bl true) rfl ?_ ?_) rfl) ?_
    · intro d hd
      obtain ⟨r, hr, rfl⟩ := List.mem_map.mp hd
      refine turn2_one rfl (iL_eq (ds := r.map (kl ks)) rfl) ?_
      refine goF_map (h := fun _ => .bl true) fun d hd => ?_
      obtain ⟨l, hl, rfl⟩ := List.mem_map.mp hd
      obtain ⟨z1, z2⟩ := hL.l2 r hr l hl
      exact turn_one rfl (fCallN_eq (xs := [kl ks l, .dic (plD ks)]) rfl rfl (w_allk h z2 (by omega)))
    · refine Nat.le_trans (flat_len (n := 13) fun d hd => ?_) ?_
      · rw [List.length_map]
        exact (hg d hd).2
      · rw [List.length_map, hL.l0]
        omega
    · have : ((L.map fun r => D.lst (r.map (kl ks))).flatMap fun d => ((seqD d).getD []).map fun _ => D.bl true) = ((L.map fun r => D.lst (r.map (kl ks))).flatMap fun d => ((seqD d).getD [])).map fun _ => D.bl true := by
        rw [List.map_flatMap]
      rw [this]
      exact gAll_true _
theorem w_placed {ks : List Str} (h : Nms ks) {t : Tab} (wf : WF t) (hm : t.m = ks.length) {L : List (List (List Nat))} (hL : Lines ks.length L) (hg : t.grid = L.map (·.map bitsN)) : fn_placed [.lst (strL ks), .str (nm ks t.same), kl ks t.backs, stD ks L] = some (.tup [nat t.same, turnsD t, gridD t]) := by
  have l13 := h.l13
  have hs := wf.same
  have hbl := wf.bl
  have hbk : ∀ i ∈ t.backs, i < ks.length := fun i hi => by
    obtain ⟨a, ha, rfl⟩ := List.getElem_of_mem hi
    have := wf.bk a (by omega)
    unfold KwRing.Tab.b at this
    rw [List.getD_eq_getElem?_getD, List.getElem?_eq_getElem ha] at this
    simpa [hm] using this
  have hsl : (strL ks).length = ks.length := List.length_map _
  let e0 := fun y4 y5 y6 : Option Sl => [some (Sl.pur (.lst (strL ks))), some (.pur (.str (nm ks t.same))), some (.pur (kl ks t.backs)), some (.pur (stD ks L)), y4, y5, y6, none, none, none]
  refine runF_rt ?_
  show m_placed (e0 none none none) = _
  refine seq_nx (ρ' := e0 none none none) (sIf_f (fNotT_eq (b := true) (fTest_eq (fCallN_eq (xs := [.lst (strL ks)]) rfl rfl (w_arek h)))) rfl) ?_
  refine seq_nx (ρ' := e0 (some (.pur (.dic (plD ks)))) none none) (sAsg_eq (fCallN_eq (xs := [.lst (strL ks)]) rfl rfl (w_pbn h)) rfl) ?_
  refine seq_nx (ρ' := e0 (some (.pur (.dic (plD ks)))) none none) (sIf_f (fOrT_f (fNotT_eq (b := true) (fTest_eq (fCallN_eq (xs := [.str (nm ks t.same), .dic (plD ks)]) rfl rfl (w_iskind h (by omega))))) (fOrT_f (fNotT_eq (b := true) (fTest_eq (fCallN_eq (xs := [kl ks t.backs, nat ks.length]) (fCons_eq rfl (fCons_eq (fCall_eq (xs := [.lst (strL ks)]) rfl (by rw [len_lst, hsl])) rfl)) rfl (w_islist (by rw [List.length_map]; omega))))) (fNotT_eq (b := true) (fTest_eq (fCallN_eq (xs := [kl ks t.backs, .dic (plD ks)]) rfl rfl (w_allk h hbk (by omega))))))) rfl) ?_
  refine seq_nx (ρ' := e0 (some (.pur (.dic (plD ks)))) none none) (sIf_f (fNotT_eq (b := true) (fTest_eq (fCallN_eq (xs := [stD ks L, .dic (plD ks)]) rfl rfl (w_issq h hL)))) rfl) ?_
  -- a list of names as places
  have pls : ∀ {y5 y6 y7 y8 y9 : Option Sl} {l : List Nat} {j : Nat}, iL (fVar j) [some (Sl.pur (.lst (strL ks))), some (.pur (.str (nm ks t.same))), some (.pur (kl ks t.backs)), some (.pur (stD ks L)), some (.pur (.dic (plD ks))), y5, y6, y7, y8, y9] = some (l.map fun i => D.str (nm ks i)) → (∀ i ∈ l, i < ks.length) → l.length ≤ 100000 → fLc (iL (fVar j)) (mName 7) (fun _ => some true) (fOp gDGet (fVar 4) (fVar 7)) [7] [some (Sl.pur (.lst (strL ks))), some (.pur (.str (nm ks t.same))), some (.pur (kl ks t.backs)), some (.pur (stD ks L)), some (.pur (.dic (plD ks))), y5, y6, y7, y8, y9] = some (.lst (l.map nat)) := by
    intro y5 y6 y7 y8 y9 l j h1 hl hn
    refine (fLc_map (ds := l.map fun i => .str (nm ks i)) (fun d => (gDGet (.dic (plD ks)) d).getD .non) h1 (by rw [List.length_map]; exact hn) ?_).trans ?_
    · intro d hd
      obtain ⟨i, hi, rfl⟩ := List.mem_map.mp hd
      refine turn_one rfl (fOp_eq (x := .dic (plD ks)) (y := .str (nm ks i)) rfl rfl ?_)
      rw [gDGet_pl h (hl i hi)]
      rfl
    · congr 2
      rw [List.map_map]
      refine List.map_congr_left fun i hi => ?_
      show (gDGet (.dic (plD ks)) (.str (nm ks i))).getD .non = _
      rw [gDGet_pl h (hl i hi)]
      rfl
  refine seq_nx (ρ' := e0 (some (.pur (.dic (plD ks)))) (some (.pur (turnsD t))) none) (sAsg_eq (fCall_eq (xs := [.lst (t.backs.map nat)]) (fCons_eq (pls rfl hbk (by omega)) rfl) rfl) rfl) ?_
  have sb : ∀ r ∈ L, ∀ l ∈ r, l.length ≤ 1000 ∧ ∀ i ∈ l, i < ks.length := hL.l2
  refine seq_nx (ρ' := e0 (some (.pur (.dic (plD ks)))) (some (.pur (turnsD t))) (some (.pur (gridD t)))) (sAsg_eq (fCall_eq (xs := [.lst (L.map fun r => .tup ((r.map bitsN).map nat))]) (fCons_eq ?_ rfl) ?_) rfl) ?_
  · refine fLc_list (f := fun r => .lst (r.map (kl ks))) rfl (by rw [hL.l0]; omega) fun r hr => turn_one rfl ?_
    refine fCall_eq (xs := [.lst ((r.map bitsN).map nat)]) (fCons_eq ?_ rfl) rfl
    rw [List.map_map]
    refine fLc_list (f := kl ks) rfl (by rw [hL.l1 r hr]; omega) fun l hl => turn_one rfl ?_
    obtain ⟨z1, z2⟩ := sb r hr l hl
    exact fCallN_eq (xs := [.lst (l.map nat)]) (fCons_eq (pls (j := 9) rfl z2 (by omega)) rfl) rfl (w_setof fun i hi => by have := z2 i hi; omega)
  · show some (D.tup _) = some (D.tup _)
    rw [hg, List.map_map]
    rfl
  · exact sRet_eq (fTup_eq (fCons_eq (fOp_eq rfl rfl (gDGet_pl h (by omega))) rfl) (by show 3 ≤ _; omega))
end KK
end

section
set_option Elab.async false
set_option linter.all false
set_option maxRecDepth 100000
/-! M4: the table's methods over trees. -/
namespace KK
open PySem PySem.Spec PyProof.Rows L2 KW DL
open KwRing (Tab)
def tabF (ks : List Str) (t : Tab) : List (Str × D) := [("names", .tup (strL ks)), ("places", .dic (plD ks)), ("same", .str (nm ks t.same)), ("turns", turnsD t), ("grid", gridD t)]
def tabD (C : Addr) (ks : List Str) (t : Tab) : D := .ins C (tabF ks t)
/-- the places of a set, in order -/
def inO (m a : Nat) : List Nat := (List.range m).filter a.testBit
theorem inO_mem {m a k : Nat} : k ∈ inO m a ↔ k < m ∧ a.testBit k = true := by
  unfold inO
  rw [List.mem_filter, List.mem_range]
theorem inO_lt {m a : Nat} : ∀ k ∈ inO m a, k < m := fun k h => (inO_mem.mp h).1
theorem inO_len {m a : Nat} : (inO m a).length ≤ m := by
  refine Nat.le_trans (List.length_filter_le _ _) ?_
  rw [List.length_range]
  exact Nat.le_refl _
theorem inO_eq {m a b : Nat} (h : ∀ k, k < m → a.testBit k = b.testBit k) : inO m a = inO m b := by
  unfold inO
  exact List.filter_congr fun k hk => h k (List.mem_range.mp hk)
/-- names and a lawful table of as many kinds -/
structure TT (ks : List Str) (t : Tab) : Prop where
  nms : Nms ks
  law : Law t
  hm : t.m = ks.length
variable {C : Addr} {ks : List Str} {t : Tab}
theorem w_place (h : Nms ks) {i : Nat} (hi : i < ks.length) : fn_place C [tabD C ks t, .str (nm ks i)] = some (nat i) := by
  refine runF_rt (seq_nx (ρ' := [some (.pur (tabD C ks t)), some (.pur (.str (nm ks i)))]) (sIf_f (fNotT_eq (b := true) (fTest_eq (fCallN_eq (xs := [.str (nm ks i), .dic (plD ks)]) (fCons_eq rfl (fCons_eq (fFld_eq rfl rfl) rfl)) rfl (w_iskind h hi)))) rfl) (sRet_eq ?_))
  exact fOp_eq (fFld_eq rfl rfl) rfl (gDGet_pl h hi)
theorem bitsN_lt {m : Nat} {l : List Nat} (h : ∀ k ∈ l, k < m) : bitsN l < 2 ^ m := by
  refine Nat.lt_pow_two_of_testBit _ fun k hk => ?_
  rw [bitsN_test]
  exact decide_eq_false fun z => by have := h k z; omega
theorem w_gath (h : Nms ks) {l : List Nat} (hl : ∀ i ∈ l, i < ks.length) (hn : l.length ≤ 100000) : fn_gath C [tabD C ks t, kl ks l] = some (nat (bitsN l)) := by
  have l13 := h.l13
  refine runF_rt (sRet_eq (fCallN_eq (xs := [.lst (l.map nat)]) (fCons_eq (fLc_list (f := fun i => .str (nm ks i)) (l := l) rfl hn fun i hi => turn_one rfl ?_) rfl) rfl (w_setof fun i hi => by have := hl i hi; omega)))
  exact fMeth_eq (fs := tabF ks t) rfl rfl (xs := [.str (nm ks i)]) rfl rfl (w_place h (hl i hi))
theorem nums_strL (ks : List Str) : nums (strL ks) = (List.range ks.length).map fun i => .tup [nat i, .str (nm ks i)] := by
  unfold nums
  rw [show (strL ks).length = ks.length from List.length_map _]
  refine List.map_congr_left fun i hi => ?_
  have hi := List.mem_range.mp hi
  show D.tup [nat i, (strL ks).getD i .non] = _
  rw [List.getD_eq_getElem?_getD]
  unfold strL
  rw [List.getElem?_map, nm_get hi]
  rfl
theorem goF_listO {α : Type} {f : α → D} {g : α → Option D} {m : D → En → Option En} {ft : FT} {fe : FE} {ρ : En} : ∀ {l : List α}, (∀ x ∈ l, turnF m ft fe ρ (f x) = some (g x)) → goF m ft fe ρ (l.map f) = some (l.filterMap g)
  | [], _ => rfl
  | x :: l, h => by
    rw [List.map_cons]
    unfold goF
    rw [h x List.mem_cons_self, goF_listO fun y hy => h y (List.mem_cons_of_mem _ hy)]
    show some ((g x).toList ++ _) = _
    rw [List.filterMap_cons]
    cases g x <;> rfl
theorem fLc_listO {α : Type} {f : α → D} {g : α → Option D} {l : List α} {fs : FA} {m : D → En → Option En} {ft : FT} {fe : FE} {vs : List Nat} {ρ : En} (e : fs ρ = some (l.map f)) (hl : l.length ≤ 100000) (hs : ∀ x ∈ l, turnF m ft fe (wipeE ρ vs) (f x) = some (g x)) : fLc fs m ft fe vs ρ = some (.lst (l.filterMap g)) := by
  unfold fLc
  rw [e, Option.bind_some, if_pos (by rw [List.length_map]; exact hl), goF_listO hs]
  rfl
theorem w_listed (h : Nms ks) {a : Nat} : fn_listed C [tabD C ks t, nat a] = some (kl ks (inO ks.length a)) := by
  have l13 := h.l13
  refine runF_rt (sRet_eq ((fLc_listO (l := List.range ks.length) (f := fun i => .tup [nat i, .str (nm ks i)]) (g := fun i => if a.testBit i = true then some (.str (nm ks i)) else none) ?_ (by rw [List.length_range]; omega) fun i hi => turn_if (b := a.testBit i) rfl (fTru_eq (x := nat ((a >>> i) % 2)) ?_ (bit_tru a i)) rfl).trans ?_))
  · unfold iET
    rw [fCons_eq (x := .tup (strL ks)) (xs := []) (fFld_eq (fs := tabF ks t) rfl rfl) rfl, Option.bind_some]
    show some (nums (strL ks)) = _
    rw [nums_strL]
  · unfold fOp
    exact shr_and a i
  · rw [filterMap_if]
    rfl
theorem w_tkinds : fn_tkinds C [tabD C ks t] = some (.lst (strL ks)) := runF_rt (sRet_eq (fCall_eq (xs := [.tup (strL ks)]) (fCons_eq (fFld_eq rfl rfl) rfl) rfl))
theorem w_tbacks (h : TT ks t) {l : List Nat} (hl : ∀ i ∈ l, i < ks.length) (hn : l.length ≤ 100000) : fn_tbacks C [tabD C ks t, kl ks l] = some (kl ks (inO ks.length (bitsN (l.map t.b)))) := by
  have l13 := h.nms.l13
  have hm := h.hm
  have wf := h.law.wf
  refine runF_rt (sRet_eq (fMeth_eq (fs := tabF ks t) rfl rfl (xs := [nat (bitsN (l.map t.b))]) (fCons_eq (fCallN_eq (xs := [.lst ((l.map t.b).map nat)]) (fCons_eq ?_ rfl) rfl (w_setof fun i hi => ?_)) rfl) rfl (w_listed h.nms)))
  · rw [List.map_map]
    refine fLc_list (f := fun i => .str (nm ks i)) (l := l) rfl hn fun i hi => turn_one rfl (fOp_eq (x := turnsD t) (y := nat i) (fFld_eq rfl rfl) (fMeth_eq (fs := tabF ks t) rfl rfl (xs := [.str (nm ks i)]) rfl rfl (w_place h.nms (hl i hi))) ?_)
    exact gIxT_nat (map_nat (by rw [wf.bl, hm]; exact hl i hi))
  · obtain ⟨j, hj, rfl⟩ := List.mem_map.mp hi
    have := wf.bk j (by have := hl j hj; omega)
    omega
def stN (t : Tab) (a b : Nat) : Nat := unN (t.grid.map fun r => unN r b) a
theorem w_tsteps (h : TT ks t) {l l' : List Nat} (hl : ∀ i ∈ l, i < ks.length) (hn : l.length ≤ 100000) (hl' : ∀ i ∈ l', i < ks.length) (hn' : l'.length ≤ 100000) : fn_tsteps C [tabD C ks t, kl ks l, kl ks l'] = some (kl ks (inO ks.length (stN t (bitsN l) (bitsN l')))) := by
  have l13 := h.nms.l13
  have hm := h.hm
  have wf := h.law.wf
  have hb : ∀ {l : List Nat}, (∀ i ∈ l, i < ks.length) → bitsN l < 2 ^ 60 := fun hl => Nat.lt_of_lt_of_le (bitsN_lt hl) (Nat.pow_le_pow_right (by omega) (by omega))
  have hi : ∀ {l : List Nat}, (∀ i ∈ l, i < ks.length) → ∀ k, (bitsN l).testBit k = true → k < ks.length := fun hl k hk => by
    rw [bitsN_test] at hk
    exact hl k (of_decide_eq_true hk)
  refine runF_rt (seq_nx (ρ' := [some (.pur (tabD C ks t)), some (.pur (kl ks l)), some (.pur (kl ks l')), some (.pur (nat (bitsN l))), none, none]) (sAsg_eq (fMeth_eq (fs := tabF ks t) rfl rfl (xs := [kl ks l]) rfl rfl (w_gath h.nms hl hn)) rfl) (seq_nx (ρ' := [some (.pur (tabD C ks t)), some (.pur (kl ks l)), some (.pur (kl ks l')), some (.pur (nat (bitsN l))), some (.pur (nat (bitsN l'))), none]) (sAsg_eq (fMeth_eq (fs := tabF ks t) rfl rfl (xs := [kl ks l']) rfl rfl (w_gath h.nms hl' hn')) rfl) (sRet_eq ?_)))
  refine fMeth_eq (fs := tabF ks t) rfl rfl (xs := [nat (stN t (bitsN l) (bitsN l'))]) (fCons_eq (fCallN_eq (xs := [.lst ((t.grid.map fun r => unN r (bitsN l')).map nat), nat (bitsN l)]) (fCons_eq ?_ rfl) rfl (w_unat (.inr rfl) (hb hl) fun k hk => ?_)) rfl) rfl (w_listed h.nms)
  · rw [List.map_map]
    refine fLc_list (f := fun r => .tup (r.map nat)) (l := t.grid) (iT_eq (fFld_eq rfl rfl)) (by rw [wf.gl]; omega) fun r hr => turn_one rfl (fCallN_eq (xs := [.tup (r.map nat), nat (bitsN l')]) rfl rfl (w_unat (.inl rfl) (hb hl') fun k hk => ?_))
    rw [wf.rl r hr, hm]
    exact hi hl' k hk
  · rw [List.length_map, wf.gl, hm]
    exact hi hl k hk
theorem stN_test (wf : WF t) {a b c : Nat} (ha : ∀ k, a.testBit k = true → k < t.m) : (stN t a b).testBit c = true ↔ ∃ i j, a.testBit i = true ∧ b.testBit j = true ∧ (t.g i j).testBit c = true := by
  unfold stN
  rw [unN_test]
  constructor
  · rintro ⟨i, hi, h⟩
    have hl : i < t.grid.length := by rw [wf.gl]; exact ha i hi
    rw [List.getD_eq_getElem?_getD, List.getElem?_map, List.getElem?_eq_getElem hl] at h
    obtain ⟨j, hj, h⟩ := unN_test.mp (show (unN t.grid[i] b).testBit c = true from h)
    refine ⟨i, j, hi, hj, ?_⟩
    unfold KwRing.Tab.g
    rw [List.getD_eq_getElem?_getD (l := t.grid), List.getElem?_eq_getElem hl]
    exact h
  · rintro ⟨i, j, hi, hj, h⟩
    have hl : i < t.grid.length := by rw [wf.gl]; exact ha i hi
    refine ⟨i, hi, ?_⟩
    rw [List.getD_eq_getElem?_getD, List.getElem?_map, List.getElem?_eq_getElem hl]
    refine unN_test.mpr ⟨j, hj, ?_⟩
    unfold KwRing.Tab.g at h
    rw [List.getD_eq_getElem?_getD (l := t.grid), List.getElem?_eq_getElem hl] at h
    exact h
end KK
end

section
set_option Elab.async false
set_option linter.all false
set_option maxRecDepth 100000
/-! M5: lawful by reckoning is lawful; the sets' algebra. -/
namespace KK
open PySem PySem.Spec PyProof.Rows L2 KW DL
open KwRing (Tab)
def wfB (t : Tab) : Bool := decide (t.m ≤ 13) && decide (1 ≤ t.m) && decide (t.same < t.m) && decide (t.backs.length = t.m) && (t.all fun a => decide (t.b a < t.m)) && decide (t.grid.length = t.m) && (t.grid.all fun r => decide (r.length = t.m)) && (t.all fun a => t.all fun b => decide (t.g a b < 2 ^ t.m))
theorem tall {t : Tab} {f : Nat → Bool} (h : t.all f = true) {a : Nat} (ha : a < t.m) : f a = true := List.all_eq_true.mp h a (List.mem_range.mpr ha)
theorem wf_of {t : Tab} (h : wfB t = true) : WF t := by
  unfold wfB at h
  simp only [Bool.and_eq_true, decide_eq_true_eq] at h
  obtain ⟨⟨⟨⟨⟨⟨⟨h1, h2⟩, h3⟩, h4⟩, h5⟩, h6⟩, h7⟩, h8⟩ := h
  exact ⟨h1, h2, h3, h4, fun a ha => of_decide_eq_true (tall h5 ha), h6, fun r hr => of_decide_eq_true (List.all_eq_true.mp h7 r hr), fun a b ha hb => of_decide_eq_true (tall (tall h8 ha) hb)⟩
theorem if_or_test {f : Nat → Nat} {s c : Nat} : ∀ (ks : List Nat) (r : Nat), (ks.foldl (fun r k => if s.testBit k then r ||| f k else r) r).testBit c = true ↔ r.testBit c = true ∨ ∃ k ∈ ks, s.testBit k = true ∧ (f k).testBit c = true := by
  intro ks
  induction ks with
  | nil => intro r; simp
  | cons x ks ih =>
    intro r
    rw [List.foldl_cons, ih]
    by_cases hx : s.testBit x = true
    · rw [if_pos hx, Nat.testBit_or, Bool.or_eq_true]
      constructor
      · rintro ((h | h) | ⟨k, hk, h⟩)
        · exact .inl h
        · exact .inr ⟨x, List.mem_cons_self, hx, h⟩
        · exact .inr ⟨k, List.mem_cons_of_mem _ hk, h⟩
      · rintro (h | ⟨k, hk, h⟩)
        · exact .inl (.inl h)
        · rcases List.mem_cons.mp hk with rfl | hk
          · exact .inl (.inr h.2)
          · exact .inr ⟨k, hk, h⟩
    · rw [if_neg hx]
      constructor
      · rintro (h | ⟨k, hk, h⟩)
        · exact .inl h
        · exact .inr ⟨k, List.mem_cons_of_mem _ hk, h⟩
      · rintro (h | ⟨k, hk, h⟩)
        · exact .inl h
        · rcases List.mem_cons.mp hk with rfl | hk
          · exact absurd h.1 hx
          · exact .inr ⟨k, hk, h⟩
theorem nat_ext {a b : Nat} (h : ∀ c, a.testBit c = true ↔ b.testBit c = true) : a = b := Nat.eq_of_testBit_eq fun c => Bool.eq_iff_iff.mpr (h c)
theorem leftN_test {t : Tab} {s c d : Nat} : (leftN t s c).testBit d = true ↔ ∃ k, s.testBit k = true ∧ (t.g k c).testBit d = true := by
  unfold leftN
  rw [or_test (f := fun k => t.g k c)]
  constructor
  · rintro (h | ⟨k, hk, h⟩)
    · simp at h
    · exact ⟨k, plN_mem.mp hk, h⟩
  · rintro ⟨k, hk, h⟩
    exact .inr ⟨k, plN_mem.mpr hk, h⟩
theorem rightN_test {t : Tab} {s a d : Nat} : (rightN t a s).testBit d = true ↔ ∃ k, s.testBit k = true ∧ (t.g a k).testBit d = true := by
  unfold rightN
  rw [or_test (f := fun k => t.g a k)]
  constructor
  · rintro (h | ⟨k, hk, h⟩)
    · simp at h
    · exact ⟨k, plN_mem.mp hk, h⟩
  · rintro ⟨k, hk, h⟩
    exact .inr ⟨k, plN_mem.mpr hk, h⟩
theorem left_eq {t : Tab} {s c : Nat} (hs : ∀ k, s.testBit k = true → k < t.m) : t.left s c = leftN t s c := nat_ext fun d => by
  rw [leftN_test]
  unfold KwRing.Tab.left
  rw [if_or_test (f := fun k => t.g k c)]
  constructor
  · rintro (h | ⟨k, _, hk, h⟩)
    · simp at h
    · exact ⟨k, hk, h⟩
  · rintro ⟨k, hk, h⟩
    exact .inr ⟨k, List.mem_range.mpr (hs k hk), hk, h⟩
theorem right_eq {t : Tab} {s a : Nat} (hs : ∀ k, s.testBit k = true → k < t.m) : t.right a s = rightN t a s := nat_ext fun d => by
  rw [rightN_test]
  unfold KwRing.Tab.right
  rw [if_or_test (f := fun k => t.g a k)]
  constructor
  · rintro (h | ⟨k, _, hk, h⟩)
    · simp at h
    · exact ⟨k, hk, h⟩
  · rintro ⟨k, hk, h⟩
    exact .inr ⟨k, List.mem_range.mpr (hs k hk), hk, h⟩
theorem law_of {t : Tab} (w : wfB t = true) (h : t.lawful = true) : Law t := by
  have wf := wf_of w
  unfold KwRing.Tab.lawful at h
  simp only [Bool.and_eq_true] at h
  obtain ⟨⟨⟨⟨h1, h2⟩, h3⟩, h4⟩, h5⟩ := h
  refine ⟨wf, fun a ha => ?_, by simpa using h2, fun a ha => ?_, fun a b c ha hb hc => ?_, fun a b c ha hb hc => ?_⟩
  · have := tall h1 ha
    simp only [Bool.and_eq_true, beq_iff_eq] at this
    exact this.2
  · have := tall h3 ha
    simpa using this
  · have := tall (tall (tall h4 ha) hb) hc
    simpa using this
  · have := tall (tall (tall h5 ha) hb) hc
    rw [left_eq fun k hk => test_lt (wf.gr a b ha hb) hk, right_eq fun k hk => test_lt (wf.gr b c hb hc) hk] at this
    simpa using this
set_option maxHeartbeats 0 in
theorem rings_wf : (KwRing.rings.all fun q => wfB (KwRing.ring q.1 q.2)) = true := by decide +kernel
theorem ring_law {n way : Nat} (h0 : 1 ≤ n) (h1 : n ≤ 13) (hw : way < 3) : Law (KwRing.ring n way) := by
  refine law_of (List.all_eq_true.mp rings_wf (n, way) ?_) (KwRing.ring_lawful h0 h1 hw)
  unfold KwRing.rings
  refine List.mem_flatMap.mpr ⟨n, List.mem_range'_1.mpr ⟨h0, by omega⟩, ?_⟩
  have : way = 0 ∨ way = 1 ∨ way = 2 := by omega
  rcases this with rfl | rfl | rfl <;> simp
/-! ### the algebra of sets of kinds -/
/-- all within the table -/
def In (t : Tab) (a : Nat) : Prop := ∀ k, a.testBit k = true → k < t.m
/-- the set of the backs -/
def bkN (t : Tab) (a : Nat) : Nat := bitsN ((inO t.m a).map t.b)
theorem bitsN_mem {l : List Nat} {k : Nat} : (bitsN l).testBit k = true ↔ k ∈ l := by
  rw [bitsN_test, decide_eq_true_iff]
theorem bits_in {m a : Nat} (h : ∀ k, a.testBit k = true → k < m) : bitsN (inO m a) = a := nat_ext fun c => by
  rw [bitsN_mem, inO_mem]
  exact ⟨fun h => h.2, fun z => ⟨h c z, z⟩⟩
section
variable {t : Tab} (h : Law t)
include h
theorem b_lt {a : Nat} (ha : a < t.m) : t.b a < t.m := h.wf.bk a ha
theorem g_lt {a b c : Nat} (ha : a < t.m) (hb : b < t.m) (hc : (t.g a b).testBit c = true) : c < t.m := test_lt (h.wf.gr a b ha hb) hc
theorem st_in {a b : Nat} (ha : In t a) (hb : In t b) : In t (stN t a b) := fun c hc => by
  obtain ⟨i, j, hi, hj, z⟩ := (stN_test h.wf ha).mp hc
  exact g_lt h (ha i hi) (hb j hj) z
theorem bk_test {a c : Nat} (ha : In t a) (hc : c < t.m) : (bkN t a).testBit c = true ↔ a.testBit (t.b c) = true := by
  unfold bkN
  rw [bitsN_mem, List.mem_map]
  constructor
  · rintro ⟨k, hk, rfl⟩
    rw [h.back k (inO_mem.mp hk).1]
    exact (inO_mem.mp hk).2
  · intro z
    exact ⟨t.b c, inO_mem.mpr ⟨b_lt h hc, z⟩, h.back c hc⟩
theorem bk_in {a : Nat} : In t (bkN t a) := fun c hc => by
  unfold bkN at hc
  obtain ⟨k, hk, rfl⟩ := List.mem_map.mp (bitsN_mem.mp hc)
  exact b_lt h (inO_mem.mp hk).1
theorem bkbk {a : Nat} (ha : In t a) : bkN t (bkN t a) = a := nat_ext fun c => by
  constructor
  · intro z
    have hc := bk_in h c z
    have := (bk_test h (bk_in h) hc).mp z
    have := (bk_test h ha (b_lt h hc)).mp this
    rwa [h.back c hc] at this
  · intro z
    have hc := ha c z
    refine (bk_test h (bk_in h) hc).mpr ((bk_test h ha (b_lt h hc)).mpr ?_)
    rwa [h.back c hc]
/-- c in a∘b iff c⁻ in b⁻∘a⁻ -/
theorem has_back {a b c : Nat} (ha : a < t.m) (hb : b < t.m) (hc : c < t.m) : t.has a b c = t.has (t.b b) (t.b a) (t.b c) := by
  have hb' := b_lt h hb
  have h1 := (h.turn a b c ha hb hc).1
  have h2 := (h.turn c (t.b b) a hc hb' ha).2
  have h3 := (h.turn (t.b c) a (t.b b) (b_lt h hc) ha hb').1
  rw [h1, h2, h3]
theorem bk_st {a b : Nat} (ha : In t a) (hb : In t b) : bkN t (stN t a b) = stN t (bkN t b) (bkN t a) := nat_ext fun c => by
  constructor
  · intro z
    have hc := bk_in h c z
    obtain ⟨i, j, hi, hj, z⟩ := (stN_test h.wf ha).mp ((bk_test h (st_in h ha hb) hc).mp z)
    have hi' := ha i hi
    have hj' := hb j hj
    refine (stN_test h.wf (bk_in h)).mpr ⟨t.b j, t.b i, (bk_test h hb (b_lt h hj')).mpr (by rwa [h.back j hj']), (bk_test h ha (b_lt h hi')).mpr (by rwa [h.back i hi']), ?_⟩
    have := has_back h hi' hj' (b_lt h hc)
    rw [h.back c hc] at this
    exact this.symm.trans z
  · intro z
    have hc := st_in h (bk_in h) (bk_in h) c z
    obtain ⟨j, i, hj, hi, z⟩ := (stN_test h.wf (bk_in h)).mp z
    have hj' := bk_in h j hj
    have hi' := bk_in h i hi
    refine (bk_test h (st_in h ha hb) hc).mpr ((stN_test h.wf ha).mpr ⟨t.b i, t.b j, (bk_test h ha hi').mp hi, (bk_test h hb hj').mp hj, ?_⟩)
    exact (has_back h hj' hi' hc).symm.trans z
theorem st_or {a b c : Nat} (ha : In t a) : stN t a (b ||| c) = stN t a b ||| stN t a c := nat_ext fun d => by
  rw [Nat.testBit_or, Bool.or_eq_true, stN_test h.wf ha, stN_test h.wf ha, stN_test h.wf ha]
  constructor
  · rintro ⟨i, j, hi, hj, z⟩
    rw [Nat.testBit_or, Bool.or_eq_true] at hj
    rcases hj with hj | hj
    · exact .inl ⟨i, j, hi, hj, z⟩
    · exact .inr ⟨i, j, hi, hj, z⟩
  · rintro (⟨i, j, hi, hj, z⟩ | ⟨i, j, hi, hj, z⟩)
    · exact ⟨i, j, hi, by rw [Nat.testBit_or, hj, Bool.true_or], z⟩
    · exact ⟨i, j, hi, by rw [Nat.testBit_or, hj, Bool.or_true], z⟩
theorem st_assoc {a b c : Nat} (ha : In t a) (hb : In t b) (hc : In t c) : stN t (stN t a b) c = stN t a (stN t b c) := nat_ext fun d => by
  rw [stN_test h.wf (st_in h ha hb), stN_test h.wf ha]
  constructor
  · rintro ⟨k, l, hk, hl, z⟩
    obtain ⟨i, j, hi, hj, y⟩ := (stN_test h.wf ha).mp hk
    have r := h.row i j l (ha i hi) (hb j hj) (hc l hl)
    have : (leftN t (t.g i j) l).testBit d = true := leftN_test.mpr ⟨k, y, z⟩
    rw [r] at this
    obtain ⟨n, hn, x⟩ := rightN_test.mp this
    exact ⟨i, n, hi, (stN_test h.wf hb).mpr ⟨j, l, hj, hl, hn⟩, x⟩
  · rintro ⟨i, n, hi, hn, z⟩
    obtain ⟨j, l, hj, hl, y⟩ := (stN_test h.wf hb).mp hn
    have r := h.row i j l (ha i hi) (hb j hj) (hc l hl)
    have : (rightN t i (t.g j l)).testBit d = true := rightN_test.mpr ⟨n, y, z⟩
    rw [← r] at this
    obtain ⟨k, hk, x⟩ := leftN_test.mp this
    exact ⟨k, l, (stN_test h.wf ha).mpr ⟨i, j, hi, hj, hk⟩, hl, x⟩
/-- c meets a∘b iff b meets a⁻∘c -/
theorem st_meet {a b c : Nat} (ha : In t a) (hb : In t b) (hc : In t c) : (∃ k, c.testBit k = true ∧ (stN t a b).testBit k = true) ↔ ∃ k, b.testBit k = true ∧ (stN t (bkN t a) c).testBit k = true := by
  constructor
  · rintro ⟨k, hk, z⟩
    obtain ⟨i, j, hi, hj, y⟩ := (stN_test h.wf ha).mp z
    have hi' := ha i hi
    refine ⟨j, hj, (stN_test h.wf (bk_in h)).mpr ⟨t.b i, k, (bk_test h ha (b_lt h hi')).mpr (by rwa [h.back i hi']), hk, ?_⟩⟩
    exact (h.turn i j k hi' (hb j hj) (hc k hk)).2.symm.trans y
  · rintro ⟨j, hj, z⟩
    obtain ⟨i, k, hi, hk, y⟩ := (stN_test h.wf (bk_in h)).mp z
    have hi' := bk_in h i hi
    refine ⟨k, hk, (stN_test h.wf ha).mpr ⟨t.b i, j, (bk_test h ha hi').mp hi, hj, ?_⟩⟩
    have := (h.turn (t.b i) j k (b_lt h hi') (hb j hj) (hc k hk)).2
    rw [h.back i hi'] at this
    exact this.trans y
theorem st_same {a : Nat} (ha : In t a) : stN t (1 <<< t.same) a = a := nat_ext fun c => by
  have hs : In t (1 <<< t.same) := fun k hk => by
    rw [Nat.one_shiftLeft, Nat.testBit_two_pow] at hk
    rw [← of_decide_eq_true hk]
    exact h.wf.same
  rw [stN_test h.wf hs]
  constructor
  · rintro ⟨i, j, hi, hj, z⟩
    rw [Nat.one_shiftLeft, Nat.testBit_two_pow] at hi
    rw [← of_decide_eq_true hi, (h.same j (ha j hj)).1, Nat.one_shiftLeft, Nat.testBit_two_pow] at z
    rw [← of_decide_eq_true z]
    exact hj
  · intro z
    refine ⟨t.same, c, by rw [Nat.one_shiftLeft, Nat.testBit_two_pow]; exact decide_eq_true rfl, z, ?_⟩
    rw [(h.same c (ha c z)).1, Nat.one_shiftLeft, Nat.testBit_two_pow]
    exact decide_eq_true rfl
theorem st_zero {a : Nat} (ha : In t a) : stN t a 0 = 0 := nat_ext fun c => by
  rw [stN_test h.wf ha]
  simp
end
theorem bits_append {l l' : List Nat} : bitsN (l ++ l') = bitsN l ||| bitsN l' := nat_ext fun c => by
  rw [Nat.testBit_or, Bool.or_eq_true, bitsN_mem, bitsN_mem, bitsN_mem, List.mem_append]
theorem bits_map {t : Tab} {l : List Nat} (hl : ∀ i ∈ l, i < t.m) : bitsN (l.map t.b) = bkN t (bitsN l) := nat_ext fun c => by
  unfold bkN
  rw [bitsN_mem, bitsN_mem, List.mem_map, List.mem_map]
  constructor
  · rintro ⟨k, hk, e⟩
    exact ⟨k, inO_mem.mpr ⟨hl k hk, bitsN_mem.mpr hk⟩, e⟩
  · rintro ⟨k, hk, e⟩
    exact ⟨k, bitsN_mem.mp (inO_mem.mp hk).2, e⟩
theorem bits_In {t : Tab} {l : List Nat} (hl : ∀ i ∈ l, i < t.m) : In t (bitsN l) := fun k hk => hl k (bitsN_mem.mp hk)
end KK
end

section
set_option Elab.async false
set_option linter.all false
set_option maxRecDepth 100000
namespace KK
open PySem PySem.Spec PyProof.Rows L2 KW DL
section
variable {P : Program} {w : World} {K : PySem.W.Frag} {mg : Str → Option Value} {base : Heap} {ad : Nat → Addr} {fd : Nat → FuncData}

def m_tinit (x : Addr) : En → Fs → Option (En × Fs) :=
  (xSeq (xS (sAsg (fCallN 4 (fn_placed) (fCons (fVar 1) (fCons (fVar 2) (fCons (fVar 3) (fCons (fVar 4) fNil))))) (mTup 3 (mCons (mName 6) (mCons (mName 7) (mCons (mName 8) mNil))))))
    (xSeq (xS (sAsg (fCallN 2 (fn_nfault) (fCons (fVar 1) (fCons (fCallN 3 (fn_ffirst) (fCons (fVar 6) (fCons (fVar 7) (fCons (fVar 8) fNil)))) fNil))) (mName 5)))
    (xSeq (xS (sIf (fTest (fOp gNotN (fVar 5) (fC .non))) sNever sNext))
    (xSeq (xFld x "names" (fCall gTupOf (fCons (fVar 1) fNil)))
    (xSeq (xFld x "places" (fCallN 1 (fn_pbn) (fCons (fVar 1) fNil)))
    (xSeq (xFld x "same" (fVar 2))
    (xSeq (xFld x "turns" (fVar 7))
    (xFld x "grid" (fVar 8)))))))))
def fx_tinit (ds : List D) : Option Fs := match ds with
  | [a, b, c, d] => (fn_placed [a, b, c, d]).bind fun p => match p with
    | .tup [h, u, g] => (fn_ffirst [h, u, g]).bind fun r => (fn_nfault [a, r]).bind fun z => match z with
      | .non => (gTupOf [a]).bind fun n => (fn_pbn [a]).bind fun q => some [("names", n), ("places", q), ("same", b), ("turns", u), ("grid", g)]
      | _ => none
    | _ => none
  | _ => none
theorem fx_aux {a b c d h u g r n q : D} {x : Addr} (e1 : fn_placed [a, b, c, d] = some (.tup [h, u, g])) (e2 : fn_ffirst [h, u, g] = some r) (e3 : fn_nfault [a, r] = some .non) (e4 : gTupOf [a] = some n) (e5 : fn_pbn [a] = some q) : ∃ ρ', m_tinit x (envW n_tinit.length x [a, b, c, d]) [] = some (ρ', ([("names", n), ("places", q), ("same", b), ("turns", u), ("grid", g)] : Fs)) := by
  refine ⟨[some (.ptr x), some (.pur a), some (.pur b), some (.pur c), some (.pur d), some (.pur .non), some (.pur h), some (.pur u), some (.pur g)], ?_⟩
  have s1 : xS (sAsg (fCallN 4 fn_placed (fCons (fVar 1) (fCons (fVar 2) (fCons (fVar 3) (fCons (fVar 4) fNil))))) (mTup 3 (mCons (mName 6) (mCons (mName 7) (mCons (mName 8) mNil))))) (envW n_tinit.length x [a, b, c, d]) [] = some ([some (.ptr x), some (.pur a), some (.pur b), some (.pur c), some (.pur d), none, some (.pur h), some (.pur u), some (.pur g)], []) := xS_eq (sAsg_eq (fCallN_eq (xs := [a, b, c, d]) rfl rfl e1) rfl) rfl
  have s2 : xS (sAsg (fCallN 2 fn_nfault (fCons (fVar 1) (fCons (fCallN 3 fn_ffirst (fCons (fVar 6) (fCons (fVar 7) (fCons (fVar 8) fNil)))) fNil))) (mName 5)) [some (.ptr x), some (.pur a), some (.pur b), some (.pur c), some (.pur d), none, some (.pur h), some (.pur u), some (.pur g)] [] = some ([some (.ptr x), some (.pur a), some (.pur b), some (.pur c), some (.pur d), some (.pur .non), some (.pur h), some (.pur u), some (.pur g)], []) := xS_eq (sAsg_eq (fCallN_eq (xs := [a, r]) (fCons_eq rfl (fCons_eq (fCallN_eq (xs := [h, u, g]) rfl rfl e2) rfl)) rfl e3) rfl) rfl
  have fl : ∀ {f : Str} {fe : FE} {d : D} {ρ : En} {fs : Fs}, fe (some (.ptr x) :: ρ) = some d → (fs.map (·.1)).contains f = false → decide (fs.length < 1000) = true → xFld x f fe (some (.ptr x) :: ρ) fs = some (some (.ptr x) :: ρ, fs ++ [(f, d)]) := by
    intro f fe d ρ fs h1 h2 h3
    unfold xFld
    rw [h1]
    show (if x = x ∧ _ ∧ _ then _ else _) = _
    rw [if_pos ⟨rfl, h2, of_decide_eq_true h3⟩]
  unfold m_tinit
  refine xSeq_eq s1 (xSeq_eq s2 (xSeq_eq (q := (_, [])) rfl (xSeq_eq (fl (fCall_eq (xs := [a]) rfl e4) rfl rfl) (xSeq_eq (fl (fCallN_eq (xs := [a]) rfl rfl e5) rfl rfl) (xSeq_eq (fl rfl rfl rfl) (xSeq_eq (fl rfl rfl rfl) (fl rfl rfl rfl)))))))
theorem fx_tinit_ok : ∀ ds fs, fx_tinit ds = some fs → ∀ x, ∃ ρ', m_tinit x (envW n_tinit.length x ds) [] = some (ρ', fs) := by
  intro ds fs e x
  unfold fx_tinit at e
  split at e
  · rename_i a b c d
    obtain ⟨p, e1, e⟩ := some_bind e
    split at e
    · rename_i h u g
      obtain ⟨r, e2, e⟩ := some_bind e
      obtain ⟨z, e3, e⟩ := some_bind e
      split at e
      · obtain ⟨n, e4, e⟩ := some_bind e
        obtain ⟨q, e5, e⟩ := some_bind e
        cases e
        exact fx_aux e1 e2 e3 e4 e5
      · cases e
    · cases e
  · cases e
theorem ok_tinit (F : Fa K mg ad fd) (T : Bl mg) : FnOk P w K mg base CX0 5 (ad 4200) (fd 4200) p_tinit (spI K (ad 9) 4 fx_tinit) := by
  have G_ffirst := ok_ffirst (P := P) (w := w) (base := base) F T
  have G_nfault := ok_nfault (P := P) (w := w) (base := base) F T
  have G_pbn := ok_pbn (P := P) (w := w) (base := base) F T
  have G_placed := ok_placed (P := P) (w := w) (base := base) F T
  exact fn_denX F.F_tinit sc_tinit rfl fx_tinit_ok fun x cdv A outer s H E hr => ⟨_, PSs.nox (pss_cons (ps_asg (pe_call G_placed (hr.mono (by decide)) (by rfl) F.g_placed F.F_placed.kp F.b_placed .nil pass0 (pa_cons (pv 1) (pa_cons (pv 2) (pa_cons (pv 3) (pa_cons (pv 4) pa_nil))))) (pg_tup rfl (pgs_cons (pg_name (i := 6) sc_tinit.nd rfl (by first | exact .inl rfl | exact .inr rfl)) (pgs_cons (pg_name (i := 7) sc_tinit.nd rfl (by first | exact .inl rfl | exact .inr rfl)) (pgs_cons (pg_name (i := 8) sc_tinit.nd rfl (by first | exact .inl rfl | exact .inr rfl)) pgs_nil)))))
      (pss_cons (ps_set (i := 5) sc_tinit.nd rfl (by first | exact .inl rfl | exact .inr rfl) (pe_call G_nfault (hr.mono (by decide)) (by rfl) F.g_nfault F.F_nfault.kp F.b_nfault .nil pass0 (pa_cons (pv 1) (pa_cons (pe_call G_ffirst (hr.mono (by decide)) (by rfl) F.g_ffirst F.F_ffirst.kp F.b_ffirst .nil pass0 (pa_cons (pv 6) (pa_cons (pv 7) (pa_cons (pv 8) pa_nil)))) pa_nil))))
      (pss_cons (ps_if (pt_cmpR op_notN (pv 5) pe_non (nomark _)) (pss_one ps_never) pss_nil)
      (pss_cons (ps_fld (pv 0) (pe_callTy call_tuple_of (by rfl) T.m_tuple (by decide +kernel) (pa_cons (pv 1) pa_nil)) (by rfl))
      (pss_cons (ps_fld (pv 0) (pe_call G_pbn (hr.mono (by decide)) (by rfl) F.g_pbn F.F_pbn.kp F.b_pbn .nil pass0 (pa_cons (pv 1) pa_nil)) (by rfl))
      (pss_cons (ps_fld (pv 0) (pv 2) (by rfl))
      (pss_cons (ps_fld (pv 0) (pv 7) (by rfl))
      (pss_one (ps_fld (pv 0) (pv 8) (by rfl)))))))))),
    (denx_seq (denx_s (den_asg (den_call (den_cons den_var (den_cons den_var (den_cons den_var (den_cons den_var den_nil))))) (den_gTup (den_gCons den_gName (den_gCons den_gName (den_gCons den_gName den_gNil))))))
      (denx_seq (denx_s (den_asg (den_call (den_cons den_var (den_cons (den_call (den_cons den_var (den_cons den_var (den_cons den_var den_nil)))) den_nil))) den_gName))
      (denx_seq (denx_s (den_ifS (den_test (den_op opd_notN den_var den_non)) den_never den_next))
      (denx_seq (denx_fld F.cl F.na_names (den_cb cad_tuple (den_cons den_var den_nil)))
      (denx_seq (denx_fld F.cl F.na_places (den_call (den_cons den_var den_nil)))
      (denx_seq (denx_fld F.cl F.na_same den_var)
      (denx_seq (denx_fld F.cl F.na_turns den_var)
      (denx_fld F.cl F.na_grid den_var))))))))⟩

end
end KK
end

section
set_option Elab.async false
set_option linter.all false
set_option maxRecDepth 100000
namespace KK
open PySem PySem.Spec PyProof.Rows L2 KW DL
section
variable {P : Program} {w : World} {K : PySem.W.Frag} {mg : Str → Option Value} {base : Heap} {ad : Nat → Addr} {fd : Nat → FuncData}
def m_lmade (C : Addr) : FS :=
  (sSeq (sAsg (fCallN 1 (fn_lhand) (fCons (fVar 0) fNil)) (mTup 4 (mCons (mName 1) (mCons (mName 2) (mCons (mName 3) (mCons (mName 4) mNil))))))
    (sRet (fMake C 4 fx_tinit (fCons (fVar 1) (fCons (fVar 2) (fCons (fVar 3) (fCons (fVar 4) fNil)))))))
def fn_lmade (C : Addr) : List D → Option D := runF n_lmade.length (m_lmade C)
theorem ok_lmade (F : Fa K mg ad fd) (T : Bl mg) : FnOk P w K mg base CX0 7 (ad 55) (fd 55) p_lmade (spF K 1 (fn_lmade (ad 9))) := by
  have G_lhand := ok_lhand (P := P) (w := w) (base := base) F T
  have G_tinit := ok_tinit (P := P) (w := w) (base := base) F T
  exact fn_den F.F_lmade sc_lmade fun cdv A outer s H E hr => ⟨_, PSs.nox (pss_cons (ps_asg (pe_call G_lhand (hr.mono (by decide)) (by rfl) F.g_lhand F.F_lhand.kp F.b_lhand .nil pass0 (pa_cons (pv 0) pa_nil)) (pg_tup rfl (pgs_cons (pg_name (i := 1) sc_lmade.nd rfl (by first | exact .inl rfl | exact .inr rfl)) (pgs_cons (pg_name (i := 2) sc_lmade.nd rfl (by first | exact .inl rfl | exact .inr rfl)) (pgs_cons (pg_name (i := 3) sc_lmade.nd rfl (by first | exact .inl rfl | exact .inr rfl)) (pgs_cons (pg_name (i := 4) sc_lmade.nd rfl (by first | exact .inl rfl | exact .inr rfl)) pgs_nil))))))
      (pss_one (ps_ret (pe_make F.mk_Table G_tinit (hr.mono (by decide)) (by rfl) F.g_Table F.b_tinit .nil pass0 (pa_cons (pv 1) (pa_cons (pv 2) (pa_cons (pv 3) (pa_cons (pv 4) pa_nil)))))))),
    (den_seq (den_asg (den_call (den_cons den_var den_nil)) (den_gTup (den_gCons den_gName (den_gCons den_gName (den_gCons den_gName (den_gCons den_gName den_gNil))))))
      (den_ret (den_make (den_cons den_var (den_cons den_var (den_cons den_var (den_cons den_var den_nil)))))))⟩

def m_lsame (rec : List D → Option D) : FS :=
  (sSeq (sIf (fOrT (fTest (fIsi "list" (fVar 1))) (fTest (fIsi "tuple" (fVar 1)))) (sSeq (sIf (fOrT (fTest (fOp gNe (fIsi "list" (fVar 0)) (fIsi "list" (fVar 1)))) (fTest (fOp gNe (fIsi "tuple" (fVar 0)) (fIsi "tuple" (fVar 1))))) (sRet (fC (.bl false))) sNext)
    (sRet (fAndV (fOp gEq (fCall gLenQ (fCons (fVar 0) fNil)) (fCall gLenQ (fCons (fVar 1) fNil))) (fCall gAll (fCons (fLc (iR1 (fCons (fCall gLenQ (fCons (fVar 1) fNil)) fNil)) (mName 2) (fun _ => some true) (fCallN 2 rec (fCons (fOp gIxA (fVar 0) (fVar 2)) (fCons (fOp gIxA (fVar 1) (fVar 2)) fNil))) [2]) fNil))))) sNext)
    (sSeq (sIf (fOrT (fTest (fOp gIsN (fVar 1) (fC .non))) (fTest (fOp gIsN (fVar 0) (fC .non)))) (sRet (fAndV (fOp gIsN (fVar 0) (fC .non)) (fOp gIsN (fVar 1) (fC .non)))) sNext)
    (sSeq (sIf (fOrT (fTest (fOp gNe (fIsi "bool" (fVar 0)) (fIsi "bool" (fVar 1)))) (fTest (fOp gNe (fIsi "int" (fVar 0)) (fIsi "int" (fVar 1))))) (sRet (fC (.bl false))) sNext)
    (sRet (fAndV (fOp gEq (fIsi "str" (fVar 0)) (fIsi "str" (fVar 1))) (fOp gEq (fVar 0) (fVar 1)))))))
def fr_lsame : Nat → List D → Option D
  | 0 => fun _ => none
  | k + 1 => runF n_lsame.length (m_lsame (fr_lsame k))
theorem okr_lsame (F : Fa K mg ad fd) (T : Bl mg) : ∀ k, FnOk P w K mg base CX0 (k + 1) (ad 56) (fd 56) p_lsame (spF K 2 (fr_lsame k))
  | 0 => fn_none F.F_lsame sc_lsame
  | k + 1 => by

    have G_rec := okr_lsame F T k
    exact fn_den F.F_lsame sc_lsame fun cdv A outer s H E hr => ⟨_, PSs.nox (pss_cons (ps_if (PW.pt (pw_or (pt_val (pe_callB call_isi (by rfl) T.m_isinstance (by decide +kernel) (pa_cons (pv 1) (pa_cons (pe_bltn (v := .ty "list") (by rfl) T.m_list (by decide +kernel) rfl) pa_nil)))) (pw_or1 (pt_val (pe_callB call_isi (by rfl) T.m_isinstance (by decide +kernel) (pa_cons (pv 1) (pa_cons (pe_bltn (v := .ty "tuple") (by rfl) T.m_tuple (by decide +kernel) rfl) pa_nil))))))) (pss_cons (ps_if (PW.pt (pw_or (pt_cmpR (op_NE hr.units) (pe_callB call_isi (by rfl) T.m_isinstance (by decide +kernel) (pa_cons (pv 0) (pa_cons (pe_bltn (v := .ty "list") (by rfl) T.m_list (by decide +kernel) rfl) pa_nil))) (pe_callB call_isi (by rfl) T.m_isinstance (by decide +kernel) (pa_cons (pv 1) (pa_cons (pe_bltn (v := .ty "list") (by rfl) T.m_list (by decide +kernel) rfl) pa_nil))) (nomark _)) (pw_or1 (pt_cmpR (op_NE hr.units) (pe_callB call_isi (by rfl) T.m_isinstance (by decide +kernel) (pa_cons (pv 0) (pa_cons (pe_bltn (v := .ty "tuple") (by rfl) T.m_tuple (by decide +kernel) rfl) pa_nil))) (pe_callB call_isi (by rfl) T.m_isinstance (by decide +kernel) (pa_cons (pv 1) (pa_cons (pe_bltn (v := .ty "tuple") (by rfl) T.m_tuple (by decide +kernel) rfl) pa_nil))) (nomark _))))) (pss_one (ps_ret pe_bl)) pss_nil)
      (pss_one (ps_ret (pe_and (pe_cmpR (op_EQ hr.units) (pe_callB call_len_seq (by rfl) T.m_len PySem.boot_len (pa_cons (pv 0) pa_nil)) (pe_callB call_len_seq (by rfl) T.m_len PySem.boot_len (pa_cons (pv 1) pa_nil)) (nomark _)) (pe_one (pe_callB (cr_all rfl) (by rfl) T.m_all (by decide +kernel) (pa_cons (pe_lc (own := [("_law_k", 2)]) rfl sc_lsame.nd (pi_range1 rfl T.m_range (pa_cons (pe_callB call_len_seq (by rfl) T.m_len PySem.boot_len (pa_cons (pv 1) pa_nil)) pa_nil)) (blkOk_by (N := n_lsame) (sc := defScope s_lsame) (by decide +kernel)) (fun _ _ _ _ _ => (pg_name (i := 2) sc_lsame.nd rfl (by first | exact .inl rfl | exact .inr rfl))) (fun _ _ _ _ _ => pts_nil) (fun _ _ _ _ _ => (pe_call G_rec (hr.mono (by omega)) (by rfl) F.g_lsame F.F_lsame.kp F.b_lsame .nil pass0 (pa_cons (pe_ix (r := rIx K) ix_seq (pv 0) (pv 2) (fun _ _ => rfl)) (pa_cons (pe_ix (r := rIx K) ix_seq (pv 1) (pv 2) (fun _ _ => rfl)) pa_nil))))) pa_nil))))))) pss_nil)
      (pss_cons (ps_if (PW.pt (pw_or (pt_cmpR op_isN (pv 1) pe_non (nomark _)) (pw_or1 (pt_cmpR op_isN (pv 0) pe_non (nomark _))))) (pss_one (ps_ret (pe_and (pe_cmpR op_isN (pv 0) pe_non (nomark _)) (pe_one (pe_cmpR op_isN (pv 1) pe_non (nomark _)))))) pss_nil)
      (pss_cons (ps_if (PW.pt (pw_or (pt_cmpR (op_NE hr.units) (pe_callB call_isi (by rfl) T.m_isinstance (by decide +kernel) (pa_cons (pv 0) (pa_cons (pe_bltn (v := .ty "bool") (by rfl) T.m_bool (by decide +kernel) rfl) pa_nil))) (pe_callB call_isi (by rfl) T.m_isinstance (by decide +kernel) (pa_cons (pv 1) (pa_cons (pe_bltn (v := .ty "bool") (by rfl) T.m_bool (by decide +kernel) rfl) pa_nil))) (nomark _)) (pw_or1 (pt_cmpR (op_NE hr.units) (pe_callB call_isi (by rfl) T.m_isinstance (by decide +kernel) (pa_cons (pv 0) (pa_cons (pe_bltn (v := .ty "int") (by rfl) T.m_int (by decide +kernel) rfl) pa_nil))) (pe_callB call_isi (by rfl) T.m_isinstance (by decide +kernel) (pa_cons (pv 1) (pa_cons (pe_bltn (v := .ty "int") (by rfl) T.m_int (by decide +kernel) rfl) pa_nil))) (nomark _))))) (pss_one (ps_ret pe_bl)) pss_nil)
      (pss_one (ps_ret (pe_and (pe_cmpR (op_EQ hr.units) (pe_callB call_isi (by rfl) T.m_isinstance (by decide +kernel) (pa_cons (pv 0) (pa_cons (pe_bltn (v := .ty "str") (by rfl) T.m_str (by decide +kernel) rfl) pa_nil))) (pe_callB call_isi (by rfl) T.m_isinstance (by decide +kernel) (pa_cons (pv 1) (pa_cons (pe_bltn (v := .ty "str") (by rfl) T.m_str (by decide +kernel) rfl) pa_nil))) (nomark _)) (pe_one (pe_cmpR (op_EQ hr.units) (pv 0) (pv 1) (nomark _))))))))),
    (den_seq (den_ifS (den_orT (den_tb (den_isi den_var)) (den_tb (den_isi den_var))) (den_seq (den_ifS (den_orT (den_test (den_op opd_ne (den_isi den_var) (den_isi den_var))) (den_test (den_op opd_ne (den_isi den_var) (den_isi den_var)))) (den_ret den_bl) den_next)
      (den_ret (den_andV (den_op opd_eq (den_cb cad_lenQ (den_cons den_var den_nil)) (den_cb cad_lenQ (den_cons den_var den_nil))) (den_cb cad_all (den_cons (den_lc (den_iR1 (den_cons (den_cb cad_lenQ (den_cons den_var den_nil)) den_nil)) den_gName (own_name (by decide)) den_tYes (den_call (den_cons (den_op opd_ixA den_var den_var) (den_cons (den_op opd_ixA den_var den_var) den_nil)))) den_nil))))) den_next)
      (den_seq (den_ifS (den_orT (den_test (den_op opd_isN den_var den_non)) (den_test (den_op opd_isN den_var den_non))) (den_ret (den_andV (den_op opd_isN den_var den_non) (den_op opd_isN den_var den_non))) den_next)
      (den_seq (den_ifS (den_orT (den_test (den_op opd_ne (den_isi den_var) (den_isi den_var))) (den_test (den_op opd_ne (den_isi den_var) (den_isi den_var)))) (den_ret den_bl) den_next)
      (den_ret (den_andV (den_op opd_eq (den_isi den_var) (den_isi den_var)) (den_op opd_eq den_var den_var))))))⟩

end
end KK
end

section
set_option Elab.async false
set_option linter.all false
set_option maxRecDepth 100000
/-! M6: the table made; what is held against one another. -/
namespace KK
open PySem PySem.Spec PyProof.Rows L2 KW DL
open KwRing (Tab)
theorem w_tinit {ks : List Str} {t : Tab} (h : TT ks t) {L : List (List (List Nat))} (hL : Lines ks.length L) (hg : t.grid = L.map (·.map bitsN)) : fx_tinit [.lst (strL ks), .str (nm ks t.same), kl ks t.backs, stD ks L] = some (tabF ks t) := by
  unfold fx_tinit
  simp only
  rw [w_placed h.nms h.law.wf h.hm hL hg, Option.bind_some]
  simp only
  rw [w_ffirst h.law, Option.bind_some, w_nfault, Option.bind_some]
  simp only
  rw [w_pbn h.nms]
  rfl
/-- trees of texts and lists, so many levels deep -/
inductive Sm : Nat → D → Prop
  | str {k : Nat} {x : Str} : Sm (k + 1) (.str x)
  | lst {k : Nat} {ds : List D} : (∀ d ∈ ds, Sm k d) → ds.length ≤ 100000 → Sm (k + 1) (.lst ds)
theorem gEq_str {x : Str} : gEq (.str x) (.str x) = some (.bl true) := by
  show some (D.bl (eqSD (.str x) (.str x))) = some (D.bl true)
  congr 2
  unfold eqSD
  simp
theorem w_lsame {k : Nat} {d : D} (h : Sm k d) : fr_lsame k [d, d] = some (.bl true) := by
  induction h with
  | @str k x =>
    refine runF_rt ?_
    show m_lsame (fr_lsame k) [some (.pur (.str x)), some (.pur (.str x)), none] = _
    refine seq_nx (ρ' := [some (.pur (.str x)), some (.pur (.str x)), none]) (sIf_f (fOrT_f (fTest_eq rfl) (fTest_eq rfl)) rfl) (seq_nx (ρ' := [some (.pur (.str x)), some (.pur (.str x)), none]) (sIf_f (fOrT_f (fTest_eq (fOp_eq (x := .str x) (y := .non) rfl rfl rfl)) (fTest_eq (fOp_eq (x := .str x) (y := .non) rfl rfl rfl))) rfl) (seq_nx (ρ' := [some (.pur (.str x)), some (.pur (.str x)), none]) (sIf_f (fOrT_f (fTest_eq (fOp_eq (x := .bl false) (y := .bl false) rfl rfl rfl)) (fTest_eq (fOp_eq (x := .bl false) (y := .bl false) rfl rfl rfl))) rfl) (sRet_eq (fAndV_t (fOp_eq (x := .bl true) (y := .bl true) rfl rfl rfl) (fOp_eq rfl rfl gEq_str)))))
  | @lst k ds h hl ih =>
    refine runF_rt ?_
    show m_lsame (fr_lsame k) [some (.pur (.lst ds)), some (.pur (.lst ds)), none] = _
    refine sSeq_rt (sIf_t (fOrT_t (fTest_eq rfl)) (seq_nx (ρ' := [some (.pur (.lst ds)), some (.pur (.lst ds)), none]) (sIf_f (fOrT_f (fTest_eq (fOp_eq (x := .bl true) (y := .bl true) rfl rfl rfl)) (fTest_eq (fOp_eq (x := .bl false) (y := .bl false) rfl rfl rfl))) rfl) (sRet_eq (fAndV_t (fOp_eq (x := nat ds.length) (y := nat ds.length) rfl rfl (by rw [eq_nat]; simp)) ?_))))
    refine fCall_eq (fCons_eq (fLc_list (l := List.range ds.length) (f := nat) (g := fun _ => .bl true) (iR1_eq (fCons_eq (fCall_eq (xs := [.lst ds]) rfl rfl) rfl) hl) (by rw [List.length_range]; exact hl) fun i hi => turn_one rfl ?_) rfl) (gAll_true _)
    have hi := List.mem_range.mp hi
    have hx : ds[i]? = some ds[i] := List.getElem?_eq_getElem hi
    exact fCallN_eq (xs := [ds[i], ds[i]]) (fCons_eq (fOp_eq (x := .lst ds) (y := nat i) rfl rfl (gIxL_nat hx)) (fCons_eq (fOp_eq (x := .lst ds) (y := nat i) rfl rfl (gIxL_nat hx)) rfl)) rfl (ih _ (List.getElem_mem hi))
theorem sm_kl {k : Nat} {ks : List Str} {l : List Nat} (h : l.length ≤ 100000) : Sm (k + 2) (kl ks l) := .lst (fun d hd => by
  obtain ⟨i, _, rfl⟩ := List.mem_map.mp hd
  exact .str) (by rw [List.length_map]; exact h)
end KK
end

section
set_option Elab.async false
set_option linter.all false
set_option maxRecDepth 100000
/-! M7: the law's own dict of a table; handed; made. -/
namespace KK
open PySem PySem.Spec PyProof.Rows L2 KW DL
open KwRing (Tab)
def ldD (ks : List Str) (t : Tab) (bk : List (Key × D)) (st : List (List Key × D)) : D := .dic [(.inr "kinds", .lst (strL ks)), (.inr "same", .str (nm ks t.same)), (.inr "back", .dic bk), (.inr "step", .dit st)]
/-- d is the law's dict of the table -/
structure LD (ks : List Str) (t : Tab) (d : D) : Prop where
  tt : TT ks t
  ex : ∃ bk st, d = ldD ks t bk st ∧ (∀ i, i < ks.length → valD bk (Sum.inr (nm ks i) : Key) = some (.str (nm ks (t.b i)))) ∧ ∀ i j, i < ks.length → j < ks.length → valD st [Sum.inr (nm ks i), Sum.inr (nm ks j)] = some (kl ks (inO ks.length (t.g i j)))
theorem strL_eq (ks : List Str) : strL ks = (List.range ks.length).map fun i => D.str (nm ks i) := by
  unfold strL
  apply List.ext_getElem?
  intro i
  rw [List.getElem?_map, List.getElem?_map]
  by_cases h : i < ks.length
  · rw [List.getElem?_range h, nm_get h]
    rfl
  · rw [List.getElem?_eq_none (by omega), List.getElem?_eq_none (by rw [List.length_range]; omega)]
    rfl
theorem grid_eq {t : Tab} (wf : WF t) {f : Nat → Nat → List Nat} (h : ∀ i j, i < t.m → j < t.m → bitsN (f i j) = t.g i j) : t.grid = ((List.range t.m).map fun i => (List.range t.m).map (f i)).map (·.map bitsN) := by
  apply List.ext_getElem?
  intro i
  by_cases hi : i < t.m
  · obtain ⟨r, h1, h2, _, h4⟩ := wf.row hi
    rw [h1, List.getElem?_map, List.getElem?_map, List.getElem?_range hi]
    show some r = some (((List.range t.m).map (f i)).map bitsN)
    congr 1
    apply List.ext_getElem?
    intro j
    by_cases hj : j < t.m
    · rw [List.map_map, List.getElem?_map, List.getElem?_range hj]
      show r[j]? = some (bitsN (f i j))
      rw [h i j hi hj, ← h4 j, List.getD_eq_getElem?_getD, List.getElem?_eq_getElem (by omega)]
      rfl
    · rw [List.getElem?_eq_none (by omega), List.getElem?_eq_none (by rw [List.length_map, List.length_map, List.length_range]; omega)]
  · rw [List.getElem?_eq_none (by rw [wf.gl]; omega), List.getElem?_eq_none (by rw [List.length_map, List.length_map, List.length_range]; omega)]
theorem backs_eq {t : Tab} (wf : WF t) : t.backs = (List.range t.m).map t.b := by
  apply List.ext_getElem?
  intro i
  by_cases hi : i < t.m
  · rw [List.getElem?_map, List.getElem?_range hi, List.getElem?_eq_getElem (by rw [wf.bl]; exact hi)]
    show _ = some (t.b i)
    unfold KwRing.Tab.b
    rw [List.getD_eq_getElem?_getD, List.getElem?_eq_getElem (by rw [wf.bl]; exact hi)]
    rfl
  · rw [List.getElem?_eq_none (by rw [wf.bl]; omega), List.getElem?_eq_none (by rw [List.length_map, List.length_range]; omega)]
theorem w_lmade {C : Addr} {ks : List Str} {t : Tab} {d : D} (h : LD ks t d) : fn_lmade C [d] = some (tabD C ks t) := by
  have l13 := h.tt.nms.l13
  have hm := h.tt.hm
  have wf := h.tt.law.wf
  obtain ⟨bk, st, rfl, hb, hs⟩ := h.ex
  let f : Nat → Nat → List Nat := fun i j => inO ks.length (t.g i j)
  have hf : ∀ i j, i < ks.length → j < ks.length → valD st [Sum.inr (nm ks i), Sum.inr (nm ks j)] = some (kl ks (f i j)) ∧ (f i j).length ≤ 1000 ∧ (∀ k ∈ f i j, k < ks.length) ∧ bitsN (f i j) = t.g i j := fun i j hi hj => ⟨hs i j hi hj, Nat.le_trans inO_len (by omega), fun k hk => inO_lt k hk, bits_in fun k hk => by
    have := test_lt (wf.gr i j (by omega) (by omega)) hk
    omega⟩
  let L : List (List (List Nat)) := (List.range ks.length).map fun i => (List.range ks.length).map (f i)
  have hL : Lines ks.length L := by
    refine ⟨by rw [List.length_map, List.length_range], fun r hr => ?_, fun r hr l hl => ?_⟩
    · obtain ⟨i, _, rfl⟩ := List.mem_map.mp hr
      rw [List.length_map, List.length_range]
    · obtain ⟨i, hi, rfl⟩ := List.mem_map.mp hr
      obtain ⟨j, hj, rfl⟩ := List.mem_map.mp hl
      have z := hf i j (List.mem_range.mp hi) (List.mem_range.mp hj)
      exact ⟨z.2.1, z.2.2.1⟩
  have hg : t.grid = L.map (·.map bitsN) := by
    have := grid_eq wf (f := f) fun i j hi hj => (hf i j (by omega) (by omega)).2.2.2
    rw [hm] at this
    exact this
  have rng : ∀ (i : Nat), i ∈ List.range ks.length → i < ks.length := fun i hi => List.mem_range.mp hi
  have lines : fn_llines [ldD ks t bk st] = some (stD ks L) := by
    refine runF_rt (sRet_eq ?_)
    unfold stD
    rw [List.map_map]
    refine fLc_list (l := List.range ks.length) (f := fun i => .str (nm ks i)) (iL_eq (by rw [← strL_eq]; rfl)) (by rw [List.length_range]; omega) fun i hi => turn_one rfl ?_
    show _ = some (D.lst (((List.range ks.length).map (f i)).map (kl ks)))
    rw [List.map_map]
    refine fLc_list (l := List.range ks.length) (f := fun i => .str (nm ks i)) (iL_eq (by rw [← strL_eq]; rfl)) (by rw [List.length_range]; omega) fun j hj => turn_one rfl ?_
    have z := hf i j (rng i hi) (rng j hj)
    refine fCall_eq (xs := [kl ks (f i j)]) (fCons_eq (fOp_eq (x := .dit st) (y := .tup [.str (nm ks i), .str (nm ks j)]) rfl rfl ?_) rfl) rfl
    show (some (valD st [Sum.inr (nm ks i), Sum.inr (nm ks j)])).bind id = _
    rw [z.1]
    rfl
  have hand : fn_lhand [ldD ks t bk st] = some (.tup [.lst (strL ks), .str (nm ks t.same), kl ks t.backs, stD ks L]) := by
    refine runF_rt (sRet_eq (fTup_eq (xs := [.lst (strL ks), .str (nm ks t.same), kl ks t.backs, stD ks L]) (fCons_eq (fCall_eq (xs := [.lst (strL ks)]) rfl rfl) (fCons_eq rfl (fCons_eq ?_ (fCons_eq (fCallN_eq (xs := [ldD ks t bk st]) rfl rfl lines) rfl)))) (by show 4 ≤ _; omega)))
    unfold kl
    rw [backs_eq wf, hm, List.map_map]
    refine fLc_list (l := List.range ks.length) (f := fun i => .str (nm ks i)) (iL_eq (by rw [← strL_eq]; rfl)) (by rw [List.length_range]; omega) fun i hi => turn_one rfl (fOp_eq (x := .dic bk) (y := .str (nm ks i)) rfl rfl ?_)
    show (some (valD bk (Sum.inr (nm ks i) : Key))).bind id = _
    rw [hb i (rng i hi)]
    rfl
  refine runF_rt (seq_nx (ρ' := [some (.pur (ldD ks t bk st)), some (.pur (.lst (strL ks))), some (.pur (.str (nm ks t.same))), some (.pur (kl ks t.backs)), some (.pur (stD ks L))]) (sAsg_eq (fCallN_eq (xs := [ldD ks t bk st]) rfl rfl hand) rfl) (sRet_eq ?_))
  show (Option.bind (some [_, _, _, _]) fun ds => if ds.length = 4 then (fx_tinit ds).map (D.ins C) else none) = _
  rw [Option.bind_some, if_pos (show ([_, _, _, _] : List D).length = 4 from rfl), w_tinit h.tt hL hg]
  rfl
end KK
end

section
set_option Elab.async false
set_option linter.all false
set_option maxRecDepth 100000
/-! M8a: helpers -/
namespace KK
open PySem PySem.Spec PyProof.Rows L2 KW DL
open KwRing (Tab)
theorem strL_get {ks : List Str} {i : Nat} (h : i < ks.length) : (strL ks)[i]? = some (.str (nm ks i)) := by
  unfold strL
  rw [List.getElem?_map, nm_get h]
  rfl
theorem strL_len (ks : List Str) : (strL ks).length = ks.length := List.length_map _
theorem int_of {r : Int} (h : 0 ≤ r) : D.int r = nat r.toNat := by
  show D.int r = D.int (r.toNat : Int)
  congr 1
  omega
theorem wIf_T {ft : FT} {m n : WS} {ρ : En} {P : Ctl → Prop} (h : ft ρ = some true) (h2 : m ρ P) : wIf (DL.wT ft) m n ρ P := ⟨true, h, by
  show (if true = true then m ρ P else n ρ P)
  rw [if_pos rfl]
  exact h2⟩
theorem wIf_F {ft : FT} {m n : WS} {ρ : En} {P : Ctl → Prop} (h : ft ρ = some false) (h2 : n ρ P) : wIf (DL.wT ft) m n ρ P := ⟨false, h, by
  show (if false = true then m ρ P else n ρ P)
  rw [if_neg (by decide)]
  exact h2⟩
theorem wSeq_i {m n : WS} {ρ : En} {P : Ctl → Prop} (h : m ρ (fun c => match c with
  | .nx ρ' => n ρ' P
  | c => P c)) : wSeq m n ρ P := h
theorem fAndT_t {ft fu : FT} {ρ : En} {b : Bool} (h : ft ρ = some true) (h2 : fu ρ = some b) : fAndT ft fu ρ = some b := by
  unfold fAndT
  rw [h, Option.bind_some]
  exact h2
theorem fAndT_f {ft fu : FT} {ρ : En} (h : ft ρ = some false) : fAndT ft fu ρ = some false := by
  unfold fAndT
  rw [h, Option.bind_some]
  rfl
theorem kl_one {ks : List Str} {i : Nat} : D.lst [.str (nm ks i)] = kl ks [i] := rfl
end KK
end

section
set_option Elab.async false
set_option linter.all false
set_option maxRecDepth 100000
/-! M9a: names apart -/
namespace KK
open PySem PySem.Spec PyProof.Rows L2 KW DL
open KwRing (Tab)
theorem nm_inj {ks : List Str} (nd : ks.Nodup) {i j : Nat} (hi : i < ks.length) (hj : j < ks.length) (e : nm ks i = nm ks j) : i = j := by
  unfold nm at e
  rw [List.getD_eq_getElem?_getD, List.getD_eq_getElem?_getD, List.getElem?_eq_getElem hi, List.getElem?_eq_getElem hj] at e
  exact (List.getElem_inj nd).mp e
end KK
end

section
set_option Elab.async false
set_option linter.all false
set_option maxRecDepth 100000
/-! M10: lists of names held against one another by == and !=. -/
namespace KK
open PySem PySem.Spec PyProof.Rows L2 KW DL
theorem toPys_strs : ∀ zs : List Str, toPys (zs.map D.str) = some (zs.map PyData.str)
  | [] => by
    unfold toPys
    rfl
  | z :: zs => by
    rw [List.map_cons]
    unfold toPys
    rw [toPys_strs zs]
    unfold toPy
    rfl
theorem depth_strs : ∀ zs : List Str, PyData.depthAll (zs.map PyData.str) = 0
  | [] => rfl
  | z :: zs => by
    rw [List.map_cons]
    unfold PyData.depthAll
    rw [depth_strs zs]
    rfl
theorem lay_strs : ∀ {zs : List Str}, (∀ z ∈ zs, NameS z) → PyData.canLayAll0 (zs.map PyData.str) = true
  | [], _ => rfl
  | z :: zs, h => by
    rw [List.map_cons]
    unfold PyData.canLayAll0
    rw [lay_strs fun y hy => h y (List.mem_cons_of_mem _ hy), Bool.and_true]
    obtain ⟨h1, h2, h3⟩ := h z List.mem_cons_self
    unfold PyData.canLay0
    show z.cps.all (fun c => decide (c < 0x110000)) = true
    rw [← Array.all_toList, List.all_eq_true]
    intro c hc
    have := h3 c hc
    exact decide_eq_true (by omega)
theorem eqv_strs : ∀ {xs ys : List Str}, PyData.eqvAll (xs.map PyData.str) (ys.map PyData.str) = decide (xs = ys)
  | [], [] => rfl
  | [], _ :: _ => rfl
  | _ :: _, [] => rfl
  | x :: xs, y :: ys => by
    rw [List.map_cons, List.map_cons]
    unfold PyData.eqvAll
    rw [eqv_strs]
    unfold PyData.eqv
    rw [Bool.eq_iff_iff]
    simp
theorem eqD_strs {xs ys : List Str} (hx : ∀ z ∈ xs, NameS z) (hy : ∀ z ∈ ys, NameS z) : eqD (.lst (xs.map D.str)) (.lst (ys.map D.str)) = some (decide (xs = ys)) := by
  have sh : ∀ {zs : List Str}, (∀ z ∈ zs, NameS z) → SeqAt.shaped (.list (zs.map PyData.str)) = true := fun {zs} hz => by
    unfold SeqAt.shaped PyData.canLay0 PyData.depth
    rw [lay_strs hz, depth_strs]
    rfl
  have tp : ∀ zs : List Str, toPy (.lst (zs.map D.str)) = some (.list (zs.map PyData.str)) := fun zs => by
    unfold toPy
    rw [toPys_strs]
    rfl
  unfold eqD
  rw [if_neg (by show ¬ (false = true); decide), tp, tp, Option.bind_some, Option.bind_some, sh hx, sh hy, if_pos (show (true && true) = true from rfl)]
  unfold PyData.eqv
  rw [eqv_strs]
theorem kl_strs {ks : List Str} (l : List Nat) : kl ks l = .lst ((l.map (nm ks)).map D.str) := by
  unfold kl
  rw [List.map_map]
  rfl
theorem nm_name {ks : List Str} (h : Nms ks) {i : Nat} (hi : i < ks.length) : NameS (nm ks i) := h.nm _ (List.mem_of_getElem? (nm_get hi))
theorem ne_nil {ks : List Str} (h : Nms ks) {l : List Nat} (hl : ∀ i ∈ l, i < ks.length) : gNe (kl ks l) (.lst []) = some (.bl (!l.isEmpty)) := by
  unfold gNe
  rw [kl_strs, show D.lst [] = D.lst (([] : List Str).map D.str) from rfl, eqD_strs (fun z hz => ?_) (fun z hz => by cases hz)]
  · cases l <;> rfl
  · obtain ⟨i, hi, rfl⟩ := List.mem_map.mp hz
    exact nm_name h (hl i hi)
theorem eq_self {ks : List Str} (h : Nms ks) {l : List Nat} (hl : ∀ i ∈ l, i < ks.length) : gEq (kl ks l) (kl ks l) = some (.bl true) := by
  have z : ∀ y ∈ l.map (nm ks), NameS y := fun y hy => by
    obtain ⟨i, hi, rfl⟩ := List.mem_map.mp hy
    exact nm_name h (hl i hi)
  unfold gEq
  rw [kl_strs, eqD_strs z z]
  simp
end KK
end

section
set_option Elab.async false
set_option linter.all false
set_option maxRecDepth 100000
set_option maxHeartbeats 1000000
/-! dict(zip(xs, ys)), the keys tuples of ints and texts. -/
namespace KW
open PySem PySem.Spec PyProof.Rows L2
def mergeT (kvs more : List (List Key × V)) : List (List Key × V) := more.foldl (fun acc kv => putK acc kv.1 kv.2) kvs
theorem KT_merge {H : Hp} : ∀ {more : List (List Key × V)} {rs : List (List Key × Addr × Value)} {kvs : List (List Key × V)} {vs : List (List Key × Addr × Value)}, KT H more rs → KT H kvs vs → KT H (mergeT kvs more) (storedAllH vs rs)
  | _, _, _, _, .nil, t => t
  | _, _, kvs, vs, .cons (a := p) (b := q) (l₁ := more) (l₂ := rs) h r, t => by
    show KT H (mergeT (putK kvs p.1 p.2) more) (storedAllH (storedH vs q.1 q.2.1 q.2.2) rs)
    refine KT_merge r ?_
    rw [← h.1]
    exact t.put p.1 h.2.1 h.2.2
theorem length_mergeT : ∀ (more kvs : List (List Key × V)), (mergeT kvs more).length ≤ kvs.length + more.length
  | [], kvs => by
    show kvs.length ≤ _
    simp
  | kv :: more, kvs => by
    have h := length_mergeT more (putK kvs kv.1 kv.2)
    have h2 := length_putK kvs kv.1 kv.2
    show (mergeT (putK kvs kv.1 kv.2) more).length ≤ _
    rw [List.length_cons]
    omega
def tDzT (K : PySem.W.Frag) (ta : TA) : TE := fun σ H Q => ta σ H fun vs H1 => ∃ (a b : Addr) (xs ys : List V) (kvs : List (List Key × Addr × V)), vs = [.ref a, .ref b] ∧ SqL K H1 a xs ∧ SqL K H1 b ys ∧ xs.zip ys = kvs.map (fun kv => (V.ref kv.2.1, kv.2.2)) ∧ (∀ kv ∈ kvs, H1 kv.2.1 = some (.tup (kv.1.map kV))) ∧
  ∀ p, H1 p = none → Q (.ref p) (upd H1 p (.dT (mergeT [] (kvs.map fun kv => (kv.1, kv.2.2)))))
theorem zip_kt {H : Hp} : ∀ {xs ys : List V} {us ws : List Value} {kvs : List (List Key × Addr × V)}, Vals xs us → Vals ys ws → xs.zip ys = kvs.map (fun kv => (V.ref kv.2.1, kv.2.2)) → (∀ kv ∈ kvs, H kv.2.1 = some (.tup (kv.1.map kV))) →
    ∃ prs : List (List Key × Addr × Value), KT H (kvs.map fun kv => (kv.1, kv.2.2)) prs ∧ prs.length = min us.length ws.length ∧ (∀ x ∈ prs, H x.2.1 = some (.tup (x.1.map kV))) ∧ ∀ (i : Nat) (k v : Value), us[i]? = some k → ws[i]? = some v → ∃ q b, prs[i]? = some (q, b, v) ∧ k = .ref b
  | _, _, _, _, kvs, .nil, r, e, _ => by
    rw [List.zip_nil_left] at e
    have z : kvs = [] := by
      cases kvs with
      | nil => rfl
      | cons _ _ => cases e
    subst z
    exact ⟨[], .nil, by simp, fun x hx => by simp at hx, fun i k v h => by simp at h⟩
  | _, _, _, _, kvs, .cons r t, .nil, e, _ => by
    rw [List.zip_nil_right] at e
    have z : kvs = [] := by
      cases kvs with
      | nil => rfl
      | cons _ _ => cases e
    subst z
    exact ⟨[], .nil, by simp, fun x hx => by simp at hx, fun i k v _ h => by simp at h⟩
  | x :: xs, y :: ys, u :: us, w :: ws, kvs, .cons r t, .cons r' t', e, hh => by
    cases kvs with
    | nil => cases e
    | cons kv kvs =>
      rw [List.zip_cons_cons, List.map_cons] at e
      injection e with e1 e2
      injection e1 with e3 e4
      obtain ⟨prs, h1, h2, h4, h3⟩ := zip_kt t t' e2 fun kv h => hh kv (List.mem_cons_of_mem _ h)
      subst e3
      subst e4
      have hu : u = .ref kv.2.1 := r
      have hk := hh kv List.mem_cons_self
      refine ⟨(kv.1, kv.2.1, w) :: prs, .cons ⟨rfl, hk, r'⟩ h1, by simp only [List.length_cons]; omega, fun x hx => ?_, fun i k v hk hv => ?_⟩
      · rcases List.mem_cons.mp hx with rfl | hx
        · exact hk
        · exact h4 x hx
      · cases i with
        | zero =>
          have hk' : u = k := by simpa using hk
          have hv' : w = v := by simpa using hv
          subst hk'
          subst hv'
          exact ⟨kv.1, kv.2.1, rfl, hu⟩
        | succ i => exact h3 i k v (by simpa using hk) (by simpa using hv)
section
variable {X : Cx}
theorem pe_dictzipT {e e2 : Expr} {ta : TA} {p p2 q pos : Pos} (hu : X.A.units + 65 < cLine) (hc : X.calm = true) (hg : Gl X "dict") (hm : X.mg "dict" = none) (hg2 : Gl X "zip") (hm2 : X.mg "zip" = none) (ha : PA X [e, e2] ta)
    (na : starEach [Expr.Call (.Name "zip" p2) [e, e2] [] q] X.env = (false, eval (.Call (.Name "zip" p2) [e, e2] [] q) X.env) :: starEach [] X.env := by rfl)
    (hs : starEach [e, e2] X.env = (false, eval e X.env) :: starEach [e2] X.env := by rfl) (hpl : (backTo q (starEach [e2] X.env)).any (·.1) = false := by rfl) :
    PE X (.Call (.Name "dict" p) [.Call (.Name "zip" p2) [e, e2] [] q] [] pos) (tDzT X.K ta) := by
  refine ⟨fun pins s σ H Q I h => ?_⟩
  refine Call_ (ld_blt I hg hm (by decide +kernel : bootBuiltins "dict" = some (.type "dict")) ?_)
  refine PyProof.Rows.callWith_type1 (PyProof.Rows.args_cons ?_ na) na rfl
  refine Call_ (ld_blt I hg2 hm2 PyProof.Rows.boot_zip (PyProof.Rows.callWith_type1 (thn (ha.run q pins s σ H _ I h) fun us s1 ⟨vs, H1, I1, r1, q1⟩ => ?_) hs hpl))
  obtain ⟨a, b, xs, ys, kvs, ex, hqx, hqy, hz, hh, q1⟩ := q1
  subst ex
  cases r1 with
  | cons r rr =>
    cases rr with
    | cons r' rr =>
      cases rr
      cases r
      cases r'
      obtain ⟨its, rv, pl1, hz1⟩ := I1.list hqx
      obtain ⟨its2, rv2, pl2, _⟩ := I1.list hqy
      have la : a < s1.heap.objs.size := pl1.lt
      have lb : b < s1.heap.objs.size := pl2.lt
      refine call_zip_2 pl1.isList pl2.isList fun h' kz kI kO k1 k2 hsz hk => PyProof.Rows.args_nil ?_
      obtain ⟨prs, rel, hl, hkey, hp⟩ := zip_kt (H := H1) rv rv2 hz hh
      have hn : min its.toArray.size its2.toArray.size ≤ sizeLine := by
        have z := rv.length
        rw [List.size_toArray]
        omega
      have up : ∀ {c : Addr}, c < s1.heap.objs.size → ∀ n : Nat, c ≠ s1.heap.objs.size + n := fun lc n => Nat.ne_of_lt (Nat.lt_of_lt_of_le lc (Nat.le_add_right _ _))
      refine PySem.call_dict_pairsH (knd := tupleKind (mixKind X.prog X.w)) (ps := prs) (PairArg.zip (s1.heap.objs.size + 4) (s1.heap.objs.size + 2) (s1.heap.objs.size + 3) s1.heap.objs.size (s1.heap.objs.size + 1) a b (PySem.W.ktu_apart s1.heap.objs.size a b la lb) its.toArray its2.toArray)
        (I1.ok.hd hc) (show X.A.in1.in1.units < cLine from by simp only [Around.in1]; omega) ⟨kz, kI, ⟨_, _, kO⟩, k1, k2, pl1.isList.at fun o z => hk _ o z, pl2.isList.at fun o z => hk _ o z⟩ ⟨by simpa using hl, fun i key v hv => ?_⟩ (fun h2 hk2 x hx => ?_) hn fun h2 tk hd2 kk => ?_
      · obtain ⟨q2, b2, e1, e2⟩ := hp i key v (by simpa using hv.1) (by simpa using hv.2)
        exact ⟨q2, b2, e1, e2⟩
      · obtain ⟨o, its3, n3, z1, z2⟩ := key_of I1.hok (hkey x hx)
        have lc : x.2.1 < s1.heap.objs.size := Heap.lt_size z1
        refine ⟨o, its3, n3, hk2 _ _ (Nat.ne_of_lt (Nat.lt_of_lt_of_le lc (show s1.heap.objs.size ≤ h'.objs.size by omega))) ?_ (hk _ _ z1), z2⟩
        simp only [List.mem_cons, List.not_mem_nil, or_false, not_or]
        exact ⟨up lc 4, up lc 3, up lc 0, up lc 1⟩
      · have big : s1.heap.objs.size ≤ h'.objs.size := by omega
        have keep : ∀ c o, s1.heap.get? c = some o → h2.get? c = some o := fun c o z => by
          have lc : c < s1.heap.objs.size := Heap.lt_size z
          refine kk c o ?_ (hk c o z)
          simp only [List.mem_cons, List.not_mem_nil, or_false, not_or]
          exact ⟨up lc 4, up lc 3, up lc 0, up lc 1⟩
        have hmod : (h'.objs.size == sysModules) = false := beq_eq_false_iff_ne.mpr (Nat.ne_of_gt (Nat.lt_of_lt_of_le I1.big big))
        have hlen : (mergeT [] (kvs.map fun kv => (kv.1, kv.2.2))).length ≤ sizeLine := by
          refine Nat.le_trans (length_mergeT _ []) ?_
          rw [List.length_nil, Nat.zero_add, Paired.length rel, hl]
          simpa using hn
        obtain ⟨o, es, ep, h1, h3, h4, h5, _, h6⟩ := hd2
        have fr := I1.hok.fresh big
        refine ⟨.ref h'.objs.size, upd H1 h'.objs.size (.dT (mergeT [] (kvs.map fun kv => (kv.1, kv.2.2)))), I1.laid (t' := tk) keep big (show ObjOk X.prog X.w _ _ _ (.dT _) from ⟨hlen, hmod, storedAllH [] prs, (KT_merge rel .nil).keeps fun c ys ec => ?_, o, es, ep, h1, h3, h4, h5, h6⟩), rfl, q1 _ fr⟩
        rw [upd_ne (ne_of_none ec fr)]
        exact ec
end
end KW
end

section
set_option Elab.async false
set_option linter.all false
set_option maxRecDepth 100000
/-! DLT: dict(zip(xs, ys)), the keys tuples. -/
namespace DL
open PySem PySem.Spec PyProof.Rows L2 KW
open Evl (Ex)
section
variable {K : PySem.W.Frag}
def keyedT : List (D × D) → Option (List (List Key × D))
  | [] => some []
  | (.tup ks, v) :: r => (keysD ks).bind fun k => (keyedT r).bind fun r => some ((k, v) :: r)
  | _ => none
def mergeDT (kvs more : List (List Key × D)) : List (List Key × D) := more.foldl (fun acc kv => putD acc kv.1 kv.2) kvs
theorem keyedT_rp {G : Hp} : ∀ {vs : List (V × V)} {ps : List (D × D)} {ks : List (List Key × D)}, Rps K G (vs.map (·.1)) (ps.map (·.1)) → Rps K G (vs.map (·.2)) (ps.map (·.2)) → keyedT ps = some ks → ∃ kvs : List (List Key × Addr × V), vs = kvs.map (fun kv => (V.ref kv.2.1, kv.2.2)) ∧ (∀ kv ∈ kvs, G kv.2.1 = some (.tup (kv.1.map kV))) ∧ (kvs.map fun kv => (kv.1, kv.2.2)).map (·.1) = ks.map (·.1) ∧ Rps K G ((kvs.map fun kv => (kv.1, kv.2.2)).map (·.2)) (ks.map (·.2))
  | [], [], _, _, _, e => by
    cases e
    exact ⟨[], rfl, (fun kv h => nomatch h), rfl, Rps.nil⟩
  | [], _ :: _, _, h, _, _ => by cases h
  | _ :: _, [], _, h, _, _ => by cases h
  | (a, b) :: vs, (k, v) :: ps, ks, h1, h2, e => by
    cases k <;> first
      | (unfold keyedT at e; cases e; done)
      | skip
    rename_i kd
    unfold keyedT at e
    obtain ⟨kk, e1, e⟩ := some_bind e
    obtain ⟨r, e2, e⟩ := some_bind e
    cases e
    cases h1 with
    | cons a1 a2 =>
      cases h2 with
      | cons b1 b2 =>
        obtain ⟨kvs, q1, q4, q2, q3⟩ := keyedT_rp a2 b2 e2
        cases a1
        rename_i p xs g1 g2
        have ek := keysD_rp g2 e1
        refine ⟨(kk, p, b) :: kvs, ?_, fun kv hk => ?_, ?_, .cons b1 q3⟩
        · rw [List.map_cons, ← q1]
        · rcases List.mem_cons.mp hk with rfl | hk
          · rw [← ek]
            exact g1
          · exact q4 kv hk
        · rw [List.map_cons, List.map_cons, List.map_cons, q2]
theorem mergeT_rp {G : Hp} : ∀ {more : List (List Key × V)} {mo : List (List Key × D)} {kvs : List (List Key × V)} {ds : List (List Key × D)}, more.map (·.1) = mo.map (·.1) → Rps K G (more.map (·.2)) (mo.map (·.2)) → kvs.map (·.1) = ds.map (·.1) → Rps K G (kvs.map (·.2)) (ds.map (·.2)) →
    (mergeT kvs more).map (·.1) = (mergeDT ds mo).map (·.1) ∧ Rps K G ((mergeT kvs more).map (·.2)) ((mergeDT ds mo).map (·.2))
  | [], [], _, _, _, _, h, r => ⟨h, r⟩
  | [], _ :: _, _, _, h, _, _, _ => by cases h
  | _ :: _, [], _, _, h, _, _, _ => by cases h
  | (k1, v) :: more, (k2, d) :: mo, kvs, ds, h1, r1, h2, r2 => by
    injection h1 with h3 h4
    have h3 : k1 = k2 := h3
    subst h3
    cases r1 with
    | cons a b =>
      obtain ⟨p1, p2⟩ := put_rp (k := k1) h2 r2 a
      exact mergeT_rp (more := more) (mo := mo) (kvs := putK kvs k1 v) (ds := putD ds k1 d) h4 b p1 p2
def fDzT (fl : FA) : FE := fun ρ => (fl ρ).bind fun xs => match xs with
  | [.lst ks, .lst vs] => (keyedT (ks.zip vs)).map fun q => .dit (mergeDT [] q)
  | _ => none
theorem den_dzT {ta : TA} {fl : FA} (ha : DenA K ta fl) : Den K (tDzT K ta) (fDzT fl) := fun B G ρ σ H d Q R e k => by
  obtain ⟨xs, ea, e⟩ := some_bind e
  refine ha B G ρ σ H xs _ R ea fun vs H1 G1 x1 r1 => ?_
  split at e
  · obtain ⟨q, eq, rfl⟩ := Option.map_eq_some_iff.mp e
    cases r1 with
    | cons r2 r3 =>
      cases r3 with
      | cons r4 r5 =>
        cases r5
        cases r2
        cases r4
        rename_i a xs h1 r1 b ys h2 r2
        obtain ⟨z1, z2⟩ := zip_rp r1 r2
        obtain ⟨kvs, q1, q4, q2, q3⟩ := keyedT_rp z1 z2 eq
        obtain ⟨m1, m2⟩ := mergeT_rp (kvs := []) (ds := []) q2 q3 rfl Rps.nil
        exact ⟨a, b, xs, ys, kvs, rfl, .inl (.inl (x1.gh _ _ h1)), .inl (.inl (x1.gh _ _ h2)), q1, fun kv hk => x1.gh _ _ (q4 kv hk), fun p np => k _ _ _ (x1.trans (.new x1.gh np)) (.dit (.inl upd_same) m1 (m2.mono (Ext.new x1.gh np).gg))⟩
  · cases e
end
end DL
end

section
set_option Elab.async false
set_option linter.all false
set_option maxRecDepth 100000
namespace KK
open PySem PySem.Spec PyProof.Rows L2 KW DL
section
variable {P : Program} {w : World} {K : PySem.W.Frag} {mg : Str → Option Value} {base : Heap} {ad : Nat → Addr} {fd : Nat → FuncData}
def m_lseen (rec : List D → Option D) (a : Addr) : FS :=
  (sSeq (sAsg (fCallN 1 (fn_lkof) (fCons (fVar 0) fNil)) (mName 1))
    (sSeq (sIf (fTest (fOp gEq (fVar 0) (fC (.str "courses")))) (sRet (fCallN 1 rec (fCons (fVar 1) fNil))) sNext)
    (sHits 2 (sOwnK 3) (iL (fCallN 1 (fn_ltrip) (fCons (fVar 0) fNil))) (mTup 3 (mCons (mName 5) (mCons (mName 6) (mCons (mName 7) mNil)))) (sAsg (fTup (fCons (fCallN 3 (fn_lkind) (fCons (fVar 0) (fCons (fVar 5) (fCons (fVar 6) fNil)))) (fCons (fCallN 3 (fn_lkind) (fCons (fVar 0) (fCons (fVar 6) (fCons (fVar 7) fNil)))) fNil))) (mName 8)) 8 (fCallN 3 (fn_lkind) (fCons (fVar 0) (fCons (fVar 5) (fCons (fVar 7) fNil)))) (sPut 3 (fOp gIxT (fVar 8) (fC (.int 0))) (fCallN 3 (fn_lkind) (fCons (fVar 0) (fCons (fVar 6) (fCons (fVar 5) fNil)))))
    (sSeq (sOwnT 4)
    (sSeq (sFor (iL (fVar 1)) (mName 5) (sFor (iL (fVar 1)) (mName 6) (sPut 4 (fTup (fCons (fVar 5) (fCons (fVar 6) fNil))) (fCallN 2 (fn_inord) (fCons (fVar 1) (fCons (fOp gDGet (fVar 2) (fTup (fCons (fVar 5) (fCons (fVar 6) fNil)))) fNil))))))
    (sRet (fCallN 4 (fn_ltable) (fCons (fVar 1) (fCons (fC (.str "same")) (fCons (fLc (iL (fVar 1)) (mName 5) (fun _ => some true) (fOp gDGet (fVar 3) (fVar 5)) [5]) (fCons (fVar 4) fNil)))))))) a)))
theorem ok_lseen (F : Fa K mg ad fd) (T : Bl mg) {rec fs : List D → Option D} {k : Nat} (hk : 3 ≤ k) (G_rec : FnOk P w K mg base CX0 k (ad 44) (fd 44) p_lcour (spF K 1 rec)) (hf : ∀ ds d, fs ds = some d → ∀ a, m_lseen rec a (env0 n_lseen.length ds) = some (.rt d)) : FnOk P w K mg base CX0 (k + 1) (ad 51) (fd 51) p_lseen (spF K 1 fs) := by
  have G_inord := ok_inord (P := P) (w := w) (base := base) F T
  have G_lkind := ok_lkind (P := P) (w := w) (base := base) F T
  have G_lkof := ok_lkof (P := P) (w := w) (base := base) F T
  have G_ltable := ok_ltable (P := P) (w := w) (base := base) F T
  have G_ltrip := ok_ltrip (P := P) (w := w) (base := base) F T
  exact fn_denA F.F_lseen sc_lseen hf fun cdv A outer s H E hr => ⟨_, PSs.nox (pss_cons (ps_set (i := 1) sc_lseen.nd rfl (by first | exact .inl rfl | exact .inr rfl) (pe_call G_lkof (hr.mono (by omega)) (by rfl) F.g_lkof F.F_lkof.kp F.b_lkof .nil pass0 (pa_cons (pv 0) pa_nil)))
      (pss_cons (ps_if (pt_cmpR (op_EQ hr.units) (pv 0) pe_str (nomark _)) (pss_one (ps_ret (pe_call G_rec (hr.mono (by omega)) (by rfl) F.g_lcour F.F_lcour.kp F.b_lcour .nil pass0 (pa_cons (pv 1) pa_nil)))) pss_nil)
      (pss_cons (ps_set (i := 2) sc_lseen.nd rfl (by first | exact .inl rfl | exact .inr rfl) pe_dnewT) (pss_cons (ps_set (i := 3) sc_lseen.nd rfl (by first | exact .inl rfl | exact .inr rfl) pe_dnewK) (pss_cons (ps_for PassesOwn.never rfl (pi_list (pe_call G_ltrip (hr.mono (by omega)) (by rfl) F.g_ltrip F.F_ltrip.kp F.b_ltrip .nil pass0 (pa_cons (pv 0) pa_nil))) (pg_tup rfl (pgs_cons (pg_name (i := 5) sc_lseen.nd rfl (by first | exact .inl rfl | exact .inr rfl)) (pgs_cons (pg_name (i := 6) sc_lseen.nd rfl (by first | exact .inl rfl | exact .inr rfl)) (pgs_cons (pg_name (i := 7) sc_lseen.nd rfl (by first | exact .inl rfl | exact .inr rfl)) pgs_nil)))) (pss_cons (ps_set (i := 8) sc_lseen.nd rfl (by first | exact .inl rfl | exact .inr rfl) (pe_tup (pa_cons (pe_call G_lkind (hr.mono (by omega)) (by rfl) F.g_lkind F.F_lkind.kp F.b_lkind .nil pass0 (pa_cons (pv 0) (pa_cons (pv 5) (pa_cons (pv 6) pa_nil)))) (pa_cons (pe_call G_lkind (hr.mono (by omega)) (by rfl) F.g_lkind F.F_lkind.kp F.b_lkind .nil pass0 (pa_cons (pv 0) (pa_cons (pv 6) (pa_cons (pv 7) pa_nil)))) pa_nil)))) (pss_cons (ps_expr (pe_bm PySem.F.plainAttrs_list PySem.F.slot_list_append PySem.F.type_list_append mt_append (pe_dsetdT (hu_of hr) (pv 2) (pv 8) (pe_lst pa_nil) ⟨rfl, rfl, rfl, rfl⟩) (pa_cons (pe_call G_lkind (hr.mono (by omega)) (by rfl) F.g_lkind F.F_lkind.kp F.b_lkind .nil pass0 (pa_cons (pv 0) (pa_cons (pv 5) (pa_cons (pv 7) pa_nil)))) pa_nil))) (pss_one (ps_dput (hu_of hr) (pv 3) (pe_ix (r := rIxT K) ix_tup (pv 8) pe_int (fun _ _ => rfl)) (pe_call G_lkind (hr.mono (by omega)) (by rfl) F.g_lkind F.F_lkind.kp F.b_lkind .nil pass0 (pa_cons (pv 0) (pa_cons (pv 6) (pa_cons (pv 5) pa_nil)))) rfl)))))
      (pss_cons (ps_set (i := 4) sc_lseen.nd rfl (by first | exact .inl rfl | exact .inr rfl) pe_dnewT)
      (pss_cons (ps_for PassesOwn.never rfl (pi_list (pv 1)) (pg_name (i := 5) sc_lseen.nd rfl (by first | exact .inl rfl | exact .inr rfl)) (pss_one (ps_for PassesOwn.never rfl (pi_list (pv 1)) (pg_name (i := 6) sc_lseen.nd rfl (by first | exact .inl rfl | exact .inr rfl)) (pss_one (ps_dput (hu_of hr) (pv 4) (pe_tup (pa_cons (pv 5) (pa_cons (pv 6) pa_nil))) (pe_call G_inord (hr.mono (by omega)) (by rfl) F.g_inord F.F_inord.kp F.b_inord .nil pass0 (pa_cons (pv 1) (pa_cons (pe_dget (hu_of hr) (pv 2) (pe_tup (pa_cons (pv 5) (pa_cons (pv 6) pa_nil))) (fun _ _ => rfl)) pa_nil))) rfl)))))
      (pss_one (ps_ret (pe_call G_ltable (hr.mono (by omega)) (by rfl) F.g_ltable F.F_ltable.kp F.b_ltable .nil pass0 (pa_cons (pv 1) (pa_cons pe_str (pa_cons (pe_lc (own := [("_law_one", 5)]) rfl sc_lseen.nd (pi_list (pv 1)) (blkOk_by (N := n_lseen) (sc := defScope s_lseen) (by decide +kernel)) (fun _ _ _ _ _ => (pg_name (i := 5) sc_lseen.nd rfl (by first | exact .inl rfl | exact .inr rfl))) (fun _ _ _ _ _ => pts_nil) (fun _ _ _ _ _ => (pe_dget (hu_of hr) (pv 3) (pv 5) (fun _ _ => rfl)))) (pa_cons (pv 4) pa_nil)))))))))))))),
    (den_pre (den_asg (den_call (den_cons den_var den_nil)) den_gName)
      (den_pre (den_ifS (den_test (den_op opd_eq den_var den_str)) (den_ret (den_call (den_cons den_var den_nil))) den_next)
      (den_hits den_ownK (den_iL (den_call (den_cons den_var den_nil))) (den_gTup (den_gCons den_gName (den_gCons den_gName (den_gCons den_gName den_gNil)))) (den_asg (den_tup (den_cons (den_call (den_cons den_var (den_cons den_var (den_cons den_var den_nil)))) (den_cons (den_call (den_cons den_var (den_cons den_var (den_cons den_var den_nil)))) den_nil))) den_gName) (den_call (den_cons den_var (den_cons den_var (den_cons den_var den_nil)))) (den_put (den_op opd_ixT den_var den_int) (den_call (den_cons den_var (den_cons den_var (den_cons den_var den_nil)))))
    (den_seq den_ownT
      (den_seq (den_for (den_iL den_var) den_gName (den_for (den_iL den_var) den_gName (den_put (den_tup (den_cons den_var (den_cons den_var den_nil))) (den_call (den_cons den_var (den_cons (den_dget den_var (den_tup (den_cons den_var (den_cons den_var den_nil)))) den_nil))))))
      (den_ret (den_call (den_cons den_var (den_cons den_str (den_cons (den_lc (den_iL den_var) den_gName (own_name (by decide)) den_tYes (den_dget den_var den_var)) (den_cons den_var den_nil)))))))))))⟩

def m_lcour (rec : List D → Option D) : FS :=
  (sSeq (sAsg (fCallN 1 rec (fCons (fC (.str "moments")) fNil)) (mName 1))
    (sSeq (sAsg (fLst fNil) (mName 2))
    (sSeq (sFor (iR1 (fCons (fC (.int 3)) fNil)) (mName 3) (sAsg (fOp gCatL (fVar 2) (fLc (iR1 (fCons (fC (.int 3)) fNil)) (mName 13) (fun _ => some true) (fTup (fCons (fOp gIxL (fOp gDGet (fVar 1) (fC (.str "kinds"))) (fVar 13)) (fCons (fOp gIxL (fOp gDGet (fVar 1) (fC (.str "kinds"))) (fVar 3)) fNil))) [13])) (mName 2)))
    (sSeq (sAsg (fDzT (fCons (fVar 2) (fCons (fVar 0) fNil))) (mName 4))
    (sSeq (sOwnT 5)
    (sSeq (sFor (iL (fVar 2)) (mTup 2 (mCons (mName 7) (mCons (mName 8) mNil))) (sFor (iL (fVar 2)) (mTup 2 (mCons (mName 9) (mCons (mName 10) mNil))) (sSeq (sAsg (fLst fNil) (mName 11))
    (sSeq (sFor (iL (fOp gDGet (fOp gDGet (fVar 1) (fC (.str "step"))) (fTup (fCons (fVar 7) (fCons (fVar 9) fNil))))) (mName 12) (sAsg (fOp gCatL (fVar 11) (fLc (iL (fOp gDGet (fOp gDGet (fVar 1) (fC (.str "step"))) (fTup (fCons (fVar 8) (fCons (fVar 10) fNil))))) (mName 14) (fun _ => some true) (fOp gDGet (fVar 4) (fTup (fCons (fVar 12) (fCons (fVar 14) fNil)))) [14])) (mName 11)))
    (sPut 5 (fTup (fCons (fOp gDGet (fVar 4) (fTup (fCons (fVar 7) (fCons (fVar 8) fNil)))) (fCons (fOp gDGet (fVar 4) (fTup (fCons (fVar 9) (fCons (fVar 10) fNil)))) fNil))) (fCallN 2 (fn_inord) (fCons (fVar 0) (fCons (fVar 11) fNil))))))))
    (sFrz (sSeq (sAsg (fLc (iL (fVar 2)) (mTup 2 (mCons (mName 7) (mCons (mName 8) mNil))) (fun _ => some true) (fOp gDGet (fVar 4) (fTup (fCons (fOp gDGet (fOp gDGet (fVar 1) (fC (.str "back"))) (fVar 7)) (fCons (fOp gDGet (fOp gDGet (fVar 1) (fC (.str "back"))) (fVar 8)) fNil)))) [7, 8]) (mName 6))
    (sRet (fCallN 4 (fn_ltable) (fCons (fVar 0) (fCons (fC (.str "same")) (fCons (fVar 6) (fCons (fVar 5) fNil))))))))))))))
def fn_lcour (rec : List D → Option D) : List D → Option D := runF n_lcour.length (m_lcour rec)
theorem ok_lcour (F : Fa K mg ad fd) (T : Bl mg) {rec : List D → Option D} {k : Nat} (hk : 1 ≤ k) (G_rec : FnOk P w K mg base CX0 k (ad 51) (fd 51) p_lseen (spF K 1 rec)) : FnOk P w K mg base CX0 (k + 1) (ad 44) (fd 44) p_lcour (spF K 1 (fn_lcour rec)) := by
  have G_inord := ok_inord (P := P) (w := w) (base := base) F T
  have G_ltable := ok_ltable (P := P) (w := w) (base := base) F T
  exact fn_den F.F_lcour sc_lcour fun cdv A outer s H E hr => ⟨_, PSs.nox (pss_cons (ps_set (i := 1) sc_lcour.nd rfl (by first | exact .inl rfl | exact .inr rfl) (pe_call G_rec (hr.mono (by omega)) (by rfl) F.g_lseen F.F_lseen.kp F.b_lseen .nil pass0 (pa_cons pe_str pa_nil)))
      (pss_cons (ps_set (i := 2) sc_lcour.nd rfl (by first | exact .inl rfl | exact .inr rfl) (pe_lst pa_nil))
      (pss_cons (ps_for PassesOwn.never rfl (pi_range1 rfl T.m_range (pa_cons pe_int pa_nil)) (pg_name (i := 3) sc_lcour.nd rfl (by first | exact .inl rfl | exact .inr rfl)) (pss_one (ps_set (i := 2) sc_lcour.nd rfl (by first | exact .inl rfl | exact .inr rfl) (pe_op op_cat (pv 2) (pe_lc (own := [("_law_across", 13)]) rfl sc_lcour.nd (pi_range1 rfl T.m_range (pa_cons pe_int pa_nil)) (blkOk_by (N := n_lcour) (sc := defScope s_lcour) (by decide +kernel)) (fun _ _ _ _ _ => (pg_name (i := 13) sc_lcour.nd rfl (by first | exact .inl rfl | exact .inr rfl))) (fun _ _ _ _ _ => pts_nil) (fun _ _ _ _ _ => (pe_tup (pa_cons (pe_ix (r := rIxL K) ix_list (pe_dget (hu_of hr) (pv 1) pe_str (fun _ _ => rfl)) (pv 13) (fun _ _ => rfl)) (pa_cons (pe_ix (r := rIxL K) ix_list (pe_dget (hu_of hr) (pv 1) pe_str (fun _ _ => rfl)) (pv 3) (fun _ _ => rfl)) pa_nil)))))))))
      (pss_cons (ps_set (i := 4) sc_lcour.nd rfl (by first | exact .inl rfl | exact .inr rfl) (pe_dictzipT hr.units65 rfl (by rfl) T.m_dict (by rfl) T.m_zip (pa_cons (pv 2) (pa_cons (pv 0) pa_nil))))
      (pss_cons (ps_set (i := 5) sc_lcour.nd rfl (by first | exact .inl rfl | exact .inr rfl) pe_dnewT)
      (pss_cons (ps_for PassesOwn.never rfl (pi_list (pv 2)) (pg_tup rfl (pgs_cons (pg_name (i := 7) sc_lcour.nd rfl (by first | exact .inl rfl | exact .inr rfl)) (pgs_cons (pg_name (i := 8) sc_lcour.nd rfl (by first | exact .inl rfl | exact .inr rfl)) pgs_nil))) (pss_one (ps_for PassesOwn.never rfl (pi_list (pv 2)) (pg_tup rfl (pgs_cons (pg_name (i := 9) sc_lcour.nd rfl (by first | exact .inl rfl | exact .inr rfl)) (pgs_cons (pg_name (i := 10) sc_lcour.nd rfl (by first | exact .inl rfl | exact .inr rfl)) pgs_nil))) (pss_cons (ps_set (i := 11) sc_lcour.nd rfl (by first | exact .inl rfl | exact .inr rfl) (pe_lst pa_nil))
      (pss_cons (ps_for PassesOwn.never rfl (pi_list (pe_dget (hu_of hr) (pe_dget (hu_of hr) (pv 1) pe_str (fun _ _ => rfl)) (pe_tup (pa_cons (pv 7) (pa_cons (pv 9) pa_nil))) (fun _ _ => rfl))) (pg_name (i := 12) sc_lcour.nd rfl (by first | exact .inl rfl | exact .inr rfl)) (pss_one (ps_set (i := 11) sc_lcour.nd rfl (by first | exact .inl rfl | exact .inr rfl) (pe_op op_cat (pv 11) (pe_lc (own := [("_law_right", 14)]) rfl sc_lcour.nd (pi_list (pe_dget (hu_of hr) (pe_dget (hu_of hr) (pv 1) pe_str (fun _ _ => rfl)) (pe_tup (pa_cons (pv 8) (pa_cons (pv 10) pa_nil))) (fun _ _ => rfl))) (blkOk_by (N := n_lcour) (sc := defScope s_lcour) (by decide +kernel)) (fun _ _ _ _ _ => (pg_name (i := 14) sc_lcour.nd rfl (by first | exact .inl rfl | exact .inr rfl))) (fun _ _ _ _ _ => pts_nil) (fun _ _ _ _ _ => (pe_dget (hu_of hr) (pv 4) (pe_tup (pa_cons (pv 12) (pa_cons (pv 14) pa_nil))) (fun _ _ => rfl))))))))
      (pss_one (ps_dput (hu_of hr) (pv 5) (pe_tup (pa_cons (pe_dget (hu_of hr) (pv 4) (pe_tup (pa_cons (pv 7) (pa_cons (pv 8) pa_nil))) (fun _ _ => rfl)) (pa_cons (pe_dget (hu_of hr) (pv 4) (pe_tup (pa_cons (pv 9) (pa_cons (pv 10) pa_nil))) (fun _ _ => rfl)) pa_nil))) (pe_call G_inord (hr.mono (by omega)) (by rfl) F.g_inord F.F_inord.kp F.b_inord .nil pass0 (pa_cons (pv 0) (pa_cons (pv 11) pa_nil))) rfl)))))))
      (pss_cons (ps_setLc (i := 6) (own := [("_law_a", 7), ("_law_b", 8)]) rfl sc_lcour.nd rfl rfl (by rfl) (pi_list (pv 2)) (blkOk_by (N := n_lcour) (sc := defScope s_lcour) (by decide +kernel)) (fun _ _ _ _ _ => (pg_tup rfl (pgs_cons (pg_name (i := 7) sc_lcour.nd rfl (by first | exact .inl rfl | exact .inr rfl)) (pgs_cons (pg_name (i := 8) sc_lcour.nd rfl (by first | exact .inl rfl | exact .inr rfl)) pgs_nil)))) (fun _ _ _ _ _ => pts_nil) (fun _ _ _ _ _ => (pe_dget (hu_of hr) (pv 4) (pe_tup (pa_cons (pe_dget (hu_of hr) (pe_dget (hu_of hr) (pv 1) pe_str (fun _ _ => rfl)) (pv 7) (fun _ _ => rfl)) (pa_cons (pe_dget (hu_of hr) (pe_dget (hu_of hr) (pv 1) pe_str (fun _ _ => rfl)) (pv 8) (fun _ _ => rfl)) pa_nil))) (fun _ _ => rfl))))
      (pss_one (ps_ret (pe_call G_ltable (hr.mono (by omega)) (by rfl) F.g_ltable F.F_ltable.kp F.b_ltable .nil pass0 (pa_cons (pv 0) (pa_cons pe_str (pa_cons (pv 6) (pa_cons (pv 5) pa_nil)))))))))))))),
    (den_seq (den_asg (den_call (den_cons den_str den_nil)) den_gName)
      (den_seq (den_asg (den_lst den_nil) den_gName)
      (den_seq (den_for (den_iR1 (den_cons den_int den_nil)) den_gName (den_asg (den_op opd_catL den_var (den_lc (den_iR1 (den_cons den_int den_nil)) den_gName (own_name (by decide)) den_tYes (den_tup (den_cons (den_op opd_ixL (den_dget den_var den_str) den_var) (den_cons (den_op opd_ixL (den_dget den_var den_str) den_var) den_nil))))) den_gName))
      (den_seq (den_asg (den_dzT (den_cons den_var (den_cons den_var den_nil))) den_gName)
      (den_seq den_ownT
      (den_seq (den_for (den_iL den_var) (den_gTup (den_gCons den_gName (den_gCons den_gName den_gNil))) (den_for (den_iL den_var) (den_gTup (den_gCons den_gName (den_gCons den_gName den_gNil))) (den_seq (den_asg (den_lst den_nil) den_gName)
      (den_seq (den_for (den_iL (den_dget (den_dget den_var den_str) (den_tup (den_cons den_var (den_cons den_var den_nil))))) den_gName (den_asg (den_op opd_catL den_var (den_lc (den_iL (den_dget (den_dget den_var den_str) (den_tup (den_cons den_var (den_cons den_var den_nil))))) den_gName (own_name (by decide)) den_tYes (den_dget den_var (den_tup (den_cons den_var (den_cons den_var den_nil)))))) den_gName))
      (den_put (den_tup (den_cons (den_dget den_var (den_tup (den_cons den_var (den_cons den_var den_nil)))) (den_cons (den_dget den_var (den_tup (den_cons den_var (den_cons den_var den_nil)))) den_nil))) (den_call (den_cons den_var (den_cons den_var den_nil))))))))
      (den_frz (den_seq (den_asg (den_lc (den_iL den_var) (den_gTup (den_gCons den_gName (den_gCons den_gName den_gNil))) (own_two (by decide) (by decide)) den_tYes (den_dget den_var (den_tup (den_cons (den_dget (den_dget den_var den_str) den_var) (den_cons (den_dget (den_dget den_var den_str) den_var) den_nil))))) den_gName)
      (den_ret (den_call (den_cons den_var (den_cons den_str (den_cons den_var (den_cons den_var den_nil))))))))))))))⟩

end
end KK
end

section
set_option Elab.async false
set_option linter.all false
set_option maxRecDepth 100000
/-! M13: a table seen of triples of things. -/
namespace KK
open PySem PySem.Spec PyProof.Rows L2 KW DL
open KwRing (Tab)
/-! ### the hits -/
def getH (hs : Hits) (k : List Key) : List D := match hs with
  | [] => []
  | (k', es) :: r => if k' = k then es else getH r k
theorem lenH_eq : ∀ (hs : Hits) (k : List Key), lenH hs k = (getH hs k).length
  | [], _ => rfl
  | (k', es) :: r, k => by
    unfold lenH getH
    split
    · rfl
    · exact lenH_eq r k
theorem getH_push {k k' : List Key} {e : D} : ∀ hs : Hits, getH (pushH hs k e) k' = if k = k' then getH hs k ++ [e] else getH hs k'
  | [] => rfl
  | (k0, es) :: r => by
    unfold pushH
    by_cases z : k0 = k
    · subst z
      rw [if_pos rfl]
      by_cases y : k0 = k'
      · subst y
        simp [getH]
      · simp [getH, y]
    · rw [if_neg z]
      show (if k0 = k' then es else getH (pushH r k e) k') = _
      by_cases y : k0 = k'
      · subst y
        have : ¬ k = k0 := fun q => z q.symm
        simp [getH, this]
      · rw [if_neg y, getH_push r]
        simp [getH, z, y]
theorem keys_push {k : List Key} {e : D} : ∀ hs : Hits, (k ∈ hs.map (·.1) ∧ (pushH hs k e).map (·.1) = hs.map (·.1)) ∨ (k ∉ hs.map (·.1) ∧ (pushH hs k e).map (·.1) = hs.map (·.1) ++ [k])
  | [] => .inr ⟨(fun h => nomatch h), rfl⟩
  | (k0, es) :: r => by
    unfold pushH
    by_cases z : k0 = k
    · subst z
      rw [if_pos rfl]
      exact .inl ⟨List.mem_cons_self, rfl⟩
    · rw [if_neg z, List.map_cons, List.map_cons]
      have z' : ¬ k = k0 := fun q => z q.symm
      rcases keys_push (k := k) (e := e) r with ⟨y, h⟩ | ⟨y, h⟩
      · exact .inl ⟨List.mem_cons_of_mem _ y, by rw [h]⟩
      · refine .inr ⟨fun q => ?_, by rw [h]; rfl⟩
        rcases List.mem_cons.mp q with q | q
        · exact z' q
        · exact y q
theorem val_hits {k : List Key} : ∀ {hs : Hits}, k ∈ hs.map (·.1) → valD (hs.map fun p => (p.1, D.lst p.2)) k = some (.lst (getH hs k))
  | [], h => by cases h
  | (k0, es) :: r, h => by
    unfold valD getH
    rw [List.map_cons, List.find?_cons]
    by_cases z : k0 = k
    · subst z
      simp
    · have h' : k ∈ r.map (·.1) := by
        rw [List.map_cons] at h
        rcases List.mem_cons.mp h with q | q
        · exact absurd q.symm z
        · exact q
      have ih := val_hits h'
      unfold valD at ih
      simp only [decide_eq_false z, if_neg z]
      exact ih
section
variable {α : Type} {key : α → List Key} {val : α → D}
def foldH (key : α → List Key) (val : α → D) (hs : Hits) (L : List α) : Hits := L.foldl (fun hs q => pushH hs (key q) (val q)) hs
theorem foldH_get {k : List Key} : ∀ (L : List α) (hs : Hits), getH (foldH key val hs L) k = getH hs k ++ (L.filter fun q => decide (key q = k)).map val
  | [], hs => by simp [foldH]
  | q :: L, hs => by
    show getH (foldH key val (pushH hs (key q) (val q)) L) k = _
    rw [foldH_get L, getH_push]
    by_cases z : key q = k
    · subst z
      simp
    · rw [if_neg z, List.filter_cons_of_neg (by simpa using z)]
theorem foldH_keys {k : List Key} : ∀ (L : List α) (hs : Hits), k ∈ (foldH key val hs L).map (·.1) ↔ k ∈ hs.map (·.1) ∨ ∃ q ∈ L, key q = k
  | [], hs => by simp [foldH]
  | q :: L, hs => by
    show k ∈ (foldH key val (pushH hs (key q) (val q)) L).map (·.1) ↔ _
    rw [foldH_keys L]
    rcases keys_push (k := key q) (e := val q) hs with ⟨y, z⟩ | ⟨y, z⟩ <;> rw [z]
    · constructor
      · rintro (h | ⟨p, hp, e⟩)
        · exact .inl h
        · exact .inr ⟨p, List.mem_cons_of_mem _ hp, e⟩
      · rintro (h | ⟨p, hp, e⟩)
        · exact .inl h
        · rcases List.mem_cons.mp hp with rfl | hp
          · subst e
            exact .inl y
          · exact .inr ⟨p, hp, e⟩
    · constructor
      · rintro (h | ⟨p, hp, e⟩)
        · rcases List.mem_append.mp h with h | h
          · exact .inl h
          · exact .inr ⟨q, List.mem_cons_self, (List.mem_singleton.mp h).symm⟩
        · exact .inr ⟨p, List.mem_cons_of_mem _ hp, e⟩
      · rintro (h | ⟨p, hp, e⟩)
        · exact .inl (List.mem_append_left _ h)
        · rcases List.mem_cons.mp hp with rfl | hp
          · subst e
            exact .inl (List.mem_append_right _ (List.mem_singleton.mpr rfl))
          · exact .inr ⟨p, hp, e⟩
theorem nodup_push {k : List Key} {e : D} {hs : Hits} (h : (hs.map (·.1)).Nodup) : ((pushH hs k e).map (·.1)).Nodup := by
  rcases keys_push (k := k) (e := e) hs with ⟨z, y⟩ | ⟨z, y⟩ <;> rw [y]
  · exact h
  · refine List.nodup_append.mpr ⟨h, by simp, fun a ha b hb e => ?_⟩
    rw [List.mem_singleton.mp hb] at e
    subst e
    exact z ha
end
/-! ### the backs -/
theorem val_put {κ : Type} [DecidableEq κ] {kvs : List (κ × D)} {k k' : κ} {v : D} : valD (putD kvs k v) k' = if k = k' then some v else valD kvs k' := by
  have rep : ∀ kvs : List (κ × D), valD (kvs.map fun kv => if kv.1 = k then (kv.1, v) else kv) k' = if k = k' then (valD kvs k').map fun _ => v else valD kvs k' := by
    intro kvs
    induction kvs with
    | nil => simp [valD]
    | cons p r ih =>
      unfold valD at ih ⊢
      rw [List.map_cons, List.find?_cons, List.find?_cons]
      by_cases y : p.1 = k
      · rw [if_pos y]
        by_cases x : p.1 = k'
        · rw [decide_eq_true x]
          have : k = k' := y.symm.trans x
          rw [if_pos this]
          simp [x]
        · rw [decide_eq_false x]
          simp only
          exact ih
      · rw [if_neg y]
        by_cases x : p.1 = k'
        · rw [decide_eq_true x]
          have : ¬ k = k' := fun z => y (x.trans z.symm)
          rw [if_neg this]
        · rw [decide_eq_false x]
          simp only
          exact ih
  unfold putD
  split
  · rename_i h
    rw [rep]
    split
    · rename_i e
      subst e
      obtain ⟨p, hp, e⟩ := List.any_eq_true.mp h
      unfold valD
      cases q : kvs.find? fun kv => decide (kv.1 = k) with
      | none => exact absurd e (List.find?_eq_none.mp q p hp)
      | some z => rfl
    · rfl
  · rename_i h
    unfold valD
    rw [List.find?_append]
    by_cases e : k = k'
    · subst e
      have : kvs.find? (fun kv => decide (kv.1 = k)) = none := List.find?_eq_none.mpr fun p hp z => h (List.any_eq_true.mpr ⟨p, hp, z⟩)
      rw [this]
      simp
    · rw [if_neg e]
      simp [e]
theorem len_put {κ : Type} [DecidableEq κ] {kvs : List (κ × D)} {k : κ} {v : D} : (putD kvs k v).length ≤ kvs.length + 1 := by
  unfold putD
  split
  · rw [List.length_map]
    omega
  · rw [List.length_append]
    exact Nat.le_refl _
def foldB {α : Type} (key : α → Key) (val : α → D) (bk : List (Key × D)) (L : List α) : List (Key × D) := L.foldl (fun bk q => putD bk (key q) (val q)) bk
/-- where all that is put at a key is alike -/
theorem foldB_val {α : Type} {key : α → Key} {val : α → D} {k : Key} {v : D} : ∀ (L : List α) (bk : List (Key × D)), (∀ q ∈ L, key q = k → val q = v) → (valD bk k = some v ∨ ∃ q ∈ L, key q = k) → valD (foldB key val bk L) k = some v
  | [], bk, _, h => by
    rcases h with h | ⟨q, hq, _⟩
    · exact h
    · cases hq
  | q :: L, bk, hv, h => by
    refine foldB_val (key := key) (val := val) L (putD bk (key q) (val q)) (fun p hp => hv p (List.mem_cons_of_mem _ hp)) ?_
    rw [val_put]
    by_cases z : key q = k
    · rw [if_pos z, hv q List.mem_cons_self z]
      exact .inl rfl
    · rw [if_neg z]
      rcases h with h | ⟨p, hp, e⟩
      · exact .inl h
      · rcases List.mem_cons.mp hp with rfl | hp
        · exact absurd e z
        · exact .inr ⟨p, hp, e⟩
/-! ### the loop over the triples -/
/-- what a word's triples show: places of the kinds of the first two, the last two, the outer two, the first two turned about -/
structure Shown (W : D) (ks : List Str) {α : Type} (L : List α) (px py pz : α → D) (c : α → Nat × Nat × Nat × Nat) : Prop where
  k1 : ∀ q ∈ L, fn_lkind [W, px q, py q] = some (.str (nm ks (c q).1))
  k2 : ∀ q ∈ L, fn_lkind [W, py q, pz q] = some (.str (nm ks (c q).2.1))
  k3 : ∀ q ∈ L, fn_lkind [W, px q, pz q] = some (.str (nm ks (c q).2.2.1))
  k4 : ∀ q ∈ L, fn_lkind [W, py q, px q] = some (.str (nm ks (c q).2.2.2))
def tri {α : Type} (px py pz : α → D) (q : α) : D := .tup [px q, py q, pz q]
def kyH {α : Type} (ks : List Str) (c : α → Nat × Nat × Nat × Nat) (q : α) : List Key := [.inr (nm ks (c q).1), .inr (nm ks (c q).2.1)]
def vaH {α : Type} (ks : List Str) (c : α → Nat × Nat × Nat × Nat) (q : α) : D := .str (nm ks (c q).2.2.1)
def kyB {α : Type} (ks : List Str) (c : α → Nat × Nat × Nat × Nat) (q : α) : Key := .inr (nm ks (c q).1)
def vaB {α : Type} (ks : List Str) (c : α → Nat × Nat × Nat × Nat) (q : α) : D := .str (nm ks (c q).2.2.2)
abbrev m1S : FS := sAsg (fTup (fCons (fCallN 3 (fn_lkind) (fCons (fVar 0) (fCons (fVar 5) (fCons (fVar 6) fNil)))) (fCons (fCallN 3 (fn_lkind) (fCons (fVar 0) (fCons (fVar 6) (fCons (fVar 7) fNil)))) fNil))) (mName 8)
abbrev feS : FE := fCallN 3 (fn_lkind) (fCons (fVar 0) (fCons (fVar 5) (fCons (fVar 7) fNil)))
abbrev m3S : FS := sPut 3 (fOp gIxT (fVar 8) (fC (.int 0))) (fCallN 3 (fn_lkind) (fCons (fVar 0) (fCons (fVar 6) (fCons (fVar 5) fNil))))
abbrev mS : D → En → Option En := mTup 3 (mCons (mName 5) (mCons (mName 6) (mCons (mName 7) mNil)))
def enS (W : D) (ks : List Str) (a : Addr) (bk : List (Key × D)) (y5 y6 y7 y8 : Option Sl) : En := [some (.pur W), some (.pur (.lst (strL ks))), some (.ptr a), some (.own (.dic bk)), none, y5, y6, y7, y8]
theorem goH_shown {W : D} {ks : List Str} {α : Type} {px py pz : α → D} {c : α → Nat × Nat × Nat × Nat} {a : Addr} {PK : List (List Key)} (hP : PK.length < 1000) : ∀ {L : List α}, Shown W ks L px py pz c → (∀ q ∈ L, kyH ks c q ∈ PK) → ∀ (hs : Hits) (bk : List (Key × D)) (y5 y6 y7 y8 : Option Sl), (hs.map (·.1)).Nodup → (∀ k ∈ hs.map (·.1), k ∈ PK) → (∀ k, (getH hs k).length + L.length < 100000) → bk.length + L.length < 100000 →
    ∃ z5 z6 z7 z8, goH 2 a mS m1S 8 feS m3S (L.map (tri px py pz)) (enS W ks a bk y5 y6 y7 y8) hs = some (enS W ks a (foldB (kyB ks c) (vaB ks c) bk L) z5 z6 z7 z8, foldH (kyH ks c) (vaH ks c) hs L)
  | [], _, _, hs, bk, y5, y6, y7, y8, _, _, _, _ => by
    refine ⟨y5, y6, y7, y8, ?_⟩
    have : ptrAt 2 a (enS W ks a bk y5 y6 y7 y8) = true := by
      show (a == a) = true
      exact beq_self_eq_true a
    show (if ptrAt 2 a (enS W ks a bk y5 y6 y7 y8) = true then some (_, hs) else none) = _
    rw [if_pos this]
    rfl
  | q :: L, S, hk, hs, bk, y5, y6, y7, y8, nd, sub, hl, hb => by
    have pt : ∀ (bk : List (Key × D)) (y5 y6 y7 y8 : Option Sl), ptrAt 2 a (enS W ks a bk y5 y6 y7 y8) = true := fun bk y5 y6 y7 y8 => by
      show (a == a) = true
      exact beq_self_eq_true a
    have S' : Shown W ks L px py pz c := ⟨fun p hp => S.k1 p (List.mem_cons_of_mem _ hp), fun p hp => S.k2 p (List.mem_cons_of_mem _ hp), fun p hp => S.k3 p (List.mem_cons_of_mem _ hp), fun p hp => S.k4 p (List.mem_cons_of_mem _ hp)⟩
    have hq := hk q List.mem_cons_self
    have nd' : ((pushH hs (kyH ks c q) (vaH ks c q)).map (·.1)).Nodup := nodup_push nd
    have sub' : ∀ k ∈ (pushH hs (kyH ks c q) (vaH ks c q)).map (·.1), k ∈ PK := fun k z => by
      rcases keys_push (k := kyH ks c q) (e := vaH ks c q) hs with ⟨_, y⟩ | ⟨_, y⟩ <;> rw [y] at z
      · exact sub k z
      · rcases List.mem_append.mp z with z | z
        · exact sub k z
        · rw [List.mem_singleton.mp z]
          exact hq
    have hl' : ∀ k, (getH (pushH hs (kyH ks c q) (vaH ks c q)) k).length + L.length < 100000 := fun k => by
      rw [getH_push]
      have h1 := hl k
      rw [List.length_cons] at h1
      split
      · rename_i e
        subst e
        rw [List.length_append]
        show _ + 1 + _ < _
        omega
      · omega
    have hb' : (putD bk (kyB ks c q) (vaB ks c q)).length + L.length < 100000 := by
      have := len_put (kvs := bk) (k := kyB ks c q) (v := vaB ks c q)
      rw [List.length_cons] at hb
      omega
    obtain ⟨z5, z6, z7, z8, ih⟩ := goH_shown hP S' (fun p hp => hk p (List.mem_cons_of_mem _ hp)) (pushH hs (kyH ks c q) (vaH ks c q)) (putD bk (kyB ks c q) (vaB ks c q)) (some (.pur (px q))) (some (.pur (py q))) (some (.pur (pz q))) (some (.pur (.tup [.str (nm ks (c q).1), .str (nm ks (c q).2.1)]))) nd' sub' hl' hb'
    refine ⟨z5, z6, z7, z8, ?_⟩
    refine Eq.trans ?_ ih
    have e1 : m1S (enS W ks a bk (some (.pur (px q))) (some (.pur (py q))) (some (.pur (pz q))) y8) = some (.nx (enS W ks a bk (some (.pur (px q))) (some (.pur (py q))) (some (.pur (pz q))) (some (.pur (.tup [.str (nm ks (c q).1), .str (nm ks (c q).2.1)]))))) :=
      sAsg_eq (fTup_eq (xs := [.str (nm ks (c q).1), .str (nm ks (c q).2.1)]) (fCons_eq (fCallN_eq (xs := [W, px q, py q]) rfl rfl (S.k1 q List.mem_cons_self)) (fCons_eq (fCallN_eq (xs := [W, py q, pz q]) rfl rfl (S.k2 q List.mem_cons_self)) rfl)) (by show 2 ≤ _; omega)) rfl
    have e2 : feS (enS W ks a bk (some (.pur (px q))) (some (.pur (py q))) (some (.pur (pz q))) (some (.pur (.tup [.str (nm ks (c q).1), .str (nm ks (c q).2.1)])))) = some (vaH ks c q) := fCallN_eq (xs := [W, px q, pz q]) rfl rfl (S.k3 q List.mem_cons_self)
    have e3 : m3S (enS W ks a bk (some (.pur (px q))) (some (.pur (py q))) (some (.pur (pz q))) (some (.pur (.tup [.str (nm ks (c q).1), .str (nm ks (c q).2.1)])))) = some (.nx (enS W ks a (putD bk (kyB ks c q) (vaB ks c q)) (some (.pur (px q))) (some (.pur (py q))) (some (.pur (pz q))) (some (.pur (.tup [.str (nm ks (c q).1), .str (nm ks (c q).2.1)]))))) := by
      have v1 : (fCallN 3 (fn_lkind) (fCons (fVar 0) (fCons (fVar 6) (fCons (fVar 5) fNil)))) (enS W ks a bk (some (.pur (px q))) (some (.pur (py q))) (some (.pur (pz q))) (some (.pur (.tup [.str (nm ks (c q).1), .str (nm ks (c q).2.1)])))) = some (vaB ks c q) := fCallN_eq (xs := [W, py q, px q]) rfl rfl (S.k4 q List.mem_cons_self)
      unfold m3S sPut
      rw [v1, Option.bind_some]
      show (if bk.length < 100000 then some (Ctl.nx _) else none) = _
      rw [if_pos (by omega)]
      rfl
    show (if ptrAt 2 a (enS W ks a bk y5 y6 y7 y8) = true then _ else _) = _
    rw [if_pos (pt _ _ _ _ _)]
    show ((m1S (enS W ks a bk (some (.pur (px q))) (some (.pur (py q))) (some (.pur (pz q))) y8)).bind _) = _
    rw [e1, Option.bind_some]
    show (if ptrAt 2 a (enS W ks a bk (some (.pur (px q))) (some (.pur (py q))) (some (.pur (pz q))) (some (.pur (.tup [.str (nm ks (c q).1), .str (nm ks (c q).2.1)])))) = true then _ else _) = _
    rw [if_pos (pt _ _ _ _ _)]
    show ((some (kyH ks c q)).bind _) = _
    rw [Option.bind_some, e2, Option.bind_some, if_pos, e3, Option.bind_some]
    · have h1 := List.Nodup.length_le_of_subset nd (fun k hk => sub k hk)
      rw [List.length_map] at h1
      have h2 := hl (kyH ks c q)
      rw [lenH_eq]
      rw [List.length_cons] at h2
      exact ⟨by omega, by omega⟩
end KK
end

section
set_option Elab.async false
set_option linter.all false
set_option maxRecDepth 100000
/-! M14: the law's dict of a table seen. -/
namespace KK
open PySem PySem.Spec PyProof.Rows L2 KW DL
open KwRing (Tab)
def foldP {κ α : Type} [DecidableEq κ] (key : α → κ) (val : α → D) (st : List (κ × D)) (L : List α) : List (κ × D) := L.foldl (fun st q => putD st (key q) (val q)) st
theorem foldP_val {κ α : Type} [DecidableEq κ] {key : α → κ} {val : α → D} {k : κ} {v : D} : ∀ (L : List α) (bk : List (κ × D)), (∀ q ∈ L, key q = k → val q = v) → (valD bk k = some v ∨ ∃ q ∈ L, key q = k) → valD (foldP key val bk L) k = some v
  | [], bk, _, h => by
    rcases h with h | ⟨q, hq, _⟩
    · exact h
    · cases hq
  | q :: L, bk, hv, h => by
    refine foldP_val (key := key) (val := val) L (putD bk (key q) (val q)) (fun p hp => hv p (List.mem_cons_of_mem _ hp)) ?_
    rw [val_put]
    by_cases z : key q = k
    · rw [if_pos z, hv q List.mem_cons_self z]
      exact .inl rfl
    · rw [if_neg z]
      rcases h with h | ⟨p, hp, e⟩
      · exact .inl h
      · rcases List.mem_cons.mp hp with rfl | hp
        · exact absurd e z
        · exact .inr ⟨p, hp, e⟩
theorem foldP_len {κ α : Type} [DecidableEq κ] {key : α → κ} {val : α → D} : ∀ (L : List α) (st : List (κ × D)), (foldP key val st L).length ≤ st.length + L.length
  | [], st => by
    show st.length ≤ _
    simp
  | q :: L, st => by
    have h := foldP_len (key := key) (val := val) L (putD st (key q) (val q))
    have h2 := len_put (kvs := st) (k := key q) (v := val q)
    show (foldP key val (putD st (key q) (val q)) L).length ≤ _
    rw [List.length_cons]
    omega
theorem foldP_append {κ α : Type} [DecidableEq κ] {key : α → κ} {val : α → D} (L M : List α) (st : List (κ × D)) : foldP key val st (L ++ M) = foldP key val (foldP key val st L) M := List.foldl_append
/-- the backs as a dict -/
def bkS (ks : List Str) (t : Tab) : List (Key × D) := foldP (fun i => (.inr (nm ks i) : Key)) (fun i => .str (nm ks (t.b i))) [] (List.range ks.length)
theorem keyed_map {α : Type} (f : α → Str) (v : α → D) : ∀ l : List α, keyed (l.map fun i => (D.str (f i), v i)) = some (l.map fun i => ((.inr (f i) : Key), v i))
  | [] => rfl
  | x :: l => by
    rw [List.map_cons, List.map_cons]
    unfold keyed
    rw [keyed_map f v l]
    rfl
theorem merge_fold {α : Type} (f : α → Key) (v : α → D) : ∀ (l : List α) (acc : List (Key × D)), mergeD acc (l.map fun i => (f i, v i)) = foldP f v acc l
  | [], _ => rfl
  | x :: l, acc => merge_fold f v l (putD acc (f x) (v x))
theorem w_ltable {ks : List Str} {t : Tab} {st : List (List Key × D)} : fn_ltable [.lst (strL ks), .str (nm ks t.same), .lst ((List.range ks.length).map fun i => .str (nm ks (t.b i))), .dit st] = some (ldD ks t (bkS ks t) st) := by
  refine runF_rt (sRet_eq ?_)
  have hz : fDz (fCons (fVar 0) (fCons (fVar 2) fNil)) (frz (env0 n_ltable.length [.lst (strL ks), .str (nm ks t.same), .lst ((List.range ks.length).map fun i => .str (nm ks (t.b i))), .dit st])) = some (.dic (bkS ks t)) := by
    show (keyed ((strL ks).zip ((List.range ks.length).map fun i => D.str (nm ks (t.b i))))).map (fun q => D.dic (mergeD [] q)) = _
    rw [strL_eq, List.zip_map', keyed_map (nm ks) (fun i => D.str (nm ks (t.b i)))]
    show some (D.dic (mergeD [] _)) = _
    rw [merge_fold]
    rfl
  unfold fDisp fPc
  rw [hz]
  rfl
theorem bkS_val {ks : List Str} {t : Tab} (nd : ks.Nodup) {i : Nat} (hi : i < ks.length) : valD (bkS ks t) (Sum.inr (nm ks i) : Key) = some (.str (nm ks (t.b i))) := by
  refine foldP_val _ _ (fun j hj e => ?_) (.inr ⟨i, List.mem_range.mpr hi, rfl⟩)
  have e : nm ks j = nm ks i := by injection e
  rw [nm_inj nd (List.mem_range.mp hj) hi e]
def pairsN (m : Nat) : List (Nat × Nat) := (List.range m).flatMap fun i => (List.range m).map fun j => (i, j)
def ky2 (ks : List Str) (p : Nat × Nat) : List Key := [.inr (nm ks p.1), .inr (nm ks p.2)]
def stS (ks : List Str) (f : Nat → Nat → List Nat) : List (List Key × D) := foldP (ky2 ks) (fun p => kl ks (f p.1 p.2)) [] (pairsN ks.length)
theorem pairs_mem {m : Nat} {p : Nat × Nat} : p ∈ pairsN m ↔ p.1 < m ∧ p.2 < m := by
  unfold pairsN
  rw [List.mem_flatMap]
  constructor
  · rintro ⟨i, hi, h⟩
    obtain ⟨j, hj, rfl⟩ := List.mem_map.mp h
    exact ⟨List.mem_range.mp hi, List.mem_range.mp hj⟩
  · rintro ⟨h1, h2⟩
    exact ⟨p.1, List.mem_range.mpr h1, List.mem_map.mpr ⟨p.2, List.mem_range.mpr h2, rfl⟩⟩
theorem stS_val {ks : List Str} {f : Nat → Nat → List Nat} (nd : ks.Nodup) {i j : Nat} (hi : i < ks.length) (hj : j < ks.length) : valD (stS ks f) [Sum.inr (nm ks i), Sum.inr (nm ks j)] = some (kl ks (f i j)) := by
  refine foldP_val _ _ (fun p hp e => ?_) (.inr ⟨(i, j), pairs_mem.mpr ⟨hi, hj⟩, rfl⟩)
  have hp := pairs_mem.mp hp
  unfold ky2 at e
  injection e with e1 e2
  injection e2 with e2 _
  have e1 : nm ks p.1 = nm ks i := by injection e1
  have e2 : nm ks p.2 = nm ks j := by injection e2
  rw [nm_inj nd hp.1 hi e1, nm_inj nd hp.2 hj e2]
/-- the two loops that fill the dict of the steps: body tells the value at each pair -/
theorem LD_of {ks : List Str} {t : Tab} (T : TT ks t) {f : Nat → Nat → List Nat} (hf : ∀ i j, i < ks.length → j < ks.length → f i j = inO ks.length (t.g i j)) : LD ks t (ldD ks t (bkS ks t) (stS ks f)) :=
  ⟨T, _, _, rfl, fun i hi => bkS_val T.nms.nd hi, fun i j hi hj => by rw [stS_val T.nms.nd hi hj, hf i j hi hj]⟩
/-- rows of the pairs -/
def rowsN (m i : Nat) : List (Nat × Nat) := (List.range i).flatMap fun a => (List.range m).map fun b => (a, b)
theorem rows_succ {m i : Nat} : rowsN m (i + 1) = rowsN m i ++ (List.range m).map fun b => (i, b) := by
  unfold rowsN
  rw [List.range_succ, List.flatMap_append]
  simp
theorem rows_len {m i : Nat} : (rowsN m i).length = i * m := by
  induction i with
  | zero => simp [rowsN]
  | succ i ih => rw [rows_succ, List.length_append, ih, List.length_map, List.length_range, Nat.succ_mul]
/-- two loops over the places of so many kinds that put at each pair -/
theorem two_loops {m : Nat} (hm : m ≤ 100) {g : Nat → D} {fs1 fs2 : FA} {m1 m2 : D → En → Option En} {mb : FS} {key : Nat × Nat → List Key} {val : Nat × Nat → D} (E : List (List Key × D) → En → Prop) (F : Nat → List (List Key × D) → En → Prop)
    (h1 : ∀ st ρ, E st ρ → fs1 ρ = some ((List.range m).map g)) (h2 : ∀ i st ρ, i < m → E st ρ → ∃ ρ1, m1 (g i) ρ = some ρ1 ∧ F i st ρ1) (h3 : ∀ i st ρ, F i st ρ → fs2 ρ = some ((List.range m).map g)) (hFE : ∀ i st ρ, F i st ρ → E st ρ)
    (h4 : ∀ i j st ρ, i < m → j < m → st.length < 100000 → F i st ρ → ∃ ρ1 ρ2, m2 (g j) ρ = some ρ1 ∧ mb ρ1 = some (.nx ρ2) ∧ F i (putD st (key (i, j)) (val (i, j))) ρ2) {ρ : En} (h0 : E [] ρ) :
    ∃ ρ', sFor fs1 m1 (sFor fs2 m2 mb) ρ = some (.nx ρ') ∧ E (foldP key val [] (pairsN m)) ρ' := by
  have lm : ((List.range m).map g).length = m := by rw [List.length_map, List.length_range]
  obtain ⟨ρ', e, h⟩ := sFor_nx (mt := m1) (mb := sFor fs2 m2 mb) (fun i ρ => i ≤ m ∧ E (foldP key val [] (rowsN m i)) ρ) (h1 [] ρ h0) ⟨Nat.zero_le _, h0⟩ fun i d ρ hd ⟨_, hE⟩ => by
    have hi : i < m := by
      have := (List.getElem?_eq_some_iff.mp hd).1
      rwa [lm] at this
    rw [List.getElem?_map, List.getElem?_range hi] at hd
    cases hd
    obtain ⟨ρ1, e1, hF⟩ := h2 i _ ρ hi hE
    obtain ⟨ρ2, e2, hF2⟩ := sFor_nx (mt := m2) (mb := mb) (fun j ρ => j ≤ m ∧ F i (foldP key val (foldP key val [] (rowsN m i)) ((List.range j).map fun b => (i, b))) ρ) (h3 i _ ρ1 hF) ⟨Nat.zero_le _, hF⟩ fun j d ρ hd ⟨_, hF⟩ => by
      have hj : j < m := by
        have := (List.getElem?_eq_some_iff.mp hd).1
        rwa [lm] at this
      rw [List.getElem?_map, List.getElem?_range hj] at hd
      cases hd
      obtain ⟨ρ3, ρ4, e3, e4, hF3⟩ := h4 i j _ ρ hi hj (by
        refine Nat.lt_of_le_of_lt (foldP_len _ _) ?_
        have := foldP_len (key := key) (val := val) (rowsN m i) []
        rw [rows_len] at this
        rw [List.length_map, List.length_range]
        have h5 : i * m ≤ 100 * 100 := Nat.mul_le_mul (by omega) hm
        simp only [List.length_nil] at this
        omega) hF
      refine ⟨ρ3, ρ4, e3, e4, hj, ?_⟩
      rw [List.range_succ, List.map_append, foldP_append]
      exact hF3
    rw [lm] at hF2
    refine ⟨ρ1, ρ2, e1, e2, hi, ?_⟩
    rw [rows_succ, foldP_append]
    exact hFE i _ _ hF2.2
  rw [lm] at h
  exact ⟨ρ', e, h.2⟩
/-- the dict's keys stand in order -/
def KeysOk (ks : List Str) (bk : List (Key × D)) (st : List (List Key × D)) : Prop := bk.map (·.1) = (List.range ks.length).map (fun i => (.inr (nm ks i) : Key)) ∧ st.map (·.1) = (pairsN ks.length).map (ky2 ks)
theorem pairs_nd {m : Nat} : (pairsN m).Nodup := by
  unfold pairsN
  rw [List.nodup_iff_pairwise_ne, List.flatMap_def, List.pairwise_flatten]
  refine ⟨fun l hl => ?_, ?_⟩
  · obtain ⟨i, _, rfl⟩ := List.mem_map.mp hl
    exact List.pairwise_map.mpr (List.Pairwise.imp (fun ne e => ne (by injection e)) List.nodup_range)
  · refine List.pairwise_map.mpr (List.Pairwise.imp (fun {a b} ne x hx y hy e => ?_) List.nodup_range)
    obtain ⟨_, _, rfl⟩ := List.mem_map.mp hx
    obtain ⟨_, _, rfl⟩ := List.mem_map.mp hy
    injection e with e1 _
    exact ne e1
theorem ky_nd {ks : List Str} (h : Nms ks) : ((pairsN ks.length).map (ky2 ks)).Nodup := by
  refine List.pairwise_map.mpr ?_
  refine List.Pairwise.imp_of_mem (R := (· ≠ ·)) (fun {a b} ha hb ne e => ne ?_) pairs_nd
  have ha := pairs_mem.mp ha
  have hb := pairs_mem.mp hb
  unfold ky2 at e
  injection e with e1 e2
  injection e2 with e2 _
  have e1 : nm ks a.1 = nm ks b.1 := by injection e1
  have e2 : nm ks a.2 = nm ks b.2 := by injection e2
  exact Prod.ext (nm_inj h.nd ha.1 hb.1 e1) (nm_inj h.nd ha.2 hb.2 e2)
theorem nm_nd {ks : List Str} (h : Nms ks) : ((List.range ks.length).map (fun i => (.inr (nm ks i) : Key))).Nodup := by
  refine List.pairwise_map.mpr ?_
  refine List.Pairwise.imp_of_mem (R := (· ≠ ·)) (fun {a b} ha hb ne e => ne ?_) List.nodup_range
  have e : nm ks a = nm ks b := by injection e
  exact nm_inj h.nd (List.mem_range.mp ha) (List.mem_range.mp hb) e
theorem foldP_keys {κ α : Type} [DecidableEq κ] {key : α → κ} {val : α → D} : ∀ (L : List α) (st : List (κ × D)), (st.map (·.1) ++ L.map key).Nodup → (foldP key val st L).map (·.1) = st.map (·.1) ++ L.map key
  | [], st, _ => by
    show st.map _ = _
    simp
  | q :: L, st, nd => by
    have hq : key q ∉ st.map (·.1) := fun z => (List.nodup_append.mp nd).2.2 _ z (key q) (by simp) rfl
    show (foldP key val (putD st (key q) (val q)) L).map (·.1) = _
    rw [putD_new hq, foldP_keys L]
    · simp
    · simpa using nd
/-- a told table, its dicts' keys in order -/
structure LK (ks : List Str) (t : Tab) (d : D) : Prop where
  ld : LD ks t d
  ko : ∃ bk st, d = ldD ks t bk st ∧ KeysOk ks bk st
theorem LK_of {ks : List Str} {t : Tab} (T : TT ks t) {f : Nat → Nat → List Nat} (hf : ∀ i j, i < ks.length → j < ks.length → f i j = inO ks.length (t.g i j)) : LK ks t (ldD ks t (bkS ks t) (stS ks f)) :=
  ⟨LD_of T hf, _, _, rfl, foldP_keys _ _ (by simpa using nm_nd T.nms), foldP_keys _ _ (by simpa using ky_nd T.nms)⟩
theorem ldD_inj {ks : List Str} {t : Tab} {bk bk' : List (Key × D)} {st st' : List (List Key × D)} (e : ldD ks t bk st = ldD ks t bk' st') : bk = bk' ∧ st = st' := by
  simp only [ldD, D.dic.injEq, List.cons.injEq, Prod.mk.injEq, and_true, true_and, D.dit.injEq] at e
  exact e
/-- all at once -/
theorem LK.all {ks : List Str} {t : Tab} {d : D} (h : LK ks t d) : ∃ bk st, d = ldD ks t bk st ∧ KeysOk ks bk st ∧ (∀ i, i < ks.length → valD bk (Sum.inr (nm ks i) : Key) = some (.str (nm ks (t.b i)))) ∧ ∀ i j, i < ks.length → j < ks.length → valD st [Sum.inr (nm ks i), Sum.inr (nm ks j)] = some (kl ks (inO ks.length (t.g i j))) := by
  obtain ⟨bk, st, e, h1, h2⟩ := h.ld.ex
  obtain ⟨bk', st', e', h3⟩ := h.ko
  obtain ⟨rfl, rfl⟩ := ldD_inj (e.symm.trans e')
  exact ⟨_, _, e, h3, h1, h2⟩
end KK
end

section
set_option Elab.async false
set_option linter.all false
set_option maxRecDepth 100000
/-! M15: _law_seen of a word, reckoned. -/
namespace KK
open PySem PySem.Spec PyProof.Rows L2 KW DL
open KwRing (Tab)
theorem in_kl {ks : List Str} (nd : ks.Nodup) {i : Nat} {l : List Nat} (hi : i < ks.length) (hl : ∀ k ∈ l, k < ks.length) : gIn false (.str (nm ks i)) (kl ks l) = some (.bl ((bitsN l).testBit i)) := by
  have hall : (l.map fun i => D.str (nm ks i)).all flatD = true := by
    rw [List.all_eq_true]
    intro d hd
    obtain ⟨j, _, rfl⟩ := List.mem_map.mp hd
    rfl
  show (if (true && _) = true then some (D.bl _) else none) = _
  rw [hall, if_pos (show (true && true) = true from rfl)]
  congr 2
  show (if false = true then _ else List.any _ _) = _
  rw [if_neg (by decide), Bool.eq_iff_iff, List.any_eq_true, bitsN_mem]
  constructor
  · rintro ⟨d, hd, e⟩
    obtain ⟨j, hj, rfl⟩ := List.mem_map.mp hd
    have e' : nm ks j = nm ks i := by simpa [eqFD] using e
    rw [← nm_inj nd (hl j hj) hi e']
    exact hj
  · intro z
    exact ⟨.str (nm ks i), List.mem_map.mpr ⟨i, z, rfl⟩, by simp [eqFD]⟩
theorem w_inord {ks : List Str} (h : Nms ks) {l : List Nat} (hl : ∀ k ∈ l, k < ks.length) : fn_inord [.lst (strL ks), kl ks l] = some (kl ks (inO ks.length (bitsN l))) := by
  have l13 := h.l13
  refine runF_rt (sRet_eq ((fLc_listO (l := List.range ks.length) (f := fun i => .str (nm ks i)) (g := fun k => if (bitsN l).testBit k = true then some (.str (nm ks k)) else none) (iL_eq (by rw [← strL_eq]; rfl)) (by rw [List.length_range]; omega) fun k hk => turn_if (b := (bitsN l).testBit k) rfl (fTest_eq (fOp_eq (x := .str (nm ks k)) (y := kl ks l) rfl rfl (in_kl h.nd (List.mem_range.mp hk) hl))) rfl).trans ?_))
  rw [filterMap_if]
  rfl
def hitL {α : Type} (L : List α) (c : α → Nat × Nat × Nat × Nat) (i j : Nat) : List Nat := (L.filter fun q => decide ((c q).1 = i ∧ (c q).2.1 = j)).map fun q => (c q).2.2.1
def hitN {α : Type} (L : List α) (c : α → Nat × Nat × Nat × Nat) (m i j : Nat) : List Nat := inO m (bitsN (hitL L c i j))
/-- what a table seen is: its kinds, its backs, its steps, by the triples -/
structure SeenOk {α : Type} (ks : List Str) (t : Tab) (L : List α) (c : α → Nat × Nat × Nat × Nat) : Prop where
  tt : TT ks t
  same : nm ks t.same = "same"
  cl : ∀ q ∈ L, (c q).1 < ks.length ∧ (c q).2.1 < ks.length ∧ (c q).2.2.1 < ks.length ∧ (c q).2.2.2 = t.b (c q).1
  has : ∀ i j k, i < ks.length → j < ks.length → k < ks.length → (t.has i j k = true ↔ ∃ q ∈ L, (c q).1 = i ∧ (c q).2.1 = j ∧ (c q).2.2.1 = k)
  ne : ∀ i j, i < ks.length → j < ks.length → ∃ q ∈ L, (c q).1 = i ∧ (c q).2.1 = j
  len : L.length < 90000
section
variable {W : Str} {ks : List Str} {t : Tab} {α : Type} {L : List α} {px py pz : α → D} {c : α → Nat × Nat × Nat × Nat} {rec : List D → Option D}
theorem hit_bits (h : SeenOk ks t L c) {i j : Nat} (hi : i < ks.length) (hj : j < ks.length) : bitsN (hitL L c i j) = t.g i j := nat_ext fun k => by
  rw [bitsN_mem]
  unfold hitL
  rw [List.mem_map]
  constructor
  · rintro ⟨q, hq, rfl⟩
    obtain ⟨h1, h2⟩ := List.mem_filter.mp hq
    have h2 := of_decide_eq_true h2
    exact (h.has i j _ hi hj (h.cl q h1).2.2.1).mpr ⟨q, h1, h2.1, h2.2, rfl⟩
  · intro z
    have hk : k < ks.length := by
      have := test_lt (h.tt.law.wf.gr i j (by rw [h.tt.hm]; exact hi) (by rw [h.tt.hm]; exact hj)) z
      rwa [h.tt.hm] at this
    obtain ⟨q, hq, e1, e2, e3⟩ := (h.has i j k hi hj hk).mp z
    exact ⟨q, List.mem_filter.mpr ⟨hq, decide_eq_true ⟨e1, e2⟩⟩, e3⟩
theorem seen_LD (h : SeenOk ks t L c) : LD ks t (ldD ks t (bkS ks t) (stS ks (hitN L c ks.length))) := by
  refine LD_of h.tt fun i j hi hj => ?_
  unfold hitN
  rw [hit_bits h hi hj]
theorem seen_LK (h : SeenOk ks t L c) : LK ks t (ldD ks t (bkS ks t) (stS ks (hitN L c ks.length))) := by
  refine LK_of h.tt fun i j hi hj => ?_
  unfold hitN
  rw [hit_bits h hi hj]
theorem w_lseen (h : SeenOk ks t L c) (hk : fn_lkof [.str W] = some (.lst (strL ks))) (hW : gEq (.str W) (.str "courses") = some (.bl false)) (ht : fn_ltrip [.str W] = some (.lst (L.map (tri px py pz)))) (S : Shown (.str W) ks L px py pz c) (a : Addr) :
    m_lseen rec a (env0 n_lseen.length [.str W]) = some (.rt (ldD ks t (bkS ks t) (stS ks (hitN L c ks.length)))) := by
  have l13 := h.tt.nms.l13
  have nd := h.tt.nms.nd
  show m_lseen rec a [some (.pur (.str W)), none, none, none, none, none, none, none, none] = _
  refine seq_nx (ρ' := [some (.pur (.str W)), some (.pur (.lst (strL ks))), none, none, none, none, none, none, none]) (sAsg_eq (fCallN_eq (xs := [.str W]) rfl rfl hk) rfl) ?_
  refine seq_nx (ρ' := [some (.pur (.str W)), some (.pur (.lst (strL ks))), none, none, none, none, none, none, none]) (sIf_f (fTest_eq (fOp_eq (x := .str W) (y := .str "courses") rfl rfl hW)) rfl) ?_
  -- the triples
  let PK : List (List Key) := (pairsN ks.length).map (ky2 ks)
  have hP : PK.length < 1000 := by
    show ((pairsN ks.length).map (ky2 ks)).length < 1000
    rw [List.length_map, show pairsN ks.length = rowsN ks.length ks.length from rfl, rows_len]
    have : ks.length * ks.length ≤ 13 * 13 := Nat.mul_le_mul l13 l13
    omega
  have hPK : ∀ q ∈ L, kyH ks c q ∈ PK := fun q hq => List.mem_map.mpr ⟨((c q).1, (c q).2.1), pairs_mem.mpr ⟨(h.cl q hq).1, (h.cl q hq).2.1⟩, rfl⟩
  obtain ⟨z5, z6, z7, z8, go⟩ := goH_shown (a := a) hP S hPK [] [] none none none none .nil (fun k hk => nomatch hk) (fun k => by show 0 + L.length < 100000; have := h.len; omega) (by show 0 + L.length < 100000; have := h.len; omega)
  unfold sHits
  show ((some (Ctl.nx (enS (.str W) ks a [] none none none none))).bind _) = _
  rw [Option.bind_some]
  simp only
  rw [if_pos (show ptrAt 2 a (enS (.str W) ks a [] none none none none) = true from beq_self_eq_true a)]
  have hi : iL (fCallN 1 fn_ltrip (fCons (fVar 0) fNil)) (enS (.str W) ks a [] none none none none) = some (L.map (tri px py pz)) := iL_eq (fCallN_eq (xs := [.str W]) rfl rfl ht)
  rw [hi, Option.bind_some]
  show ((goH 2 a mS m1S 8 feS m3S (L.map (tri px py pz)) (enS (.str W) ks a [] none none none none) []).bind _) = _
  rw [go, Option.bind_some]
  generalize hH : foldH (kyH ks c) (vaH ks c) [] L = hs
  generalize hB : foldB (kyB ks c) (vaB ks c) [] L = bk
  have hget : ∀ i j, i < ks.length → j < ks.length → valD (hs.map fun p => (p.1, D.lst p.2)) [Sum.inr (nm ks i), Sum.inr (nm ks j)] = some (kl ks (hitL L c i j)) := fun i j hi hj => by
    have hm : ([Sum.inr (nm ks i), Sum.inr (nm ks j)] : List Key) ∈ hs.map (·.1) := by
      rw [← hH, foldH_keys]
      obtain ⟨q, hq, e1, e2⟩ := h.ne i j hi hj
      refine .inr ⟨q, hq, ?_⟩
      unfold kyH
      rw [e1, e2]
    rw [val_hits hm, ← hH, foldH_get]
    congr 1
    unfold kl hitL
    rw [List.map_map]
    show D.lst ([] ++ _) = _
    rw [List.nil_append]
    congr 1
    rw [show (L.filter fun q => decide (kyH ks c q = [Sum.inr (nm ks i), Sum.inr (nm ks j)])) = L.filter fun q => decide ((c q).1 = i ∧ (c q).2.1 = j) from ?_]
    · rfl
    · refine List.filter_congr fun q hq => decide_eq_decide.mpr ⟨fun e => ?_, fun e => ?_⟩
      · unfold kyH at e
        injection e with e1 e2
        injection e2 with e2 _
        have e1 : nm ks (c q).1 = nm ks i := by injection e1
        have e2 : nm ks (c q).2.1 = nm ks j := by injection e2
        exact ⟨nm_inj nd (h.cl q hq).1 hi e1, nm_inj nd (h.cl q hq).2.1 hj e2⟩
      · unfold kyH
        rw [e.1, e.2]
  have hbk : ∀ i, i < ks.length → valD bk (Sum.inr (nm ks i) : Key) = some (.str (nm ks (t.b i))) := fun i hi => by
    rw [← hB]
    refine foldB_val _ _ (fun q hq e => ?_) (.inr ?_)
    · have e : nm ks (c q).1 = nm ks i := by injection e
      have := nm_inj nd (h.cl q hq).1 hi e
      unfold vaB
      rw [(h.cl q hq).2.2.2, this]
    · obtain ⟨q, hq, e1, _⟩ := h.ne i i hi hi
      refine ⟨q, hq, ?_⟩
      unfold kyB
      rw [e1]
  show (sSeq _ (sSeq _ _)) [some (.pur (.str W)), some (.pur (.lst (strL ks))), some (.pur (hitsD hs)), some (.own (.dic bk)), none, z5, z6, z7, z8] = _
  refine seq_nx (ρ' := [some (.pur (.str W)), some (.pur (.lst (strL ks))), some (.pur (hitsD hs)), some (.own (.dic bk)), some (.own (.dit [])), z5, z6, z7, z8]) rfl ?_
  obtain ⟨ρ', e, y5, y6, y7, y8, rfl⟩ := two_loops (m := ks.length) (by omega) (g := fun i => .str (nm ks i)) (fs1 := iL (fVar 1)) (fs2 := iL (fVar 1)) (m1 := mName 5) (m2 := mName 6) (mb := sPut 4 (fTup (fCons (fVar 5) (fCons (fVar 6) fNil))) (fCallN 2 (fn_inord) (fCons (fVar 1) (fCons (fOp gDGet (fVar 2) (fTup (fCons (fVar 5) (fCons (fVar 6) fNil)))) fNil))))
    (key := ky2 ks) (val := fun p => kl ks (hitN L c ks.length p.1 p.2))
    (fun st ρ => ∃ y5 y6 y7 y8, ρ = [some (.pur (.str W)), some (.pur (.lst (strL ks))), some (.pur (hitsD hs)), some (.own (.dic bk)), some (.own (.dit st)), y5, y6, y7, y8])
    (fun i st ρ => ∃ y6 y7 y8, ρ = [some (.pur (.str W)), some (.pur (.lst (strL ks))), some (.pur (hitsD hs)), some (.own (.dic bk)), some (.own (.dit st)), some (.pur (.str (nm ks i))), y6, y7, y8])
    (by
      rintro st ρ ⟨y5, y6, y7, y8, rfl⟩
      exact iL_eq (by rw [← strL_eq]; rfl))
    (by
      rintro i st ρ hi ⟨y5, y6, y7, y8, rfl⟩
      exact ⟨_, rfl, y6, y7, y8, rfl⟩)
    (by
      rintro i st ρ ⟨y6, y7, y8, rfl⟩
      exact iL_eq (by rw [← strL_eq]; rfl))
    (by
      rintro i st ρ ⟨y6, y7, y8, rfl⟩
      exact ⟨_, y6, y7, y8, rfl⟩)
    (by
      rintro i j st ρ hi hj hl ⟨y6, y7, y8, rfl⟩
      refine ⟨_, _, rfl, ?_, some (.pur (.str (nm ks j))), y7, y8, rfl⟩
      have tp : ∀ y7 y8, fTup (fCons (fVar 5) (fCons (fVar 6) fNil)) [some (Sl.pur (.str W)), some (.pur (.lst (strL ks))), some (.pur (hitsD hs)), some (.own (.dic bk)), some (.own (.dit st)), some (.pur (.str (nm ks i))), some (.pur (.str (nm ks j))), y7, y8] = some (.tup [.str (nm ks i), .str (nm ks j)]) := fun y7 y8 => fTup_eq rfl (by show 2 ≤ _; omega)
      have v : (fCallN 2 (fn_inord) (fCons (fVar 1) (fCons (fOp gDGet (fVar 2) (fTup (fCons (fVar 5) (fCons (fVar 6) fNil)))) fNil))) [some (Sl.pur (.str W)), some (.pur (.lst (strL ks))), some (.pur (hitsD hs)), some (.own (.dic bk)), some (.own (.dit st)), some (.pur (.str (nm ks i))), some (.pur (.str (nm ks j))), y7, y8] = some (kl ks (hitN L c ks.length i j)) := by
        refine fCallN_eq (xs := [.lst (strL ks), kl ks (hitL L c i j)]) (fCons_eq rfl (fCons_eq (fOp_eq (x := hitsD hs) (y := .tup [.str (nm ks i), .str (nm ks j)]) rfl (tp y7 y8) ?_) rfl)) rfl (w_inord h.tt.nms fun k hk => ?_)
        · show (some (valD (hs.map fun p => (p.1, D.lst p.2)) [Sum.inr (nm ks i), Sum.inr (nm ks j)])).bind id = _
          rw [hget i j hi hj]
          rfl
        · unfold hitL at hk
          obtain ⟨q, hq, rfl⟩ := List.mem_map.mp hk
          exact (h.cl q (List.mem_filter.mp hq).1).2.2.1
      show sPut _ _ _ [some (Sl.pur (.str W)), some (.pur (.lst (strL ks))), some (.pur (hitsD hs)), some (.own (.dic bk)), some (.own (.dit st)), some (.pur (.str (nm ks i))), some (.pur (.str (nm ks j))), y7, y8] = _
      unfold sPut
      rw [v, Option.bind_some, tp, Option.bind_some]
      show (if st.length < 100000 then _ else _) = _
      rw [if_pos hl]
      rfl)
    ⟨z5, z6, z7, z8, rfl⟩
  refine seq_nx e (sRet_eq ?_)
  refine fCallN_eq (xs := [.lst (strL ks), .str "same", .lst ((List.range ks.length).map fun i => .str (nm ks (t.b i))), .dit (stS ks (hitN L c ks.length))]) (fCons_eq rfl (fCons_eq rfl (fCons_eq ?_ (fCons_eq rfl rfl)))) rfl ?_
  · refine fLc_list (l := List.range ks.length) (f := fun i => .str (nm ks i)) (iL_eq (by rw [← strL_eq]; rfl)) (by rw [List.length_range]; omega) fun i hi => turn_one rfl (fOp_eq (x := .dic bk) (y := .str (nm ks i)) rfl rfl ?_)
    show (some (valD bk (Sum.inr (nm ks i) : Key))).bind id = _
    rw [hbk i (List.mem_range.mp hi)]
    rfl
  · rw [← h.same]
    exact w_ltable
end
end KK
end

section
set_option Elab.async false
set_option linter.all false
set_option maxRecDepth 100000
/-! M16: the tables seen, word by word. -/
namespace KK
open PySem PySem.Spec PyProof.Rows L2 KW DL
open KwRing (Tab)
open KwSeen (threes four)
theorem fold_test {a b k : Nat} : ∀ (l : List (Nat × Nat × Nat × Nat)) (r : Nat), (l.foldl (fun r q => if q.1 = a ∧ q.2.1 = b then r ||| 1 <<< q.2.2.1 else r) r).testBit k = true ↔ r.testBit k = true ∨ ∃ q ∈ l, q.1 = a ∧ q.2.1 = b ∧ q.2.2.1 = k := by
  intro l
  induction l with
  | nil => intro r; simp
  | cons x l ih =>
    intro r
    rw [List.foldl_cons, ih]
    by_cases hx : x.1 = a ∧ x.2.1 = b
    · rw [if_pos hx, Nat.testBit_or, Bool.or_eq_true, Nat.one_shiftLeft, Nat.testBit_two_pow, decide_eq_true_iff]
      constructor
      · rintro ((h | h) | ⟨q, hq, h⟩)
        · exact .inl h
        · exact .inr ⟨x, List.mem_cons_self, hx.1, hx.2, h⟩
        · exact .inr ⟨q, List.mem_cons_of_mem _ hq, h⟩
      · rintro (h | ⟨q, hq, h⟩)
        · exact .inl (.inl h)
        · rcases List.mem_cons.mp hq with rfl | hq
          · exact .inl (.inr h.2.2)
          · exact .inr ⟨q, hq, h⟩
    · rw [if_neg hx]
      constructor
      · rintro (h | ⟨q, hq, h⟩)
        · exact .inl h
        · exact .inr ⟨q, List.mem_cons_of_mem _ hq, h⟩
      · rintro (h | ⟨q, hq, h⟩)
        · exact .inl h
        · rcases List.mem_cons.mp hq with rfl | hq
          · exact absurd ⟨h.1, h.2.1⟩ hx
          · exact .inr ⟨q, hq, h⟩
theorem seen_g {m same : Nat} {l : List (Nat × Nat × Nat × Nat)} {i j : Nat} (hi : i < m) (hj : j < m) : (KwSeen.seen m same l).g i j = l.foldl (fun r q => if q.1 = i ∧ q.2.1 = j then r ||| 1 <<< q.2.2.1 else r) 0 := by
  unfold KwRing.Tab.g KwSeen.seen
  simp only
  rw [List.getD_eq_getElem?_getD, List.getD_eq_getElem?_getD, List.getElem?_map, List.getElem?_range hi]
  show ((((List.range m).map _)[j]?).getD 0) = _
  rw [List.getElem?_map, List.getElem?_range hj]
  rfl
theorem seenOk_wit {ks : List Str} {m same : Nat} {α : Type} {L WL : List α} {c : α → Nat × Nat × Nat × Nat} {t : Tab} (e : KwSeen.seen m same (WL.map c) = t) (sub : ∀ q ∈ WL, q ∈ L) (nms : Nms ks) (hm : ks.length = m) (hw : wfB t = true) (hl : t.lawful = true) (hs : nm ks t.same = "same")
    (hc : ((L.map c).all fun q => decide (q.1 < m) && decide (q.2.1 < m) && decide (q.2.2.1 < m) && decide (q.2.2.2 = t.b q.1) && t.has q.1 q.2.1 q.2.2.1) = true) (hn : ((List.range m).all fun i => (List.range m).all fun j => decide (t.g i j ≠ 0)) = true) (len : L.length < 90000) : SeenOk ks t L c := by
  have tm : t.m = m := by rw [← e]; rfl
  have hc' := fun q hq => List.all_eq_true.mp hc (c q) (List.mem_map.mpr ⟨q, hq, rfl⟩)
  simp only [Bool.and_eq_true, decide_eq_true_eq] at hc'
  have ex : ∀ i j k, i < m → j < m → ((t.g i j).testBit k = true ↔ ∃ q ∈ L, (c q).1 = i ∧ (c q).2.1 = j ∧ (c q).2.2.1 = k) := fun i j k hi hj => by
    constructor
    · intro z
      rw [← e, seen_g hi hj, fold_test] at z
      rcases z with h | ⟨q, hq, h⟩
      · simp at h
      · obtain ⟨p, hp, rfl⟩ := List.mem_map.mp hq
        exact ⟨p, sub p hp, h⟩
    · rintro ⟨q, hq, rfl, rfl, rfl⟩
      exact (hc' q hq).2
  refine ⟨⟨nms, law_of hw hl, by omega⟩, hs, fun q hq => ?_, fun i j k hi hj hk => ex i j k (by omega) (by omega), fun i j hi hj => ?_, len⟩
  · have := (hc' q hq).1
    exact ⟨by omega, by omega, by omega, this.2⟩
  · have h0 := of_decide_eq_true (List.all_eq_true.mp (List.all_eq_true.mp hn i (List.mem_range.mpr (by omega))) j (List.mem_range.mpr (by omega)))
    obtain ⟨k, hk⟩ := Nat.exists_testBit_of_ne_zero h0
    obtain ⟨q, hq, h1, h2, _⟩ := (ex i j k (by omega) (by omega)).mp hk
    exact ⟨q, hq, h1, h2⟩
theorem seenOk_of {ks : List Str} {m same : Nat} {α : Type} {L : List α} {c : α → Nat × Nat × Nat × Nat} {t : Tab} (e : KwSeen.seen m same (L.map c) = t) (nms : Nms ks) (hm : ks.length = m) (hw : wfB t = true) (hl : t.lawful = true) (hs : nm ks t.same = "same")
    (hc : ((L.map c).all fun q => decide (q.1 < m) && decide (q.2.1 < m) && decide (q.2.2.1 < m) && decide (q.2.2.2 = t.b q.1) && t.has q.1 q.2.1 q.2.2.1) = true) (hn : ((List.range m).all fun i => (List.range m).all fun j => decide (t.g i j ≠ 0)) = true) (len : L.length < 90000) : SeenOk ks t L c := seenOk_wit e (fun _ h => h) nms hm hw hl hs hc hn len
/-! ### triples of things -/
theorem w_ltrip {W : Str} {α : Type} {l : List α} {e : α → D} (h1 : gEq (.str W) (.str "parts") = some (.bl false)) (h2 : gEq (.str W) (.str "courses") = some (.bl false)) (ht : fn_lthings [.str W] = some (.lst (l.map e))) (hl : l.length ≤ 20) :
    fn_ltrip [.str W] = some (.lst ((threes l).map (tri (fun q => e q.1) (fun q => e q.2.1) (fun q => e q.2.2)))) := by
  let en := fun (fo : List D) (y3 y5 : Option Sl) => [some (Sl.pur (.str W)), some (.pur (.lst (l.map e))), some (.pur (.lst fo)), y3, none, y5, none, none, none, none, none]
  have lm : (l.map e).length = l.length := List.length_map _
  let T3 := fun a b c => D.tup [e a, e b, e c]
  let R2 := fun (a b : α) => l.map (T3 a b)
  let R1 := fun (a : α) (j : Nat) => (l.take j).flatMap (R2 a)
  let R0 := fun (i : Nat) => (l.take i).flatMap fun a => l.flatMap (R2 a)
  have n2 : ∀ a b, (R2 a b).length = l.length := fun a b => List.length_map _
  have n1 : ∀ a (m : List α), (m.flatMap (R2 a)).length ≤ m.length * 20 := fun a m => flat_len fun b _ => by rw [n2]; exact hl
  have n0 : ∀ i, (R0 i).length ≤ 8000 := fun i => by
    have : (R0 i).length ≤ (l.take i).length * 400 := flat_len fun a _ => Nat.le_trans (n1 a l) (by omega)
    have h3 : (l.take i).length ≤ 20 := by rw [List.length_take]; omega
    omega
  refine runF_rt ?_
  show m_ltrip [some (.pur (.str W)), none, none, none, none, none, none, none, none, none, none] = _
  refine seq_nx (ρ' := [some (.pur (.str W)), none, none, none, none, none, none, none, none, none, none]) (sIf_f (fTest_eq (fOp_eq (x := .str W) (y := .str "parts") rfl rfl h1)) rfl) ?_
  show (sSeq _ _) [some (.pur (.str W)), none, none, none, none, none, none, none, none, none, none] = _
  refine seq_nx (ρ' := [some (.pur (.str W)), none, none, none, none, none, none, none, none, none, none]) (sIf_f (fTest_eq (fOp_eq (x := .str W) (y := .str "courses") rfl rfl h2)) rfl) ?_
  refine seq_nx (ρ' := [some (.pur (.str W)), some (.pur (.lst (l.map e))), none, none, none, none, none, none, none, none, none]) (sAsg_eq (fCallN_eq (xs := [.str W]) rfl rfl ht) rfl) ?_
  refine seq_nx (ρ' := [some (.pur (.str W)), some (.pur (.lst (l.map e))), some (.own (.lst [])), none, none, none, none, none, none, none, none]) rfl ?_
  show (sSeq _ _) (en [] none none) = _
  refine seq_for (fun i ρ => ∃ y3 y5, ρ = en (R0 i) y3 y5) (iL_eq (ds := l.map e) rfl) ⟨none, none, rfl⟩ (fun i d ρ hd hJ => ?_) fun ρ' hJ => ?_
  · obtain ⟨y3, y5, rfl⟩ := hJ
    have hi : i < l.length := by
      have := (List.getElem?_eq_some_iff.mp hd).1
      omega
    rw [List.getElem?_map, List.getElem?_eq_getElem hi] at hd
    cases hd
    refine ⟨en (R0 i) (some (.pur (e l[i]))) y5, ?_⟩
    obtain ⟨ρ2, e2, y5', hρ⟩ := sFor_nx (fs := iL (fVar 1)) (mt := mName 5) (mb := sAsg (fOp gCatL (fVar 2) (fLc (iL (fVar 1)) (mName 10) (fun _ => some true) (fTup (fCons (fVar 3) (fCons (fVar 5) (fCons (fVar 10) fNil)))) [10])) (mName 2))
      (fun j ρ => ∃ y5, ρ = en (R0 i ++ R1 l[i] j) (some (.pur (e l[i]))) y5) (ρ := en (R0 i) (some (.pur (e l[i]))) y5) (iL_eq (ds := l.map e) rfl) ⟨y5, by show en _ _ _ = en (R0 i ++ []) _ _; rw [List.append_nil]⟩ fun j d ρ hd hJ => by
        obtain ⟨y5, rfl⟩ := hJ
        have hj : j < l.length := by
          have := (List.getElem?_eq_some_iff.mp hd).1
          omega
        rw [List.getElem?_map, List.getElem?_eq_getElem hj] at hd
        cases hd
        refine ⟨en (R0 i ++ R1 l[i] j) (some (.pur (e l[i]))) (some (.pur (e l[j]))), _, rfl, sAsg_eq (fOp_eq (x := .lst (R0 i ++ R1 l[i] j)) (y := .lst (R2 l[i] l[j])) rfl ?_ (z := .lst (R0 i ++ R1 l[i] (j + 1))) ?_) rfl, _, rfl⟩
        · exact fLc_list (l := l) (f := e) (g := T3 l[i] l[j]) (iL_eq (ds := l.map e) rfl) (by omega) fun x hx => turn_one rfl (fTup_eq rfl (by show 3 ≤ _; omega))
        · show (if (R0 i ++ R1 l[i] j).length + (R2 l[i] l[j]).length ≤ 100000 then some (D.lst ((R0 i ++ R1 l[i] j) ++ R2 l[i] l[j])) else none) = _
          have a1 := n0 i
          have a2 := n1 l[i] (l.take j)
          have a3 : (l.take j).length ≤ 20 := by rw [List.length_take]; omega
          rw [if_pos (by rw [List.length_append, n2]; show (R0 i).length + ((l.take j).flatMap (R2 l[i])).length + _ ≤ _; omega)]
          congr 2
          show (R0 i ++ (l.take j).flatMap (R2 l[i])) ++ R2 l[i] l[j] = R0 i ++ (l.take (j + 1)).flatMap (R2 l[i])
          rw [List.take_succ_eq_append_getElem hj, List.flatMap_append, List.append_assoc]
          simp
    refine ⟨ρ2, rfl, e2, some (.pur (e l[i])), y5', ?_⟩
    rw [hρ]
    show en (R0 i ++ (l.take (l.map e).length).flatMap (R2 l[i])) _ _ = en ((l.take (i + 1)).flatMap fun a => l.flatMap (R2 a)) _ _
    rw [lm, List.take_length, List.take_succ_eq_append_getElem hi, List.flatMap_append]
    simp [R0]
  · obtain ⟨y3, y5, rfl⟩ := hJ
    refine sRet_eq ?_
    show some (D.lst (R0 (l.map e).length)) = _
    rw [lm]
    congr 2
    show (l.take l.length).flatMap (fun a => l.flatMap (R2 a)) = _
    rw [List.take_length]
    unfold threes
    rw [List.map_flatMap]
    congr 1
    funext a
    rw [List.map_flatMap]
    congr 1
    funext b
    rw [List.map_map]
    rfl
def isS : Option D → Str → Bool
  | some (.str x), y => decide (x = y)
  | _, _ => false
theorem isS_eq {o : Option D} {x : Str} (h : isS o x = true) : o = some (.str x) := by
  unfold isS at h
  split at h
  · rw [of_decide_eq_true h]
  · cases h
theorem mem_threes {T : Type} {l : List T} {q : T × T × T} : q ∈ threes l ↔ q.1 ∈ l ∧ q.2.1 ∈ l ∧ q.2.2 ∈ l := by
  unfold threes
  simp only [List.mem_flatMap, List.mem_map]
  constructor
  · rintro ⟨a, ha, b, hb, c, hc, rfl⟩
    exact ⟨ha, hb, hc⟩
  · rintro ⟨h1, h2, h3⟩
    exact ⟨q.1, h1, q.2.1, h2, q.2.2, h3, rfl⟩
theorem shown_threes {W : Str} {α : Type} {l : List α} {e : α → D} {k : α → α → Nat} {ks : List Str} (h : (l.all fun x => l.all fun y => isS (fn_lkind [.str W, e x, e y]) (nm ks (k x y))) = true) : Shown (.str W) ks (threes l) (fun q => e q.1) (fun q => e q.2.1) (fun q => e q.2.2) (four k) := by
  have z : ∀ x ∈ l, ∀ y ∈ l, fn_lkind [.str W, e x, e y] = some (.str (nm ks (k x y))) := fun x hx y hy => isS_eq (List.all_eq_true.mp (List.all_eq_true.mp h x hx) y hy)
  refine ⟨fun q hq => ?_, fun q hq => ?_, fun q hq => ?_, fun q hq => ?_⟩ <;> obtain ⟨h1, h2, h3⟩ := mem_threes.mp hq
  · exact z _ h1 _ h2
  · exact z _ h2 _ h3
  · exact z _ h1 _ h3
  · exact z _ h2 _ h1
/-! ### the words -/
def ksMo : List Str := ["ahead", "same", "behind"]
def ksBr : List Str := ["up", "same", "down", "apart"]
def ksPa : List Str := ["within", "around", "same", "across", "apart"]
def ksSt : List Str := ["before", "meets", "overlaps", "begins", "within", "ends", "same", "ended", "around", "begun", "overlaid", "met", "after"]
def ksCo : List Str := ["nw", "n", "ne", "w", "same", "e", "sw", "s", "se"]
instance : DecidablePred NameS := fun x => by unfold NameS; infer_instance
theorem nmsMo : Nms ksMo := ⟨by decide +kernel, by decide, by decide, by decide +kernel⟩
theorem nmsBr : Nms ksBr := ⟨by decide +kernel, by decide, by decide, by decide +kernel⟩
theorem nmsPa : Nms ksPa := ⟨by decide +kernel, by decide, by decide, by decide +kernel⟩
theorem nmsSt : Nms ksSt := ⟨by decide +kernel, by decide, by decide, by decide +kernel⟩
theorem nmsCo : Nms ksCo := ⟨by decide +kernel, by decide, by decide, by decide +kernel⟩
def dSt (p : Nat × Nat) : D := .tup [nat p.1, nat p.2]
def dT (p : List Nat) : D := .tup (p.map nat)
def dL (p : List Nat) : D := .lst (p.map nat)
set_option maxHeartbeats 0
theorem okMo : SeenOk ksMo KwSeen.moments' (threes [0, 1, 2]) (four KwSeen.sg) := seenOk_of (m := 3) (same := 1) KwSeen.moments_eq nmsMo rfl (by decide +kernel) (by decide +kernel) (by decide +kernel) (by decide +kernel) (by decide +kernel) (by decide +kernel)
theorem okBr : SeenOk ksBr KwSeen.branches' (threes KwSeen.thBr) (four KwSeen.kBr) := seenOk_of (m := 4) (same := 1) KwSeen.branches_eq nmsBr rfl (by decide +kernel) (by decide +kernel) (by decide +kernel) (by decide +kernel) (by decide +kernel) (by decide +kernel)
theorem okPa : SeenOk ksPa KwSeen.parts' KwSeen.thPa (four KwSeen.kPa) := seenOk_of (m := 5) (same := 2) KwSeen.parts_eq nmsPa rfl (by decide +kernel) (by decide +kernel) (by decide +kernel) (by decide +kernel) (by decide +kernel) (by decide +kernel)
theorem wit_sub : (KwSeen.witSt.all fun q => KwSeen.thSt.contains q.1 && KwSeen.thSt.contains q.2.1 && KwSeen.thSt.contains q.2.2) = true := by decide +kernel
theorem okSt : SeenOk ksSt KwSeen.stretches' (threes KwSeen.thSt) (four KwSeen.kSt) := seenOk_wit (m := 13) (same := 6) KwSeen.stretches_wit (fun q hq => by
  have := List.all_eq_true.mp wit_sub q hq
  simp only [Bool.and_eq_true, List.contains_iff_mem] at this
  exact mem_threes.mpr ⟨this.1.1, this.1.2, this.2⟩) nmsSt rfl (by decide +kernel) KwSeen.stretches_lawful' (by decide +kernel) (by decide +kernel) (by decide +kernel) (by decide +kernel)
theorem shMo : Shown (.str "moments") ksMo (threes [0, 1, 2]) (fun q => nat q.1) (fun q => nat q.2.1) (fun q => nat q.2.2) (four KwSeen.sg) := shown_threes (e := nat) (by decide +kernel)
theorem shBr : Shown (.str "branches") ksBr (threes KwSeen.thBr) (fun q => dT q.1) (fun q => dT q.2.1) (fun q => dT q.2.2) (four KwSeen.kBr) := shown_threes (e := dT) (by decide +kernel)
theorem shSt : Shown (.str "stretches") ksSt (threes KwSeen.thSt) (fun q => dSt q.1) (fun q => dSt q.2.1) (fun q => dSt q.2.2) (four KwSeen.kSt) := shown_threes (e := dSt) (by decide +kernel)
theorem shPa : Shown (.str "parts") ksPa KwSeen.thPa (fun q => dL q.1) (fun q => dL q.2.1) (fun q => dL q.2.2) (four KwSeen.kPa) := by
  have h : (KwSeen.thPa.all fun q => isS (fn_lkind [.str "parts", dL q.1, dL q.2.1]) (nm ksPa (four KwSeen.kPa q).1) && isS (fn_lkind [.str "parts", dL q.2.1, dL q.2.2]) (nm ksPa (four KwSeen.kPa q).2.1) && isS (fn_lkind [.str "parts", dL q.1, dL q.2.2]) (nm ksPa (four KwSeen.kPa q).2.2.1) && isS (fn_lkind [.str "parts", dL q.2.1, dL q.1]) (nm ksPa (four KwSeen.kPa q).2.2.2)) = true := by decide +kernel
  have z := fun q hq => List.all_eq_true.mp h q hq
  simp only [Bool.and_eq_true] at z
  exact ⟨fun q hq => isS_eq (z q hq).1.1.1, fun q hq => isS_eq (z q hq).1.1.2, fun q hq => isS_eq (z q hq).1.2, fun q hq => isS_eq (z q hq).2⟩
theorem trMo : fn_ltrip [.str "moments"] = some (.lst ((threes [0, 1, 2]).map (tri (fun q => nat q.1) (fun q => nat q.2.1) (fun q => nat q.2.2)))) := w_ltrip (e := nat) (by kernel_rfl) (by kernel_rfl) (by kernel_rfl) (by decide)
theorem trBr : fn_ltrip [.str "branches"] = some (.lst ((threes KwSeen.thBr).map (tri (fun q => dT q.1) (fun q => dT q.2.1) (fun q => dT q.2.2)))) := w_ltrip (e := dT) (by kernel_rfl) (by kernel_rfl) (by kernel_rfl) (by decide)
theorem trSt : fn_ltrip [.str "stretches"] = some (.lst ((threes KwSeen.thSt).map (tri (fun q => dSt q.1) (fun q => dSt q.2.1) (fun q => dSt q.2.2)))) := w_ltrip (e := dSt) (by kernel_rfl) (by kernel_rfl) (by kernel_rfl) (by decide)
theorem trPa : fn_ltrip [.str "parts"] = some (.lst (KwSeen.thPa.map (tri (fun q => dL q.1) (fun q => dL q.2.1) (fun q => dL q.2.2)))) := by kernel_rfl
theorem koMo : fn_lkof [.str "moments"] = some (.lst (strL ksMo)) := by kernel_rfl
theorem koBr : fn_lkof [.str "branches"] = some (.lst (strL ksBr)) := by kernel_rfl
theorem koPa : fn_lkof [.str "parts"] = some (.lst (strL ksPa)) := by kernel_rfl
theorem koSt : fn_lkof [.str "stretches"] = some (.lst (strL ksSt)) := by kernel_rfl
theorem koCo : fn_lkof [.str "courses"] = some (.lst (strL ksCo)) := by kernel_rfl
end KK
end

section
set_option Elab.async false
set_option linter.all false
set_option maxRecDepth 100000
/-! M17: the courses; what _law_seen tells, word by word. -/
namespace KK
open PySem PySem.Spec PyProof.Rows L2 KW DL
open KwRing (Tab)
open KwSeen (threes four)
def idx (ks : List Str) (x : Str) : Nat := ks.findIdx fun y => decide (y = x)
theorem nm_idx {ks : List Str} {x : Str} (h : (ks.any fun y => decide (y = x)) = true) : idx ks x < ks.length ∧ nm ks (idx ks x) = x := by
  obtain ⟨y, hy, e⟩ := List.any_eq_true.mp h
  have hl : idx ks x < ks.length := List.findIdx_lt_length.mpr ⟨y, hy, e⟩
  refine ⟨hl, ?_⟩
  have := List.findIdx_getElem (w := hl)
  have := of_decide_eq_true this
  unfold nm
  rw [List.getD_eq_getElem?_getD, List.getElem?_eq_getElem hl]
  exact this
theorem strsD_inv : ∀ {ds : List D} {ns : List Str}, strsD ds = some ns → ds = ns.map D.str
  | [], ns, h => by
    cases h
    rfl
  | .str x :: ds, ns, h => by
    obtain ⟨r, e, rfl⟩ := Option.map_eq_some_iff.mp (show (strsD ds).map (x :: ·) = some ns from h)
    rw [strsD_inv e, List.map_cons]
  | .non :: _, _, h | .bl _ :: _, _, h | .int _ :: _, _, h | .lst _ :: _, _, h | .tup _ :: _, _, h | .dic _ :: _, _, h | .dit _ :: _, _, h | .ins _ _ :: _, _, h => by cases h
def chkStep (ks : List Str) (g : Nat) : Option D → Bool
  | some (.lst ds) => match strsD ds with
    | some ns => (ns.all fun x => ks.any fun y => decide (y = x)) && decide (ns.map (idx ks) = inO ks.length g)
    | none => false
  | _ => false
theorem chkStep_ok {ks : List Str} {g : Nat} {o : Option D} (h : chkStep ks g o = true) : o = some (kl ks (inO ks.length g)) := by
  unfold chkStep at h
  split at h
  · rename_i ds
    split at h
    · rename_i ns e
      simp only [Bool.and_eq_true, decide_eq_true_eq] at h
      obtain ⟨h1, h2⟩ := h
      have z := fun x hx => nm_idx (List.all_eq_true.mp h1 x hx)
      rw [← h2, strsD_inv e]
      unfold kl
      rw [List.map_map]
      congr 2
      refine List.map_congr_left fun x hx => ?_
      show D.str x = D.str (nm ks (idx ks x))
      rw [(z x hx).2]
    · cases h
  · cases h
def chkLD (ks : List Str) (t : Tab) : Option D → Bool
  | some (.dic [(.inr a, .lst kd), (.inr b, .str s), (.inr c, .dic bk), (.inr e, .dit st)]) => decide (a = "kinds") && decide (b = "same") && decide (c = "back") && decide (e = "step") && decide (strsD kd = some ks) && decide (s = nm ks t.same) && ((List.range ks.length).all fun i => isS (valD bk (Sum.inr (nm ks i) : Key)) (nm ks (t.b i))) && ((List.range ks.length).all fun i => (List.range ks.length).all fun j => chkStep ks (t.g i j) (valD st [Sum.inr (nm ks i), Sum.inr (nm ks j)]))
  | _ => false
theorem chkLD_ok {ks : List Str} {t : Tab} {o : Option D} (T : TT ks t) (h : chkLD ks t o = true) : ∃ d, o = some d ∧ LD ks t d := by
  unfold chkLD at h
  split at h
  · rename_i a kd b s c bk e st
    simp only [Bool.and_eq_true, decide_eq_true_eq] at h
    obtain ⟨⟨⟨⟨⟨⟨⟨rfl, rfl⟩, rfl⟩, rfl⟩, h5⟩, rfl⟩, h7⟩, h8⟩ := h
    refine ⟨_, rfl, T, bk, st, ?_, fun i hi => isS_eq (List.all_eq_true.mp h7 i (List.mem_range.mpr hi)), fun i j hi hj => chkStep_ok (List.all_eq_true.mp (List.all_eq_true.mp h8 i (List.mem_range.mpr hi)) j (List.mem_range.mpr hj))⟩
    rw [strsD_inv h5]
    rfl
  · cases h
def chkLK (ks : List Str) : Option D → Bool
  | some (.dic [_, _, (_, .dic bk), (_, .dit st)]) => decide (bk.map (·.1) = (List.range ks.length).map (fun i => (.inr (nm ks i) : Key))) && decide (st.map (·.1) = (pairsN ks.length).map (ky2 ks))
  | _ => false
theorem chkLK_ok {ks : List Str} {t : Tab} {o : Option D} (T : TT ks t) (h : chkLD ks t o = true) (h2 : chkLK ks o = true) : ∃ d, o = some d ∧ LK ks t d := by
  obtain ⟨d, rfl, L⟩ := chkLD_ok T h
  refine ⟨d, rfl, L, ?_⟩
  obtain ⟨bk, st, rfl, _⟩ := L.ex
  unfold ldD chkLK at h2
  simp only [Bool.and_eq_true, decide_eq_true_eq] at h2
  exact ⟨bk, st, rfl, h2.1, h2.2⟩
def dMo : D := ldD ksMo KwSeen.moments' (bkS ksMo KwSeen.moments') (stS ksMo (hitN (threes [0, 1, 2]) (four KwSeen.sg) 3))
def dBr : D := ldD ksBr KwSeen.branches' (bkS ksBr KwSeen.branches') (stS ksBr (hitN (threes KwSeen.thBr) (four KwSeen.kBr) 4))
def dPa : D := ldD ksPa KwSeen.parts' (bkS ksPa KwSeen.parts') (stS ksPa (hitN KwSeen.thPa (four KwSeen.kPa) 5))
def dStr : D := ldD ksSt KwSeen.stretches' (bkS ksSt KwSeen.stretches') (stS ksSt (hitN (threes KwSeen.thSt) (four KwSeen.kSt) 13))
theorem ldMo : LD ksMo KwSeen.moments' dMo := seen_LD okMo
theorem ldBr : LD ksBr KwSeen.branches' dBr := seen_LD okBr
theorem ldPa : LD ksPa KwSeen.parts' dPa := seen_LD okPa
theorem ldSt : LD ksSt KwSeen.stretches' dStr := seen_LD okSt
theorem lkMo : LK ksMo KwSeen.moments' dMo := seen_LK okMo
theorem lkBr : LK ksBr KwSeen.branches' dBr := seen_LK okBr
theorem lkPa : LK ksPa KwSeen.parts' dPa := seen_LK okPa
theorem lkSt : LK ksSt KwSeen.stretches' dStr := seen_LK okSt
def fs0 : List D → Option D
  | [.str w] => if w = "moments" then some dMo else none
  | _ => none
def fs1 : List D → Option D
  | [.str w] => if w = "moments" then some dMo else if w = "branches" then some dBr else if w = "parts" then some dPa else if w = "stretches" then some dStr else if w = "courses" then fn_lcour fs0 [.lst (strL ksCo)] else none
  | _ => none
theorem hf0 {rec : List D → Option D} : ∀ ds d, fs0 ds = some d → ∀ a, m_lseen rec a (env0 n_lseen.length ds) = some (.rt d) := by
  intro ds d h a
  unfold fs0 at h
  split at h
  · split at h
    · rename_i e
      subst e
      cases h
      exact w_lseen okMo koMo (by kernel_rfl) trMo shMo a
    · cases h
  · cases h
theorem hf1 : ∀ ds d, fs1 ds = some d → ∀ a, m_lseen (fn_lcour fs0) a (env0 n_lseen.length ds) = some (.rt d) := by
  intro ds d h a
  unfold fs1 at h
  split at h
  · split at h
    · rename_i e
      subst e
      cases h
      exact w_lseen okMo koMo (by kernel_rfl) trMo shMo a
    · split at h
      · rename_i e
        subst e
        cases h
        exact w_lseen okBr koBr (by kernel_rfl) trBr shBr a
      · split at h
        · rename_i e
          subst e
          cases h
          exact w_lseen okPa koPa (by kernel_rfl) trPa shPa a
        · split at h
          · rename_i e
            subst e
            cases h
            exact w_lseen okSt koSt (by kernel_rfl) trSt shSt a
          · split at h
            · rename_i e
              subst e
              show m_lseen (fn_lcour fs0) a [some (.pur (.str "courses")), none, none, none, none, none, none, none, none] = _
              refine seq_nx (ρ' := [some (.pur (.str "courses")), some (.pur (.lst (strL ksCo))), none, none, none, none, none, none, none]) (sAsg_eq (fCallN_eq (xs := [.str "courses"]) rfl rfl koCo) rfl) ?_
              refine sSeq_rt (sIf_t (fTest_eq (fOp_eq (x := .str "courses") (y := .str "courses") rfl rfl gEq_str)) (sRet_eq (fCallN_eq (xs := [.lst (strL ksCo)]) rfl rfl h)))
            · cases h
  · cases h
set_option maxHeartbeats 0
theorem ttCo : TT ksCo KwSeen.courses' := ⟨nmsCo, law_of (by decide +kernel) (by rw [← KwSeen.courses_eq]; exact KwSeen.courses_lawful), rfl⟩
theorem chkCo : chkLD ksCo KwSeen.courses' (fn_lcour fs0 [.lst (strL ksCo)]) = true := by decide +kernel
theorem chkCoK : chkLK ksCo (fn_lcour fs0 [.lst (strL ksCo)]) = true := by decide +kernel
theorem fs1_mo : fs1 [.str "moments"] = some dMo := by kernel_rfl
theorem fs1_br : fs1 [.str "branches"] = some dBr := by kernel_rfl
theorem fs1_pa : fs1 [.str "parts"] = some dPa := by kernel_rfl
theorem fs1_st : fs1 [.str "stretches"] = some dStr := by kernel_rfl
theorem fs1_coK : ∃ d, fs1 [.str "courses"] = some d ∧ LK ksCo KwSeen.courses' d := by
  obtain ⟨d, e, h⟩ := chkLK_ok ttCo chkCo chkCoK
  exact ⟨d, (show fs1 [.str "courses"] = fn_lcour fs0 [.lst (strL ksCo)] by kernel_rfl).trans e, h⟩
theorem fs1_co : ∃ d, fs1 [.str "courses"] = some d ∧ LD ksCo KwSeen.courses' d := by
  obtain ⟨d, e, h⟩ := chkLD_ok ttCo chkCo
  exact ⟨d, (show fs1 [.str "courses"] = fn_lcour fs0 [.lst (strL ksCo)] by kernel_rfl).trans e, h⟩
end KK
end

section
set_option Elab.async false
set_option linter.all false
set_option maxRecDepth 100000
/-! M18: the drawn names. -/
namespace KK
open PySem PySem.Spec PyProof.Rows L2 KW DL
theorem gAdd_nat {a b : Nat} : gAdd (nat a) (nat b) = some (nat (a + b)) := by
  show some (D.int ((a : Int) + (b : Int))) = _
  rw [← Int.natCast_add]
theorem gMul_nat {a b : Nat} (h : a < 2 ^ 60) : gMul (nat a) (nat b) = some (nat (a * b)) := by
  have c : decide ((-(2 ^ 64) < (a : Int) ∧ (a : Int) < 2 ^ 64) ∨ (-(2 ^ 64) < (b : Int) ∧ (b : Int) < 2 ^ 64)) = true := decide_eq_true (.inl ⟨by omega, by omega⟩)
  unfold gMul gIc
  simp only
  rw [if_pos c, ← Int.natCast_mul]
theorem gMod_nat {a b : Nat} (h : 0 < b) : gMod (nat a) (nat b) = some (nat (a % b)) := by
  show (if decide (0 < (b : Int)) = true then some (D.int ((a : Int) % (b : Int))) else none) = _
  rw [if_pos (decide_eq_true (by omega)), ← Int.natCast_emod]
theorem gDiv_nat {a b : Nat} (h : 0 < b) (h2 : b < 1000) : gDiv (nat a) (nat b) = some (nat (a / b)) := by
  show (if decide (0 < (b : Int) ∧ (b : Int) < 1073741824) = true then some (D.int ((a : Int) / (b : Int))) else none) = _
  rw [if_pos (decide_eq_true ⟨by omega, by omega⟩), ← Int.natCast_ediv]
theorem abc_len : abc.length = 26 := by decide +kernel
theorem abc_at {j : Nat} (h : j < 26) : gIxS (.str abc) (nat j) = some (.str ⟨#[97 + j]⟩) := by
  have all : ((List.range 26).all fun j => isS (gIxS (.str abc) (nat j)) ⟨#[97 + j]⟩) = true := by decide +kernel
  exact isS_eq (List.all_eq_true.mp all j (List.mem_range.mpr h))
/-- a letter between two texts -/
def mkW (pre post : Str) (c : Nat) : Str := pre ++ ⟨#[c]⟩ ++ post
theorem mkW_list (pre post : Str) (c : Nat) : (mkW pre post c).cps.toList = pre.cps.toList ++ [c] ++ post.cps.toList := by
  show ((pre.cps ++ #[c]) ++ post.cps).toList = _
  simp
theorem str_len (x : Str) : x.length = x.cps.toList.length := by
  show x.cps.size = _
  simp
def okParts (pre post : Str) : Bool := decide (pre.length + post.length ≤ 7) && (pre.cps.toList ++ post.cps.toList).all fun c => decide (97 ≤ c) && decide (c ≤ 122)
theorem mkW_name {pre post : Str} {c : Nat} (h : okParts pre post = true) (hc : 97 ≤ c ∧ c ≤ 122) : NameS (mkW pre post c) := by
  unfold okParts at h
  simp only [Bool.and_eq_true, decide_eq_true_eq, List.all_eq_true] at h
  obtain ⟨h1, h2⟩ := h
  rw [str_len, str_len] at h1
  have hl : (mkW pre post c).length = pre.cps.toList.length + 1 + post.cps.toList.length := by
    rw [str_len, mkW_list]
    simp only [List.length_append, List.length_singleton]
  refine ⟨by omega, by omega, fun x hx => ?_⟩
  rw [mkW_list] at hx
  rcases List.mem_append.mp hx with hx | hx
  · rcases List.mem_append.mp hx with hx | hx
    · exact h2 x (List.mem_append_left _ hx)
    · rw [List.mem_singleton.mp hx]
      exact hc
  · exact h2 x (List.mem_append_right _ hx)
theorem mkW_inj {pre post : Str} {c d : Nat} (e : mkW pre post c = mkW pre post d) : c = d := by
  have := congrArg (fun x : Str => x.cps.toList) e
  simp only [mkW_list, List.append_assoc] at this
  have e2 := List.append_cancel_left this
  injection e2
def stemL : List Str := ["", "a", "qu", "abcdefg", "zz"]
def wayL : List Nat := [1, 3, 5, 7, 9, 11]
theorem stems_ok : (stemL.all fun s => decide (s.length ≤ 7) && (List.range (s.length + 1)).all fun a => okParts (cutS s none (some (a : Int))) (cutS s (some (a : Int)) none)) = true := by decide +kernel
/-- a name that no drawn table has -/
def zz : Str := "zzzzzzzz"
def okZ (pre post : Str) : Bool := decide (pre.length + post.length ≠ 7) || (pre.cps.toList ++ post.cps.toList).any fun c => decide (c ≠ 122)
theorem stems_z : (stemL.all fun s => (List.range (s.length + 1)).all fun a => okZ (cutS s none (some (a : Int))) (cutS s (some (a : Int)) none)) = true := by decide +kernel
theorem zz_list : zz.cps.toList = List.replicate 8 122 := by decide +kernel
theorem mkW_z {pre post : Str} {c : Nat} (h : okZ pre post = true) : mkW pre post c ≠ zz := fun e => by
  have e := congrArg (fun x : Str => x.cps.toList) e
  simp only [mkW_list, zz_list] at e
  unfold okZ at h
  simp only [Bool.or_eq_true, decide_eq_true_eq, List.any_eq_true] at h
  have hl := congrArg List.length e
  simp only [List.length_append, List.length_singleton, List.length_replicate] at hl
  rw [str_len, str_len] at h
  rcases h with h | ⟨x, hx, h⟩
  · omega
  · have : x ∈ List.replicate 8 122 := by
      rw [← e]
      rcases List.mem_append.mp hx with hx | hx
      · exact List.mem_append_left _ (List.mem_append_left _ hx)
      · exact List.mem_append_right _ hx
    exact h (List.eq_of_mem_replicate this)
theorem rep_z {n c : Nat} (hc : c ≠ 122) : (⟨(List.replicate (1 + n) c).toArray⟩ : Str) ≠ zz := fun e => by
  have e := congrArg (fun x : Str => x.cps.toList) e
  rw [zz_list] at e
  have e : List.replicate (1 + n) c = List.replicate 8 122 := e
  have : c ∈ List.replicate 8 122 := by
    rw [← e]
    exact List.mem_replicate.mpr ⟨by omega, rfl⟩
  exact hc (List.eq_of_mem_replicate this)
theorem nz_of {m : Nat} {w : Nat → Str} (h : ∀ k, k < m → w k ≠ zz) : zz ∉ (List.range m).map w := fun z => by
  obtain ⟨k, hk, e⟩ := List.mem_map.mp z
  exact h k (List.mem_range.mp hk) e
/-- names from a function of the places -/
theorem nms_of {m : Nat} {w : Nat → Str} (h1 : 1 ≤ m) (h13 : m ≤ 13) (hn : ∀ k, k < m → NameS (w k)) (hi : ∀ j k, j < m → k < m → w j = w k → j = k) : Nms ((List.range m).map w) := by
  refine ⟨?_, by simpa using h1, by simpa using h13, fun x hx => ?_⟩
  · refine List.pairwise_map.mpr (List.Pairwise.imp_of_mem (R := fun a b => a ≠ b) (fun {a b} ha hb hne e => hne (hi a b (List.mem_range.mp ha) (List.mem_range.mp hb) e)) List.nodup_range)
  · obtain ⟨k, hk, rfl⟩ := List.mem_map.mp hx
    exact hn k (List.mem_range.mp hk)
theorem strL_map {m : Nat} {w : Nat → Str} : strL ((List.range m).map w) = (List.range m).map fun k => D.str (w k) := by
  unfold strL
  rw [List.map_map]
  rfl
theorem catS {x y : Str} (h : x.length + y.length ≤ 1000) : gCatS (.str x) (.str y) = some (.str (x ++ y)) := by
  show (if x.length + y.length ≤ 100000 then _ else _) = _
  rw [if_pos (by omega)]
theorem w_lwords {m : Nat} (h1 : 1 ≤ m) (h13 : m ≤ 13) {P : D → Prop} (hP : ∀ ks, Nms ks → ks.length = m → zz ∉ ks → P (.lst (strL ks))) : fw_lwords [nat m] P := by
  intro f
  have stems : ∀ r : Int, 0 ≤ r → r < 5 → ∃ s, gIxL (.lst (stemL.map D.str)) (.int r) = some (.str s) ∧ s ∈ stemL := fun r r0 r1 => by
    have hr : r.toNat < stemL.length := by show _ < 5; omega
    refine ⟨stemL[r.toNat], ?_, List.getElem_mem hr⟩
    rw [int_of r0]
    refine gIxL_nat ?_
    rw [List.getElem?_map, List.getElem?_eq_getElem hr]
    rfl
  have ways : ∀ r : Int, 0 ≤ r → r < 6 → ∃ s, gIxL (.lst (wayL.map nat)) (.int r) = some (nat s) ∧ s ∈ wayL := fun r r0 r1 => by
    have hr : r.toNat < wayL.length := by show _ < 6; omega
    refine ⟨wayL[r.toNat], ?_, List.getElem_mem hr⟩
    rw [int_of r0]
    refine gIxL_nat ?_
    rw [List.getElem?_map, List.getElem?_eq_getElem hr]
    rfl
  refine ⟨.lst (stemL.map D.str), rfl, 5, rfl, rfl, by decide, by decide, fun r0 a0 b0 => ?_⟩
  obtain ⟨stem, e0, hs⟩ := stems r0 a0 b0
  have so := List.all_eq_true.mp stems_ok stem hs
  simp only [Bool.and_eq_true, decide_eq_true_eq, List.all_eq_true] at so
  refine ⟨.str stem, e0, [some (.ptr f), some (.pur (nat m)), some (.pur (.str stem)), none, none, none, none, none], rfl, ?_⟩
  refine ⟨.nx [some (.ptr f), some (.pur (nat m)), some (.pur (.str stem)), some (.pur (.str abc)), none, none, none, none], rfl, ?_⟩
  refine ⟨26, rfl, rfl, by decide, by decide, fun r1 a1 b1 => ⟨[some (.ptr f), some (.pur (nat m)), some (.pur (.str stem)), some (.pur (.str abc)), some (.pur (nat r1.toNat)), none, none, none], by rw [int_of a1]; rfl, ?_⟩⟩
  have hf : r1.toNat < 26 := by omega
  generalize hfi : r1.toNat = first at hf
  refine ⟨.lst (wayL.map nat), rfl, 6, rfl, rfl, by decide, by decide, fun r2 a2 b2 => ?_⟩
  obtain ⟨step, e2, hst⟩ := ways r2 a2 b2
  refine ⟨nat step, e2, [some (.ptr f), some (.pur (nat m)), some (.pur (.str stem)), some (.pur (.str abc)), some (.pur (nat first)), some (.pur (nat step)), none, none], rfl, ?_⟩
  refine ⟨((stem.length + 1 : Nat) : Int), rfl, fOp_eq (fCall_eq (xs := [.str stem]) rfl (len_str (by omega))) rfl gAdd_nat, by omega, by omega, fun r3 a3 b3 => ⟨[some (.ptr f), some (.pur (nat m)), some (.pur (.str stem)), some (.pur (.str abc)), some (.pur (nat first)), some (.pur (nat step)), some (.pur (nat r3.toNat)), none], by rw [int_of a3]; rfl, ?_⟩⟩
  have ha : r3.toNat < stem.length + 1 := by omega
  generalize hat : r3.toNat = at_ at ha
  refine wSeq_i ?_
  refine ⟨5, rfl, rfl, by decide, by decide, fun r4 a4 b4 => ⟨.int 0, rfl, .bl (decide (r4 = 0)), rfl, decide (r4 = 0), rfl, ?_⟩⟩
  have hw11 : step ≤ 11 := by
    have : (wayL.all fun s => decide (s ≤ 11)) = true := by decide
    exact of_decide_eq_true (List.all_eq_true.mp this step hst)
  by_cases c0 : r4 = 0
  · rw [decide_eq_true c0]
    have nms := nms_of (w := fun k => ⟨(List.replicate (1 + k % 8) (97 + (first % 20 + k / 8))).toArray⟩) h1 h13 (fun k hk => ?_) (fun j k hj hk e => ?_)
    · refine ⟨_, sRet_eq ((fLc_list (l := List.range m) (f := nat) (g := fun k => D.str ⟨(List.replicate (1 + k % 8) (97 + (first % 20 + k / 8))).toArray⟩) (iR1_eq rfl (by omega)) (by rw [List.length_range]; omega) fun k hk => turn_one rfl ?_).trans rfl), ?_⟩
      · have hk := List.mem_range.mp hk
        refine fOp_eq (fOp_eq (x := .str abc) (y := nat (first % 20 + k / 8)) rfl (fOp_eq (fOp_eq (x := nat first) (y := nat 20) rfl rfl (gMod_nat (by decide))) (fOp_eq (x := nat k) (y := nat 8) rfl rfl (gDiv_nat (by decide) (by decide))) gAdd_nat) (abc_at (by omega))) (fOp_eq (x := nat 1) (y := nat (k % 8)) rfl (fOp_eq (x := nat k) (y := nat 8) rfl rfl (gMod_nat (by decide))) gAdd_nat) ?_
        show (if 1 ≤ (((1 + k % 8 : Nat)) : Int) ∧ (((1 + k % 8 : Nat)) : Int) ≤ 1000 then some (D.str ⟨(List.replicate (((1 + k % 8 : Nat)) : Int).toNat _).toArray⟩) else none) = _
        rw [if_pos ⟨by omega, by omega⟩, Int.toNat_natCast]
      · have := hP _ nms (by simp) (nz_of fun k hk => rep_z (by omega))
        rw [strL_map] at this
        exact this
    · have := KwWords.rep_name hf (Nat.lt_of_lt_of_le hk h13)
      unfold KwWords.isName KwWords.rep at this
      simp only [Bool.and_eq_true, decide_eq_true_eq, List.all_eq_true] at this
      refine ⟨?_, ?_, fun c hc => ?_⟩
      · rw [str_len]
        exact this.1.1
      · rw [str_len]
        exact this.1.2
      · exact this.2 c hc
    · refine KwWords.rep_inj hf (Nat.lt_of_lt_of_le hj h13) (Nat.lt_of_lt_of_le hk h13) ?_
      have := congrArg (fun x : Str => x.cps.toList) e
      exact this
  · rw [decide_eq_false c0]
    refine ⟨_, rfl, ?_⟩
    have so2 := so.2 at_ (List.mem_range.mpr ha)
    have sz2 := List.all_eq_true.mp (List.all_eq_true.mp stems_z stem hs) at_ (List.mem_range.mpr ha)
    generalize hpre : cutS stem none (some (at_ : Int)) = pre at so2 sz2
    generalize hpost : cutS stem (some (at_ : Int)) none = post at so2 sz2
    have lens : pre.length + post.length ≤ 7 := by
      unfold okParts at so2
      simp only [Bool.and_eq_true, decide_eq_true_eq] at so2
      exact so2.1
    have nms := nms_of (w := fun k => mkW pre post (KwWords.letter first step k)) h1 h13 (fun k hk => mkW_name so2 (KwWords.letter_in first step k)) (fun j k hj hk e => KwWords.letter_inj hf (show step ∈ KwWords.ways from hst) (Nat.lt_of_lt_of_le hj h13) (Nat.lt_of_lt_of_le hk h13) (mkW_inj e))
    refine ⟨_, sRet_eq ((fLc_list (l := List.range m) (f := nat) (g := fun k => D.str (mkW pre post (KwWords.letter first step k))) (iR1_eq rfl (by omega)) (by rw [List.length_range]; omega) fun k hk => turn_one rfl ?_).trans rfl), ?_⟩
    · have hl : ∀ (lo hi : Option Int), gSlS (.str stem) lo hi = some (.str (cutS stem lo hi)) := fun lo hi => by
        show (if stem.length ≤ 100000 then _ else _) = _
        rw [if_pos (by omega)]
      have lo : ∀ y7, fSl gSlS (fVar 2) fOn (fOs (fVar 6)) [some (Sl.ptr f), some (.pur (nat m)), some (.pur (.str stem)), some (.pur (.str abc)), some (.pur (nat first)), some (.pur (nat step)), some (.pur (nat at_)), y7] = some (.str pre) := fun y7 => by
        rw [← hpre]
        exact hl none (some (at_ : Int))
      have hi : ∀ y7, fSl gSlS (fVar 2) (fOs (fVar 6)) fOn [some (Sl.ptr f), some (.pur (nat m)), some (.pur (.str stem)), some (.pur (.str abc)), some (.pur (nat first)), some (.pur (nat step)), some (.pur (nat at_)), y7] = some (.str post) := fun y7 => by
        rw [← hpost]
        exact hl (some (at_ : Int)) none
      have one : (⟨#[KwWords.letter first step k]⟩ : Str).length = 1 := rfl
      have l2 : (pre ++ (⟨#[KwWords.letter first step k]⟩ : Str)).length = pre.length + 1 := by
        rw [str_len, str_len]
        show (pre.cps ++ #[_]).toList.length = _
        simp
      refine fOp_eq (x := .str (pre ++ ⟨#[KwWords.letter first step k]⟩)) (y := .str post) (fOp_eq (lo _) (fOp_eq (x := .str abc) (y := nat ((first + step * k) % 26)) rfl (fOp_eq (x := nat (first + step * k)) (y := nat 26) (fOp_eq (x := nat first) (y := nat (step * k)) rfl (fOp_eq (x := nat step) (y := nat k) rfl rfl (gMul_nat (by omega))) gAdd_nat) rfl (gMod_nat (by decide))) (abc_at (Nat.mod_lt _ (by decide)))) (catS (by rw [show (⟨#[97 + (first + step * k) % 26]⟩ : Str).length = 1 from rfl]; omega))) (hi _) (catS (by rw [l2]; omega))
    · have := hP _ nms (by simp) (nz_of fun k hk => mkW_z sz2)
      rw [strL_map] at this
      exact this
end KK
end

section
set_option Elab.async false
set_option linter.all false
set_option maxRecDepth 100000
namespace KK
open PySem PySem.Spec PyProof.Rows L2 KW DL
section
variable {P : Program} {w : World} {K : PySem.W.Frag} {mg : Str → Option Value} {base : Heap} {ad : Nat → Addr} {fd : Nat → FuncData}
def m_lreord : FS :=
  (sSeq (sAsg (fOp gCatL (fSl gSlL (fOp gDGet (fVar 0) (fC (.str "kinds"))) (fOs (fC (.int 1))) fOn) (fSl gSlL (fOp gDGet (fVar 0) (fC (.str "kinds"))) fOn (fOs (fC (.int 1))))) (mName 1))
    (sSeq (sOwnT 2)
    (sSeq (sFor (iL (fVar 1)) (mName 3) (sFor (iL (fVar 1)) (mName 4) (sPut 2 (fTup (fCons (fVar 3) (fCons (fVar 4) fNil))) (fCallN 2 (fn_inord) (fCons (fVar 1) (fCons (fOp gDGet (fOp gDGet (fVar 0) (fC (.str "step"))) (fTup (fCons (fVar 3) (fCons (fVar 4) fNil)))) fNil))))))
    (sFrz (sRet (fCallN 4 (fn_ltable) (fCons (fVar 1) (fCons (fOp gDGet (fVar 0) (fC (.str "same"))) (fCons (fLc (iL (fVar 1)) (mName 3) (fun _ => some true) (fOp gDGet (fOp gDGet (fVar 0) (fC (.str "back"))) (fVar 3)) [3]) (fCons (fVar 2) fNil))))))))))
def fn_lreord : List D → Option D := runF n_lreord.length (m_lreord)
theorem ok_lreord (F : Fa K mg ad fd) (T : Bl mg) : FnOk P w K mg base CX0 2 (ad 57) (fd 57) p_lreord (spF K 1 (fn_lreord)) := by
  have G_inord := ok_inord (P := P) (w := w) (base := base) F T
  have G_ltable := ok_ltable (P := P) (w := w) (base := base) F T
  exact fn_den F.F_lreord sc_lreord fun cdv A outer s H E hr => ⟨_, PSs.nox (pss_cons (ps_set (i := 1) sc_lreord.nd rfl (by first | exact .inl rfl | exact .inr rfl) (pe_op op_cat (pe_slice sl_list (pe_dget (hu_of hr) (pv 0) pe_str (fun _ _ => rfl)) (po_some pe_int) po_none) (pe_slice sl_list (pe_dget (hu_of hr) (pv 0) pe_str (fun _ _ => rfl)) po_none (po_some pe_int))))
      (pss_cons (ps_set (i := 2) sc_lreord.nd rfl (by first | exact .inl rfl | exact .inr rfl) pe_dnewT)
      (pss_cons (ps_for PassesOwn.never rfl (pi_list (pv 1)) (pg_name (i := 3) sc_lreord.nd rfl (by first | exact .inl rfl | exact .inr rfl)) (pss_one (ps_for PassesOwn.never rfl (pi_list (pv 1)) (pg_name (i := 4) sc_lreord.nd rfl (by first | exact .inl rfl | exact .inr rfl)) (pss_one (ps_dput (hu_of hr) (pv 2) (pe_tup (pa_cons (pv 3) (pa_cons (pv 4) pa_nil))) (pe_call G_inord (hr.mono (by decide)) (by rfl) F.g_inord F.F_inord.kp F.b_inord .nil pass0 (pa_cons (pv 1) (pa_cons (pe_dget (hu_of hr) (pe_dget (hu_of hr) (pv 0) pe_str (fun _ _ => rfl)) (pe_tup (pa_cons (pv 3) (pa_cons (pv 4) pa_nil))) (fun _ _ => rfl)) pa_nil))) rfl)))))
      (pss_one (ps_ret (pe_call G_ltable (hr.mono (by decide)) (by rfl) F.g_ltable F.F_ltable.kp F.b_ltable .nil pass0 (pa_cons (pv 1) (pa_cons (pe_dget (hu_of hr) (pv 0) pe_str (fun _ _ => rfl)) (pa_cons (pe_lc (own := [("_law_one", 3)]) rfl sc_lreord.nd (pi_list (pv 1)) (blkOk_by (N := n_lreord) (sc := defScope s_lreord) (by decide +kernel)) (fun _ _ _ _ _ => (pg_name (i := 3) sc_lreord.nd rfl (by first | exact .inl rfl | exact .inr rfl))) (fun _ _ _ _ _ => pts_nil) (fun _ _ _ _ _ => (pe_dget (hu_of hr) (pe_dget (hu_of hr) (pv 0) pe_str (fun _ _ => rfl)) (pv 3) (fun _ _ => rfl)))) (pa_cons (pv 2) pa_nil)))))))))),
    (den_seq (den_asg (den_op opd_catL (den_sl sld_list (den_dget den_var den_str) (den_os den_int) den_on) (den_sl sld_list (den_dget den_var den_str) den_on (den_os den_int))) den_gName)
      (den_seq den_ownT
      (den_seq (den_for (den_iL den_var) den_gName (den_for (den_iL den_var) den_gName (den_put (den_tup (den_cons den_var (den_cons den_var den_nil))) (den_call (den_cons den_var (den_cons (den_dget (den_dget den_var den_str) (den_tup (den_cons den_var (den_cons den_var den_nil)))) den_nil))))))
      (den_frz (den_ret (den_call (den_cons den_var (den_cons (den_dget den_var den_str) (den_cons (den_lc (den_iL den_var) den_gName (own_name (by decide)) den_tYes (den_dget (den_dget den_var den_str) den_var)) (den_cons den_var den_nil))))))))))⟩

def m_lrenam : FS :=
  (sSeq (sAsg (fDz (fCons (fOp gDGet (fVar 0) (fC (.str "kinds"))) (fCons (fOp gCatL (fSl gSlL (fOp gDGet (fVar 0) (fC (.str "kinds"))) fOn (fOs (fUn gNeg (fC (.int 1))))) (fLst (fCons (fC (.str "zzzzzzzz")) fNil))) fNil))) (mName 1))
    (sSeq (sAsg (fLc (iL (fOp gDGet (fVar 0) (fC (.str "kinds")))) (mName 4) (fun _ => some true) (fOp gDGet (fVar 1) (fVar 4)) [4]) (mName 2))
    (sSeq (sOwnT 3)
    (sSeq (sFor (iDT (fOp gDGet (fVar 0) (fC (.str "step")))) (mTup 2 (mCons (mName 4) (mCons (mName 5) mNil))) (sPut 3 (fTup (fCons (fOp gDGet (fVar 1) (fVar 4)) (fCons (fOp gDGet (fVar 1) (fVar 5)) fNil))) (fLc (iL (fOp gDGet (fOp gDGet (fVar 0) (fC (.str "step"))) (fTup (fCons (fVar 4) (fCons (fVar 5) fNil))))) (mName 6) (fun _ => some true) (fOp gDGet (fVar 1) (fVar 6)) [6])))
    (sFrz (sRet (fCallN 4 (fn_ltable) (fCons (fVar 2) (fCons (fOp gDGet (fVar 1) (fOp gDGet (fVar 0) (fC (.str "same")))) (fCons (fLc (iL (fOp gDGet (fVar 0) (fC (.str "kinds")))) (mName 4) (fun _ => some true) (fOp gDGet (fVar 1) (fOp gDGet (fOp gDGet (fVar 0) (fC (.str "back"))) (fVar 4))) [4]) (fCons (fVar 3) fNil)))))))))))
def fn_lrenam : List D → Option D := runF n_lrenam.length (m_lrenam)
theorem ok_lrenam (F : Fa K mg ad fd) (T : Bl mg) : FnOk P w K mg base CX0 2 (ad 58) (fd 58) p_lrenam (spF K 1 (fn_lrenam)) := by
  have G_ltable := ok_ltable (P := P) (w := w) (base := base) F T
  exact fn_den F.F_lrenam sc_lrenam fun cdv A outer s H E hr => ⟨_, PSs.nox (pss_cons (ps_set (i := 1) sc_lrenam.nd rfl (by first | exact .inl rfl | exact .inr rfl) (pe_dictzip rfl (by rfl) T.m_dict (by rfl) T.m_zip (pa_cons (pe_dget (hu_of hr) (pv 0) pe_str (fun _ _ => rfl)) (pa_cons (pe_op op_cat (pe_slice sl_list (pe_dget (hu_of hr) (pv 0) pe_str (fun _ _ => rfl)) po_none (po_some (pe_un un_neg pe_int))) (pe_lst (pa_cons pe_str pa_nil))) pa_nil))))
      (pss_cons (ps_setLc (i := 2) (own := [("_law_one", 4)]) rfl sc_lrenam.nd rfl rfl (by rfl) (pi_list (pe_dget (hu_of hr) (pv 0) pe_str (fun _ _ => rfl))) (blkOk_by (N := n_lrenam) (sc := defScope s_lrenam) (by decide +kernel)) (fun _ _ _ _ _ => (pg_name (i := 4) sc_lrenam.nd rfl (by first | exact .inl rfl | exact .inr rfl))) (fun _ _ _ _ _ => pts_nil) (fun _ _ _ _ _ => (pe_dget (hu_of hr) (pv 1) (pv 4) (fun _ _ => rfl))))
      (pss_cons (ps_set (i := 3) sc_lrenam.nd rfl (by first | exact .inl rfl | exact .inr rfl) pe_dnewT)
      (pss_cons (ps_orS (ps_lock (ps_for PassesOwn.never rfl (pi_keys (pe_dget (hu_of hr) (pv 0) pe_str (fun _ _ => rfl))) (pg_tup rfl (pgs_cons (pg_name (i := 4) sc_lrenam.nd rfl (by first | exact .inl rfl | exact .inr rfl)) (pgs_cons (pg_name (i := 5) sc_lrenam.nd rfl (by first | exact .inl rfl | exact .inr rfl)) pgs_nil))) (pss_one (ps_dput (hu_of hr) (pv 3) (pe_tup (pa_cons (pe_dget (hu_of hr) (pv 1) (pv 4) (fun _ _ => rfl)) (pa_cons (pe_dget (hu_of hr) (pv 1) (pv 5) (fun _ _ => rfl)) pa_nil))) (pe_lc (own := [("_law_kind", 6)]) rfl sc_lrenam.nd (pi_list (pe_dget (hu_of hr) (pe_dget (hu_of hr) (pv 0) pe_str (fun _ _ => rfl)) (pe_tup (pa_cons (pv 4) (pa_cons (pv 5) pa_nil))) (fun _ _ => rfl))) (blkOk_by (N := n_lrenam) (sc := defScope s_lrenam) (by decide +kernel)) (fun _ _ _ _ _ => (pg_name (i := 6) sc_lrenam.nd rfl (by first | exact .inl rfl | exact .inr rfl))) (fun _ _ _ _ _ => pts_nil) (fun _ _ _ _ _ => (pe_dget (hu_of hr) (pv 1) (pv 6) (fun _ _ => rfl)))) rfl)))) (ps_for PassesOwn.never rfl (pi_keys (pe_dget (hu_of hr) (pv 0) pe_str (fun _ _ => rfl))) (pg_tup rfl (pgs_cons (pg_name (i := 4) sc_lrenam.nd rfl (by first | exact .inl rfl | exact .inr rfl)) (pgs_cons (pg_name (i := 5) sc_lrenam.nd rfl (by first | exact .inl rfl | exact .inr rfl)) pgs_nil))) (pss_one (ps_dput (hu_of hr) (pv 3) (pe_tup (pa_cons (pe_dget (hu_of hr) (pv 1) (pv 4) (fun _ _ => rfl)) (pa_cons (pe_dget (hu_of hr) (pv 1) (pv 5) (fun _ _ => rfl)) pa_nil))) (pe_lc (own := [("_law_kind", 6)]) rfl sc_lrenam.nd (pi_list (pe_dget (hu_of hr) (pe_dget (hu_of hr) (pv 0) pe_str (fun _ _ => rfl)) (pe_tup (pa_cons (pv 4) (pa_cons (pv 5) pa_nil))) (fun _ _ => rfl))) (blkOk_by (N := n_lrenam) (sc := defScope s_lrenam) (by decide +kernel)) (fun _ _ _ _ _ => (pg_name (i := 6) sc_lrenam.nd rfl (by first | exact .inl rfl | exact .inr rfl))) (fun _ _ _ _ _ => pts_nil) (fun _ _ _ _ _ => (pe_dget (hu_of hr) (pv 1) (pv 6) (fun _ _ => rfl)))) rfl))))
      (pss_one (ps_ret (pe_call G_ltable (hr.mono (by decide)) (by rfl) F.g_ltable F.F_ltable.kp F.b_ltable .nil pass0 (pa_cons (pv 2) (pa_cons (pe_dget (hu_of hr) (pv 1) (pe_dget (hu_of hr) (pv 0) pe_str (fun _ _ => rfl)) (fun _ _ => rfl)) (pa_cons (pe_lc (own := [("_law_one", 4)]) rfl sc_lrenam.nd (pi_list (pe_dget (hu_of hr) (pv 0) pe_str (fun _ _ => rfl))) (blkOk_by (N := n_lrenam) (sc := defScope s_lrenam) (by decide +kernel)) (fun _ _ _ _ _ => (pg_name (i := 4) sc_lrenam.nd rfl (by first | exact .inl rfl | exact .inr rfl))) (fun _ _ _ _ _ => pts_nil) (fun _ _ _ _ _ => (pe_dget (hu_of hr) (pv 1) (pe_dget (hu_of hr) (pe_dget (hu_of hr) (pv 0) pe_str (fun _ _ => rfl)) (pv 4) (fun _ _ => rfl)) (fun _ _ => rfl)))) (pa_cons (pv 3) pa_nil))))))))))),
    (den_seq (den_asg (den_dz (den_cons (den_dget den_var den_str) (den_cons (den_op opd_catL (den_sl sld_list (den_dget den_var den_str) den_on (den_os (den_un und_neg den_int))) (den_lst (den_cons den_str den_nil))) den_nil))) den_gName)
      (den_seq (den_asg (den_lc (den_iL (den_dget den_var den_str)) den_gName (own_name (by decide)) den_tYes (den_dget den_var den_var)) den_gName)
      (den_seq den_ownT
      (den_seq (den_forDT (den_gTupH (den_gCons den_gName (den_gCons den_gName den_gNil))) (den_put (den_tup (den_cons (den_dget den_var den_var) (den_cons (den_dget den_var den_var) den_nil))) (den_lc (den_iL (den_dget (den_dget den_var den_str) (den_tup (den_cons den_var (den_cons den_var den_nil))))) den_gName (own_name (by decide)) den_tYes (den_dget den_var den_var))))
      (den_frz (den_ret (den_call (den_cons den_var (den_cons (den_dget den_var (den_dget den_var den_str)) (den_cons (den_lc (den_iL (den_dget den_var den_str)) den_gName (own_name (by decide)) den_tYes (den_dget den_var (den_dget (den_dget den_var den_str) den_var))) (den_cons den_var den_nil)))))))))))⟩

end
end KK
end

section
set_option Elab.async false
set_option linter.all false
set_option maxRecDepth 100000
namespace KK
open PySem PySem.Spec PyProof.Rows L2 KW DL
section
variable {P : Program} {w : World} {K : PySem.W.Frag} {mg : Str → Option Value} {base : Heap} {ad : Nat → Addr} {fd : Nat → FuncData}
def m_lsomet (rec : List D → Option D) (f : Addr) : WS :=
  (wSeq (wIf (wTest (wOp gEq (wDraw f 0 (fC (.int 2))) (wE (fC (.int 0))))) (wRet (wCallW f 0 0 fw_lring wNil)) (wS sNext))
    (wRet (wCallN 1 rec (wCons (wOp gIxL (wE (fLst (fCons (fC (.str "moments")) (fCons (fC (.str "branches")) (fCons (fC (.str "parts")) (fCons (fC (.str "moments")) (fCons (fC (.str "courses")) fNil))))))) (wDraw f 0 (fC (.int 5)))) wNil))))
def fw_lsomet (rec : List D → Option D) : List D → (D → Prop) → Prop := runW n_lsomet.length (m_lsomet rec)
theorem ok_lsomet (F : Fa K mg ad fd) (T : Bl mg) {rec : List D → Option D} {k : Nat} (hk : 4 ≤ k) (G_rec : FnOk P w K mg base CX0 k (ad 51) (fd 51) p_lseen (spF K 1 rec)) : FnOk P w K mg base CX0 (k + 1) (ad 52) (fd 52) p_lsomet (spW K 0 (fw_lsomet rec)) := by
  have G_draw := ok_draw (P := P) (w := w) (base := base) F T
  have G_lring := ok_lring (P := P) (w := w) (base := base) F T
  exact fn_denW F.F_lsomet sc_lsomet rfl fun f cdv A outer s H E hr => ⟨_, PSs.nox (pss_cons (ps_if (pt_cmpR (op_EQ hr.units) (pe_call G_draw (hr.mono (by omega)) (by rfl) F.g_draw F.F_draw.kp F.b_draw .nil pass0 (pa_cons (pv 0) (pa_cons pe_int pa_nil))) pe_int (nomark _)) (pss_one (ps_ret (pe_call G_lring (hr.mono (by omega)) (by rfl) F.g_lring F.F_lring.kp F.b_lring .nil pass0 (pa_cons (pv 0) pa_nil)))) pss_nil)
      (pss_one (ps_ret (pe_call G_rec (hr.mono (by omega)) (by rfl) F.g_lseen F.F_lseen.kp F.b_lseen .nil pass0 (pa_cons (pe_ix (r := rIxL K) ix_list (pe_lst (pa_cons pe_str (pa_cons pe_str (pa_cons pe_str (pa_cons pe_str (pa_cons pe_str pa_nil)))))) (pe_call G_draw (hr.mono (by omega)) (by rfl) F.g_draw F.F_draw.kp F.b_draw .nil pass0 (pa_cons (pv 0) (pa_cons pe_int pa_nil))) (fun _ _ => rfl)) pa_nil))))),
    (denw_seq (denw_if (denw_test (denw_op opd_eq (denw_draw den_int) (denw_e den_int))) (denw_ret (denw_callW denw_nil)) (denw_s den_next))
      (denw_ret (denw_call (denw_cons (denw_op opd_ixL (denw_e (den_lst (den_cons den_str (den_cons den_str (den_cons den_str (den_cons den_str (den_cons den_str den_nil))))))) (denw_draw den_int)) denw_nil))))⟩

def spFlow (K : PySem.W.Frag) : Sp := fun vs H Q _ => ∃ (a : Addr) (ns : List Int), vs = [.ref a] ∧ SqL K H a (ns.map V.int) ∧ ns.length ≤ 63 ∧
  ∀ f s H', H' f = some (fl s 0 0 11) → H' s = some (.lst (ns.map V.int)) → Q (.ref f) H'
theorem cut63 (xs : List V) (h : xs.length ≤ 63) : cutV xs none (some 63) = xs := by
  unfold cutV
  rw [HT.sIx_none, show HT.sIx xs.length xs.length (some 63) = min 63 xs.length from HT.sIx_nat xs.length xs.length 63]
  rw [Nat.min_eq_right h, Nat.sub_zero, List.drop_zero, List.take_length]
theorem ok_flow (F : Fa K mg ad fd) (T : Bl mg) : FnOk P w K mg base CX0 1 (ad 37) (fd 37) p_flow (spFlow K) := by
  refine F.F_flow.ok sc_flow (fun vs H Q E h => ?_) (fun cdv A outer s H vs Q E hr h => ?_)
  · obtain ⟨_, _, rfl, _⟩ := h
    rfl
  · obtain ⟨a, ns, rfl, hS, hl, q⟩ := h
    refine ⟨_, (pss_one (ps_ret (pe_lst (pa_cons (pe_callTy call_list_of (by rfl) T.m_list (by decide +kernel) (pa_cons (pe_slice sl_list (pv 0) po_none (po_some pe_int)) pa_nil)) (pa_cons pe_int (pa_cons pe_int (pa_cons pe_int pa_nil))))))), ?_⟩
    refine ⟨.ref a, rfl, 63, rfl, a, ns.map V.int, rfl, hS, fun c nc => ?_⟩
    rw [cut63 _ (by rw [List.length_map]; exact hl)]
    refine ⟨c, _, rfl, .inl (.inl (.inl upd_same)), fun l hl2 => ?_⟩
    refine ⟨by show 4 ≤ sizeLine; decide, fun p hp => ?_⟩
    refine q p l _ upd_same ?_
    rw [upd_ne (ne_of_none upd_same hp)]
    exact upd_same

theorem rel_flow {B H : Hp} {n : Nat} {f : Addr} {σ : L2.St} (hl : σ.length = n) : Rel K B (fun _ => none) ((List.replicate n none).set 1 (some (.ptr f))) (σ.set 1 (some (.ref f))) H := by
  have get : ∀ (i : Nat) (w : Sl), ((List.replicate n (none : Option Sl)).set 1 (some (.ptr f)))[i]? = some (some w) → i = 1 ∧ w = .ptr f ∧ 1 < n := fun i w h => by
    by_cases z : 1 = i
    · subst z
      by_cases hn : 1 < n
      · rw [List.getElem?_set_self (by rw [List.length_replicate]; exact hn)] at h
        cases h
        exact ⟨rfl, rfl, hn⟩
      · rw [List.getElem?_eq_none (by rw [List.length_set, List.length_replicate]; omega)] at h
        cases h
    · rw [List.getElem?_set_ne z] at h
      obtain ⟨h1, h2⟩ := List.getElem?_eq_some_iff.mp h
      rw [List.getElem_replicate] at h2
      cases h2
  refine ⟨(fun _ _ h => nomatch h), by rw [List.length_set, List.length_set, List.length_replicate, hl], fun i d h => ?_, fun i d h => ?_, fun i a h => ?_, fun i j d e a h => ?_⟩
  · obtain ⟨_, z, _⟩ := get i _ h
    cases z
  · obtain ⟨_, z, _⟩ := get i _ h
    cases z
  · obtain ⟨rfl, z, hn⟩ := get i _ h
    cases z
    rw [List.getElem?_set_self (by omega)]
  · obtain ⟨_, z, _⟩ := get i _ h
    cases z
theorem law_end {f s : Addr} {ns : List Int} {t : TS} {m : WS} {E : Ends} {σ : L2.St} {H : Hp} {n : Nat} (hl : σ.length = n) (hf : H f = some (fl s 0 0 11)) (hs : H s = some (.lst (ns.map V.int))) (hm : m ((List.replicate n none).set 1 (some (.ptr f))) fun c => c = .rt (.bl true)) (q : ∀ H2, E.rt (.bl true) H2) (den : DenWS K f t m) : t E (σ.set 1 (some (.ref f))) H :=
  den s ns H (fun _ => none) (fun _ => none) _ _ H _ (fun c => c = .rt (.bl true)) ⟨rel_flow hl, ⟨0, 0, 11, hf, ⟨by decide, by decide, by decide, by decide⟩, hs⟩, rfl, ⟨_, hf⟩, ⟨_, hs⟩⟩ ⟨.refl _, (fun _ _ h => nomatch h), fun _ _ _ h => h, fun _ _ _ => rfl, fun _ o h => ⟨o, h⟩⟩ hm fun c pc => by
    subst pc
    exact fun v H2 G2 x2 f2 r2 => by
      cases r2
      exact q H2
theorem law_start {a : Addr} {ns : List Int} {t : TS} {m : Addr → WS} {E : Ends} {X : XK} {N : List Str} {H : Hp} {n : Nat} (h0 : (L2.start N [V.ref a])[0]? = some (some (V.ref a))) (hl : (L2.start N [V.ref a]).length = n) (hS : SqL K H a (ns.map V.int)) (hn : ns.length ≤ 63) (hm : ∀ f, m f ((List.replicate n none).set 1 (some (.ptr f))) fun c => c = .rt (.bl true)) (q : ∀ H2, E.rt (.bl true) H2) (den : ∀ f, DenWS K f t (m f)) : tSeq (tAsg (tCall (spFlow K) [] X (tCons (tVar 0) tNil)) (gName 1)) t E (L2.start N [V.ref a]) H := by
  refine ⟨.ref a, h0, a, ns, rfl, hS, hn, fun f s' H' hf hs => ?_⟩
  exact law_end (t := t) hl hf hs (hm f) q (den f)
abbrev fn_lsame3 := fr_lsame 3
theorem ok_lsame3 (F : Fa K mg ad fd) (T : Bl mg) : FnOk P w K mg base CX0 4 (ad 56) (fd 56) p_lsame (spF K 2 fn_lsame3) := okr_lsame F T 3
def spLaw (K : PySem.W.Frag) : Sp := fun vs H Q _ => ∃ (a : Addr) (ns : List Int), vs = [.ref a] ∧ SqL K H a (ns.map V.int) ∧ ns.length ≤ 63 ∧ ∀ H', Q (.bl true) H'

def m_law (C : Addr) (rec : List D → Option D) (f : Addr) : WS :=
  (wSeq (wAsg (wCallW f 1 0 (fw_lsomet rec) wNil) (mName 2))
    (wSeq (wS (sAsg (fCallN 1 (fn_lmade C) (fCons (fVar 2) fNil)) (mName 3)))
    (wSeq (wForW (wiL (wLst (wCons (wE (fVar 2)) (wCons (wE (fCallN 1 (fn_lreord) (fCons (fVar 2) fNil))) (wCons (wE (fCallN 1 (fn_lrenam) (fCons (fVar 2) fNil))) (wCons (wCallW f 1 0 (fw_lsomet rec) wNil) (wCons (wCallW f 1 0 fw_lring wNil) wNil))))))) (mName 4) (wSeq (wS (sAsg (fCallN 1 (fn_lmade C) (fCons (fVar 4) fNil)) (mName 5)))
    (wSeq (wS (sAsg (fAndV (fOp gEq (fOp gDGet (fVar 2) (fC (.str "kinds"))) (fOp gDGet (fVar 4) (fC (.str "kinds")))) (fAndV (fOp gEq (fOp gDGet (fVar 2) (fC (.str "same"))) (fOp gDGet (fVar 4) (fC (.str "same")))) (fAndV (fOp gDE (fOp gDGet (fVar 2) (fC (.str "back"))) (fOp gDGet (fVar 4) (fC (.str "back")))) (fOp gDE (fOp gDGet (fVar 2) (fC (.str "step"))) (fOp gDGet (fVar 4) (fC (.str "step"))))))) (mName 6)))
    (wS (sIf (fNotT (fTest (fCallN 2 (fn_lsame3) (fCons (fLst (fCons (fOp (gCmO C (fn_teq C) false) (fVar 3) (fVar 5)) (fCons (fOp (gCmO C (fn_teq C) false) (fVar 5) (fVar 3)) (fCons (fOp (gCmO C (fn_teq C) true) (fVar 3) (fVar 5)) fNil)))) (fCons (fLst (fCons (fVar 6) (fCons (fVar 6) (fCons (fNotV (fVar 6)) fNil)))) fNil))))) (sRet (fC (.bl false))) sNext)))))
    (wS (sRet (fAndV (fOp (gCmV C (fn_teq C) true) (fVar 3) (fOp gDGet (fVar 2) (fC (.str "kinds")))) (fAndV (fOp (gCmV C (fn_teq C) true) (fVar 3) (fCall (gStrO C (fn_tstr C)) (fCons (fVar 3) fNil))) (fNotV (fOp (gCmV C (fn_teq C) false) (fVar 3) (fC (.int 3)))))))))))
theorem ok_law (F : Fa K mg ad fd) (T : Bl mg) {rec : List D → Option D} {k : Nat} (hk : 7 ≤ k) (G_rec : FnOk P w K mg base CX0 k (ad 51) (fd 51) p_lseen (spF K 1 rec)) (hl : ∀ f, m_law (ad 9) rec f ((List.replicate n_law.length none).set 1 (some (.ptr f))) fun c => c = .rt (.bl true)) : FnOk P w K mg base CX0 (k + 2) (ad 59) (fd 59) p_law (spLaw K) := by
  have G_lmade := ok_lmade (P := P) (w := w) (base := base) F T
  have G_lrenam := ok_lrenam (P := P) (w := w) (base := base) F T
  have G_lreord := ok_lreord (P := P) (w := w) (base := base) F T
  have G_lring := ok_lring (P := P) (w := w) (base := base) F T
  have G_lsame3 := ok_lsame3 (P := P) (w := w) (base := base) F T
  have G_teq := ok_teq (P := P) (w := w) (base := base) F T
  have G_tstr := ok_tstr (P := P) (w := w) (base := base) F T
  have G_lsomet := ok_lsomet (P := P) (w := w) (base := base) F T (by omega) G_rec
  have G_flow := ok_flow (P := P) (w := w) (base := base) F T
  refine F.F_law.ok sc_law (fun vs H Q E h => ?_) (fun cdv A outer s H vs Q E hr h => ?_)
  · obtain ⟨_, _, rfl, _⟩ := h
    rfl
  · obtain ⟨a, ns, rfl, hS, hn, q⟩ := h
    refine ⟨_, PSs.nox (pss_cons (ps_set (i := 1) sc_law.nd rfl (by first | exact .inl rfl | exact .inr rfl) (pe_call G_flow (hr.mono (by omega)) (by rfl) F.g_flow F.F_flow.kp F.b_flow .nil pass0 (pa_cons (pv 0) pa_nil)))
      (pss_cons (ps_set (i := 2) sc_law.nd rfl (by first | exact .inl rfl | exact .inr rfl) (pe_call G_lsomet (hr.mono (by omega)) (by rfl) F.g_lsomet F.F_lsomet.kp F.b_lsomet .nil pass0 (pa_cons (pv 1) pa_nil)))
      (pss_cons (ps_set (i := 3) sc_law.nd rfl (by first | exact .inl rfl | exact .inr rfl) (pe_call G_lmade (hr.mono (by omega)) (by rfl) F.g_lmade F.F_lmade.kp F.b_lmade .nil pass0 (pa_cons (pv 2) pa_nil)))
      (pss_cons (ps_for PassesOwn.never rfl (pi_list (pe_lst (pa_cons (pv 2) (pa_cons (pe_call G_lreord (hr.mono (by omega)) (by rfl) F.g_lreord F.F_lreord.kp F.b_lreord .nil pass0 (pa_cons (pv 2) pa_nil)) (pa_cons (pe_call G_lrenam (hr.mono (by omega)) (by rfl) F.g_lrenam F.F_lrenam.kp F.b_lrenam .nil pass0 (pa_cons (pv 2) pa_nil)) (pa_cons (pe_call G_lsomet (hr.mono (by omega)) (by rfl) F.g_lsomet F.F_lsomet.kp F.b_lsomet .nil pass0 (pa_cons (pv 1) pa_nil)) (pa_cons (pe_call G_lring (hr.mono (by omega)) (by rfl) F.g_lring F.F_lring.kp F.b_lring .nil pass0 (pa_cons (pv 1) pa_nil)) pa_nil))))))) (pg_name (i := 4) sc_law.nd rfl (by first | exact .inl rfl | exact .inr rfl)) (pss_cons (ps_set (i := 5) sc_law.nd rfl (by first | exact .inl rfl | exact .inr rfl) (pe_call G_lmade (hr.mono (by omega)) (by rfl) F.g_lmade F.F_lmade.kp F.b_lmade .nil pass0 (pa_cons (pv 4) pa_nil)))
      (pss_cons (ps_set (i := 6) sc_law.nd rfl (by first | exact .inl rfl | exact .inr rfl) (pe_and (pe_cmpR (op_EQ hr.units) (pe_dget (hu_of hr) (pv 2) pe_str (fun _ _ => rfl)) (pe_dget (hu_of hr) (pv 4) pe_str (fun _ _ => rfl)) (nomark _)) (pe_and (pe_cmpR (op_EQ hr.units) (pe_dget (hu_of hr) (pv 2) pe_str (fun _ _ => rfl)) (pe_dget (hu_of hr) (pv 4) pe_str (fun _ _ => rfl)) (nomark _)) (pe_and (pe_cmpR (op_DE hr.units) (pe_dget (hu_of hr) (pv 2) pe_str (fun _ _ => rfl)) (pe_dget (hu_of hr) (pv 4) pe_str (fun _ _ => rfl)) (nomark _)) (pe_one (pe_cmpR (op_DE hr.units) (pe_dget (hu_of hr) (pv 2) pe_str (fun _ _ => rfl)) (pe_dget (hu_of hr) (pv 4) pe_str (fun _ _ => rfl)) (nomark _)))))))
      (pss_one (ps_if (pt_not (pt_val (pe_call G_lsame3 (hr.mono (by omega)) (by rfl) F.g_lsame F.F_lsame.kp F.b_lsame .nil pass0 (pa_cons (pe_lst (pa_cons (pe_cmpR (op_eqO G_teq (hr.mono (by omega)) F.mt_teq.at_ F.mt_teq.fn F.b_teq pass0) (pv 3) (pv 5) (nomark _)) (pa_cons (pe_cmpR (op_eqO G_teq (hr.mono (by omega)) F.mt_teq.at_ F.mt_teq.fn F.b_teq pass0) (pv 5) (pv 3) (nomark _)) (pa_cons (pe_cmpR (op_neO G_teq (hr.mono (by omega)) F.mt_teq.at_ F.mt_teq.fn F.ne_Table F.mro_Table F.b_teq pass0) (pv 3) (pv 5) (nomark _)) pa_nil)))) (pa_cons (pe_lst (pa_cons (pv 6) (pa_cons (pv 6) (pa_cons (pe_not (pv 6)) pa_nil)))) pa_nil))))) (pss_one (ps_ret pe_bl)) pss_nil)))))
      (pss_one (ps_ret (pe_and (pe_cmpR (op_neV2 G_teq (hr.mono (by omega)) F.mt_teq.at_ F.mt_teq.fn F.ne_Table F.mro_Table F.b_teq pass0) (pv 3) (pe_dget (hu_of hr) (pv 2) pe_str (fun _ _ => rfl)) (nomark _)) (pe_and (pe_cmpR (op_neV2 G_teq (hr.mono (by omega)) F.mt_teq.at_ F.mt_teq.fn F.ne_Table F.mro_Table F.b_teq pass0) (pv 3) (pe_callTy (cr_strO G_tstr (hr.mono (by omega)) F.mt_tstr.at_ F.mt_tstr.fn F.b_tstr pass0) (by rfl) T.m_str (by decide +kernel) (pa_cons (pv 3) pa_nil)) (nomark _)) (pe_one (pe_not (pe_cmpR (op_eqV2 G_teq (hr.mono (by omega)) F.mt_teq.at_ F.mt_teq.fn F.b_teq pass0) (pv 3) pe_int (nomark _)))))))))))), ?_⟩
    refine law_start (K := K) (m := m_law (ad 9) rec) rfl rfl hS hn hl (fun H2 => q H2) fun f => ?_
    exact (denw_seq (denw_asg (denw_callW denw_nil) den_gName)
      (denw_seq (denw_s (den_asg (den_call (den_cons den_var den_nil)) den_gName))
      (denw_seq (denw_forW (denw_iL (denw_lst (denw_cons (denw_e den_var) (denw_cons (denw_e (den_call (den_cons den_var den_nil))) (denw_cons (denw_e (den_call (den_cons den_var den_nil))) (denw_cons (denw_callW denw_nil) (denw_cons (denw_callW denw_nil) denw_nil))))))) den_gName (denw_seq (denw_s (den_asg (den_call (den_cons den_var den_nil)) den_gName))
      (denw_seq (denw_s (den_asg (den_andV (den_op opd_eq (den_dget den_var den_str) (den_dget den_var den_str)) (den_andV (den_op opd_eq (den_dget den_var den_str) (den_dget den_var den_str)) (den_andV (den_op opd_DE (den_dget den_var den_str) (den_dget den_var den_str)) (den_op opd_DE (den_dget den_var den_str) (den_dget den_var den_str))))) den_gName))
      (denw_s (den_ifS (den_notT (den_tb (den_call (den_cons (den_lst (den_cons (den_op opd_cmO den_var den_var) (den_cons (den_op opd_cmO den_var den_var) (den_cons (den_op opd_cmO den_var den_var) den_nil)))) (den_cons (den_lst (den_cons den_var (den_cons den_var (den_cons (den_notV den_var) den_nil)))) den_nil))))) (den_ret den_bl) den_next)))))
      (denw_s (den_ret (den_andV (den_op (opd_cmV F.not_Table) den_var (den_dget den_var den_str)) (den_andV (den_op (opd_cmV F.not_Table) den_var (den_cb cad_strO (den_cons den_var den_nil))) (den_notV (den_op (opd_cmV F.not_Table) den_var den_int)))))))))

end
end KK
end

section
set_option Elab.async false
set_option linter.all false
set_option maxRecDepth 100000
/-! M19: the drawn rings. -/
namespace KK
open PySem PySem.Spec PyProof.Rows L2 KW DL
open KwRing (Tab)
abbrev csOf (n way : Nat) : List (List Nat) := KwRing.classes n (KwRing.units n way)
def csD (cs : List (List Nat)) : D := .lst (cs.map dL)
set_option maxHeartbeats 0
theorem units_eq {f : Addr} {n : Nat} (h1 : 1 ≤ n) (h13 : n ≤ 13) : (fLc (iR2 (fCons (fC (.int 1)) (fCons (fOp gAdd (fVar 1) (fC (.int 1))) fNil))) (mName 4) (fTest (fOp gEq (fCallN 2 (fn_shares) (fCons (fVar 4) (fCons (fVar 1) fNil))) (fC (.int 1)))) (fVar 4) [4]) [some (.ptr f), some (.pur (nat n)), none, none, none, none, none, none, none, none, none, none, none, none, none] = some (dL (KwRing.units n 2)) := by
  have : n = 1 ∨ n = 2 ∨ n = 3 ∨ n = 4 ∨ n = 5 ∨ n = 6 ∨ n = 7 ∨ n = 8 ∨ n = 9 ∨ n = 10 ∨ n = 11 ∨ n = 12 ∨ n = 13 := by omega
  rcases this with rfl | rfl | rfl | rfl | rfl | rfl | rfl | rfl | rfl | rfl | rfl | rfl | rfl <;> kernel_rfl
abbrev clsFor : FS := (sFor (iR1 (fCons (fVar 1) fNil)) (mName 4) (sSeq (sAsg (fUn gSortSet (fLc (iL (fVar 2)) (mName 13) (fun _ => some true) (fOp gMod (fOp gMul (fVar 4) (fVar 13)) (fVar 1)) [13])) (mName 9))
    (sIf (fTest (fScal (fOp (gInD true) (fVar 9) (fVar 3)))) (sApp 3 (fVar 9)) sNext)))
theorem classes_eq {f : Addr} {n way : Nat} (h1 : 1 ≤ n) (h13 : n ≤ 13) (hw : way < 3) : clsFor [some (.ptr f), some (.pur (nat n)), some (.pur (dL (KwRing.units n way))), some (.own (.lst [])), none, none, none, none, none, none, none, none, none, none, none] = some (.nx [some (.ptr f), some (.pur (nat n)), some (.pur (dL (KwRing.units n way))), some (.own (csD (csOf n way))), some (.pur (nat (n - 1))), none, none, none, none, some (.pur (dL (KwRing.block n (KwRing.units n way) (n - 1)))), none, none, none, none, none]) := by
  have : n = 1 ∨ n = 2 ∨ n = 3 ∨ n = 4 ∨ n = 5 ∨ n = 6 ∨ n = 7 ∨ n = 8 ∨ n = 9 ∨ n = 10 ∨ n = 11 ∨ n = 12 ∨ n = 13 := by omega
  have hw : way = 0 ∨ way = 1 ∨ way = 2 := by omega
  rcases hw with rfl | rfl | rfl <;> rcases this with rfl | rfl | rfl | rfl | rfl | rfl | rfl | rfl | rfl | rfl | rfl | rfl | rfl <;> kernel_rfl
def isN : Option D → Nat → Bool
  | some (.int i), n => decide (i = (n : Int))
  | _, _ => false
theorem isN_eq {o : Option D} {n : Nat} (h : isN o n = true) : o = some (nat n) := by
  unfold isN at h
  split at h
  · rw [of_decide_eq_true h]
  · cases h
def ngL (n : Nat) (l : List Nat) : List Nat := l.map fun k => (n - k % n) % n
/-- what is told of all rings at once -/
def ringChk (n way : Nat) : Bool :=
  let cs := csOf n way
  decide (1 ≤ cs.length) && decide (cs.length ≤ 13) && (cs.all fun c => !c.isEmpty && decide (c.length ≤ 13)) &&
  ((List.range cs.length).all fun i => isN ((gSorted [dL (ngL n (cs.getD i []))]).bind fun s => gIndexD (csD cs) [s]) (KwRing.back n cs i))
theorem rings_chk : (KwRing.rings.all fun q => ringChk q.1 q.2) = true := by decide +kernel
theorem ring_mem {n way : Nat} (h0 : 1 ≤ n) (h1 : n ≤ 13) (hw : way < 3) : (n, way) ∈ KwRing.rings := by
  unfold KwRing.rings
  refine List.mem_flatMap.mpr ⟨n, List.mem_range'_1.mpr ⟨h0, by omega⟩, ?_⟩
  have : way = 0 ∨ way = 1 ∨ way = 2 := by omega
  rcases this with rfl | rfl | rfl <;> simp
structure RingOk (n : Nat) (cs : List (List Nat)) : Prop where
  l1 : 1 ≤ cs.length
  l13 : cs.length ≤ 13
  ne : ∀ c ∈ cs, c ≠ [] ∧ c.length ≤ 13
  bk : ∀ i, i < cs.length → ((gSorted [dL (ngL n (cs.getD i []))]).bind fun s => gIndexD (csD cs) [s]) = some (nat (KwRing.back n cs i))
theorem ringOk {n way : Nat} (h0 : 1 ≤ n) (h1 : n ≤ 13) (hw : way < 3) : RingOk n (csOf n way) := by
  have h := List.all_eq_true.mp rings_chk (n, way) (ring_mem h0 h1 hw)
  unfold ringChk at h
  simp only [Bool.and_eq_true, decide_eq_true_eq, List.all_eq_true] at h
  obtain ⟨⟨⟨h2, h3⟩, h4⟩, h5⟩ := h
  exact ⟨h2, h3, fun c hc => ⟨fun z => by have := (h4 c hc).1; rw [z] at this; simp at this, (h4 c hc).2⟩, fun i hi => isN_eq (h5 i (List.mem_range.mpr hi))⟩
theorem ring_g {n way i j : Nat} (hi : i < (csOf n way).length) (hj : j < (csOf n way).length) : (KwRing.ring n way).g i j = bitsN (KwRing.step n (csOf n way) i j) := by
  unfold KwRing.Tab.g KwRing.ring
  simp only
  rw [List.getD_eq_getElem?_getD, List.getD_eq_getElem?_getD, List.getElem?_map, List.getElem?_range hi]
  show ((((List.range _).map _)[j]?).getD 0) = _
  rw [List.getElem?_map, List.getElem?_range hj]
  rfl
theorem ring_b {n way i : Nat} (hi : i < (csOf n way).length) : (KwRing.ring n way).b i = KwRing.back n (csOf n way) i := by
  unfold KwRing.Tab.b KwRing.ring
  simp only
  rw [List.getD_eq_getElem?_getD, List.getElem?_map, List.getElem?_range hi]
  rfl
theorem in_dL {x : Nat} {l : List Nat} : gIn false (nat x) (dL l) = some (.bl (l.contains x)) := by
  have hall : (l.map nat).all flatD = true := by
    rw [List.all_eq_true]
    intro d hd
    obtain ⟨j, _, rfl⟩ := List.mem_map.mp hd
    rfl
  show (if (true && _) = true then some (D.bl _) else none) = _
  rw [hall, if_pos (show (true && true) = true from rfl)]
  congr 2
  show (if false = true then _ else List.any _ _) = _
  rw [if_neg (by decide), Bool.eq_iff_iff, List.any_eq_true, List.contains_iff_mem]
  constructor
  · rintro ⟨d, hd, e⟩
    obtain ⟨j, hj, rfl⟩ := List.mem_map.mp hd
    have e' : (j : Int) = (x : Int) := by simpa [eqFD] using e
    rw [show x = j by omega]
    exact hj
  · intro z
    exact ⟨nat x, List.mem_map.mpr ⟨x, z, rfl⟩, by simp [eqFD]⟩
theorem bools_map {α : Type} (p : α → Bool) : ∀ l : List α, bools (l.map fun x => D.bl (p x)) = some (l.map p)
  | [] => rfl
  | x :: l => by
    rw [List.map_cons]
    unfold bools
    rw [bools_map p l]
    rfl
theorem any_map {α : Type} (p : α → Bool) (l : List α) : gAny [.lst (l.map fun x => .bl (p x))] = some (.bl (l.any p)) := by
  show (bools _).map _ = _
  rw [bools_map]
  show some (D.bl ((l.map p).any id)) = _
  rw [List.any_map]
  rfl
theorem cs_at {cs : List (List Nat)} {i : Nat} (hi : i < cs.length) : gIxL (csD cs) (nat i) = some (dL (cs.getD i [])) := by
  refine gIxL_nat ?_
  rw [List.getElem?_map, List.getD_eq_getElem?_getD, List.getElem?_eq_getElem hi]
  rfl
theorem dL_head {c : List Nat} (h : c ≠ []) : gIxL (dL c) (.int 0) = some (nat (c.headD 0)) := by
  cases c with
  | nil => exact absurd rfl h
  | cons x c => exact gIxL_nat (k := 0) rfl
theorem ks_at {ks : List Str} {i : Nat} (hi : i < ks.length) : gIxL (.lst (strL ks)) (nat i) = some (.str (nm ks i)) := gIxL_nat (strL_get hi)
theorem getD_mem {cs : List (List Nat)} {i : Nat} (hi : i < cs.length) : cs.getD i [] ∈ cs := by
  rw [List.getD_eq_getElem?_getD, List.getElem?_eq_getElem hi]
  exact List.getElem_mem hi
theorem step_lt {n : Nat} {cs : List (List Nat)} {i j : Nat} : ∀ k ∈ KwRing.step n cs i j, k < cs.length := fun k hk => by
  unfold KwRing.step at hk
  exact List.mem_range.mp (List.mem_filter.mp hk).1
theorem ng_mod {n k : Nat} (h : 0 < n) : gMod (.int (-(k : Int))) (nat n) = some (nat ((n - k % n) % n)) := by
  have hkn : k % n < n := Nat.mod_lt _ h
  have h2 : (k : Int) = (n : Int) * ((k / n : Nat) : Int) + ((k % n : Nat) : Int) := by exact_mod_cast (Nat.div_add_mod k n).symm
  have e1 : (-(k : Int)) = ((n - k % n : Nat) : Int) + (n : Int) * (-((k / n : Nat) : Int) - 1) := by
    rw [Int.mul_sub, Int.mul_neg, Int.mul_one]
    generalize (n : Int) * ((k / n : Nat) : Int) = z at h2
    omega
  have e2 : (-(k : Int)) % (n : Int) = (((n - k % n) % n : Nat) : Int) := by
    rw [e1, Int.add_mul_emod_self_left, Int.natCast_emod]
  have c : decide (0 < (n : Int)) = true := decide_eq_true (by omega)
  unfold gMod gIc
  simp only
  rw [if_pos c, e2]
theorem filter_inO {m : Nat} {p : Nat → Bool} : inO m (bitsN ((List.range m).filter p)) = (List.range m).filter p := by
  unfold inO
  refine List.filter_congr fun k hk => ?_
  rw [bitsN_test, Bool.eq_iff_iff, decide_eq_true_iff, List.mem_filter]
  exact ⟨fun h => h.2, fun h => ⟨hk, h⟩⟩
theorem step_inO {n : Nat} {cs : List (List Nat)} {i j : Nat} : inO cs.length (bitsN (KwRing.step n cs i j)) = KwRing.step n cs i j := by
  unfold KwRing.step
  exact filter_inO
theorem w_lringofZ {n : Nat} (h1 : 1 ≤ n) (h13 : n ≤ 13) {P : D → Prop} (hP : ∀ ks t d, LK ks t d → zz ∉ ks → P d) : fw_lringof [nat n] P := by
  intro f
  refine ⟨.nx [some (.ptr f), some (.pur (nat n)), some (.pur (dL (KwRing.units n 2))), none, none, none, none, none, none, none, none, none, none, none, none], sAsg_eq (units_eq h1 h13) rfl, ?_⟩
  refine ⟨.lst [dL [1], dL [1, n - 1], dL (KwRing.units n 2)], ?_, 3, rfl, rfl, by decide, by decide, fun r r0 r1 => ?_⟩
  · refine fLst_eq (fCons_eq rfl (fCons_eq (fLst_eq (xs := [nat 1, nat (n - 1)]) (fCons_eq rfl (fCons_eq (fOp_eq (x := nat n) (y := .int 1) rfl rfl ?_) rfl)) (by show 2 ≤ _; omega)) rfl)) (by show 3 ≤ _; omega)
    show some (D.int ((n : Int) - 1)) = some (D.int ((n - 1 : Nat) : Int))
    congr 2
    omega
  have hway : r.toNat < 3 := by omega
  refine ⟨dL (KwRing.units n r.toNat), ?_, ?_⟩
  · have : r = 0 ∨ r = 1 ∨ r = 2 := by omega
    rcases this with rfl | rfl | rfl <;> rfl
  generalize hr : r.toNat = way at hway
  refine ⟨[some (.ptr f), some (.pur (nat n)), some (.pur (dL (KwRing.units n way))), none, none, none, none, none, none, none, none, none, none, none, none], rfl, ?_⟩
  refine ⟨.nx [some (.ptr f), some (.pur (nat n)), some (.pur (dL (KwRing.units n way))), some (.own (.lst [])), none, none, none, none, none, none, none, none, none, none, none], rfl, ?_⟩
  refine ⟨_, classes_eq h1 h13 hway, ?_⟩
  have ok := ringOk h1 h13 hway
  have rl := ring_law h1 h13 hway
  have rg := fun i j => @ring_g n way i j
  have rb := fun i => @ring_b n way i
  have rm : (KwRing.ring n way).m = (csOf n way).length := rfl
  have rs : (KwRing.ring n way).same = 0 := rfl
  generalize KwRing.ring n way = t at rl rg rb rm rs
  generalize csOf n way = cs at ok rg rb rm
  generalize dL (KwRing.units n way) = U
  generalize dL (KwRing.block n (KwRing.units n way) (n - 1)) = Bl9
  have l1 := ok.l1
  have l13 := ok.l13
  have lcs : (cs.map dL).length = cs.length := List.length_map _
  refine ⟨rfl, nat cs.length, ?_, rfl, w_lwords l1 l13 fun ks nms hlen hz => ?_⟩
  · exact fCall_eq (xs := [csD cs]) rfl (by show gLenQ [.lst (cs.map dL)] = _; rw [len_lst, lcs])
  let en := fun (y4 : Option Sl) (st : Option Sl) (y7 y8 y9 y10 y11 y12 : Option Sl) => [some (Sl.ptr f), some (.pur (nat n)), some (.pur U), some (.pur (csD cs)), y4, some (.pur (.lst (strL ks))), st, y7, y8, y9, y10, y11, y12, none, none]
  refine ⟨en (some (.pur (nat (n - 1)))) none none none (some (.pur Bl9)) none none none, rfl, ?_⟩
  refine ⟨.nx (en (some (.pur (nat (n - 1)))) (some (.own (.dit []))) none none (some (.pur Bl9)) none none none), rfl, ?_⟩
  have lenq : ∀ {ρ : En}, fVar 3 ρ = some (csD cs) → fCall gLenQ (fCons (fVar 3) fNil) ρ = some (nat cs.length) := fun h3 => fCall_eq (xs := [csD cs]) (fCons_eq h3 rfl) (by show gLenQ [.lst (cs.map dL)] = _; rw [len_lst, lcs])
  -- the two loops
  obtain ⟨ρ', e, y4, y7, y9, y10, y11, y12, rfl⟩ := two_loops (m := cs.length) (by omega) (g := nat) (fs1 := iR1 (fCons (fCall gLenQ (fCons (fVar 3) fNil)) fNil)) (fs2 := iR1 (fCons (fCall gLenQ (fCons (fVar 3) fNil)) fNil)) (m1 := mName 7) (m2 := mName 10)
    (mb := (sSeq (sAsg (fLc (iL (fOp gIxL (fVar 3) (fVar 10))) (mName 4) (fun _ => some true) (fOp gMod (fOp gAdd (fOp gIxL (fOp gIxL (fVar 3) (fVar 7)) (fC (.int 0))) (fVar 4)) (fVar 1)) [4]) (mName 11))
    (sSeq (sAsg (fLc (iR1 (fCons (fCall gLenQ (fCons (fVar 3) fNil)) fNil)) (mName 4) (fTest (fCall gAny (fCons (fLc (iL (fOp gIxL (fVar 3) (fVar 4))) (mName 14) (fun _ => some true) (fOp (gIn false) (fVar 14) (fVar 11)) [14]) fNil))) (fVar 4) [4]) (mName 12))
    (sPut 6 (fTup (fCons (fOp gIxL (fVar 5) (fVar 7)) (fCons (fOp gIxL (fVar 5) (fVar 10)) fNil))) (fLc (iL (fVar 12)) (mName 4) (fun _ => some true) (fOp gIxL (fVar 5) (fVar 4)) [4])))))
    (key := ky2 ks) (val := fun p => kl ks (KwRing.step n cs p.1 p.2))
    (fun st ρ => ∃ y4 y7 y9 y10 y11 y12, ρ = en y4 (some (.own (.dit st))) y7 none y9 y10 y11 y12)
    (fun i st ρ => ∃ y4 y9 y10 y11 y12, ρ = en y4 (some (.own (.dit st))) (some (.pur (nat i))) none y9 y10 y11 y12)
    (by
      rintro st ρ ⟨y4, y7, y9, y10, y11, y12, rfl⟩
      exact iR1_eq (fCons_eq (lenq rfl) rfl) (by omega))
    (by
      rintro i st ρ hi ⟨y4, y7, y9, y10, y11, y12, rfl⟩
      exact ⟨_, rfl, y4, y9, y10, y11, y12, rfl⟩)
    (by
      rintro i st ρ ⟨y4, y9, y10, y11, y12, rfl⟩
      exact iR1_eq (fCons_eq (lenq rfl) rfl) (by omega))
    (by
      rintro i st ρ ⟨y4, y9, y10, y11, y12, rfl⟩
      exact ⟨y4, _, y9, y10, y11, y12, rfl⟩)
    (by
      rintro i j st ρ hi hj hst ⟨y4, y9, y10, y11, y12, rfl⟩
      have ci := ok.ne _ (getD_mem hi)
      have cj := ok.ne _ (getD_mem hj)
      refine ⟨en y4 (some (.own (.dit st))) (some (.pur (nat i))) none y9 (some (.pur (nat j))) y11 y12, _, rfl, ?_, y4, y9, some (.pur (nat j)), some (.pur (dL (KwRing.sums n cs i j))), some (.pur (dL (KwRing.step n cs i j))), rfl⟩
      refine seq_nx (ρ' := en y4 (some (.own (.dit st))) (some (.pur (nat i))) none y9 (some (.pur (nat j))) (some (.pur (dL (KwRing.sums n cs i j)))) y12) (sAsg_eq ?_ rfl) ?_
      · unfold KwRing.sums dL
        rw [List.map_map]
        refine fLc_list (l := cs.getD j []) (f := nat) (iL_eq (fOp_eq (x := csD cs) (y := nat j) rfl rfl (cs_at hj))) (by omega) fun k hk => turn_one rfl ?_
        exact fOp_eq (x := nat ((cs.getD i []).headD 0 + k)) (y := nat n) (fOp_eq (x := nat ((cs.getD i []).headD 0)) (y := nat k) (fOp_eq (x := dL (cs.getD i [])) (y := .int 0) (fOp_eq (x := csD cs) (y := nat i) rfl rfl (cs_at hi)) rfl (dL_head ci.1)) rfl gAdd_nat) rfl (gMod_nat (by omega))
      refine seq_nx (ρ' := en y4 (some (.own (.dit st))) (some (.pur (nat i))) none y9 (some (.pur (nat j))) (some (.pur (dL (KwRing.sums n cs i j)))) (some (.pur (dL (KwRing.step n cs i j))))) (sAsg_eq ?_ rfl) ?_
      · refine (fLc_listO (l := List.range cs.length) (f := nat) (g := fun k => if ((cs.getD k []).any fun x => (KwRing.sums n cs i j).contains x) = true then some (nat k) else none) (iR1_eq (fCons_eq (lenq rfl) rfl) (by omega)) (by rw [List.length_range]; omega) fun k hk => turn_if rfl (fTest_eq (fCall_eq (fCons_eq ?_ rfl) (any_map (fun x => (KwRing.sums n cs i j).contains x) (cs.getD k [])))) rfl).trans ?_
        · have hk := List.mem_range.mp hk
          have ck := ok.ne _ (getD_mem hk)
          exact fLc_list (l := cs.getD k []) (f := nat) (iL_eq (fOp_eq (x := csD cs) (y := nat k) rfl rfl (cs_at hk))) (by omega) fun x hx => turn_one rfl (fOp_eq (x := nat x) (y := dL (KwRing.sums n cs i j)) rfl rfl in_dL)
        · rw [filterMap_if]
          rfl
      have v : (fLc (iL (fVar 12)) (mName 4) (fun _ => some true) (fOp gIxL (fVar 5) (fVar 4)) [4]) (en y4 (some (.own (.dit st))) (some (.pur (nat i))) none y9 (some (.pur (nat j))) (some (.pur (dL (KwRing.sums n cs i j)))) (some (.pur (dL (KwRing.step n cs i j))))) = some (kl ks (KwRing.step n cs i j)) := by
        refine fLc_list (l := KwRing.step n cs i j) (f := nat) (iL_eq rfl) ?_ fun k hk => turn_one rfl (fOp_eq (x := .lst (strL ks)) (y := nat k) rfl rfl (ks_at (by rw [hlen]; exact step_lt k hk)))
        unfold KwRing.step
        refine Nat.le_trans (List.length_filter_le _ _) ?_
        rw [List.length_range]
        omega
      have kk : (fTup (fCons (fOp gIxL (fVar 5) (fVar 7)) (fCons (fOp gIxL (fVar 5) (fVar 10)) fNil))) (en y4 (some (.own (.dit st))) (some (.pur (nat i))) none y9 (some (.pur (nat j))) (some (.pur (dL (KwRing.sums n cs i j)))) (some (.pur (dL (KwRing.step n cs i j))))) = some (.tup [.str (nm ks i), .str (nm ks j)]) :=
        fTup_eq (fCons_eq (fOp_eq (x := .lst (strL ks)) (y := nat i) rfl rfl (ks_at (by omega))) (fCons_eq (fOp_eq (x := .lst (strL ks)) (y := nat j) rfl rfl (ks_at (by omega))) rfl)) (by show 2 ≤ _; omega)
      unfold sPut
      rw [v, Option.bind_some, kk, Option.bind_some]
      show (if st.length < 100000 then _ else _) = _
      rw [if_pos hst]
      rfl)
    ⟨_, none, _, none, none, none, rfl⟩
  refine ⟨_, e, ?_⟩
  have hkm : pairsN cs.length = pairsN ks.length := by rw [hlen]
  -- the backs
  refine ⟨.nx ((frz (en y4 (some (.own (.dit (foldP (ky2 ks) (fun p => kl ks (KwRing.step n cs p.1 p.2)) [] (pairsN cs.length))))) y7 none y9 y10 y11 y12)).set 8 (some (.pur (.lst ((List.range ks.length).map fun i => .str (nm ks (t.b i))))))), sAsg_eq ?_ rfl, ?_⟩
  · rw [hlen]
    refine fLc_list (l := List.range cs.length) (f := fun i => dL (cs.getD i [])) (iL_eq (show fVar 3 _ = some (D.lst ((List.range cs.length).map fun i => dL (cs.getD i []))) from ?_)) (by rw [List.length_range]; omega) fun i hi => turn_one rfl ?_
    · have ecs : cs.map dL = (List.range cs.length).map fun i => dL (cs.getD i []) := by
        apply List.ext_getElem?
        intro i
        rw [List.getElem?_map, List.getElem?_map]
        by_cases hi : i < cs.length
        · rw [List.getElem?_range hi, List.getElem?_eq_getElem hi]
          show _ = some (dL (cs.getD i []))
          rw [List.getD_eq_getElem?_getD, List.getElem?_eq_getElem hi]
          rfl
        · rw [List.getElem?_eq_none (by omega), List.getElem?_eq_none (by rw [List.length_range]; omega)]
          rfl
      rw [← ecs]
      rfl
    · have hi := List.mem_range.mp hi
      have ci := ok.ne _ (getD_mem hi)
      rw [rb i hi]
      refine fOp_eq (x := .lst (strL ks)) (y := nat (KwRing.back n cs i)) rfl ?_ (ks_at ?_)
      · obtain ⟨s, es, ei⟩ := some_bind (ok.bk i hi)
        unfold fMt
        show (Option.bind (some (csD cs)) _) = _
        rw [Option.bind_some, fCons_eq (x := s) (xs := []) (fCall_eq (xs := [dL (ngL n (cs.getD i []))]) (fCons_eq ?_ rfl) es) rfl, Option.bind_some]
        · exact ei
        · unfold ngL dL
          rw [List.map_map]
          refine fLc_list (l := cs.getD i []) (f := nat) (iL_eq rfl) (by omega) fun k hk => turn_one rfl (fOp_eq (x := .int (-(k : Int))) (y := nat n) rfl rfl ?_)
          exact ng_mod (by omega)
      · rw [hlen, ← rb i hi]
        have := rl.wf.bk i (by omega)
        omega
  refine ⟨_, sRet_eq (fCallN_eq (xs := [.lst (strL ks), .str (nm ks t.same), .lst ((List.range ks.length).map fun i => .str (nm ks (t.b i))), .dit (foldP (ky2 ks) (fun p => kl ks (KwRing.step n cs p.1 p.2)) [] (pairsN cs.length))]) (fCons_eq rfl (fCons_eq (fOp_eq (x := .lst (strL ks)) (y := .int 0) rfl rfl ?_) (fCons_eq rfl (fCons_eq rfl rfl)))) rfl w_ltable), ?_⟩
  · rw [rs]
    exact ks_at (i := 0) (by omega)
  · rw [hkm]
    refine hP ks t _ (LK_of (f := fun i j => KwRing.step n cs i j) ⟨nms, rl, by omega⟩ fun i j hi hj => ?_) hz
    rw [rg i j (by omega) (by omega), hlen]
    exact step_inO.symm
theorem nzMo : zz ∉ ksMo := by decide +kernel
theorem nzBr : zz ∉ ksBr := by decide +kernel
theorem nzPa : zz ∉ ksPa := by decide +kernel
theorem nzCo : zz ∉ ksCo := by decide +kernel
theorem w_lringZ {P : D → Prop} (hP : ∀ ks t d, LK ks t d → zz ∉ ks → P d) : fw_lring [] P := by
  intro f
  refine ⟨rfl, .int 1, rfl, 13, rfl, rfl, by decide, by decide, fun r r0 r1 => ⟨.int (1 + r), rfl, rfl, ?_⟩⟩
  rw [int_of (show 0 ≤ 1 + r by omega)]
  exact w_lringofZ (by omega) (by omega) hP
theorem w_lsometZ {P : D → Prop} (hP : ∀ ks t d, LK ks t d → zz ∉ ks → P d) : fw_lsomet fs1 [] P := by
  intro f
  refine wSeq_i ?_
  refine ⟨2, rfl, rfl, by decide, by decide, fun r r0 r1 => ⟨.int 0, rfl, .bl (decide (r = 0)), rfl, decide (r = 0), rfl, ?_⟩⟩
  by_cases c0 : r = 0
  · rw [decide_eq_true c0]
    exact ⟨rfl, rfl, w_lringZ hP⟩
  · rw [decide_eq_false c0]
    refine ⟨_, rfl, ?_⟩
    refine ⟨.lst [.str "moments", .str "branches", .str "parts", .str "moments", .str "courses"], rfl, 5, rfl, rfl, by decide, by decide, fun q q0 q1 => ?_⟩
    have : q = 0 ∨ q = 1 ∨ q = 2 ∨ q = 3 ∨ q = 4 := by omega
    rcases this with rfl | rfl | rfl | rfl | rfl
    · exact ⟨_, rfl, rfl, _, fs1_mo, hP _ _ _ lkMo nzMo⟩
    · exact ⟨_, rfl, rfl, _, fs1_br, hP _ _ _ lkBr nzBr⟩
    · exact ⟨_, rfl, rfl, _, fs1_pa, hP _ _ _ lkPa nzPa⟩
    · exact ⟨_, rfl, rfl, _, fs1_mo, hP _ _ _ lkMo nzMo⟩
    · obtain ⟨d, e, h⟩ := fs1_coK
      exact ⟨_, rfl, rfl, _, e, hP _ _ _ h nzCo⟩
theorem w_lring {P : D → Prop} (hP : ∀ ks t d, LD ks t d → P d) : fw_lring [] P := w_lringZ fun ks t d h _ => hP ks t d h.ld
theorem w_lsomet {P : D → Prop} (hP : ∀ ks t d, LD ks t d → P d) : fw_lsomet fs1 [] P := w_lsometZ fun ks t d h _ => hP ks t d h.ld
end KK
end

section
set_option Elab.async false
set_option linter.all false
set_option maxRecDepth 100000
/-! A text joined with one sign and parted at it. -/
namespace KwTxt
open PySem L2 TL
/-- lists of signs with a sign between -/
def joinL (c : Nat) : List (List Nat) → List Nat
  | [] => []
  | [x] => x
  | x :: y :: r => x ++ c :: joinL c (y :: r)
theorem spl_run {c : Nat} : ∀ (x acc r : List Nat), c ∉ x → spl [c] 0 acc (x ++ r) = spl [c] 0 (acc ++ x) r
  | [], acc, r, _ => by rw [List.nil_append, List.append_nil]
  | d :: x, acc, r, h => by
    have hd : ¬ d = c := fun z => h (z ▸ List.mem_cons_self)
    have hp : ¬ pre [c] (d :: (x ++ r)) = true := by
      unfold pre
      simp [hd]
    show (if pre [c] (d :: (x ++ r)) = true then _ else spl [c] 0 (acc ++ [d]) (x ++ r)) = _
    rw [if_neg hp, spl_run x (acc ++ [d]) r fun z => h (List.mem_cons_of_mem _ z), List.append_assoc]
    rfl
theorem spl_join {c : Nat} : ∀ (xs : List (List Nat)), xs ≠ [] → (∀ x ∈ xs, c ∉ x) → spl [c] 0 [] (joinL c xs) = xs
  | [], h, _ => absurd rfl h
  | [x], _, h => by
    have := spl_run x [] [] (h x List.mem_cons_self)
    rw [List.append_nil, List.nil_append] at this
    show spl [c] 0 [] x = [x]
    rw [this, spl_nil]
  | x :: y :: r, _, h => by
    show spl [c] 0 [] (x ++ c :: joinL c (y :: r)) = _
    rw [spl_run x [] _ (h x List.mem_cons_self), List.nil_append]
    have hp : pre [c] (c :: joinL c (y :: r)) = true := by
      unfold pre
      simp
    rw [spl_hit hp]
    show x :: spl [c] 0 [] (joinL c (y :: r)) = _
    rw [spl_join (y :: r) (by simp) fun z hz => h z (List.mem_cons_of_mem _ hz)]
theorem tl_join (sep : Str) {c : Nat} (hs : tl sep = [c]) : ∀ ys : List Str, tl (Txt.join sep ys) = joinL c (ys.map tl) := by
  intro ys
  have e : Txt.join sep ys = Str.join sep ys := StrLaws.glued_eq_join sep ys
  rw [e]
  induction ys with
  | nil => rfl
  | cons y ys ih =>
    cases ys with
    | nil => rfl
    | cons z r =>
      have ih := ih (StrLaws.glued_eq_join sep (z :: r))
      show tl (y ++ sep ++ Str.join sep (z :: r)) = tl y ++ c :: joinL c (tl z :: r.map tl)
      have e2 : tl (y ++ sep ++ Str.join sep (z :: r)) = tl y ++ tl sep ++ tl (Str.join sep (z :: r)) := by
        show ((y.cps ++ sep.cps) ++ (Str.join sep (z :: r)).cps).toList = _
        simp
      rw [e2, hs, ih, List.append_assoc]
      rfl
theorem kind_le {x y : Str} (hy : y.cps.all (· < 256) = true) : ¬ Builtin.Str.strKind x < Builtin.Str.strKind y := by
  unfold Builtin.Str.strKind
  rw [if_pos hy]
  split
  · omega
  · split <;> omega
theorem tl_inj {x y : Str} (h : tl x = tl y) : x = y := Str.ext' (Array.toList_inj.mp h)
/-- parted where it was joined -/
theorem split_join {sep : Str} {c : Nat} (hs : tl sep = [c]) (hc : c < 256) {ys : List Str} (h0 : ys ≠ []) (h : ∀ y ∈ ys, c ∉ tl y) : Txt.split (Txt.join sep ys) sep = ys := by
  have hk : sep.cps.all (· < 256) = true := by
    rw [← Array.all_toList]
    show (tl sep).all _ = true
    rw [hs]
    simp [hc]
  have e := split_spl (Txt.join sep ys) sep (by rw [hs]; simp) (kind_le hk)
  rw [hs, tl_join sep hs, spl_join (ys.map tl) (by simpa using h0) (fun x hx => by
    obtain ⟨y, hy, rfl⟩ := List.mem_map.mp hx
    exact h y hy)] at e
  have inj : ∀ (as bs : List Str), as.map tl = bs.map tl → as = bs := by
    intro as
    induction as with
    | nil =>
      intro bs e
      cases bs with
      | nil => rfl
      | cons _ _ => cases e
    | cons a as ih =>
      intro bs e
      cases bs with
      | nil => cases e
      | cons b bs =>
        rw [List.map_cons, List.map_cons] at e
        injection e with e1 e2
        rw [tl_inj e1, ih bs e2]
  exact inj _ _ e
theorem join_len (sep : Str) (ys : List Str) : (Txt.join sep ys).length ≤ (ys.map (·.length)).sum + ys.length * sep.length := by
  rw [show Txt.join sep ys = Str.join sep ys from StrLaws.glued_eq_join sep ys]
  exact StrLaws.join_length_le sep ys
theorem sum_le {ys : List Str} {n : Nat} (h : ∀ y ∈ ys, y.length ≤ n) : (ys.map (·.length)).sum ≤ ys.length * n := by
  induction ys with
  | nil => simp
  | cons y ys ih =>
    rw [List.map_cons, List.sum_cons, List.length_cons, Nat.succ_mul]
    have h1 := h y List.mem_cons_self
    have h2 := ih fun z hz => h z (List.mem_cons_of_mem _ hz)
    omega
theorem mem_join {sep : Str} {ys : List Str} {x : Nat} (h : x ∈ tl (Txt.join sep ys)) : x ∈ tl sep ∨ ∃ y ∈ ys, x ∈ tl y := by
  rw [show Txt.join sep ys = Str.join sep ys from StrLaws.glued_eq_join sep ys] at h
  induction ys with
  | nil => cases h
  | cons y ys ih =>
    cases ys with
    | nil => exact .inr ⟨y, List.mem_cons_self, h⟩
    | cons z r =>
      have e2 : tl (Str.join sep (y :: z :: r)) = tl y ++ tl sep ++ tl (Str.join sep (z :: r)) := by
        show ((y.cps ++ sep.cps) ++ (Str.join sep (z :: r)).cps).toList = _
        simp
      rw [e2] at h
      rcases List.mem_append.mp h with h | h
      · rcases List.mem_append.mp h with h | h
        · exact .inr ⟨y, List.mem_cons_self, h⟩
        · exact .inl h
      · rcases ih h with h | ⟨w, hw, h⟩
        · exact .inl h
        · exact .inr ⟨w, List.mem_cons_of_mem _ hw, h⟩
end KwTxt
end

section
set_option Elab.async false
set_option linter.all false
set_option maxRecDepth 100000
/-! M30: a table's text, by words and rows. -/
namespace KK
open PySem PySem.Spec PyProof.Rows L2 KW DL
open KwRing (Tab)
theorem strsD_map : ∀ ks : List Str, strsD (ks.map D.str) = some ks
  | [] => rfl
  | k :: ks => by
    show (strsD (ks.map D.str)).map (k :: ·) = _
    rw [strsD_map ks]
    rfl
/-- a word: no blank, no new line, short -/
def Wd (w : Str) : Prop := w.length ≤ 8 ∧ ∀ c ∈ TL.tl w, 33 ≤ c ∧ c ≤ 122
theorem NameS.wd {x : Str} (h : NameS x) : Wd x := ⟨h.2.1, fun c hc => by
  have := h.2.2 c hc
  omega⟩
def rowB (ks : List Str) (t : Tab) (i : Nat) : List Str := ["back", nm ks i, nm ks (t.b i)]
def rowS (ks : List Str) (t : Tab) (i j : Nat) : List Str := (["step", nm ks i, nm ks j, "="] : List Str) ++ (inO ks.length (t.g i j)).map (nm ks)
def rowW (ks : List Str) (t : Tab) : List (List Str) := (((("kinds" : Str) :: ks) :: (["same", nm ks t.same] : List Str) :: (List.range ks.length).map (rowB ks t)) : List (List Str)) ++ (List.range ks.length).flatMap fun i => (List.range ks.length).map (rowS ks t i)
abbrev jn (ws : List Str) : Str := Txt.join " " ws
def txt (ks : List Str) (t : Tab) : Str := Txt.join "\n" ((rowW ks t).map jn)
structure Row (ws : List Str) : Prop where
  ne : ws ≠ []
  l : ws.length ≤ 17
  w : ∀ x ∈ ws, Wd x
theorem wd_kinds : Wd "kinds" := ⟨by decide, by decide⟩
theorem wd_same : Wd "same" := ⟨by decide, by decide⟩
theorem wd_back : Wd "back" := ⟨by decide, by decide⟩
theorem wd_step : Wd "step" := ⟨by decide, by decide⟩
theorem wd_is : Wd "=" := ⟨by decide, by decide⟩
theorem nm_wd {ks : List Str} (h : Nms ks) {i : Nat} (hi : i < ks.length) : Wd (nm ks i) := (nm_name h hi).wd
theorem row_k {ks : List Str} (h : Nms ks) : Row ("kinds" :: ks) := ⟨by simp, by have := h.l13; rw [List.length_cons]; omega, fun x hx => by
  rcases List.mem_cons.mp hx with rfl | hx
  · exact wd_kinds
  · exact (h.nm x hx).wd⟩
theorem row_s {ks : List Str} {t : Tab} (h : TT ks t) : Row ["same", nm ks t.same] := ⟨by simp, by show 2 ≤ 17; omega, fun x hx => by
  have := h.law.wf.same
  have hm := h.hm
  rcases List.mem_cons.mp hx with rfl | hx
  · exact wd_same
  · rcases List.mem_cons.mp hx with rfl | hx
    · exact nm_wd h.nms (by omega)
    · cases hx⟩
theorem row_b {ks : List Str} {t : Tab} (h : TT ks t) {i : Nat} (hi : i < ks.length) : Row (rowB ks t i) := ⟨by unfold rowB; simp, by show 3 ≤ 17; omega, fun x hx => by
  have hm := h.hm
  have := h.law.wf.bk i (by omega)
  unfold rowB at hx
  rcases List.mem_cons.mp hx with rfl | hx
  · exact wd_back
  · rcases List.mem_cons.mp hx with rfl | hx
    · exact nm_wd h.nms hi
    · rcases List.mem_cons.mp hx with rfl | hx
      · exact nm_wd h.nms (by omega)
      · cases hx⟩
theorem row_st {ks : List Str} {t : Tab} (h : TT ks t) {i j : Nat} (hi : i < ks.length) (hj : j < ks.length) : Row (rowS ks t i j) := ⟨by unfold rowS; simp, by
  have := h.nms.l13
  have := inO_len (m := ks.length) (a := t.g i j)
  unfold rowS
  rw [List.length_append, List.length_map]
  show 4 + _ ≤ 17
  omega, fun x hx => by
  unfold rowS at hx
  rcases List.mem_append.mp hx with hx | hx
  · rcases List.mem_cons.mp hx with rfl | hx
    · exact wd_step
    · rcases List.mem_cons.mp hx with rfl | hx
      · exact nm_wd h.nms hi
      · rcases List.mem_cons.mp hx with rfl | hx
        · exact nm_wd h.nms hj
        · rcases List.mem_cons.mp hx with rfl | hx
          · exact wd_is
          · cases hx
  · obtain ⟨k, hk, rfl⟩ := List.mem_map.mp hx
    exact nm_wd h.nms (inO_lt k hk)⟩
theorem row_all {ks : List Str} {t : Tab} (h : TT ks t) : ∀ r ∈ rowW ks t, Row r := fun r hr => by
  unfold rowW at hr
  rcases List.mem_append.mp hr with hr | hr
  · rcases List.mem_cons.mp hr with rfl | hr
    · exact row_k h.nms
    · rcases List.mem_cons.mp hr with rfl | hr
      · exact row_s h
      · obtain ⟨i, hi, rfl⟩ := List.mem_map.mp hr
        exact row_b h (List.mem_range.mp hi)
  · obtain ⟨i, hi, hr⟩ := List.mem_flatMap.mp hr
    obtain ⟨j, hj, rfl⟩ := List.mem_map.mp hr
    exact row_st h (List.mem_range.mp hi) (List.mem_range.mp hj)
theorem flatR_len {α : Type} {n m : Nat} {f : Nat → List α} : ∀ {l : List Nat}, (∀ i ∈ l, (f i).length = m) → (l.flatMap f).length = l.length * m
  | [], _ => by simp
  | x :: l, h => by
    rw [List.flatMap_cons, List.length_append, h x List.mem_cons_self, flatR_len (n := n) fun i hi => h i (List.mem_cons_of_mem _ hi), List.length_cons, Nat.succ_mul, Nat.add_comm]
theorem row_len {ks : List Str} {t : Tab} : (rowW ks t).length = 2 + ks.length + ks.length * ks.length := by
  unfold rowW
  rw [List.length_append, flatR_len (n := 0) (m := ks.length) fun i _ => by rw [List.length_map, List.length_range], List.length_cons, List.length_cons, List.length_map, List.length_range]
  omega
theorem mul13 {n : Nat} (h : n ≤ 13) : n * n ≤ 169 := Nat.mul_le_mul h h
theorem sum_ok {ws : List Str} (h : Row ws) : (ws.map (·.length)).sum + ws.length * (" " : Str).length ≤ 200 := by
  have h1 := KwTxt.sum_le (n := 8) fun y hy => (h.w y hy).1
  have h2 := h.l
  have h3 : (" " : Str).length = 1 := by decide
  rw [h3]
  omega
theorem jn_len {ws : List Str} (h : Row ws) : (jn ws).length ≤ 200 := Nat.le_trans (KwTxt.join_len " " ws) (sum_ok h)
theorem jn_no {ws : List Str} (h : Row ws) : 10 ∉ TL.tl (jn ws) := fun z => by
  rcases KwTxt.mem_join z with z | ⟨y, hy, z⟩
  · revert z
    decide
  · have := (h.w y hy).2 _ z
    omega
theorem gJoin_row {ws : List Str} (h : Row ws) : gJoin (.str " ") (.lst (ws.map D.str)) = some (.str (jn ws)) := by
  show (strsD (ws.map D.str)).bind _ = _
  rw [strsD_map, Option.bind_some, if_pos (Nat.le_trans (sum_ok h) (by decide))]
theorem gSplit_row {ws : List Str} (h : Row ws) : gSplit (.str (jn ws)) (.str " ") = some (.lst (ws.map D.str)) := by
  show (if (" " : Str).length ≠ 0 ∧ (jn ws).length + 2 ≤ 16777216 then _ else _) = _
  rw [if_pos ⟨by decide, by have := jn_len h; omega⟩, KwTxt.split_join (c := 32) (by decide) (by decide) h.ne fun y hy z => by
    have := (h.w y hy).2 _ z
    omega]
theorem rows_sum {ks : List Str} {t : Tab} (h : TT ks t) : (((rowW ks t).map jn).map (·.length)).sum + ((rowW ks t).map jn).length * ("\n" : Str).length ≤ 50000 := by
  have h1 := KwTxt.sum_le (ys := (rowW ks t).map jn) (n := 200) fun y hy => by
    obtain ⟨r, hr, rfl⟩ := List.mem_map.mp hy
    exact jn_len (row_all h r hr)
  have l13 := h.nms.l13
  have h4 := mul13 l13
  rw [List.length_map, row_len] at h1
  have h3 : ("\n" : Str).length = 1 := by decide
  rw [h3, List.length_map, row_len]
  omega
theorem gJoin_txt {ks : List Str} {t : Tab} (h : TT ks t) : gJoin (.str "\n") (.lst (((rowW ks t).map jn).map D.str)) = some (.str (txt ks t)) := by
  show (strsD _).bind _ = _
  rw [strsD_map, Option.bind_some, if_pos (Nat.le_trans (rows_sum h) (by decide))]
  rfl
theorem gSplit_txt {ks : List Str} {t : Tab} (h : TT ks t) : gSplit (.str (txt ks t)) (.str "\n") = some (.lst (((rowW ks t).map jn).map D.str)) := by
  show (if ("\n" : Str).length ≠ 0 ∧ (txt ks t).length + 2 ≤ 16777216 then _ else _) = _
  rw [if_pos ⟨by decide, by
    have h1 := rows_sum h
    have h2 : (txt ks t).length ≤ _ := KwTxt.join_len "\n" ((rowW ks t).map jn)
    omega⟩, show Txt.split (txt ks t) "\n" = (rowW ks t).map jn from KwTxt.split_join (c := 10) (by decide) (by decide) (by unfold rowW; simp) fun y hy => by
    obtain ⟨r, hr, rfl⟩ := List.mem_map.mp hy
    exact jn_no (row_all h r hr)]
theorem jn_cons2 (x y : Str) (r : List Str) : jn (x :: y :: r) = x ++ " " ++ jn (y :: r) := by
  show Txt.join " " (x :: y :: r) = x ++ " " ++ Txt.join " " (y :: r)
  rw [show Txt.join " " (x :: y :: r) = Str.join " " (x :: y :: r) from StrLaws.glued_eq_join _ _, show Txt.join " " (y :: r) = Str.join " " (y :: r) from StrLaws.glued_eq_join _ _]
  rfl
theorem jn_one (x : Str) : jn [x] = x := by
  show Txt.join " " [x] = x
  rw [show Txt.join " " [x] = Str.join " " [x] from StrLaws.glued_eq_join _ _]
  rfl
theorem app_assoc (a b c : Str) : a ++ b ++ c = a ++ (b ++ c) := KwTxt.tl_inj (by
  show ((a.cps ++ b.cps) ++ c.cps).toList = (a.cps ++ (b.cps ++ c.cps)).toList
  simp)
theorem jn_same (x : Str) : jn ["same", x] = "same " ++ x := by
  rw [jn_cons2, jn_one]
  rfl
theorem jn_back (x y : Str) : jn ["back", x, y] = "back " ++ x ++ " " ++ y := by
  rw [jn_cons2, jn_cons2, jn_one, ← app_assoc, ← app_assoc]
  rfl
end KK
end

section
set_option Elab.async false
set_option linter.all false
set_option maxRecDepth 100000
/-! M31: the law's text of a told table, and a table's own text. -/
namespace KK
open PySem PySem.Spec PyProof.Rows L2 KW DL
open KwRing (Tab)
theorem gCatL_eq {xs ys : List D} (h : xs.length + ys.length ≤ 100000) : gCatL (.lst xs) (.lst ys) = some (.lst (xs ++ ys)) := by
  show (if xs.length + ys.length ≤ 100000 then _ else _) = _
  rw [if_pos h]
theorem gCatS_eq {x y : Str} (h : x.length + y.length ≤ 100000) : gCatS (.str x) (.str y) = some (.str (x ++ y)) := by
  show (if x.length + y.length ≤ 100000 then _ else _) = _
  rw [if_pos h]
theorem app_len (x y : Str) : (x ++ y).length = x.length + y.length := by
  show (x.cps ++ y.cps).size = _
  rw [Array.size_append]
  rfl
def rows0 (ks : List Str) (t : Tab) : List (List Str) := (("kinds" : Str) :: ks) :: (["same", nm ks t.same] : List Str) :: (List.range ks.length).map (rowB ks t)
theorem rowW_eq {ks : List Str} {t : Tab} : rowW ks t = rows0 ks t ++ (List.range ks.length).flatMap fun i => (List.range ks.length).map (rowS ks t i) := rfl
theorem it_kinds {ks : List Str} {ρ : En} {fa : FE} (h : fa ρ = some (.lst (strL ks))) : iL fa ρ = some ((List.range ks.length).map fun i => D.str (nm ks i)) := iL_eq (by rw [h, strL_eq])
end KK
end

section
set_option Elab.async false
set_option linter.all false
set_option maxRecDepth 100000
/-! M32: a table's own text. -/
namespace KK
open PySem PySem.Spec PyProof.Rows L2 KW DL
open KwRing (Tab)
variable {C : Addr} {ks : List Str} {t : Tab}
theorem w_tback (h : TT ks t) {i : Nat} (hi : i < ks.length) : fn_tback C [tabD C ks t, .str (nm ks i)] = some (.str (nm ks (t.b i))) := by
  have hm := h.hm
  have wf := h.law.wf
  refine runF_rt (sRet_eq (fOp_eq (x := .tup (strL ks)) (y := nat (t.b i)) (fFld_eq (fs := tabF ks t) rfl rfl) (fOp_eq (x := turnsD t) (y := nat i) (fFld_eq (fs := tabF ks t) rfl rfl) (fMeth_eq (fs := tabF ks t) rfl rfl (xs := [.str (nm ks i)]) rfl rfl (w_place h.nms hi)) ?_) ?_))
  · exact gIxT_nat (map_nat (by rw [wf.bl, hm]; exact hi))
  · exact gIxT_nat (strL_get (by have := wf.bk i (by omega); omega))
theorem w_tstep (h : TT ks t) {i j : Nat} (hi : i < ks.length) (hj : j < ks.length) : fn_tstep C [tabD C ks t, .str (nm ks i), .str (nm ks j)] = some (kl ks (inO ks.length (t.g i j))) := by
  have hm := h.hm
  have wf := h.law.wf
  obtain ⟨r, h1, h2, h3, h4⟩ := wf.row (a := i) (by omega)
  refine runF_rt (seq_nx (ρ' := [some (.pur (tabD C ks t)), some (.pur (.str (nm ks i))), some (.pur (.str (nm ks j))), some (.pur (nat i)), none]) (sAsg_eq (fMeth_eq (fs := tabF ks t) rfl rfl (xs := [.str (nm ks i)]) rfl rfl (w_place h.nms hi)) rfl) (seq_nx (ρ' := [some (.pur (tabD C ks t)), some (.pur (.str (nm ks i))), some (.pur (.str (nm ks j))), some (.pur (nat i)), some (.pur (nat j))]) (sAsg_eq (fMeth_eq (fs := tabF ks t) rfl rfl (xs := [.str (nm ks j)]) rfl rfl (w_place h.nms hj)) rfl) (sRet_eq ?_)))
  refine fMeth_eq (fs := tabF ks t) rfl rfl (xs := [nat (t.g i j)]) (fCons_eq (fOp_eq (x := .tup (r.map nat)) (y := nat j) (fOp_eq (x := gridD t) (y := nat i) (fFld_eq (fs := tabF ks t) rfl rfl) rfl (gIxT_nat h3)) rfl (gIxT_nat ?_)) rfl) rfl (w_listed h.nms)
  rw [List.getElem?_map, List.getElem?_eq_getElem (by omega)]
  show some (nat r[j]) = _
  rw [← h4 j, List.getD_eq_getElem?_getD, List.getElem?_eq_getElem (by omega)]
  rfl
theorem em_app (x : Str) : Str.empty ++ x = x := KwTxt.tl_inj (by
  show (Str.empty.cps ++ x.cps).toList = x.cps.toList
  rw [Array.toList_append]
  rfl)
theorem joined2 {fa fb : FE} {ρ : En} {a b : Str} (ha : fa ρ = some (.str a)) (hb : fb ρ = some (.str b)) (hl : a.length + b.length ≤ 1000) : fJoined [fa, fb] ρ = some (.str (a ++ b)) := by
  unfold fJoined
  have z : fJs [fa, fb] Str.empty ρ = some (a ++ b) := by
    unfold fJs
    rw [ha, Option.bind_some]
    show (if (Str.empty ++ a).length ≤ 16777216 then fJs [fb] (Str.empty ++ a) ρ else none) = _
    rw [em_app, if_pos (by omega)]
    unfold fJs
    rw [hb, Option.bind_some]
    show (if (a ++ b).length ≤ 16777216 then fJs [] (a ++ b) ρ else none) = _
    rw [if_pos (by rw [app_len]; omega)]
    rfl
  rw [z]
  rfl
theorem joined4 {fa fb fc fd : FE} {ρ : En} {a b c d : Str} (ha : fa ρ = some (.str a)) (hb : fb ρ = some (.str b)) (hc : fc ρ = some (.str c)) (hd : fd ρ = some (.str d)) (hl : a.length + b.length + c.length + d.length ≤ 1000) : fJoined [fa, fb, fc, fd] ρ = some (.str (a ++ b ++ c ++ d)) := by
  unfold fJoined
  have z : fJs [fa, fb, fc, fd] Str.empty ρ = some (a ++ b ++ c ++ d) := by
    unfold fJs
    rw [ha, Option.bind_some]
    show (if (Str.empty ++ a).length ≤ 16777216 then fJs [fb, fc, fd] (Str.empty ++ a) ρ else none) = _
    rw [em_app, if_pos (by omega)]
    unfold fJs
    rw [hb, Option.bind_some]
    show (if (a ++ b).length ≤ 16777216 then fJs [fc, fd] (a ++ b) ρ else none) = _
    rw [if_pos (by rw [app_len]; omega)]
    unfold fJs
    rw [hc, Option.bind_some]
    show (if (a ++ b ++ c).length ≤ 16777216 then fJs [fd] (a ++ b ++ c) ρ else none) = _
    rw [if_pos (by rw [app_len, app_len]; omega)]
    unfold fJs
    rw [hd, Option.bind_some]
    show (if (a ++ b ++ c ++ d).length ≤ 16777216 then fJs [] (a ++ b ++ c ++ d) ρ else none) = _
    rw [if_pos (by rw [app_len, app_len, app_len]; omega)]
    rfl
  rw [z]
  rfl
theorem fmt_str {fa : FE} {ρ : En} {x : Str} (h : fa ρ = some (.str x)) (hl : x.length ≤ 1000) : fFmt fa ρ = some (.str x) := by
  unfold fFmt
  rw [h, Option.bind_some]
  show (if x.length ≤ 16777216 then some x else none).map D.str = _
  rw [if_pos (by omega)]
  rfl
theorem w_trows (h : TT ks t) : fn_trows C [tabD C ks t] = some (.lst (((rowW ks t).map jn).map D.str)) := by
  have hm := h.hm
  have wf := h.law.wf
  have l13 := h.nms.l13
  have hsq := mul13 l13
  have same := wf.same
  have w8 : ∀ {i : Nat}, i < ks.length → (nm ks i).length ≤ 8 := fun hi => (nm_wd h.nms hi).1
  let e0 : Option Sl → Option Sl → Option Sl → En := fun a b c => [some (.pur (tabD C ks t)), some (.pur (.lst (strL ks))), a, b, c, none, none, none]
  let v2 : D := .lst ([jn ("kinds" :: ks), jn ["same", nm ks t.same]].map D.str)
  let v3 : D := .lst ((List.range ks.length).map fun i => D.str (jn (rowB ks t i)))
  let g4 : D → List D := fun d => match d with
    | .str x => (List.range ks.length).map fun j => D.str (jn (rowS ks t (ks.idxOf x) j))
    | _ => []
  let v4 : D := .lst (((List.range ks.length).flatMap fun i => (List.range ks.length).map fun j => D.str (jn (rowS ks t i j))))
  refine runF_rt (seq_nx (ρ' := e0 none none none) (sAsg_eq (fMeth_eq (fs := tabF ks t) rfl rfl (xs := []) rfl rfl w_tkinds) rfl) ?_)
  refine seq_nx (ρ' := e0 (some (.pur v2)) none none) (sAsg_eq (fLst_eq (fCons_eq (fOp_eq (x := .str " ") (y := .lst ((("kinds" : Str) :: ks).map D.str)) rfl (fOp_eq (x := .lst [.str "kinds"]) (y := .lst (strL ks)) rfl rfl (gCatL_eq (by rw [strL_len]; show 1 + _ ≤ _; omega))) (gJoin_row (row_k h.nms))) (fCons_eq (x := .str (jn ["same", nm ks t.same])) ?_ rfl)) (by show 2 ≤ _; omega)) rfl) ?_
  · rw [jn_same]
    have w := w8 (i := t.same) (by omega)
    have e : ("same " : Str).length = 5 := by decide
    exact joined2 rfl (fmt_str (fFld_eq (fs := tabF ks t) rfl rfl) (by omega)) (by omega)
  refine seq_nx (ρ' := e0 (some (.pur v2)) (some (.pur v3)) none) (sAsg_eq (fLc_list (f := fun i => D.str (nm ks i)) (l := List.range ks.length) (it_kinds rfl) (by rw [List.length_range]; omega) fun i hi => turn_one rfl ?_) rfl) ?_
  · have hi := List.mem_range.mp hi
    have h1 := w8 hi
    have h2 := w8 (i := t.b i) (by have := wf.bk i (by omega); omega)
    have e1 : ("back " : Str).length = 5 := by decide
    have e2 : (" " : Str).length = 1 := by decide
    unfold rowB
    rw [jn_back]
    exact joined4 rfl (fmt_str rfl (by omega)) rfl (fmt_str (fMeth_eq (fs := tabF ks t) rfl rfl (xs := [.str (nm ks i)]) rfl rfl (w_tback h hi)) (by omega)) (by omega)
  refine seq_nx (ρ' := e0 (some (.pur v2)) (some (.pur v3)) (some (.pur v4))) (sAsg_eq (x := v4) ?_ rfl) ?_
  · have idx : ∀ {i : Nat}, i < ks.length → ks.idxOf (nm ks i) = i := fun {i} hi => by
      have : nm ks i = ks[i] := by
        have := nm_get hi
        rw [List.getElem?_eq_getElem hi] at this
        injection this with this
        exact this.symm
      rw [this]
      exact h.nms.nd.idxOf_getElem i hi
    refine (fLc2_map (ds := (List.range ks.length).map fun i => D.str (nm ks i)) g4 (it_kinds rfl) (fun d hd => ?_) ?_).trans ?_
    · obtain ⟨i, hi, rfl⟩ := List.mem_map.mp hd
      have hi := List.mem_range.mp hi
      show _ = some ((List.range ks.length).map fun j => D.str (jn (rowS ks t (ks.idxOf (nm ks i)) j)))
      rw [idx hi]
      refine turn2_one rfl (it_kinds (ks := ks) rfl) (goF_list fun j hj => turn_one rfl ?_)
      have hj := List.mem_range.mp hj
      refine fOp_eq (x := .str " ") (y := .lst ((rowS ks t i j).map D.str)) rfl (fOp_eq (x := .lst [.str "step", .str (nm ks i), .str (nm ks j), .str "="]) (y := kl ks (inO ks.length (t.g i j))) rfl (fMeth_eq (fs := tabF ks t) rfl rfl (xs := [.str (nm ks i), .str (nm ks j)]) rfl rfl (w_tstep h hi hj)) ((gCatL_eq ?_).trans ?_)) (gJoin_row (row_st h hi hj))
      · have := inO_len (m := ks.length) (a := t.g i j)
        rw [List.length_map]
        show 4 + _ ≤ _
        omega
      · congr 2
        unfold rowS
        rw [List.map_append, List.map_map]
        rfl
    · refine Nat.le_trans (flat_len (n := ks.length) fun d hd => ?_) ?_
      · obtain ⟨i, hi, rfl⟩ := List.mem_map.mp hd
        show ((List.range ks.length).map _).length ≤ _
        rw [List.length_map, List.length_range]
        exact Nat.le_refl _
      · rw [List.length_map, List.length_range]
        omega
    · show some (D.lst _) = some (D.lst _)
      congr 2
      rw [List.flatMap_map, List.flatMap_def, List.flatMap_def]
      congr 1
      refine List.map_congr_left fun i hi => ?_
      show (List.range ks.length).map (fun j => D.str (jn (rowS ks t (ks.idxOf (nm ks i)) j))) = _
      rw [idx (List.mem_range.mp hi)]
  · refine sRet_eq (fOp_eq (x := .lst (((rows0 ks t).map jn).map D.str)) (y := v4) (fOp_eq (x := v2) (y := v3) rfl rfl ((gCatL_eq ?_).trans ?_)) rfl ((gCatL_eq ?_).trans ?_))
    · rw [List.length_map, List.length_map, List.length_range]
      show 2 + _ ≤ _
      omega
    · congr 2
      unfold rows0
      simp [Function.comp_def]
    · rw [List.length_map, List.length_map, flatR_len (n := 0) (m := ks.length) fun i _ => by rw [List.length_map, List.length_range], List.length_range]
      unfold rows0
      rw [List.length_cons, List.length_cons, List.length_map, List.length_range]
      omega
    · congr 2
      rw [rowW_eq]
      simp only [List.map_append, List.map_map, List.map_flatMap, Function.comp_def]
theorem w_tstr (h : TT ks t) : fn_tstr C [tabD C ks t] = some (.str (txt ks t)) := runF_rt (sRet_eq (fOp_eq (x := .str "\n") (y := .lst (((rowW ks t).map jn).map D.str)) rfl (fCallN_eq (xs := [tabD C ks t]) rfl rfl (w_trows h)) (gJoin_txt h)))
theorem w_strO (h : TT ks t) : gStrO C (fn_tstr C) [tabD C ks t] = some (.str (txt ks t)) := by
  show (if C = C then (fn_tstr C [tabD C ks t]).bind fun d => if isStrD d = true then some d else none else none) = _
  rw [if_pos rfl, w_tstr h]
  rfl
end KK
end

section
set_option Elab.async false
set_option linter.all false
set_option maxRecDepth 100000
/-! M35a: == of tuples of numbers; new names by old ones; a table's steps as lists. -/
namespace KK
open PySem PySem.Spec PyProof.Rows L2 KW DL
open KwRing (Tab)
variable {C : Addr} {ks ns : List Str} {t : Tab}
abbrev rowL (ks : List Str) (t : Tab) (i : Nat) : List (List Nat) := (List.range ks.length).map fun j => inO ks.length (t.g i j)
abbrev allL (ks : List Str) (t : Tab) : List (List (List Nat)) := (List.range ks.length).map (rowL ks t)
theorem all_lines (T : TT ks t) : Lines ks.length (allL ks t) := by
  have l13 := T.nms.l13
  refine ⟨by rw [List.length_map, List.length_range], fun r hr => ?_, fun r hr l hl => ?_⟩
  · obtain ⟨i, _, rfl⟩ := List.mem_map.mp hr
    rw [List.length_map, List.length_range]
  · obtain ⟨i, hi, rfl⟩ := List.mem_map.mp hr
    obtain ⟨j, hj, rfl⟩ := List.mem_map.mp hl
    exact ⟨Nat.le_trans inO_len (by omega), fun k hk => inO_lt k hk⟩
theorem all_grid (T : TT ks t) : t.grid = (allL ks t).map (·.map bitsN) := by
  have hm := T.hm
  have wf := T.law.wf
  have := grid_eq wf (f := fun i j => inO ks.length (t.g i j)) fun i j hi hj => bits_in fun k hk => by
    have := test_lt (wf.gr i j (by omega) (by omega)) hk
    omega
  rw [hm] at this
  exact this
theorem toPys_nats : ∀ l : List Nat, toPys (l.map nat) = some (l.map fun i : Nat => PyData.int (i : Int))
  | [] => by
    unfold toPys
    rfl
  | z :: zs => by
    rw [List.map_cons]
    unfold toPys
    rw [toPys_nats zs]
    unfold toPy
    rfl
theorem dep_nats : ∀ l : List Nat, PyData.depthAll (l.map fun i : Nat => PyData.int (i : Int)) = 0
  | [] => rfl
  | z :: zs => by
    rw [List.map_cons]
    unfold PyData.depthAll
    rw [dep_nats zs]
    rfl
theorem lay_nats : ∀ l : List Nat, PyData.canLayAll0 (l.map fun i : Nat => PyData.int (i : Int)) = true
  | [] => rfl
  | z :: zs => by
    rw [List.map_cons]
    unfold PyData.canLayAll0
    rw [lay_nats zs, Bool.and_true]
    rfl
theorem eqv_nats : ∀ l : List Nat, PyData.eqvAll (l.map fun i : Nat => PyData.int (i : Int)) (l.map fun i : Nat => PyData.int (i : Int)) = true
  | [] => rfl
  | z :: zs => by
    rw [List.map_cons]
    unfold PyData.eqvAll
    rw [eqv_nats zs, Bool.and_true]
    unfold PyData.eqv
    simp
def tupsP (g : List (List Nat)) : List PyData := g.map fun r => PyData.tuple (r.map fun i : Nat => PyData.int (i : Int))
theorem toPys_tups : ∀ g : List (List Nat), toPys (g.map fun r => D.tup (r.map nat)) = some (tupsP g)
  | [] => by
    unfold toPys
    rfl
  | z :: zs => by
    rw [List.map_cons]
    unfold toPys
    rw [toPys_tups zs]
    unfold toPy
    rw [toPys_nats]
    rfl
theorem dep_tups : ∀ g : List (List Nat), PyData.depthAll (tupsP g) ≤ 1
  | [] => by show 0 ≤ 1; omega
  | z :: zs => by
    unfold tupsP
    rw [List.map_cons]
    unfold PyData.depthAll
    have := dep_tups zs
    unfold tupsP at this
    unfold PyData.depth
    rw [dep_nats]
    omega
theorem lay_tups : ∀ g : List (List Nat), PyData.canLayAll0 (tupsP g) = true
  | [] => rfl
  | z :: zs => by
    have := lay_tups zs
    unfold tupsP at this ⊢
    rw [List.map_cons]
    unfold PyData.canLayAll0
    rw [this, Bool.and_true]
    unfold PyData.canLay0
    exact lay_nats z
theorem eqv_tups : ∀ g : List (List Nat), PyData.eqvAll (tupsP g) (tupsP g) = true
  | [] => rfl
  | z :: zs => by
    have := eqv_tups zs
    unfold tupsP at this ⊢
    rw [List.map_cons]
    unfold PyData.eqvAll
    rw [this, Bool.and_true]
    unfold PyData.eqv
    exact eqv_nats z
theorem eq_tup {ds : List D} {ps : List PyData} (h : toPys ds = some ps) (h1 : PyData.canLayAll0 ps = true) (h2 : PyData.depthAll ps ≤ 1) (h3 : PyData.eqvAll ps ps = true) : gEq (.tup ds) (.tup ds) = some (.bl true) := by
  have sh : SeqAt.shaped (.tuple ps) = true := by
    unfold SeqAt.shaped PyData.canLay0 PyData.depth
    rw [h1]
    simp
    omega
  have tp : toPy (.tup ds) = some (.tuple ps) := by
    unfold toPy
    rw [h]
    rfl
  unfold gEq eqD
  rw [if_neg (by show ¬ (false = true); decide), tp, Option.bind_some, Option.bind_some, sh, if_pos (show (true && true) = true from rfl)]
  unfold PyData.eqv
  rw [h3]
  rfl
/-- the kinds' new names, by the old ones -/
def atS (ks ns : List Str) : List (Key × D) := foldP (fun i => (.inr (nm ks i) : Key)) (fun i => .str (nm ns i)) [] (List.range ks.length)
theorem atS_val (nd : ks.Nodup) {i : Nat} (hi : i < ks.length) : gDGet (.dic (atS ks ns)) (.str (nm ks i)) = some (.str (nm ns i)) := by
  show (some (valD (atS ks ns) (Sum.inr (nm ks i) : Key))).bind id = _
  have : valD (atS ks ns) (Sum.inr (nm ks i) : Key) = some (.str (nm ns i)) := by
    refine foldP_val _ _ (fun j hj e => ?_) (.inr ⟨i, List.mem_range.mpr hi, rfl⟩)
    have e : nm ks j = nm ks i := by injection e
    rw [nm_inj nd (List.mem_range.mp hj) hi e]
  rw [this]
  rfl
end KK
end

section
set_option Elab.async false
set_option linter.all false
set_option maxRecDepth 100000
/-! M50: == of two tables, whatever they are (for k05). -/
namespace KK
open PySem PySem.Spec PyProof.Rows L2 KW DL
open KwRing (Tab)
variable {C : Addr} {ks ks' : List Str} {t t' : Tab}
theorem eqv_nats2 : ∀ {l m : List Nat}, PyData.eqvAll (l.map fun i : Nat => PyData.int (i : Int)) (m.map fun i : Nat => PyData.int (i : Int)) = decide (l = m)
  | [], [] => rfl
  | [], _ :: _ => rfl
  | _ :: _, [] => rfl
  | x :: xs, y :: ys => by
    rw [List.map_cons, List.map_cons]
    unfold PyData.eqvAll
    rw [eqv_nats2]
    unfold PyData.eqv
    rw [Bool.eq_iff_iff]
    simp
    intro _
    omega
theorem eqv_tups2 : ∀ {g h : List (List Nat)}, PyData.eqvAll (tupsP g) (tupsP h) = decide (g = h)
  | [], [] => rfl
  | [], _ :: _ => rfl
  | _ :: _, [] => rfl
  | x :: xs, y :: ys => by
    have ih := eqv_tups2 (g := xs) (h := ys)
    unfold tupsP at ih ⊢
    rw [List.map_cons, List.map_cons]
    unfold PyData.eqvAll
    rw [ih]
    unfold PyData.eqv
    rw [eqv_nats2, Bool.eq_iff_iff]
    simp
theorem eq_tup2 {ds es : List D} {ps qs : List PyData} (h : toPys ds = some ps) (h' : toPys es = some qs) (h1 : PyData.canLayAll0 ps = true) (h1' : PyData.canLayAll0 qs = true) (h2 : PyData.depthAll ps ≤ 1) (h2' : PyData.depthAll qs ≤ 1) : gEq (.tup ds) (.tup es) = some (.bl (PyData.eqvAll ps qs)) := by
  have sh : ∀ {ps : List PyData}, PyData.canLayAll0 ps = true → PyData.depthAll ps ≤ 1 → SeqAt.shaped (.tuple ps) = true := fun h1 h2 => by
    unfold SeqAt.shaped PyData.canLay0 PyData.depth
    rw [h1]
    simp
    omega
  have tp : ∀ {ds : List D} {ps : List PyData}, toPys ds = some ps → toPy (.tup ds) = some (.tuple ps) := fun h => by
    unfold toPy
    rw [h]
    rfl
  unfold gEq eqD
  rw [if_neg (by show ¬ (false = true); decide), tp h, tp h', Option.bind_some, Option.bind_some, sh h1 h2, sh h1' h2', if_pos (show (true && true) = true from rfl)]
  unfold PyData.eqv
  rfl
theorem gEq_str2 {x y : Str} : gEq (.str x) (.str y) = some (.bl (decide (x = y))) := by
  show some (D.bl (eqSD (.str x) (.str y))) = some (D.bl (decide (x = y)))
  congr 2
theorem fAndV_b {fa fb : FE} {ρ : En} {a b : Bool} (h : fa ρ = some (.bl a)) (h2 : fb ρ = some (.bl b)) : fAndV fa fb ρ = some (.bl (a && b)) := by
  cases a
  · exact fAndV_f h
  · rw [Bool.true_and]
    exact fAndV_t h h2
theorem fIsV_eq {fa : FE} {ρ : En} {fs : List (Str × D)} (h : fa ρ = some (.ins C fs)) : fIsV C fa ρ = some (.bl true) := by
  unfold fIsV
  rw [h, Option.bind_some]
  show (if C = C then some (D.bl true) else none) = _
  rw [if_pos rfl]
/-- like tables, as the program holds them -/
def likeB (ks ks' : List Str) (t t' : Tab) : Bool := decide (ks = ks') && (decide (nm ks t.same = nm ks' t'.same) && (decide (t.backs = t'.backs) && decide (t.grid = t'.grid)))
theorem w_teq2 (T : TT ks t) (T' : TT ks' t') : fn_teq C [tabD C ks t, tabD C ks' t'] = some (.bl (likeB ks ks' t t')) := by
  refine runF_rt (sRet_eq (fAndV_t (fIsV_eq (fs := tabF ks' t') rfl) (fAndV_b (fOp_eq (x := .tup (strL ks)) (y := .tup (strL ks')) (fFld_eq (fs := tabF ks t) rfl rfl) (fFld_eq (fs := tabF ks' t') rfl rfl) ((eq_tup2 (toPys_strs ks) (toPys_strs ks') (lay_strs T.nms.nm) (lay_strs T'.nms.nm) (by rw [depth_strs]; omega) (by rw [depth_strs]; omega)).trans (by rw [eqv_strs]))) (fAndV_b (fOp_eq (x := .str (nm ks t.same)) (y := .str (nm ks' t'.same)) (fFld_eq (fs := tabF ks t) rfl rfl) (fFld_eq (fs := tabF ks' t') rfl rfl) gEq_str2) (fAndV_b (fOp_eq (x := turnsD t) (y := turnsD t') (fFld_eq (fs := tabF ks t) rfl rfl) (fFld_eq (fs := tabF ks' t') rfl rfl) ((eq_tup2 (toPys_nats t.backs) (toPys_nats t'.backs) (lay_nats _) (lay_nats _) (by rw [dep_nats]; omega) (by rw [dep_nats]; omega)).trans (by rw [eqv_nats2]))) (fOp_eq (x := gridD t) (y := gridD t') (fFld_eq (fs := tabF ks t) rfl rfl) (fFld_eq (fs := tabF ks' t') rfl rfl) ((eq_tup2 (toPys_tups t.grid) (toPys_tups t'.grid) (lay_tups _) (lay_tups _) (dep_tups _) (dep_tups _)).trans (by rw [eqv_tups2])))))))) 
theorem w_cmO2 (T : TT ks t) (T' : TT ks' t') {b : Bool} : gCmO C (fn_teq C) b (tabD C ks t) (tabD C ks' t') = some (.bl (if b then !likeB ks ks' t t' else likeB ks ks' t t')) := by
  show (if C = C ∧ C = C then (fn_teq C [tabD C ks t, tabD C ks' t']).bind fun d => (asB d).map fun z => D.bl (if b then !z else z) else none) = _
  rw [if_pos ⟨rfl, rfl⟩, w_teq2 T T']
  rfl
end KK
end

section
set_option Elab.async false
set_option linter.all false
set_option maxRecDepth 100000
/-! M51: == of the dicts of two told tables of the same names (for k05). -/
namespace KK
open PySem PySem.Spec PyProof.Rows L2 KW DL
open KwRing (Tab)
variable {ks : List Str} {t t' : Tab}
theorem hits_all {κ α : Type} [DecidableEq κ] {key : α → κ} {va vb : α → D} {e : α → Bool} {b : List (κ × D)} : ∀ {L : List α}, (∀ x ∈ L, valD b (key x) = some (vb x)) → (∀ x ∈ L, eqP2 (va x) (vb x) = some (e x)) → likeD b (L.map fun x => (key x, va x)) = some (L.all e)
  | [], _, _ => rfl
  | x :: L, hb, he => by
    rw [List.map_cons]
    unfold likeD
    rw [hb x List.mem_cons_self]
    show (eqP2 (va x) (vb x)).bind _ = _
    rw [he x List.mem_cons_self, Option.bind_some, hits_all (fun y hy => hb y (List.mem_cons_of_mem _ hy)) (fun y hy => he y (List.mem_cons_of_mem _ hy))]
    rfl
/-- a dict by its keys and what it has at them -/
theorem dict_ext {κ α : Type} [DecidableEq κ] {key : α → κ} {va : α → D} : ∀ {L : List α} {a : List (κ × D)}, a.map (·.1) = L.map key → (L.map key).Nodup → (∀ x ∈ L, valD a (key x) = some (va x)) → a = L.map fun x => (key x, va x)
  | [], [], _, _, _ => rfl
  | [], _ :: _, h, _, _ => by cases h
  | _ :: _, [], h, _, _ => by cases h
  | x :: L, (k, d) :: a, h, nd, hv => by
    rw [List.map_cons, List.map_cons] at h
    injection h with h1 h2
    have h1 : k = key x := h1
    subst h1
    rw [List.map_cons] at nd
    obtain ⟨n1, n2⟩ := List.nodup_cons.mp nd
    rw [List.map_cons]
    have e0 := hv x List.mem_cons_self
    unfold valD at e0
    rw [List.find?_cons] at e0
    simp only [decide_true] at e0
    have e0 : d = va x := by
      injection e0
    rw [← e0]
    congr 1
    refine dict_ext h2 n2 fun y hy => ?_
    have e1 := hv y (List.mem_cons_of_mem _ hy)
    have ne : ¬ key x = key y := fun z => n1 (z ▸ List.mem_map.mpr ⟨y, hy, rfl⟩)
    unfold valD at e1 ⊢
    rw [List.find?_cons] at e1
    simp only [decide_eq_false ne] at e1
    exact e1
theorem eqP2_str {x y : Str} (hx : NameS x) (hy : NameS y) : eqP2 (.str x) (.str y) = some (decide (x = y)) := by
  have sh : ∀ {z : Str}, NameS z → SeqAt.shaped (.str z) = true := fun {z} hz => by
    have := lay_strs (zs := [z]) (fun w hw => by
      rcases List.mem_cons.mp hw with rfl | hw
      · exact hz
      · cases hw)
    rw [List.map_cons] at this
    unfold PyData.canLayAll0 at this
    have := (Bool.and_eq_true_iff.mp this).1
    unfold SeqAt.shaped
    rw [this]
    rfl
  unfold eqP2
  show (if (SeqAt.shaped (.str x) && SeqAt.shaped (.str y) && decide (PyData.depth (.str x) ≤ 60)) = true then some (PyData.eqv (.str x) (.str y)) else none) = _
  rw [sh hx, sh hy, if_pos (by rfl)]
  unfold PyData.eqv
  congr 1
theorem eqP2_kl (h : Nms ks) {l m : List Nat} (hl : ∀ i ∈ l, i < ks.length) (hm : ∀ i ∈ m, i < ks.length) : eqP2 (kl ks l) (kl ks m) = some (decide (l = m)) := by
  have nmz : ∀ {l : List Nat}, (∀ i ∈ l, i < ks.length) → ∀ z ∈ l.map (nm ks), NameS z := fun hl z hz => by
    obtain ⟨i, hi, rfl⟩ := List.mem_map.mp hz
    exact nm_name h (hl i hi)
  have sh : ∀ {zs : List Str}, (∀ z ∈ zs, NameS z) → SeqAt.shaped (.list (zs.map PyData.str)) = true := fun {zs} hz => by
    unfold SeqAt.shaped PyData.canLay0 PyData.depth
    rw [lay_strs hz, depth_strs]
    rfl
  have tp : ∀ zs : List Str, toPy (.lst (zs.map D.str)) = some (.list (zs.map PyData.str)) := fun zs => by
    unfold toPy
    rw [toPys_strs]
    rfl
  rw [kl_strs, kl_strs]
  unfold eqP2
  rw [tp, tp, Option.bind_some, Option.bind_some, sh (nmz hl), sh (nmz hm), if_pos (by
    unfold PyData.depth
    rw [depth_strs]
    rfl)]
  unfold PyData.eqv
  rw [eqv_strs]
  congr 1
  refine decide_eq_decide.mpr ⟨fun e => ?_, fun e => by rw [e]⟩
  have inj : ∀ (l m : List Nat), (∀ i ∈ l, i < ks.length) → (∀ i ∈ m, i < ks.length) → l.map (nm ks) = m.map (nm ks) → l = m := by
    intro l
    induction l with
    | nil =>
      intro m _ _ e
      cases m with
      | nil => rfl
      | cons _ _ => cases e
    | cons x l ih =>
      intro m hl hm e
      cases m with
      | nil => cases e
      | cons y m =>
        rw [List.map_cons, List.map_cons] at e
        injection e with e1 e2
        rw [nm_inj h.nd (hl x List.mem_cons_self) (hm y List.mem_cons_self) e1, ih m (fun i hi => hl i (List.mem_cons_of_mem _ hi)) (fun i hi => hm i (List.mem_cons_of_mem _ hi)) e2]
  exact inj l m hl hm e
theorem de_back (T : TT ks t) (T' : TT ks t') {bk bk' : List (Key × D)} (k1 : bk.map (·.1) = (List.range ks.length).map (fun i => (.inr (nm ks i) : Key))) (k2 : bk'.map (·.1) = (List.range ks.length).map (fun i => (.inr (nm ks i) : Key)))
    (h1 : ∀ i, i < ks.length → valD bk (Sum.inr (nm ks i) : Key) = some (.str (nm ks (t.b i)))) (h2 : ∀ i, i < ks.length → valD bk' (Sum.inr (nm ks i) : Key) = some (.str (nm ks (t'.b i)))) : gDE (.dic bk) (.dic bk') = some (.bl (decide (t.backs = t'.backs))) := by
  have hm := T.hm
  have hm' := T'.hm
  have nd : ((List.range ks.length).map (fun i => (.inr (nm ks i) : Key))).Nodup := by
    refine List.pairwise_map.mpr ?_
    refine List.Pairwise.imp_of_mem (R := (· ≠ ·)) (fun {a b} ha hb ne e => ne ?_) List.nodup_range
    have e : nm ks a = nm ks b := by injection e
    exact nm_inj T.nms.nd (List.mem_range.mp ha) (List.mem_range.mp hb) e
  have e1 := dict_ext k1 nd fun i hi => h1 i (List.mem_range.mp hi)
  have len : bk.length = bk'.length := by
    have a := congrArg List.length k1
    have b := congrArg List.length k2
    rw [List.length_map] at a b
    rw [a, b]
  show (if bk.length = bk'.length then (likeD bk' bk).map D.bl else some (.bl false)) = _
  rw [if_pos len, e1, hits_all (key := fun i => (.inr (nm ks i) : Key)) (vb := fun i => .str (nm ks (t'.b i))) (e := fun i => decide (t.b i = t'.b i)) (fun i hi => h2 i (List.mem_range.mp hi)) (fun i hi => ?_)]
  · show some (D.bl _) = some (D.bl _)
    congr 2
    rw [Bool.eq_iff_iff, List.all_eq_true, decide_eq_true_iff, backs_eq T.law.wf, backs_eq T'.law.wf, hm, hm']
    constructor
    · intro z
      exact List.map_congr_left fun i hi => of_decide_eq_true (z i hi)
    · intro z i hi
      refine decide_eq_true ?_
      have := congrArg (fun l : List Nat => l[i]?) z
      simp only [List.getElem?_map, List.getElem?_range (List.mem_range.mp hi)] at this
      injection this
  · have hi := List.mem_range.mp hi
    have b1 := T.law.wf.bk i (by omega)
    have b2 := T'.law.wf.bk i (by omega)
    rw [eqP2_str (nm_name T.nms (by omega)) (nm_name T.nms (by omega))]
    congr 1
    exact decide_eq_decide.mpr ⟨fun e => nm_inj T.nms.nd (by omega) (by omega) e, fun e => by rw [e]⟩
end KK
end

section
set_option Elab.async false
set_option linter.all false
set_option maxRecDepth 100000
/-! M52: == of the steps' dicts of two told tables of the same names (for k05). -/
namespace KK
open PySem PySem.Spec PyProof.Rows L2 KW DL
open KwRing (Tab)
variable {ks : List Str} {t t' : Tab}
theorem de_step (T : TT ks t) (T' : TT ks t') {st st' : List (List Key × D)} (k1 : st.map (·.1) = (pairsN ks.length).map (ky2 ks)) (k2 : st'.map (·.1) = (pairsN ks.length).map (ky2 ks))
    (h1 : ∀ i j, i < ks.length → j < ks.length → valD st [Sum.inr (nm ks i), Sum.inr (nm ks j)] = some (kl ks (inO ks.length (t.g i j)))) (h2 : ∀ i j, i < ks.length → j < ks.length → valD st' [Sum.inr (nm ks i), Sum.inr (nm ks j)] = some (kl ks (inO ks.length (t'.g i j)))) : gDE (.dit st) (.dit st') = some (.bl (decide (t.grid = t'.grid))) := by
  have e1 := dict_ext (va := fun p : Nat × Nat => kl ks (inO ks.length (t.g p.1 p.2))) k1 (ky_nd T.nms) fun p hp => h1 p.1 p.2 (pairs_mem.mp hp).1 (pairs_mem.mp hp).2
  have len : st.length = st'.length := by
    have a := congrArg List.length k1
    have b := congrArg List.length k2
    rw [List.length_map] at a b
    rw [a, b]
  show (if st.length = st'.length then (likeD st' st).map D.bl else some (.bl false)) = _
  rw [if_pos len, e1, hits_all (key := ky2 ks) (vb := fun p : Nat × Nat => kl ks (inO ks.length (t'.g p.1 p.2))) (e := fun p => decide (inO ks.length (t.g p.1 p.2) = inO ks.length (t'.g p.1 p.2))) (fun p hp => h2 p.1 p.2 (pairs_mem.mp hp).1 (pairs_mem.mp hp).2) (fun p hp => eqP2_kl T.nms (fun i hi => inO_lt i hi) (fun i hi => inO_lt i hi))]
  show some (D.bl _) = some (D.bl _)
  congr 2
  rw [Bool.eq_iff_iff, List.all_eq_true, decide_eq_true_iff]
  constructor
  · intro z
    rw [all_grid T, all_grid T']
    congr 1
    refine List.map_congr_left fun i hi => List.map_congr_left fun j hj => ?_
    exact of_decide_eq_true (z (i, j) (pairs_mem.mpr ⟨List.mem_range.mp hi, List.mem_range.mp hj⟩))
  · intro z p _
    refine decide_eq_true ?_
    unfold KwRing.Tab.g
    rw [z]
end KK
end

section
set_option Elab.async false
set_option linter.all false
set_option maxRecDepth 100000
/-! M60: a lawful table with its places in another order is lawful. -/
namespace KK
open PySem PySem.Spec PyProof.Rows L2 KW DL
open KwRing (Tab)
/-- p and q undo one another below m -/
structure Bij (m : Nat) (p q : Nat → Nat) : Prop where
  pl : ∀ i, i < m → p i < m
  ql : ∀ i, i < m → q i < m
  pq : ∀ i, i < m → p (q i) = i
  qp : ∀ i, i < m → q (p i) = i
def permT (t : Tab) (p q : Nat → Nat) : Tab := ⟨t.m, q t.same, (List.range t.m).map fun i => q (t.b (p i)), (List.range t.m).map fun i => (List.range t.m).map fun j => bitsN ((inO t.m (t.g (p i) (p j))).map q)⟩
section
variable {t : Tab} {p q : Nat → Nat}
theorem perm_b {i : Nat} (hi : i < t.m) : (permT t p q).b i = q (t.b (p i)) := by
  unfold KwRing.Tab.b permT
  simp only
  rw [List.getD_eq_getElem?_getD, List.getElem?_map, List.getElem?_range hi]
  rfl
theorem perm_g {i j : Nat} (hi : i < t.m) (hj : j < t.m) : (permT t p q).g i j = bitsN ((inO t.m (t.g (p i) (p j))).map q) := by
  unfold KwRing.Tab.g permT
  simp only
  rw [List.getD_eq_getElem?_getD, List.getD_eq_getElem?_getD, List.getElem?_map, List.getElem?_range hi]
  show ((((List.range _).map _)[j]?).getD 0) = _
  rw [List.getElem?_map, List.getElem?_range hj]
  rfl
theorem perm_test (B : Bij t.m p q) {i j k : Nat} (hi : i < t.m) (hj : j < t.m) : ((permT t p q).g i j).testBit k = true ↔ k < t.m ∧ (t.g (p i) (p j)).testBit (p k) = true := by
  rw [perm_g hi hj, bitsN_mem, List.mem_map]
  constructor
  · rintro ⟨x, hx, rfl⟩
    obtain ⟨h1, h2⟩ := inO_mem.mp hx
    exact ⟨B.ql x h1, by rw [B.pq x h1]; exact h2⟩
  · rintro ⟨h1, h2⟩
    exact ⟨p k, inO_mem.mpr ⟨B.pl k h1, h2⟩, B.qp k h1⟩
theorem perm_has (B : Bij t.m p q) {i j k : Nat} (hi : i < t.m) (hj : j < t.m) (hk : k < t.m) : (permT t p q).has i j k = t.has (p i) (p j) (p k) := by
  unfold KwRing.Tab.has
  rw [Bool.eq_iff_iff, perm_test B hi hj]
  exact ⟨fun h => h.2, fun h => ⟨hk, h⟩⟩
theorem one_test {a c : Nat} : (1 <<< a).testBit c = true ↔ a = c := by
  rw [Nat.one_shiftLeft, Nat.testBit_two_pow]
  exact decide_eq_true_iff
theorem perm_law (h : Law t) (B : Bij t.m p q) : Law (permT t p q) := by
  have wf := h.wf
  have hm : (permT t p q).m = t.m := rfl
  have pinj : ∀ {a c : Nat}, a < t.m → c < t.m → p a = p c → a = c := fun {a c} ha hc e => by rw [← B.qp a ha, e, B.qp c hc]
  have wf' : WF (permT t p q) := by
    refine ⟨wf.m13, wf.m1, B.ql _ wf.same, by show ((List.range t.m).map _).length = t.m; rw [List.length_map, List.length_range], fun a ha => ?_, by show ((List.range t.m).map _).length = t.m; rw [List.length_map, List.length_range], fun r hr => ?_, fun a b ha hb => ?_⟩
    · have ha : a < t.m := ha
      rw [perm_b ha]
      exact B.ql _ (wf.bk _ (B.pl a ha))
    · obtain ⟨i, _, rfl⟩ := List.mem_map.mp hr
      rw [List.length_map, List.length_range]
      rfl
    · have ha : a < t.m := ha
      have hb : b < t.m := hb
      rw [perm_g ha hb]
      refine bitsN_lt fun k hk => ?_
      obtain ⟨x, hx, rfl⟩ := List.mem_map.mp hk
      exact B.ql x (inO_mem.mp hx).1
  refine ⟨wf', fun a ha => ?_, ?_, fun a ha => ?_, fun a b c ha hb hc => ?_, fun a b c ha hb hc => ?_⟩
  · have ha : a < t.m := ha
    have hp := B.pl a ha
    have hb := wf.bk _ hp
    rw [perm_b ha, perm_b (B.ql _ hb), B.pq _ hb, h.back _ hp, B.qp a ha]
  · show (permT t p q).b (q t.same) = q t.same
    rw [perm_b (B.ql _ wf.same), B.pq _ wf.same, h.own]
  · have ha : a < t.m := ha
    have hs := wf.same
    have hq := B.ql _ hs
    have hp := B.pl a ha
    constructor
    · refine nat_ext fun c => ?_
      show ((permT t p q).g (q t.same) a).testBit c = true ↔ _
      rw [perm_test B hq ha, one_test, B.pq _ hs, (h.same _ hp).1, one_test]
      exact ⟨fun z => pinj ha z.1 z.2, fun z => by subst z; exact ⟨ha, rfl⟩⟩
    · refine nat_ext fun c => ?_
      show ((permT t p q).g a (q t.same)).testBit c = true ↔ _
      rw [perm_test B ha hq, one_test, B.pq _ hs, (h.same _ hp).2, one_test]
      exact ⟨fun z => pinj ha z.1 z.2, fun z => by subst z; exact ⟨ha, rfl⟩⟩
  · have ha : a < t.m := ha
    have hb : b < t.m := hb
    have hc : c < t.m := hc
    have ba := wf.bk _ (B.pl a ha)
    have bb := wf.bk _ (B.pl b hb)
    have z := h.turn _ _ _ (B.pl a ha) (B.pl b hb) (B.pl c hc)
    rw [perm_has B ha hb hc, perm_b ha, perm_b hb, perm_has B hc (B.ql _ bb) ha, perm_has B (B.ql _ ba) hc hb, B.pq _ ba, B.pq _ bb]
    exact z
  · have ha : a < t.m := ha
    have hb : b < t.m := hb
    have hc : c < t.m := hc
    have r := h.row _ _ _ (B.pl a ha) (B.pl b hb) (B.pl c hc)
    refine nat_ext fun d => ?_
    rw [leftN_test, rightN_test]
    constructor
    · rintro ⟨k, h1, h2⟩
      obtain ⟨hk, h1⟩ := (perm_test B ha hb).mp h1
      obtain ⟨hd, h2⟩ := (perm_test B hk hc).mp h2
      have : (leftN t (t.g (p a) (p b)) (p c)).testBit (p d) = true := leftN_test.mpr ⟨_, h1, h2⟩
      rw [r] at this
      obtain ⟨x, x1, x2⟩ := rightN_test.mp this
      have hx := test_lt (wf.gr _ _ (B.pl b hb) (B.pl c hc)) x1
      exact ⟨q x, (perm_test B hb hc).mpr ⟨B.ql x hx, by rw [B.pq x hx]; exact x1⟩, (perm_test B ha (B.ql x hx)).mpr ⟨hd, by rw [B.pq x hx]; exact x2⟩⟩
    · rintro ⟨k, h1, h2⟩
      obtain ⟨hk, h1⟩ := (perm_test B hb hc).mp h1
      obtain ⟨hd, h2⟩ := (perm_test B ha hk).mp h2
      have : (rightN t (p a) (t.g (p b) (p c))).testBit (p d) = true := rightN_test.mpr ⟨_, h1, h2⟩
      rw [← r] at this
      obtain ⟨x, x1, x2⟩ := leftN_test.mp this
      have hx := test_lt (wf.gr _ _ (B.pl a ha) (B.pl b hb)) x1
      exact ⟨q x, (perm_test B ha hb).mpr ⟨B.ql x hx, by rw [B.pq x hx]; exact x1⟩, (perm_test B (B.ql x hx) hc).mpr ⟨hd, by rw [B.pq x hx]; exact x2⟩⟩
end
/-- turned by one -/
theorem bij_rot {m : Nat} (h : 1 ≤ m) : Bij m (fun i => (i + 1) % m) (fun i => (i + (m - 1)) % m) := by
  have aux : ∀ i, i < m → (i + 1) % m = if i + 1 = m then 0 else i + 1 := fun i hi => by
    split
    · rename_i e
      rw [e, Nat.mod_self]
    · exact Nat.mod_eq_of_lt (by omega)
  have aux2 : ∀ i, i < m → (i + (m - 1)) % m = if i = 0 then m - 1 else i - 1 := fun i hi => by
    split
    · rename_i e
      subst e
      rw [Nat.zero_add]
      exact Nat.mod_eq_of_lt (by omega)
    · have : i + (m - 1) = (i - 1) + m := by omega
      rw [this, Nat.add_mod_right]
      exact Nat.mod_eq_of_lt (by omega)
  refine ⟨fun i hi => Nat.mod_lt _ (by omega), fun i hi => Nat.mod_lt _ (by omega), fun i hi => ?_, fun i hi => ?_⟩
  · show ((i + (m - 1)) % m + 1) % m = i
    rw [aux2 i hi]
    split
    · rename_i e
      rw [e, Nat.sub_add_cancel h, Nat.mod_self]
    · rw [Nat.mod_eq_of_lt (by omega)]
      omega
  · show ((i + 1) % m + (m - 1)) % m = i
    rw [aux i hi]
    split
    · rename_i e
      rw [Nat.zero_add, Nat.mod_eq_of_lt (by omega)]
      omega
    · have : i + 1 + (m - 1) = i + m := by omega
      rw [this, Nat.add_mod_right]
      exact Nat.mod_eq_of_lt hi
end KK
end

section
set_option Elab.async false
set_option linter.all false
set_option maxRecDepth 100000
/-! M61: a told table with its kinds in another order. -/
namespace KK
open PySem PySem.Spec PyProof.Rows L2 KW DL
open KwRing (Tab)
variable {C : Addr} {ks ns : List Str} {t : Tab}
def rot (ks : List Str) : List Str := ks.drop 1 ++ ks.take 1
theorem rot_len : (rot ks).length = ks.length := by
  unfold rot
  rw [List.length_append, List.length_drop, List.length_take]
  omega
theorem rot_perm : (rot ks).Perm ks := by
  unfold rot
  have := (List.perm_append_comm (l₁ := ks.drop 1) (l₂ := ks.take 1))
  rwa [List.take_append_drop] at this
theorem nms_rot (h : Nms ks) : Nms (rot ks) := ⟨rot_perm.nodup_iff.mpr h.nd, by rw [rot_len]; exact h.l1, by rw [rot_len]; exact h.l13, fun k hk => h.nm k (rot_perm.mem_iff.mp hk)⟩
theorem nm_rot {i : Nat} (hi : i < ks.length) : nm (rot ks) i = nm ks ((i + 1) % ks.length) := by
  unfold nm rot
  rw [List.getD_eq_getElem?_getD, List.getD_eq_getElem?_getD]
  congr 1
  by_cases h : i + 1 < ks.length
  · rw [List.getElem?_append_left (by rw [List.length_drop]; omega), List.getElem?_drop, Nat.mod_eq_of_lt h, Nat.add_comm]
  · have e : i + 1 = ks.length := by omega
    rw [List.getElem?_append_right (by rw [List.length_drop]; omega), List.length_drop, e, Nat.mod_self, show i - (ks.length - 1) = 0 by omega, List.getElem?_take]
    rfl
theorem cut_drop (ds : List D) : DL.cutD ds (some 1) none = ds.drop 1 := by
  unfold DL.cutD
  rw [show (some (1 : Int)) = some ((1 : Nat) : Int) from rfl, HT.sIx_nat, HT.sIx_none]
  by_cases h : 1 ≤ ds.length
  · rw [Nat.min_eq_left h]
    exact List.take_of_length_le (by rw [List.length_drop]; omega)
  · have : ds = [] := List.eq_nil_of_length_eq_zero (by omega)
    subst this
    rfl
theorem cut_take (ds : List D) : DL.cutD ds none (some 1) = ds.take 1 := by
  unfold DL.cutD
  rw [show (some (1 : Int)) = some ((1 : Nat) : Int) from rfl, HT.sIx_nat, HT.sIx_none, List.drop_zero, Nat.sub_zero]
  by_cases h : 1 ≤ ds.length
  · rw [Nat.min_eq_left h]
  · have : ds = [] := List.eq_nil_of_length_eq_zero (by omega)
    subst this
    rfl
theorem strL_rot : strL (rot ks) = (strL ks).drop 1 ++ (strL ks).take 1 := by
  unfold strL rot
  rw [List.map_append, List.map_drop, List.map_take]
theorem w_lreord {d : D} (h : LD ks t d) : ∃ t' d', fn_lreord [d] = some d' ∧ LK (rot ks) t' d' := by
  have T := h.tt
  have hm := T.hm
  have wf := T.law.wf
  have l1 := T.nms.l1
  have l13 := T.nms.l13
  have same := wf.same
  obtain ⟨bk, st, rfl, hb, hs⟩ := h.ex
  have B := bij_rot (m := t.m) (by omega)
  generalize hp : (fun i => (i + 1) % t.m) = p at B
  generalize hq : (fun i => (i + (t.m - 1)) % t.m) = q at B
  have nmp : ∀ {i : Nat}, i < ks.length → nm (rot ks) i = nm ks (p i) := fun {i} hi => by
    rw [nm_rot hi, ← hp, hm]
  have nmq : ∀ {i : Nat}, i < ks.length → nm ks i = nm (rot ks) (q i) := fun {i} hi => by
    have hi' : i < t.m := by omega
    rw [nmp (by have := B.ql i hi'; omega), B.pq i hi']
  let t' := permT t p q
  have T' : TT (rot ks) t' := ⟨nms_rot T.nms, perm_law T.law B, by show t.m = _; rw [rot_len]; exact hm⟩
  have hm' : t'.m = t.m := rfl
  have pl : ∀ {i : Nat}, i < ks.length → p i < ks.length := fun {i} hi => by have := B.pl i (by omega); omega
  refine ⟨t', ldD (rot ks) t' (bkS (rot ks) t') (stS (rot ks) fun i j => inO (rot ks).length (t'.g i j)), ?_, LK_of T' fun i j _ _ => rfl⟩
  let L : D := ldD ks t bk st
  let N : D := .lst (strL (rot ks))
  have rl : (rot ks).length = ks.length := rot_len
  refine runF_rt (seq_nx (ρ' := [some (.pur L), some (.pur N), none, none, none]) (sAsg_eq ?_ rfl) (seq_nx (ρ' := [some (.pur L), some (.pur N), some (.own (.dit [])), none, none]) rfl ?_))
  · refine fOp_eq (x := .lst ((strL ks).drop 1)) (y := .lst ((strL ks).take 1)) ?_ ?_ ?_
    · show some (D.lst (DL.cutD (strL ks) (some 1) none)) = _
      rw [cut_drop]
    · show some (D.lst (DL.cutD (strL ks) none (some 1))) = _
      rw [cut_take]
    · show gCatL _ _ = some (D.lst (strL (rot ks)))
      rw [strL_rot]
      refine gCatL_eq ?_
      rw [List.length_drop, List.length_take, strL_len]
      omega
  · obtain ⟨ρ', e, x3, x4, rfl⟩ := two_loops (m := (rot ks).length) (by omega) (g := fun i => D.str (nm (rot ks) i)) (fs1 := iL (fVar 1)) (fs2 := iL (fVar 1)) (m1 := mName 3) (m2 := mName 4) (mb := sPut 2 (fTup (fCons (fVar 3) (fCons (fVar 4) fNil))) (fCallN 2 (fn_inord) (fCons (fVar 1) (fCons (fOp gDGet (fOp gDGet (fVar 0) (fC (.str "step"))) (fTup (fCons (fVar 3) (fCons (fVar 4) fNil)))) fNil)))) (key := ky2 (rot ks)) (val := fun z => kl (rot ks) (inO (rot ks).length (t'.g z.1 z.2)))
      (fun st ρ => ∃ x3 x4, ρ = [some (.pur L), some (.pur N), some (.own (.dit st)), x3, x4])
      (fun i st ρ => ∃ x4, ρ = [some (.pur L), some (.pur N), some (.own (.dit st)), some (.pur (.str (nm (rot ks) i))), x4])
      (fun st ρ hE => by
        obtain ⟨x3, x4, rfl⟩ := hE
        exact it_kinds rfl)
      (fun i st ρ hi hE => by
        obtain ⟨x3, x4, rfl⟩ := hE
        exact ⟨_, rfl, _, rfl⟩)
      (fun i st ρ hF => by
        obtain ⟨x4, rfl⟩ := hF
        exact it_kinds rfl)
      (fun i st ρ hF => by
        obtain ⟨x4, rfl⟩ := hF
        exact ⟨_, _, rfl⟩)
      (fun i j st' ρ hi hj hst hF => by
        obtain ⟨x4, rfl⟩ := hF
        rw [rl] at hi hj
        let ρ1 : En := [some (.pur L), some (.pur N), some (.own (.dit st')), some (.pur (.str (nm (rot ks) i))), some (.pur (.str (nm (rot ks) j)))]
        refine ⟨ρ1, [some (.pur L), some (.pur N), some (.own (.dit (putD st' (ky2 (rot ks) (i, j)) (kl (rot ks) (inO (rot ks).length (t'.g i j)))))), some (.pur (.str (nm (rot ks) i))), some (.pur (.str (nm (rot ks) j)))], rfl, ?_, _, rfl⟩
        have hk : fTup (fCons (fVar 3) (fCons (fVar 4) fNil)) ρ1 = some (.tup [.str (nm (rot ks) i), .str (nm (rot ks) j)]) := rfl
        have row : kl ks (inO ks.length (t.g (p i) (p j))) = kl (rot ks) ((inO t.m (t.g (p i) (p j))).map q) := by
          rw [hm]
          unfold kl
          rw [List.map_map]
          congr 1
          refine List.map_congr_left fun k hk => ?_
          show D.str (nm ks k) = D.str (nm (rot ks) (q k))
          rw [nmq (inO_lt k hk)]
        have hv : fCallN 2 (fn_inord) (fCons (fVar 1) (fCons (fOp gDGet (fOp gDGet (fVar 0) (fC (.str "step"))) (fTup (fCons (fVar 3) (fCons (fVar 4) fNil)))) fNil)) ρ1 = some (kl (rot ks) (inO (rot ks).length (t'.g i j))) := by
          refine fCallN_eq (xs := [N, kl (rot ks) ((inO t.m (t.g (p i) (p j))).map q)]) (fCons_eq rfl (fCons_eq (fOp_eq (x := .dit st) (y := .tup [.str (nm (rot ks) i), .str (nm (rot ks) j)]) rfl rfl ?_) rfl)) rfl ?_
          · show (some (valD st [Sum.inr (nm (rot ks) i), Sum.inr (nm (rot ks) j)])).bind id = _
            rw [nmp hi, nmp hj, hs (p i) (p j) (pl hi) (pl hj), ← row]
            rfl
          · rw [perm_g (t := t) (by omega) (by omega)]
            refine w_inord T'.nms fun k hk => ?_
            obtain ⟨x, hx, rfl⟩ := List.mem_map.mp hk
            rw [rl, ← hm]
            exact B.ql x (inO_lt x hx)
        unfold sPut
        rw [hv, Option.bind_some, hk, Option.bind_some]
        show (if st'.length < 100000 then _ else _) = _
        rw [if_pos hst]
        rfl)
      (ρ := [some (.pur L), some (.pur N), some (.own (.dit [])), none, none]) ⟨none, none, rfl⟩
    refine seq_nx e ?_
    refine sRet_eq (fCallN_eq (xs := [N, .str (nm (rot ks) t'.same), .lst ((List.range (rot ks).length).map fun i => .str (nm (rot ks) (t'.b i))), .dit (stS (rot ks) fun i j => inO (rot ks).length (t'.g i j))]) (fCons_eq rfl (fCons_eq ?_ (fCons_eq (fLc_list (f := fun i => .str (nm (rot ks) i)) (l := List.range (rot ks).length) (it_kinds rfl) (by rw [List.length_range]; omega) fun i hi => turn_one rfl ?_) (fCons_eq rfl rfl)))) rfl w_ltable)
    · show some (D.str (nm ks t.same)) = some (D.str (nm (rot ks) (q t.same)))
      rw [nmq (by omega)]
    · have hi := List.mem_range.mp hi
      rw [rl] at hi
      have hpi := pl hi
      have hbi := wf.bk (p i) (by omega)
      refine fOp_eq (x := .dic bk) (y := .str (nm (rot ks) i)) rfl rfl ?_
      show (some (valD bk (Sum.inr (nm (rot ks) i) : Key))).bind id = some (D.str (nm (rot ks) ((permT t p q).b i)))
      rw [nmp hi, hb (p i) hpi, perm_b (t := t) (by omega), ← nmq (by omega)]
      rfl
end KK
end

section
set_option Elab.async false
set_option linter.all false
set_option maxRecDepth 100000
/-! M62: a told table with its last kind called otherwise. -/
namespace KK
open PySem PySem.Spec PyProof.Rows L2 KW DL
open KwRing (Tab)
variable {C : Addr} {ks ns : List Str} {t : Tab}
def lastZ (ks : List Str) : List Str := ks.take (ks.length - 1) ++ [zz]
theorem lastZ_len (h : 1 ≤ ks.length) : (lastZ ks).length = ks.length := by
  unfold lastZ
  rw [List.length_append, List.length_take, List.length_singleton]
  omega
theorem zz_name : NameS zz := by
  refine ⟨by decide +kernel, by decide +kernel, fun c hc => ?_⟩
  have hc : c ∈ zz.cps.toList := hc
  rw [zz_list] at hc
  rw [List.eq_of_mem_replicate hc]
  omega
theorem nms_last (h : Nms ks) (hz : zz ∉ ks) : Nms (lastZ ks) := by
  refine ⟨?_, by rw [lastZ_len h.l1]; exact h.l1, by rw [lastZ_len h.l1]; exact h.l13, fun k hk => ?_⟩
  · unfold lastZ
    refine List.nodup_append.mpr ⟨h.nd.sublist (List.take_sublist _ _), by simp, fun a ha b hb e => ?_⟩
    rw [List.mem_singleton.mp hb] at e
    subst e
    exact hz ((List.take_sublist _ _).subset ha)
  · unfold lastZ at hk
    rcases List.mem_append.mp hk with hk | hk
    · exact h.nm k ((List.take_sublist _ _).subset hk)
    · rw [List.mem_singleton.mp hk]
      exact zz_name
theorem cut_last (ds : List D) (h : 1 ≤ ds.length) : DL.cutD ds none (some (-1)) = ds.take (ds.length - 1) := by
  unfold DL.cutD
  rw [HT.sIx_none, List.drop_zero, Nat.sub_zero]
  congr 1
  unfold HT.sIx
  simp only
  rw [if_pos (by decide)]
  omega
theorem strL_last : strL (lastZ ks) = (strL ks).take (ks.length - 1) ++ [.str zz] := by
  unfold strL lastZ
  rw [List.map_append, List.map_take]
  rfl
theorem one_loop {α : Type} {L : List α} {g : α → D} {fs : FA} {m1 : D → En → Option En} {mb : FS} {key : α → List Key} {val : α → D} (E : List (List Key × D) → En → Prop) {ρ : En} (h1 : fs ρ = some (L.map g)) (hl : L.length < 100000)
    (h2 : ∀ x ∈ L, ∀ st ρ, st.length < 100000 → E st ρ → ∃ ρ1 ρ2, m1 (g x) ρ = some ρ1 ∧ mb ρ1 = some (.nx ρ2) ∧ E (putD st (key x) (val x)) ρ2) (h0 : E [] ρ) : ∃ ρ', sFor fs m1 mb ρ = some (.nx ρ') ∧ E (foldP key val [] L) ρ' := by
  obtain ⟨ρ', e, h⟩ := sFor_nx (mt := m1) (mb := mb) (fun i ρ => E (foldP key val [] (L.take i)) ρ) h1 h0 fun i d ρ hd hE => by
    rw [List.getElem?_map] at hd
    obtain ⟨x, hx, rfl⟩ := Option.map_eq_some_iff.mp hd
    obtain ⟨hi, hx'⟩ := List.getElem?_eq_some_iff.mp hx
    obtain ⟨ρ1, ρ2, e1, e2, e3⟩ := h2 x (hx' ▸ List.getElem_mem hi) _ ρ (by
      refine Nat.lt_of_le_of_lt (foldP_len _ _) ?_
      rw [List.length_take]
      show 0 + _ < _
      omega) hE
    refine ⟨ρ1, ρ2, e1, e2, ?_⟩
    rw [List.take_succ, hx, foldP_append]
    exact e3
  rw [List.length_map, List.take_length] at h
  exact ⟨ρ', e, h⟩
theorem w_lrenam {d : D} (h : LK ks t d) (hz : zz ∉ ks) : ∃ d', fn_lrenam [d] = some d' ∧ LK (lastZ ks) t d' := by
  have T := h.ld.tt
  have hm := T.hm
  have wf := T.law.wf
  have l1 := T.nms.l1
  have l13 := T.nms.l13
  have same := wf.same
  obtain ⟨bk, st, rfl, ⟨ko1, ko2⟩, hb, hs⟩ := h.all
  have hn := nms_last T.nms hz
  have hl : (lastZ ks).length = ks.length := lastZ_len l1
  have sl := strL_last (ks := ks)
  generalize lastZ ks = ns at hn hl sl
  have T' : TT ns t := ⟨hn, T.law, by omega⟩
  refine ⟨ldD ns t (bkS ns t) (stS ns fun i j => inO ns.length (t.g i j)), ?_, LK_of T' fun i j _ _ => rfl⟩
  let A : D := .dic (atS ks ns)
  let L : D := ldD ks t bk st
  let N : D := .lst (strL ns)
  have at_ : ∀ {i : Nat}, i < ks.length → gDGet A (.str (nm ks i)) = some (.str (nm ns i)) := fun hi => atS_val T.nms.nd hi
  refine runF_rt (seq_nx (ρ' := [some (.pur L), some (.pur A), none, none, none, none, none]) (sAsg_eq ?_ rfl) (seq_nx (ρ' := [some (.pur L), some (.pur A), some (.pur N), none, none, none, none]) (sAsg_eq ?_ rfl) (seq_nx (ρ' := [some (.pur L), some (.pur A), some (.pur N), some (.own (.dit [])), none, none, none]) rfl ?_)))
  · have e2 : fOp gCatL (fSl gSlL (fOp gDGet (fVar 0) (fC (.str "kinds"))) fOn (fOs (fUn gNeg (fC (.int 1))))) (fLst (fCons (fC (.str "zzzzzzzz")) fNil)) [some (.pur L), none, none, none, none, none, none] = some (.lst (strL ns)) := by
      refine fOp_eq (x := .lst ((strL ks).take (ks.length - 1))) (y := .lst [.str zz]) ?_ rfl ?_
      · show some (D.lst (DL.cutD (strL ks) none (some (-1)))) = _
        rw [cut_last _ (by rw [strL_len]; exact l1), strL_len]
      · rw [sl]
        refine gCatL_eq ?_
        rw [List.length_take, strL_len]
        show _ + 1 ≤ _
        omega
    have e3 : fCons (fOp gDGet (fVar 0) (fC (.str "kinds"))) (fCons (fOp gCatL (fSl gSlL (fOp gDGet (fVar 0) (fC (.str "kinds"))) fOn (fOs (fUn gNeg (fC (.int 1))))) (fLst (fCons (fC (.str "zzzzzzzz")) fNil))) fNil) [some (.pur L), none, none, none, none, none, none] = some [.lst (strL ks), .lst (strL ns)] := fCons_eq rfl (fCons_eq e2 rfl)
    show fDz _ [some (.pur L), none, none, none, none, none, none] = _
    unfold fDz
    rw [e3, Option.bind_some]
    show (keyed ((strL ks).zip (strL ns))).map (fun q => D.dic (mergeD [] q)) = _
    rw [strL_eq ks, strL_eq ns, hl, List.zip_map', keyed_map (nm ks) (fun i => D.str (nm ns i))]
    show some (D.dic (mergeD [] _)) = _
    rw [merge_fold]
    rfl
  · have : N = .lst ((List.range ks.length).map fun i => .str (nm ns i)) := by
      show D.lst (strL ns) = _
      rw [strL_eq ns, hl]
    rw [this]
    exact fLc_list (f := fun i => .str (nm ks i)) (l := List.range ks.length) (it_kinds rfl) (by rw [List.length_range]; omega) fun i hi => turn_one rfl (fOp_eq (x := A) (y := .str (nm ks i)) rfl rfl (at_ (List.mem_range.mp hi)))
  · have walk : ∀ {ρ : En}, fOp gDGet (fVar 0) (fC (.str "step")) ρ = some (.dit st) → iDT (fOp gDGet (fVar 0) (fC (.str "step"))) ρ = some ((pairsN ks.length).map fun p => .tup [.str (nm ks p.1), .str (nm ks p.2)]) := fun h0 => by
      unfold iDT
      rw [h0, Option.bind_some]
      show some (st.map fun kv => D.tup (kv.1.map kD)) = _
      congr 1
      have : st.map (fun kv => D.tup (kv.1.map kD)) = (st.map (·.1)).map fun k => D.tup (k.map kD) := by rw [List.map_map]; rfl
      rw [this, ko2, List.map_map]
      rfl
    obtain ⟨ρ', e, x4, x5, rfl⟩ := one_loop (L := pairsN ks.length) (g := fun p => .tup [.str (nm ks p.1), .str (nm ks p.2)]) (fs := iDT (fOp gDGet (fVar 0) (fC (.str "step")))) (m1 := mTup 2 (mCons (mName 4) (mCons (mName 5) mNil))) (mb := sPut 3 (fTup (fCons (fOp gDGet (fVar 1) (fVar 4)) (fCons (fOp gDGet (fVar 1) (fVar 5)) fNil))) (fLc (iL (fOp gDGet (fOp gDGet (fVar 0) (fC (.str "step"))) (fTup (fCons (fVar 4) (fCons (fVar 5) fNil))))) (mName 6) (fun _ => some true) (fOp gDGet (fVar 1) (fVar 6)) [6])) (key := ky2 ns) (val := fun p => kl ns (inO ks.length (t.g p.1 p.2)))
      (fun st' ρ => ∃ x4 x5, ρ = [some (.pur L), some (.pur A), some (.pur N), some (.own (.dit st')), x4, x5, none])
      (ρ := [some (.pur L), some (.pur A), some (.pur N), some (.own (.dit [])), none, none, none]) (walk rfl) (by
        rw [show pairsN ks.length = rowsN ks.length ks.length from rfl, rows_len]
        have : ks.length * ks.length ≤ 13 * 13 := Nat.mul_le_mul l13 l13
        omega)
      (fun p hp st' ρ hst hE => by
        obtain ⟨x4, x5, rfl⟩ := hE
        obtain ⟨hi, hj⟩ := pairs_mem.mp hp
        let ρ1 : En := [some (.pur L), some (.pur A), some (.pur N), some (.own (.dit st')), some (.pur (.str (nm ks p.1))), some (.pur (.str (nm ks p.2))), none]
        refine ⟨ρ1, [some (.pur L), some (.pur A), some (.pur N), some (.own (.dit (putD st' (ky2 ns p) (kl ns (inO ks.length (t.g p.1 p.2)))))), some (.pur (.str (nm ks p.1))), some (.pur (.str (nm ks p.2))), none], rfl, ?_, _, _, rfl⟩
        have hk : fTup (fCons (fOp gDGet (fVar 1) (fVar 4)) (fCons (fOp gDGet (fVar 1) (fVar 5)) fNil)) ρ1 = some (.tup [.str (nm ns p.1), .str (nm ns p.2)]) := fTup_eq (fCons_eq (fOp_eq (x := A) (y := .str (nm ks p.1)) rfl rfl (at_ hi)) (fCons_eq (fOp_eq (x := A) (y := .str (nm ks p.2)) rfl rfl (at_ hj)) rfl)) (by show 2 ≤ _; omega)
        have hv : fLc (iL (fOp gDGet (fOp gDGet (fVar 0) (fC (.str "step"))) (fTup (fCons (fVar 4) (fCons (fVar 5) fNil))))) (mName 6) (fun _ => some true) (fOp gDGet (fVar 1) (fVar 6)) [6] ρ1 = some (kl ns (inO ks.length (t.g p.1 p.2))) := by
          refine fLc_list (f := fun k => .str (nm ks k)) (g := fun k => .str (nm ns k)) (l := inO ks.length (t.g p.1 p.2)) (iL_eq (fOp_eq (x := .dit st) (y := .tup [.str (nm ks p.1), .str (nm ks p.2)]) rfl rfl ?_)) (Nat.le_trans inO_len (by omega)) fun k hk => turn_one rfl (fOp_eq (x := A) (y := .str (nm ks k)) rfl rfl (at_ (inO_lt k hk)))
          show (some (valD st [Sum.inr (nm ks p.1), Sum.inr (nm ks p.2)])).bind id = _
          rw [hs p.1 p.2 hi hj]
          rfl
        unfold sPut
        rw [hv, Option.bind_some, hk, Option.bind_some]
        show (if st'.length < 100000 then _ else _) = _
        rw [if_pos hst]
        rfl) ⟨none, none, rfl⟩
    refine seq_nx e ?_
    refine sRet_eq (fCallN_eq (xs := [N, .str (nm ns t.same), .lst ((List.range ks.length).map fun i => .str (nm ns (t.b i))), .dit (stS ns fun i j => inO ns.length (t.g i j))]) (fCons_eq rfl (fCons_eq (fOp_eq (x := A) (y := .str (nm ks t.same)) rfl rfl (at_ (by omega))) (fCons_eq (fLc_list (f := fun i => .str (nm ks i)) (l := List.range ks.length) (it_kinds rfl) (by rw [List.length_range]; omega) fun i hi => turn_one rfl ?_) (fCons_eq ?_ rfl)))) rfl ?_)
    · have hi := List.mem_range.mp hi
      refine fOp_eq (x := A) (y := .str (nm ks (t.b i))) rfl (fOp_eq (x := .dic bk) (y := .str (nm ks i)) rfl rfl ?_) (at_ (by have := wf.bk i (by omega); omega))
      show (some (valD bk (Sum.inr (nm ks i) : Key))).bind id = _
      rw [hb i hi]
      rfl
    · show some (D.dit _) = some (D.dit _)
      unfold stS
      rw [hl]
    · rw [← hl]
      exact w_ltable
end KK
end

section
set_option Elab.async false
set_option linter.all false
set_option maxRecDepth 100000
/-! M63: the law of k05 reckoned. -/
namespace KK
open PySem PySem.Spec PyProof.Rows L2 KW DL
open KwRing (Tab)
variable {C : Addr} {ks ks' ns : List Str} {t t' : Tab}
theorem wS_next {n : WS} {s : FS} {ρ ρ' : En} {P : Ctl → Prop} (h : s ρ = some (.nx ρ')) (h2 : n ρ' P) : wSeq (wS s) n ρ P := ⟨.nx ρ', h, h2⟩
theorem same_bl3 (b : Bool) : fn_lsame3 [.lst [.bl b, .bl b, .bl !b], .lst [.bl b, .bl b, .bl !b]] = some (.bl true) := by
  cases b <;> kernel_rfl
theorem teq_lst {xs : List D} : fn_teq C [tabD C ks t, .lst xs] = some (.bl false) := runF_rt (sRet_eq (fAndV_f rfl))
theorem teq_str {x : Str} : fn_teq C [tabD C ks t, .str x] = some (.bl false) := runF_rt (sRet_eq (fAndV_f rfl))
theorem teq_int {x : Int} : fn_teq C [tabD C ks t, .int x] = some (.bl false) := runF_rt (sRet_eq (fAndV_f rfl))
theorem cmV_lst {xs : List D} {b : Bool} : gCmV C (fn_teq C) b (tabD C ks t) (.lst xs) = some (.bl b) := by
  show (if C = C then (fn_teq C [tabD C ks t, .lst xs]).bind fun d => (asB d).map fun z => D.bl (if b then !z else z) else none) = _
  rw [if_pos rfl, teq_lst]
  cases b <;> rfl
theorem cmV_str {x : Str} {b : Bool} : gCmV C (fn_teq C) b (tabD C ks t) (.str x) = some (.bl b) := by
  show (if C = C then (fn_teq C [tabD C ks t, .str x]).bind fun d => (asB d).map fun z => D.bl (if b then !z else z) else none) = _
  rw [if_pos rfl, teq_str]
  cases b <;> rfl
theorem cmV_int {x : Int} {b : Bool} : gCmV C (fn_teq C) b (tabD C ks t) (.int x) = some (.bl b) := by
  show (if C = C then (fn_teq C [tabD C ks t, .int x]).bind fun d => (asB d).map fun z => D.bl (if b then !z else z) else none) = _
  rw [if_pos rfl, teq_int]
  cases b <;> rfl
/-- like tables as the law holds them -/
theorem w_due {d d' : D} (h : LK ks t d) (h' : LK ks' t' d') {f : Addr} {x3 x5 x6 : Option Sl} {ρ : En} (hρ : ρ = [none, some (.ptr f), some (.pur d), x3, some (.pur d'), x5, x6]) :
    (fAndV (fOp gEq (fOp gDGet (fVar 2) (fC (.str "kinds"))) (fOp gDGet (fVar 4) (fC (.str "kinds")))) (fAndV (fOp gEq (fOp gDGet (fVar 2) (fC (.str "same"))) (fOp gDGet (fVar 4) (fC (.str "same")))) (fAndV (fOp gDE (fOp gDGet (fVar 2) (fC (.str "back"))) (fOp gDGet (fVar 4) (fC (.str "back")))) (fOp gDE (fOp gDGet (fVar 2) (fC (.str "step"))) (fOp gDGet (fVar 4) (fC (.str "step"))))))) ρ = some (.bl (likeB ks ks' t t')) := by
  obtain ⟨bk, st, rfl, ⟨k1, k2⟩, hb, hs⟩ := h.all
  obtain ⟨bk', st', rfl, ⟨k1', k2'⟩, hb', hs'⟩ := h'.all
  have T := h.ld.tt
  have T' := h'.ld.tt
  subst hρ
  have e0 : gEq (.lst (strL ks)) (.lst (strL ks')) = some (.bl (decide (ks = ks'))) := by
    unfold gEq
    show (eqD (.lst (ks.map D.str)) (.lst (ks'.map D.str))).map D.bl = _
    rw [eqD_strs T.nms.nm T'.nms.nm]
    rfl
  unfold likeB
  by_cases c : ks = ks'
  · subst c
    rw [decide_eq_true rfl, Bool.true_and]
    refine fAndV_t ((fOp_eq (x := .lst (strL ks)) (y := .lst (strL ks)) rfl rfl e0).trans (by rw [decide_eq_true rfl])) ?_
    refine fAndV_b (fOp_eq (x := .str (nm ks t.same)) (y := .str (nm ks t'.same)) rfl rfl gEq_str2) ?_
    refine fAndV_b (fOp_eq (x := .dic bk) (y := .dic bk') rfl rfl (de_back T T' k1 k1' hb hb')) ?_
    exact fOp_eq (x := .dit st) (y := .dit st') rfl rfl (de_step T T' k2 k2' hs hs')
  · rw [decide_eq_false c, Bool.false_and]
    refine fAndV_f ((fOp_eq (x := .lst (strL ks)) (y := .lst (strL ks')) rfl rfl e0).trans (by rw [decide_eq_false c]))
theorem like_comm : likeB ks' ks t' t = likeB ks ks' t t' := by
  unfold likeB
  simp only [eq_comm]
theorem w_law {rec : List D → Option D} (h1 : ∀ (P : D → Prop), (∀ ks t d, LK ks t d → zz ∉ ks → P d) → fw_lsomet rec [] P) : ∀ f, m_law C rec f ((List.replicate n_law.length none).set 1 (some (.ptr f))) fun c => c = .rt (.bl true) := by
  intro f
  refine ⟨rfl, rfl, h1 _ fun ks t d h hz => ⟨_, rfl, ?_⟩⟩
  have T := h.ld.tt
  let Y : D := tabD C ks t
  have kinds : ∀ {x3 x4 x5 x6 : Option Sl}, fOp gDGet (fVar 2) (fC (.str "kinds")) [none, some (.ptr f), some (.pur d), x3, x4, x5, x6] = some (.lst (strL ks)) := by
    obtain ⟨bk, st, rfl, -, -⟩ := h.ld.ex
    intros
    rfl
  refine wS_next (ρ' := [none, some (.ptr f), some (.pur d), some (.pur Y), none, none, none]) (sAsg_eq (fCallN_eq (xs := [d]) rfl rfl (w_lmade h.ld)) rfl) ?_
  obtain ⟨t1, d1, e1, L1⟩ := w_lreord h.ld
  obtain ⟨d2, e2, L2⟩ := w_lrenam h hz
  refine ⟨d, rfl, d1, fCallN_eq (xs := [d]) rfl rfl e1, d2, fCallN_eq (xs := [d]) rfl rfl e2, ⟨rfl, rfl, h1 _ fun ks3 t3 d3 L3 _ => ⟨rfl, rfl, w_lringZ fun ks4 t4 d4 L4 _ => ⟨by show 5 ≤ _; omega, _, rfl, ?_⟩⟩⟩⟩
  -- one turn
  have turn : ∀ {ks' : List Str} {t' : Tab} {d' : D} {ds : List D} {x4 x5 x6 : Option Sl} {P : Ctl → Prop} {mb : WS}, LK ks' t' d' → mb = (wSeq (wS (sAsg (fCallN 1 (fn_lmade C) (fCons (fVar 4) fNil)) (mName 5)))
    (wSeq (wS (sAsg (fAndV (fOp gEq (fOp gDGet (fVar 2) (fC (.str "kinds"))) (fOp gDGet (fVar 4) (fC (.str "kinds")))) (fAndV (fOp gEq (fOp gDGet (fVar 2) (fC (.str "same"))) (fOp gDGet (fVar 4) (fC (.str "same")))) (fAndV (fOp gDE (fOp gDGet (fVar 2) (fC (.str "back"))) (fOp gDGet (fVar 4) (fC (.str "back")))) (fOp gDE (fOp gDGet (fVar 2) (fC (.str "step"))) (fOp gDGet (fVar 4) (fC (.str "step"))))))) (mName 6)))
    (wS (sIf (fNotT (fTest (fCallN 2 (fn_lsame3) (fCons (fLst (fCons (fOp (gCmO C (fn_teq C) false) (fVar 3) (fVar 5)) (fCons (fOp (gCmO C (fn_teq C) false) (fVar 5) (fVar 3)) (fCons (fOp (gCmO C (fn_teq C) true) (fVar 3) (fVar 5)) fNil)))) (fCons (fLst (fCons (fVar 6) (fCons (fVar 6) (fCons (fNotV (fVar 6)) fNil)))) fNil))))) (sRet (fC (.bl false))) sNext)))) → (∀ x4 x5 x6 : Option Sl, wForL (mName 4) mb ds [none, some (.ptr f), some (.pur d), some (.pur Y), x4, x5, x6] P) →
      wForL (mName 4) mb (d' :: ds) [none, some (.ptr f), some (.pur d), some (.pur Y), x4, x5, x6] P := fun {ks' t' d' ds x4 x5 x6 P mb} L' hmb k => by
    have T' := L'.ld.tt
    refine ⟨[none, some (.ptr f), some (.pur d), some (.pur Y), some (.pur d'), x5, x6], rfl, ?_⟩
    subst hmb
    let Z : D := tabD C ks' t'
    let b := likeB ks ks' t t'
    refine wS_next (ρ' := [none, some (.ptr f), some (.pur d), some (.pur Y), some (.pur d'), some (.pur Z), x6]) (sAsg_eq (fCallN_eq (xs := [d']) rfl rfl (w_lmade L'.ld)) rfl) ?_
    refine wS_next (ρ' := [none, some (.ptr f), some (.pur d), some (.pur Y), some (.pur d'), some (.pur Z), some (.pur (.bl b))]) (sAsg_eq (w_due h L' rfl) rfl) ?_
    refine ⟨.nx [none, some (.ptr f), some (.pur d), some (.pur Y), some (.pur d'), some (.pur Z), some (.pur (.bl b))], sIf_f (fNotT_eq (b := true) (fTest_eq (fCallN_eq (xs := [.lst [.bl b, .bl b, .bl !b], .lst [.bl b, .bl b, .bl !b]]) (fCons_eq (fLst_eq (fCons_eq (fOp_eq (x := Y) (y := Z) rfl rfl (w_cmO2 T T')) (fCons_eq (fOp_eq (x := Z) (y := Y) rfl rfl ((w_cmO2 T' T).trans (by rw [like_comm]; rfl))) (fCons_eq (fOp_eq (x := Y) (y := Z) rfl rfl (w_cmO2 T T')) rfl))) (by show 3 ≤ _; omega)) (fCons_eq (fLst_eq (fCons_eq rfl (fCons_eq rfl (fCons_eq rfl rfl))) (by show 3 ≤ _; omega)) rfl)) rfl (same_bl3 b)))) rfl, ?_⟩
    exact k _ _ _
  refine turn h rfl fun _ _ _ => turn L1 rfl fun _ _ _ => turn L2 rfl fun _ _ _ => turn L3 rfl fun _ _ _ => turn L4 rfl fun x4 x5 x6 => ?_
  show wS _ _ _
  refine ⟨.rt (.bl true), sRet_eq (fAndV_t (fOp_eq (x := Y) (y := .lst (strL ks)) rfl kinds cmV_lst) (fAndV_t (fOp_eq (x := Y) (y := .str (txt ks t)) rfl (fCall_eq (xs := [Y]) rfl (w_strO T)) cmV_str) ?_)), rfl⟩
  have e : ∀ {ρ : En}, fVar 3 ρ = some Y → fNotV (fOp (gCmV C (fn_teq C) false) (fVar 3) (fC (.int 3))) ρ = some (.bl true) := fun {ρ} h3 => by
    unfold fNotV
    rw [fOp_eq (x := Y) (y := .int 3) h3 rfl cmV_int]
    rfl
  exact e rfl
theorem law_reckoned : ∀ f, m_law C fs1 f ((List.replicate n_law.length none).set 1 (some (.ptr f))) fun c => c = .rt (.bl true) := w_law fun P hP => w_lsometZ hP
end KK
end

noncomputable section
set_option Elab.async false
set_option linter.all false
set_option maxRecDepth 100000
set_option maxHeartbeats 0
/-! the head: facts by names, the run of the top, the law. -/
namespace KK
open PySem PySem.Spec PyProof.Rows L2 KW He
def fE : List He.FnD := ([⟨("is_name", none), "is_name", "is_name", defArgs s_isname, defBody s_isname, defScope s_isname⟩, ⟨("are_kinds", none), "are_kinds", "are_kinds", defArgs s_arek, defBody s_arek, defScope s_arek⟩, ⟨("set_of", none), "set_of", "set_of", defArgs s_setof, defBody s_setof, defScope s_setof⟩, ⟨("places_in", none), "places_in", "places_in", defArgs s_plin, defBody s_plin, defScope s_plin⟩, ⟨("union_at", none), "union_at", "union_at", defArgs s_unat, defBody s_unat, defScope s_unat⟩, ⟨("back_fault", none), "back_fault", "back_fault", defArgs s_fback, defBody s_fback, defScope s_fback⟩, ⟨("own_fault", none), "own_fault", "own_fault", defArgs s_fown, defBody s_fown, defScope s_fown⟩, ⟨("same_fault", none), "same_fault", "same_fault", defArgs s_fsame, defBody s_fsame, defScope s_fsame⟩, ⟨("turn_fault", none), "turn_fault", "turn_fault", defArgs s_fturn, defBody s_fturn, defScope s_fturn⟩, ⟨("row_fault", none), "row_fault", "row_fault", defArgs s_frow, defBody s_frow, defScope s_frow⟩, ⟨("first_fault", none), "first_fault", "first_fault", defArgs s_ffirst, defBody s_ffirst, defScope s_ffirst⟩, ⟨("named_fault", none), "named_fault", "named_fault", defArgs s_nfault, defBody s_nfault, defScope s_nfault⟩, ⟨("places_by_name", none), "places_by_name", "places_by_name", defArgs s_pbn, defBody s_pbn, defScope s_pbn⟩, ⟨("is_kind", none), "is_kind", "is_kind", defArgs s_iskind, defBody s_iskind, defScope s_iskind⟩, ⟨("is_list", none), "is_list", "is_list", defArgs s_islist, defBody s_islist, defScope s_islist⟩, ⟨("are_all_kinds", none), "are_all_kinds", "are_all_kinds", defArgs s_allk, defBody s_allk, defScope s_allk⟩, ⟨("is_square", none), "is_square", "is_square", defArgs s_issq, defBody s_issq, defScope s_issq⟩, ⟨("placed", none), "placed", "placed", defArgs s_placed, defBody s_placed, defScope s_placed⟩, ⟨("table_rows", none), "table_rows", "table_rows", defArgs s_trows, defBody s_trows, defScope s_trows⟩, ⟨("_law_shares", none), "_law_shares", "_law_shares", defArgs s_shares, defBody s_shares, defScope s_shares⟩, ⟨("_law_in_order", none), "_law_in_order", "_law_in_order", defArgs s_inord, defBody s_inord, defScope s_inord⟩, ⟨("_law_table", none), "_law_table", "_law_table", defArgs s_ltable, defBody s_ltable, defScope s_ltable⟩, ⟨("_law_kinds_of", none), "_law_kinds_of", "_law_kinds_of", defArgs s_lkof, defBody s_lkof, defScope s_lkof⟩, ⟨("_law_sign", none), "_law_sign", "_law_sign", defArgs s_lsign, defBody s_lsign, defScope s_lsign⟩, ⟨("_law_kind_of_parts", none), "_law_kind_of_parts", "_law_kind_of_parts", defArgs s_lpar, defBody s_lpar, defScope s_lpar⟩, ⟨("_law_kind_of_stretches", none), "_law_kind_of_stretches", "_law_kind_of_stretches", defArgs s_lstr, defBody s_lstr, defScope s_lstr⟩, ⟨("_law_kind_of", none), "_law_kind_of", "_law_kind_of", defArgs s_lkind, defBody s_lkind, defScope s_lkind⟩, ⟨("_law_things_of", none), "_law_things_of", "_law_things_of", defArgs s_lthings, defBody s_lthings, defScope s_lthings⟩, ⟨("_law_triples", none), "_law_triples", "_law_triples", defArgs s_ltrip, defBody s_ltrip, defScope s_ltrip⟩, ⟨("_law_lines", none), "_law_lines", "_law_lines", defArgs s_llines, defBody s_llines, defScope s_llines⟩] : List He.FnD) ++ ([⟨("_law_handed", none), "_law_handed", "_law_handed", defArgs s_lhand, defBody s_lhand, defScope s_lhand⟩, ⟨("_law_draw", none), "_law_draw", "_law_draw", defArgs s_draw, defBody s_draw, defScope s_draw⟩, ⟨("_law_words", none), "_law_words", "_law_words", defArgs s_lwords, defBody s_lwords, defScope s_lwords⟩, ⟨("_law_ring_of", none), "_law_ring_of", "_law_ring_of", defArgs s_lringof, defBody s_lringof, defScope s_lringof⟩, ⟨("_law_ring", none), "_law_ring", "_law_ring", defArgs s_lring, defBody s_lring, defScope s_lring⟩, ⟨("_law_made", none), "_law_made", "_law_made", defArgs s_lmade, defBody s_lmade, defScope s_lmade⟩, ⟨("_law_same", none), "_law_same", "_law_same", defArgs s_lsame, defBody s_lsame, defScope s_lsame⟩, ⟨("_law_seen", none), "_law_seen", "_law_seen", defArgs s_lseen, defBody s_lseen, defScope s_lseen⟩, ⟨("_law_seen_courses", none), "_law_seen_courses", "_law_seen_courses", defArgs s_lcour, defBody s_lcour, defScope s_lcour⟩, ⟨("_law_some_table", none), "_law_some_table", "_law_some_table", defArgs s_lsomet, defBody s_lsomet, defScope s_lsomet⟩, ⟨("_law_flow", none), "_law_flow", "_law_flow", defArgs s_flow, defBody s_flow, defScope s_flow⟩, ⟨("_law_reordered", none), "_law_reordered", "_law_reordered", defArgs s_lreord, defBody s_lreord, defScope s_lreord⟩, ⟨("_law_renamed", none), "_law_renamed", "_law_renamed", defArgs s_lrenam, defBody s_lrenam, defScope s_lrenam⟩, ⟨("law", none), "law", "law", defArgs s_law, defBody s_law, defScope s_law⟩, ⟨("Table", some "place"), "place", "Table.place", defArgs s_place, defBody s_place, defScope s_place⟩, ⟨("Table", some "listed"), "listed", "Table.listed", defArgs s_listed, defBody s_listed, defScope s_listed⟩, ⟨("Table", some "gathered"), "gathered", "Table.gathered", defArgs s_gath, defBody s_gath, defScope s_gath⟩, ⟨("Table", some "kinds"), "kinds", "Table.kinds", defArgs s_tkinds, defBody s_tkinds, defScope s_tkinds⟩, ⟨("Table", some "backs"), "backs", "Table.backs", defArgs s_tbacks, defBody s_tbacks, defScope s_tbacks⟩, ⟨("Table", some "steps"), "steps", "Table.steps", defArgs s_tsteps, defBody s_tsteps, defScope s_tsteps⟩, ⟨("Table", some "back"), "back", "Table.back", defArgs s_tback, defBody s_tback, defScope s_tback⟩, ⟨("Table", some "step"), "step", "Table.step", defArgs s_tstep, defBody s_tstep, defScope s_tstep⟩, ⟨("Table", some "__eq__"), "__eq__", "Table.__eq__", defArgs s_teq, defBody s_teq, defScope s_teq⟩, ⟨("Table", some "__str__"), "__str__", "Table.__str__", defArgs s_tstr, defBody s_tstr, defScope s_tstr⟩, ⟨("Table", some "__init__"), "__init__", "Table.__init__", defArgs s_tinit, defBody s_tinit, defScope s_tinit⟩] : List He.FnD)
def fA : List He.Fa := ([.glo "is_name", .glo "are_kinds", .glo "set_of", .glo "places_in", .glo "union_at", .glo "back_fault", .glo "own_fault", .glo "same_fault", .glo "turn_fault", .glo "row_fault", .glo "first_fault", .glo "named_fault", .glo "places_by_name", .glo "is_kind", .glo "is_list", .glo "are_all_kinds", .glo "is_square", .glo "placed", .glo "table_rows", .glo "_law_shares", .glo "_law_in_order", .glo "_law_table", .glo "_law_kinds_of", .glo "_law_sign", .glo "_law_kind_of_parts", .glo "_law_kind_of_stretches", .glo "_law_kind_of", .glo "_law_things_of", .glo "_law_triples", .glo "_law_lines"] : List He.Fa) ++ ([.glo "_law_handed", .glo "_law_draw", .glo "_law_words", .glo "_law_ring_of", .glo "_law_ring", .glo "_law_made", .glo "_law_same", .glo "_law_seen", .glo "_law_seen_courses", .glo "_law_some_table", .glo "_law_flow", .glo "_law_reordered", .glo "_law_renamed", .glo "law", .keep "is_name", .keep "are_kinds", .keep "set_of", .keep "places_in", .keep "union_at", .keep "back_fault", .keep "own_fault", .keep "same_fault", .keep "turn_fault", .keep "row_fault", .keep "first_fault", .keep "named_fault", .keep "places_by_name", .keep "is_kind", .keep "is_list", .keep "are_all_kinds"] : List He.Fa) ++ ([.keep "is_square", .keep "placed", .keep "table_rows", .keep "_law_shares", .keep "_law_in_order", .keep "_law_table", .keep "_law_kinds_of", .keep "_law_sign", .keep "_law_kind_of_parts", .keep "_law_kind_of_stretches", .keep "_law_kind_of", .keep "_law_things_of", .keep "_law_triples", .keep "_law_lines", .keep "_law_handed", .keep "_law_draw", .keep "_law_words", .keep "_law_ring_of", .keep "_law_ring", .keep "_law_made", .keep "_law_same", .keep "_law_seen", .keep "_law_seen_courses", .keep "_law_some_table", .keep "_law_flow", .keep "_law_reordered", .keep "_law_renamed", .keep "law", .glo "Table", .cls "Table"] : List He.Fa) ++ ([.mkr "Table", .noat "Table" "names", .noat "Table" "places", .noat "Table" "same", .noat "Table" "turns", .noat "Table" "grid", .meth "Table" "place", .meth "Table" "listed", .meth "Table" "gathered", .meth "Table" "kinds", .meth "Table" "backs", .meth "Table" "steps", .meth "Table" "back", .meth "Table" "step", .meth "Table" "__eq__", .meth "Table" "__str__", .meth "Table" "__init__", .free "len", .free "abs", .free "range", .free "set", .free "list", .free "sorted", .free "int", .free "tuple", .free "dict", .free "zip", .free "all", .free "any", .free "isinstance"] : List He.Fa) ++ ([.free "bool", .free "str", .free "enumerate", .str "LETTERS" "abcdefghijklmnopqrstuvwxyz", .int "LONGEST" 8, .int "MOST_KINDS" 13] : List He.Fa)
def loose : List Str := (["_wall", "WeftError", "BadTable", "Unlawful", "Missing", "NoKind", "LETTERS", "LONGEST", "MOST_KINDS", "is_name", "are_kinds", "set_of", "places_in", "union_at", "first_fault", "back_fault", "own_fault", "same_fault", "turn_fault", "row_fault", "named_fault", "placed", "places_by_name", "is_kind", "is_list", "are_all_kinds", "is_square", "Table", "table_rows", "_law_in_order"] : List Str) ++ (["_law_table", "_law_flow", "_law_draw", "_law_shares", "_law_words", "_law_ring_of", "_law_ring", "_law_kinds_of", "_law_seen_courses", "_law_things_of", "_law_triples", "_law_sign", "_law_kind_of_parts", "_law_kind_of_stretches", "_law_kind_of", "_law_seen", "_law_some_table", "_law_lines", "_law_handed", "_law_made", "_law_same", "_law_reordered", "_law_renamed"] : List Str)
abbrev R : PySem.W.OpenRow := PySem.W.OpenLaw.row PySem.Challenge.rw_kindweft_k05_tables_alike
def exB (K : PySem.W.Frag) : Bool := eqO (PySem.W.findIn K (.ref (ga K "Table")) "__class__") (some (some (.builtin "object.__class__"))) && (eqO (PySem.W.specialIn K (.builtin "object.__class__") "__get__") (some (some (.builtin "getset_descriptor.__get__"))) && (decide (PySem.W.takesIn K (.builtin "object.__class__") = some true) && (decide (PySem.W.mroIn K (ga K "Table") (.type "object") = some true) && (decide (PySem.W.kitOne K (.ref (ga K "Table")) (.ref (ga K "Table")) = some true) && eqO (PySem.W.findIn K (.ref (ga K "Table")) "__ne__") (some (some (.builtin "object.__ne__")))))))  && decide (PySem.W.kitOne K (.type "list") (.ref (ga K "Table")) = some false) && decide (PySem.W.kitOne K (.type "str") (.ref (ga K "Table")) = some false) && decide (PySem.W.kitOne K (.type "int") (.ref (ga K "Table")) = some false) && PySem.W.notFirst K (ga K "Table") (.type "list") && PySem.W.notFirst K (ga K "Table") (.type "str") && PySem.W.notFirst K (ga K "Table") (.type "int")
def SaysX (K : PySem.W.Frag) : Prop := (obsE fA fE K, exB K) = (valE fE, true)
theorem SaysX.c {K : PySem.W.Frag} (h : SaysX K) : SaysE fA fE K := congrArg (fun z : He.Al × Bool => z.1) h
theorem SaysX.x {K : PySem.W.Frag} (h : SaysX K) : exB K = true := congrArg (fun z : He.Al × Bool => z.2) h
def obG (g : Addr → Option Obj) : He.Al × Bool := (obsE fA fE (frG g (List.range 700)), exB (frG g (List.range 700)))
def hk : PySem.W.Hook where
  α := He.Al × Bool
  obs := fun s => obG s.heap.get?
  val := fun _ => (valE fE, true)
  says := fun _ h => ∃ K : PySem.W.Frag, K.In h ∧ SaysX K
  of := fun _ _ e => ⟨_, frG_in, e⟩
  keeps := fun _ _ _ ⟨K, hK, c⟩ k => ⟨K, PySem.W.Frag.In.keeps hK k, c⟩
def ob (s : PySem.W.SharedT) : He.Al × Bool := obG (HandSHeadRun.getT s)
theorem ob_eq (s : PySem.W.SharedT) : ob s = hk.obs s.abs := by
  have e : HandSHeadRun.getT s = s.abs.heap.get? := funext (HandSHeadRun.getT_eq s)
  unfold ob
  rw [e] <;> rfl
theorem run (w : World) : HandSHeadRun.RunEq R (PySem.W.view R.prog [59]) hk ob 8000 loose w := by
  intro os
  kernel_rfl
def adK (K : PySem.W.Frag) : Nat → Addr
  | 9 => ga K "Table"
  | 11 => ga K "is_name"
  | 12 => ga K "are_kinds"
  | 14 => ga K "set_of"
  | 15 => ga K "places_in"
  | 16 => ga K "union_at"
  | 19 => ga K "back_fault"
  | 20 => ga K "own_fault"
  | 21 => ga K "same_fault"
  | 22 => ga K "turn_fault"
  | 23 => ga K "row_fault"
  | 18 => ga K "first_fault"
  | 25 => ga K "named_fault"
  | 27 => ga K "places_by_name"
  | 28 => ga K "is_kind"
  | 29 => ga K "is_list"
  | 30 => ga K "are_all_kinds"
  | 31 => ga K "is_square"
  | 26 => ga K "placed"
  | 33 => ga K "table_rows"
  | 39 => ga K "_law_shares"
  | 35 => ga K "_law_in_order"
  | 36 => ga K "_law_table"
  | 43 => ga K "_law_kinds_of"
  | 47 => ga K "_law_sign"
  | 48 => ga K "_law_kind_of_parts"
  | 49 => ga K "_law_kind_of_stretches"
  | 50 => ga K "_law_kind_of"
  | 45 => ga K "_law_things_of"
  | 46 => ga K "_law_triples"
  | 53 => ga K "_law_lines"
  | 54 => ga K "_law_handed"
  | 38 => ga K "_law_draw"
  | 40 => ga K "_law_words"
  | 41 => ga K "_law_ring_of"
  | 42 => ga K "_law_ring"
  | 55 => ga K "_law_made"
  | 56 => ga K "_law_same"
  | 51 => ga K "_law_seen"
  | 44 => ga K "_law_seen_courses"
  | 52 => ga K "_law_some_table"
  | 37 => ga K "_law_flow"
  | 57 => ga K "_law_reordered"
  | 58 => ga K "_law_renamed"
  | 59 => ga K "law"
  | 4207 => ma K (ga K "Table") "place"
  | 4209 => ma K (ga K "Table") "listed"
  | 4208 => ma K (ga K "Table") "gathered"
  | 4201 => ma K (ga K "Table") "kinds"
  | 4205 => ma K (ga K "Table") "backs"
  | 4204 => ma K (ga K "Table") "steps"
  | 4202 => ma K (ga K "Table") "back"
  | 4203 => ma K (ga K "Table") "step"
  | 4211 => ma K (ga K "Table") "__eq__"
  | 4213 => ma K (ga K "Table") "__str__"
  | 4200 => ma K (ga K "Table") "__init__"
  | _ => 0
def fdOf (K : PySem.W.Frag) (a : Addr) : FuncData := match K.lookup a with
  | some ⟨_, _, .func fd, _⟩ => fd
  | _ => PySem.W.fnOf "" "" (defArgs s_law) [] (defScope s_law) .none .none .none .none none .none .none
theorem fdOf_eq {K : PySem.W.Frag} {a : Addr} {oc : Value} {od : Option Addr} {fd : FuncData} {sl : Array (Option Value)} (h : K.lookup a = some ⟨oc, od, .func fd, sl⟩) : fd = fdOf K a := by
  unfold fdOf
  rw [h] <;> rfl
def fdK (K : PySem.W.Frag) (n : Nat) : FuncData := fdOf K (adK K n)
section
variable {K : PySem.W.Frag} {w : World} {h : Heap} {mg : Str → Option Value}
theorem fun_of {x q : Str} {st : Stmt} {a : Addr} (e : ∃ oc od osl kV doc pm an cdv ct, K.lookup a = some ⟨oc, od, .func (PySem.W.fnOf x q (defArgs st) (defBody st) (defScope st) .none kV doc pm an cdv ct), osl⟩ ∧ PySem.W.codeIn K cdv q = true) (k : PySem.W.keepIn K (.ref a) = true) : Fun K x q st a (fdOf K a) := by
  obtain ⟨oc, od, osl, kV, doc, pm, an, cdv, ct, l, c⟩ := e
  exact ⟨⟨oc, od, kV, doc, pm, an, cdv, ct, osl, (fdOf_eq l).symm, (fdOf_eq l) ▸ l, c⟩, k⟩
theorem fa_mk (c0 : SaysX K) (X : K.In h) (G : h.Ns mainGlobals mg) : Fa K mg (adK K) (fdK K) := by
  have c : SaysE fA fE K := c0.c
  obtain ⟨y1, q6⟩ := ba c0.x
  obtain ⟨y2, q5⟩ := ba y1
  obtain ⟨y3, q4⟩ := ba y2
  obtain ⟨y4, q3⟩ := ba y3
  obtain ⟨y5, q2⟩ := ba y4
  obtain ⟨y6, q1⟩ := ba y5
  obtain ⟨x1, x2⟩ := ba y6
  obtain ⟨x2, x3⟩ := ba x2
  obtain ⟨x3, x4⟩ := ba x3
  obtain ⟨x4, x5⟩ := ba x4
  obtain ⟨x5, x6⟩ := ba x5
  have F11 : Fun K "is_name" "is_name" s_isname (ga K "is_name") (fdOf K (ga K "is_name")) := fun_of (c.def_ 0 (d := ⟨("is_name", none), "is_name", "is_name", defArgs s_isname, defBody s_isname, defScope s_isname⟩) rfl) (keep_ok (c.fact 44 (f := .keep "is_name") rfl))
  have F12 : Fun K "are_kinds" "are_kinds" s_arek (ga K "are_kinds") (fdOf K (ga K "are_kinds")) := fun_of (c.def_ 1 (d := ⟨("are_kinds", none), "are_kinds", "are_kinds", defArgs s_arek, defBody s_arek, defScope s_arek⟩) rfl) (keep_ok (c.fact 45 (f := .keep "are_kinds") rfl))
  have F14 : Fun K "set_of" "set_of" s_setof (ga K "set_of") (fdOf K (ga K "set_of")) := fun_of (c.def_ 2 (d := ⟨("set_of", none), "set_of", "set_of", defArgs s_setof, defBody s_setof, defScope s_setof⟩) rfl) (keep_ok (c.fact 46 (f := .keep "set_of") rfl))
  have F15 : Fun K "places_in" "places_in" s_plin (ga K "places_in") (fdOf K (ga K "places_in")) := fun_of (c.def_ 3 (d := ⟨("places_in", none), "places_in", "places_in", defArgs s_plin, defBody s_plin, defScope s_plin⟩) rfl) (keep_ok (c.fact 47 (f := .keep "places_in") rfl))
  have F16 : Fun K "union_at" "union_at" s_unat (ga K "union_at") (fdOf K (ga K "union_at")) := fun_of (c.def_ 4 (d := ⟨("union_at", none), "union_at", "union_at", defArgs s_unat, defBody s_unat, defScope s_unat⟩) rfl) (keep_ok (c.fact 48 (f := .keep "union_at") rfl))
  have F19 : Fun K "back_fault" "back_fault" s_fback (ga K "back_fault") (fdOf K (ga K "back_fault")) := fun_of (c.def_ 5 (d := ⟨("back_fault", none), "back_fault", "back_fault", defArgs s_fback, defBody s_fback, defScope s_fback⟩) rfl) (keep_ok (c.fact 49 (f := .keep "back_fault") rfl))
  have F20 : Fun K "own_fault" "own_fault" s_fown (ga K "own_fault") (fdOf K (ga K "own_fault")) := fun_of (c.def_ 6 (d := ⟨("own_fault", none), "own_fault", "own_fault", defArgs s_fown, defBody s_fown, defScope s_fown⟩) rfl) (keep_ok (c.fact 50 (f := .keep "own_fault") rfl))
  have F21 : Fun K "same_fault" "same_fault" s_fsame (ga K "same_fault") (fdOf K (ga K "same_fault")) := fun_of (c.def_ 7 (d := ⟨("same_fault", none), "same_fault", "same_fault", defArgs s_fsame, defBody s_fsame, defScope s_fsame⟩) rfl) (keep_ok (c.fact 51 (f := .keep "same_fault") rfl))
  have F22 : Fun K "turn_fault" "turn_fault" s_fturn (ga K "turn_fault") (fdOf K (ga K "turn_fault")) := fun_of (c.def_ 8 (d := ⟨("turn_fault", none), "turn_fault", "turn_fault", defArgs s_fturn, defBody s_fturn, defScope s_fturn⟩) rfl) (keep_ok (c.fact 52 (f := .keep "turn_fault") rfl))
  have F23 : Fun K "row_fault" "row_fault" s_frow (ga K "row_fault") (fdOf K (ga K "row_fault")) := fun_of (c.def_ 9 (d := ⟨("row_fault", none), "row_fault", "row_fault", defArgs s_frow, defBody s_frow, defScope s_frow⟩) rfl) (keep_ok (c.fact 53 (f := .keep "row_fault") rfl))
  have F18 : Fun K "first_fault" "first_fault" s_ffirst (ga K "first_fault") (fdOf K (ga K "first_fault")) := fun_of (c.def_ 10 (d := ⟨("first_fault", none), "first_fault", "first_fault", defArgs s_ffirst, defBody s_ffirst, defScope s_ffirst⟩) rfl) (keep_ok (c.fact 54 (f := .keep "first_fault") rfl))
  have F25 : Fun K "named_fault" "named_fault" s_nfault (ga K "named_fault") (fdOf K (ga K "named_fault")) := fun_of (c.def_ 11 (d := ⟨("named_fault", none), "named_fault", "named_fault", defArgs s_nfault, defBody s_nfault, defScope s_nfault⟩) rfl) (keep_ok (c.fact 55 (f := .keep "named_fault") rfl))
  have F27 : Fun K "places_by_name" "places_by_name" s_pbn (ga K "places_by_name") (fdOf K (ga K "places_by_name")) := fun_of (c.def_ 12 (d := ⟨("places_by_name", none), "places_by_name", "places_by_name", defArgs s_pbn, defBody s_pbn, defScope s_pbn⟩) rfl) (keep_ok (c.fact 56 (f := .keep "places_by_name") rfl))
  have F28 : Fun K "is_kind" "is_kind" s_iskind (ga K "is_kind") (fdOf K (ga K "is_kind")) := fun_of (c.def_ 13 (d := ⟨("is_kind", none), "is_kind", "is_kind", defArgs s_iskind, defBody s_iskind, defScope s_iskind⟩) rfl) (keep_ok (c.fact 57 (f := .keep "is_kind") rfl))
  have F29 : Fun K "is_list" "is_list" s_islist (ga K "is_list") (fdOf K (ga K "is_list")) := fun_of (c.def_ 14 (d := ⟨("is_list", none), "is_list", "is_list", defArgs s_islist, defBody s_islist, defScope s_islist⟩) rfl) (keep_ok (c.fact 58 (f := .keep "is_list") rfl))
  have F30 : Fun K "are_all_kinds" "are_all_kinds" s_allk (ga K "are_all_kinds") (fdOf K (ga K "are_all_kinds")) := fun_of (c.def_ 15 (d := ⟨("are_all_kinds", none), "are_all_kinds", "are_all_kinds", defArgs s_allk, defBody s_allk, defScope s_allk⟩) rfl) (keep_ok (c.fact 59 (f := .keep "are_all_kinds") rfl))
  have F31 : Fun K "is_square" "is_square" s_issq (ga K "is_square") (fdOf K (ga K "is_square")) := fun_of (c.def_ 16 (d := ⟨("is_square", none), "is_square", "is_square", defArgs s_issq, defBody s_issq, defScope s_issq⟩) rfl) (keep_ok (c.fact 60 (f := .keep "is_square") rfl))
  have F26 : Fun K "placed" "placed" s_placed (ga K "placed") (fdOf K (ga K "placed")) := fun_of (c.def_ 17 (d := ⟨("placed", none), "placed", "placed", defArgs s_placed, defBody s_placed, defScope s_placed⟩) rfl) (keep_ok (c.fact 61 (f := .keep "placed") rfl))
  have F33 : Fun K "table_rows" "table_rows" s_trows (ga K "table_rows") (fdOf K (ga K "table_rows")) := fun_of (c.def_ 18 (d := ⟨("table_rows", none), "table_rows", "table_rows", defArgs s_trows, defBody s_trows, defScope s_trows⟩) rfl) (keep_ok (c.fact 62 (f := .keep "table_rows") rfl))
  have F39 : Fun K "_law_shares" "_law_shares" s_shares (ga K "_law_shares") (fdOf K (ga K "_law_shares")) := fun_of (c.def_ 19 (d := ⟨("_law_shares", none), "_law_shares", "_law_shares", defArgs s_shares, defBody s_shares, defScope s_shares⟩) rfl) (keep_ok (c.fact 63 (f := .keep "_law_shares") rfl))
  have F35 : Fun K "_law_in_order" "_law_in_order" s_inord (ga K "_law_in_order") (fdOf K (ga K "_law_in_order")) := fun_of (c.def_ 20 (d := ⟨("_law_in_order", none), "_law_in_order", "_law_in_order", defArgs s_inord, defBody s_inord, defScope s_inord⟩) rfl) (keep_ok (c.fact 64 (f := .keep "_law_in_order") rfl))
  have F36 : Fun K "_law_table" "_law_table" s_ltable (ga K "_law_table") (fdOf K (ga K "_law_table")) := fun_of (c.def_ 21 (d := ⟨("_law_table", none), "_law_table", "_law_table", defArgs s_ltable, defBody s_ltable, defScope s_ltable⟩) rfl) (keep_ok (c.fact 65 (f := .keep "_law_table") rfl))
  have F43 : Fun K "_law_kinds_of" "_law_kinds_of" s_lkof (ga K "_law_kinds_of") (fdOf K (ga K "_law_kinds_of")) := fun_of (c.def_ 22 (d := ⟨("_law_kinds_of", none), "_law_kinds_of", "_law_kinds_of", defArgs s_lkof, defBody s_lkof, defScope s_lkof⟩) rfl) (keep_ok (c.fact 66 (f := .keep "_law_kinds_of") rfl))
  have F47 : Fun K "_law_sign" "_law_sign" s_lsign (ga K "_law_sign") (fdOf K (ga K "_law_sign")) := fun_of (c.def_ 23 (d := ⟨("_law_sign", none), "_law_sign", "_law_sign", defArgs s_lsign, defBody s_lsign, defScope s_lsign⟩) rfl) (keep_ok (c.fact 67 (f := .keep "_law_sign") rfl))
  have F48 : Fun K "_law_kind_of_parts" "_law_kind_of_parts" s_lpar (ga K "_law_kind_of_parts") (fdOf K (ga K "_law_kind_of_parts")) := fun_of (c.def_ 24 (d := ⟨("_law_kind_of_parts", none), "_law_kind_of_parts", "_law_kind_of_parts", defArgs s_lpar, defBody s_lpar, defScope s_lpar⟩) rfl) (keep_ok (c.fact 68 (f := .keep "_law_kind_of_parts") rfl))
  have F49 : Fun K "_law_kind_of_stretches" "_law_kind_of_stretches" s_lstr (ga K "_law_kind_of_stretches") (fdOf K (ga K "_law_kind_of_stretches")) := fun_of (c.def_ 25 (d := ⟨("_law_kind_of_stretches", none), "_law_kind_of_stretches", "_law_kind_of_stretches", defArgs s_lstr, defBody s_lstr, defScope s_lstr⟩) rfl) (keep_ok (c.fact 69 (f := .keep "_law_kind_of_stretches") rfl))
  have F50 : Fun K "_law_kind_of" "_law_kind_of" s_lkind (ga K "_law_kind_of") (fdOf K (ga K "_law_kind_of")) := fun_of (c.def_ 26 (d := ⟨("_law_kind_of", none), "_law_kind_of", "_law_kind_of", defArgs s_lkind, defBody s_lkind, defScope s_lkind⟩) rfl) (keep_ok (c.fact 70 (f := .keep "_law_kind_of") rfl))
  have F45 : Fun K "_law_things_of" "_law_things_of" s_lthings (ga K "_law_things_of") (fdOf K (ga K "_law_things_of")) := fun_of (c.def_ 27 (d := ⟨("_law_things_of", none), "_law_things_of", "_law_things_of", defArgs s_lthings, defBody s_lthings, defScope s_lthings⟩) rfl) (keep_ok (c.fact 71 (f := .keep "_law_things_of") rfl))
  have F46 : Fun K "_law_triples" "_law_triples" s_ltrip (ga K "_law_triples") (fdOf K (ga K "_law_triples")) := fun_of (c.def_ 28 (d := ⟨("_law_triples", none), "_law_triples", "_law_triples", defArgs s_ltrip, defBody s_ltrip, defScope s_ltrip⟩) rfl) (keep_ok (c.fact 72 (f := .keep "_law_triples") rfl))
  have F53 : Fun K "_law_lines" "_law_lines" s_llines (ga K "_law_lines") (fdOf K (ga K "_law_lines")) := fun_of (c.def_ 29 (d := ⟨("_law_lines", none), "_law_lines", "_law_lines", defArgs s_llines, defBody s_llines, defScope s_llines⟩) rfl) (keep_ok (c.fact 73 (f := .keep "_law_lines") rfl))
  have F54 : Fun K "_law_handed" "_law_handed" s_lhand (ga K "_law_handed") (fdOf K (ga K "_law_handed")) := fun_of (c.def_ 30 (d := ⟨("_law_handed", none), "_law_handed", "_law_handed", defArgs s_lhand, defBody s_lhand, defScope s_lhand⟩) rfl) (keep_ok (c.fact 74 (f := .keep "_law_handed") rfl))
  have F38 : Fun K "_law_draw" "_law_draw" s_draw (ga K "_law_draw") (fdOf K (ga K "_law_draw")) := fun_of (c.def_ 31 (d := ⟨("_law_draw", none), "_law_draw", "_law_draw", defArgs s_draw, defBody s_draw, defScope s_draw⟩) rfl) (keep_ok (c.fact 75 (f := .keep "_law_draw") rfl))
  have F40 : Fun K "_law_words" "_law_words" s_lwords (ga K "_law_words") (fdOf K (ga K "_law_words")) := fun_of (c.def_ 32 (d := ⟨("_law_words", none), "_law_words", "_law_words", defArgs s_lwords, defBody s_lwords, defScope s_lwords⟩) rfl) (keep_ok (c.fact 76 (f := .keep "_law_words") rfl))
  have F41 : Fun K "_law_ring_of" "_law_ring_of" s_lringof (ga K "_law_ring_of") (fdOf K (ga K "_law_ring_of")) := fun_of (c.def_ 33 (d := ⟨("_law_ring_of", none), "_law_ring_of", "_law_ring_of", defArgs s_lringof, defBody s_lringof, defScope s_lringof⟩) rfl) (keep_ok (c.fact 77 (f := .keep "_law_ring_of") rfl))
  have F42 : Fun K "_law_ring" "_law_ring" s_lring (ga K "_law_ring") (fdOf K (ga K "_law_ring")) := fun_of (c.def_ 34 (d := ⟨("_law_ring", none), "_law_ring", "_law_ring", defArgs s_lring, defBody s_lring, defScope s_lring⟩) rfl) (keep_ok (c.fact 78 (f := .keep "_law_ring") rfl))
  have F55 : Fun K "_law_made" "_law_made" s_lmade (ga K "_law_made") (fdOf K (ga K "_law_made")) := fun_of (c.def_ 35 (d := ⟨("_law_made", none), "_law_made", "_law_made", defArgs s_lmade, defBody s_lmade, defScope s_lmade⟩) rfl) (keep_ok (c.fact 79 (f := .keep "_law_made") rfl))
  have F56 : Fun K "_law_same" "_law_same" s_lsame (ga K "_law_same") (fdOf K (ga K "_law_same")) := fun_of (c.def_ 36 (d := ⟨("_law_same", none), "_law_same", "_law_same", defArgs s_lsame, defBody s_lsame, defScope s_lsame⟩) rfl) (keep_ok (c.fact 80 (f := .keep "_law_same") rfl))
  have F51 : Fun K "_law_seen" "_law_seen" s_lseen (ga K "_law_seen") (fdOf K (ga K "_law_seen")) := fun_of (c.def_ 37 (d := ⟨("_law_seen", none), "_law_seen", "_law_seen", defArgs s_lseen, defBody s_lseen, defScope s_lseen⟩) rfl) (keep_ok (c.fact 81 (f := .keep "_law_seen") rfl))
  have F44 : Fun K "_law_seen_courses" "_law_seen_courses" s_lcour (ga K "_law_seen_courses") (fdOf K (ga K "_law_seen_courses")) := fun_of (c.def_ 38 (d := ⟨("_law_seen_courses", none), "_law_seen_courses", "_law_seen_courses", defArgs s_lcour, defBody s_lcour, defScope s_lcour⟩) rfl) (keep_ok (c.fact 82 (f := .keep "_law_seen_courses") rfl))
  have F52 : Fun K "_law_some_table" "_law_some_table" s_lsomet (ga K "_law_some_table") (fdOf K (ga K "_law_some_table")) := fun_of (c.def_ 39 (d := ⟨("_law_some_table", none), "_law_some_table", "_law_some_table", defArgs s_lsomet, defBody s_lsomet, defScope s_lsomet⟩) rfl) (keep_ok (c.fact 83 (f := .keep "_law_some_table") rfl))
  have F37 : Fun K "_law_flow" "_law_flow" s_flow (ga K "_law_flow") (fdOf K (ga K "_law_flow")) := fun_of (c.def_ 40 (d := ⟨("_law_flow", none), "_law_flow", "_law_flow", defArgs s_flow, defBody s_flow, defScope s_flow⟩) rfl) (keep_ok (c.fact 84 (f := .keep "_law_flow") rfl))
  have F57 : Fun K "_law_reordered" "_law_reordered" s_lreord (ga K "_law_reordered") (fdOf K (ga K "_law_reordered")) := fun_of (c.def_ 41 (d := ⟨("_law_reordered", none), "_law_reordered", "_law_reordered", defArgs s_lreord, defBody s_lreord, defScope s_lreord⟩) rfl) (keep_ok (c.fact 85 (f := .keep "_law_reordered") rfl))
  have F58 : Fun K "_law_renamed" "_law_renamed" s_lrenam (ga K "_law_renamed") (fdOf K (ga K "_law_renamed")) := fun_of (c.def_ 42 (d := ⟨("_law_renamed", none), "_law_renamed", "_law_renamed", defArgs s_lrenam, defBody s_lrenam, defScope s_lrenam⟩) rfl) (keep_ok (c.fact 86 (f := .keep "_law_renamed") rfl))
  have F59 : Fun K "law" "law" s_law (ga K "law") (fdOf K (ga K "law")) := fun_of (c.def_ 43 (d := ⟨("law", none), "law", "law", defArgs s_law, defBody s_law, defScope s_law⟩) rfl) (keep_ok (c.fact 87 (f := .keep "law") rfl))
  have F4207 : Fun K "place" "Table.place" s_place (ma K (ga K "Table") "place") (fdOf K (ma K (ga K "Table") "place")) := fun_of (c.def_ 44 (d := ⟨("Table", some "place"), "place", "Table.place", defArgs s_place, defBody s_place, defScope s_place⟩) rfl) (meth_ok (c.fact 96 (f := .meth "Table" "place") rfl)).kp
  have F4209 : Fun K "listed" "Table.listed" s_listed (ma K (ga K "Table") "listed") (fdOf K (ma K (ga K "Table") "listed")) := fun_of (c.def_ 45 (d := ⟨("Table", some "listed"), "listed", "Table.listed", defArgs s_listed, defBody s_listed, defScope s_listed⟩) rfl) (meth_ok (c.fact 97 (f := .meth "Table" "listed") rfl)).kp
  have F4208 : Fun K "gathered" "Table.gathered" s_gath (ma K (ga K "Table") "gathered") (fdOf K (ma K (ga K "Table") "gathered")) := fun_of (c.def_ 46 (d := ⟨("Table", some "gathered"), "gathered", "Table.gathered", defArgs s_gath, defBody s_gath, defScope s_gath⟩) rfl) (meth_ok (c.fact 98 (f := .meth "Table" "gathered") rfl)).kp
  have F4201 : Fun K "kinds" "Table.kinds" s_tkinds (ma K (ga K "Table") "kinds") (fdOf K (ma K (ga K "Table") "kinds")) := fun_of (c.def_ 47 (d := ⟨("Table", some "kinds"), "kinds", "Table.kinds", defArgs s_tkinds, defBody s_tkinds, defScope s_tkinds⟩) rfl) (meth_ok (c.fact 99 (f := .meth "Table" "kinds") rfl)).kp
  have F4205 : Fun K "backs" "Table.backs" s_tbacks (ma K (ga K "Table") "backs") (fdOf K (ma K (ga K "Table") "backs")) := fun_of (c.def_ 48 (d := ⟨("Table", some "backs"), "backs", "Table.backs", defArgs s_tbacks, defBody s_tbacks, defScope s_tbacks⟩) rfl) (meth_ok (c.fact 100 (f := .meth "Table" "backs") rfl)).kp
  have F4204 : Fun K "steps" "Table.steps" s_tsteps (ma K (ga K "Table") "steps") (fdOf K (ma K (ga K "Table") "steps")) := fun_of (c.def_ 49 (d := ⟨("Table", some "steps"), "steps", "Table.steps", defArgs s_tsteps, defBody s_tsteps, defScope s_tsteps⟩) rfl) (meth_ok (c.fact 101 (f := .meth "Table" "steps") rfl)).kp
  have F4202 : Fun K "back" "Table.back" s_tback (ma K (ga K "Table") "back") (fdOf K (ma K (ga K "Table") "back")) := fun_of (c.def_ 50 (d := ⟨("Table", some "back"), "back", "Table.back", defArgs s_tback, defBody s_tback, defScope s_tback⟩) rfl) (meth_ok (c.fact 102 (f := .meth "Table" "back") rfl)).kp
  have F4203 : Fun K "step" "Table.step" s_tstep (ma K (ga K "Table") "step") (fdOf K (ma K (ga K "Table") "step")) := fun_of (c.def_ 51 (d := ⟨("Table", some "step"), "step", "Table.step", defArgs s_tstep, defBody s_tstep, defScope s_tstep⟩) rfl) (meth_ok (c.fact 103 (f := .meth "Table" "step") rfl)).kp
  have F4211 : Fun K "__eq__" "Table.__eq__" s_teq (ma K (ga K "Table") "__eq__") (fdOf K (ma K (ga K "Table") "__eq__")) := fun_of (c.def_ 52 (d := ⟨("Table", some "__eq__"), "__eq__", "Table.__eq__", defArgs s_teq, defBody s_teq, defScope s_teq⟩) rfl) (meth_ok (c.fact 104 (f := .meth "Table" "__eq__") rfl)).kp
  have F4213 : Fun K "__str__" "Table.__str__" s_tstr (ma K (ga K "Table") "__str__") (fdOf K (ma K (ga K "Table") "__str__")) := fun_of (c.def_ 53 (d := ⟨("Table", some "__str__"), "__str__", "Table.__str__", defArgs s_tstr, defBody s_tstr, defScope s_tstr⟩) rfl) (meth_ok (c.fact 105 (f := .meth "Table" "__str__") rfl)).kp
  have F4200 : Fun K "__init__" "Table.__init__" s_tinit (ma K (ga K "Table") "__init__") (fdOf K (ma K (ga K "Table") "__init__")) := fun_of (c.def_ 54 (d := ⟨("Table", some "__init__"), "__init__", "Table.__init__", defArgs s_tinit, defBody s_tinit, defScope s_tinit⟩) rfl) (meth_ok (c.fact 106 (f := .meth "Table" "__init__") rfl)).kp
  exact {
    F_isname := F11
    g_isname := glo_ok X G (c.fact 0 (f := .glo "is_name") rfl)
    b_isname := F11.binds (ps := p_isname) fun _ _ _ _ _ _ us hl => match us, hl with | [_], _ => rfl
    F_arek := F12
    g_arek := glo_ok X G (c.fact 1 (f := .glo "are_kinds") rfl)
    b_arek := F12.binds (ps := p_arek) fun _ _ _ _ _ _ us hl => match us, hl with | [_], _ => rfl
    F_setof := F14
    g_setof := glo_ok X G (c.fact 2 (f := .glo "set_of") rfl)
    b_setof := F14.binds (ps := p_setof) fun _ _ _ _ _ _ us hl => match us, hl with | [_], _ => rfl
    F_plin := F15
    g_plin := glo_ok X G (c.fact 3 (f := .glo "places_in") rfl)
    b_plin := F15.binds (ps := p_plin) fun _ _ _ _ _ _ us hl => match us, hl with | [_], _ => rfl
    F_unat := F16
    g_unat := glo_ok X G (c.fact 4 (f := .glo "union_at") rfl)
    b_unat := F16.binds (ps := p_unat) fun _ _ _ _ _ _ us hl => match us, hl with | [_, _], _ => rfl
    F_fback := F19
    g_fback := glo_ok X G (c.fact 5 (f := .glo "back_fault") rfl)
    b_fback := F19.binds (ps := p_fback) fun _ _ _ _ _ _ us hl => match us, hl with | [_], _ => rfl
    F_fown := F20
    g_fown := glo_ok X G (c.fact 6 (f := .glo "own_fault") rfl)
    b_fown := F20.binds (ps := p_fown) fun _ _ _ _ _ _ us hl => match us, hl with | [_, _], _ => rfl
    F_fsame := F21
    g_fsame := glo_ok X G (c.fact 7 (f := .glo "same_fault") rfl)
    b_fsame := F21.binds (ps := p_fsame) fun _ _ _ _ _ _ us hl => match us, hl with | [_, _], _ => rfl
    F_fturn := F22
    g_fturn := glo_ok X G (c.fact 8 (f := .glo "turn_fault") rfl)
    b_fturn := F22.binds (ps := p_fturn) fun _ _ _ _ _ _ us hl => match us, hl with | [_, _], _ => rfl
    F_frow := F23
    g_frow := glo_ok X G (c.fact 9 (f := .glo "row_fault") rfl)
    b_frow := F23.binds (ps := p_frow) fun _ _ _ _ _ _ us hl => match us, hl with | [_], _ => rfl
    F_ffirst := F18
    g_ffirst := glo_ok X G (c.fact 10 (f := .glo "first_fault") rfl)
    b_ffirst := F18.binds (ps := p_ffirst) fun _ _ _ _ _ _ us hl => match us, hl with | [_, _, _], _ => rfl
    F_nfault := F25
    g_nfault := glo_ok X G (c.fact 11 (f := .glo "named_fault") rfl)
    b_nfault := F25.binds (ps := p_nfault) fun _ _ _ _ _ _ us hl => match us, hl with | [_, _], _ => rfl
    F_pbn := F27
    g_pbn := glo_ok X G (c.fact 12 (f := .glo "places_by_name") rfl)
    b_pbn := F27.binds (ps := p_pbn) fun _ _ _ _ _ _ us hl => match us, hl with | [_], _ => rfl
    F_iskind := F28
    g_iskind := glo_ok X G (c.fact 13 (f := .glo "is_kind") rfl)
    b_iskind := F28.binds (ps := p_iskind) fun _ _ _ _ _ _ us hl => match us, hl with | [_, _], _ => rfl
    F_islist := F29
    g_islist := glo_ok X G (c.fact 14 (f := .glo "is_list") rfl)
    b_islist := F29.binds (ps := p_islist) fun _ _ _ _ _ _ us hl => match us, hl with | [_, _], _ => rfl
    F_allk := F30
    g_allk := glo_ok X G (c.fact 15 (f := .glo "are_all_kinds") rfl)
    b_allk := F30.binds (ps := p_allk) fun _ _ _ _ _ _ us hl => match us, hl with | [_, _], _ => rfl
    F_issq := F31
    g_issq := glo_ok X G (c.fact 16 (f := .glo "is_square") rfl)
    b_issq := F31.binds (ps := p_issq) fun _ _ _ _ _ _ us hl => match us, hl with | [_, _], _ => rfl
    F_placed := F26
    g_placed := glo_ok X G (c.fact 17 (f := .glo "placed") rfl)
    b_placed := F26.binds (ps := p_placed) fun _ _ _ _ _ _ us hl => match us, hl with | [_, _, _, _], _ => rfl
    F_trows := F33
    g_trows := glo_ok X G (c.fact 18 (f := .glo "table_rows") rfl)
    b_trows := F33.binds (ps := p_trows) fun _ _ _ _ _ _ us hl => match us, hl with | [_], _ => rfl
    F_shares := F39
    g_shares := glo_ok X G (c.fact 19 (f := .glo "_law_shares") rfl)
    b_shares := F39.binds (ps := p_shares) fun _ _ _ _ _ _ us hl => match us, hl with | [_, _], _ => rfl
    F_inord := F35
    g_inord := glo_ok X G (c.fact 20 (f := .glo "_law_in_order") rfl)
    b_inord := F35.binds (ps := p_inord) fun _ _ _ _ _ _ us hl => match us, hl with | [_, _], _ => rfl
    F_ltable := F36
    g_ltable := glo_ok X G (c.fact 21 (f := .glo "_law_table") rfl)
    b_ltable := F36.binds (ps := p_ltable) fun _ _ _ _ _ _ us hl => match us, hl with | [_, _, _, _], _ => rfl
    F_lkof := F43
    g_lkof := glo_ok X G (c.fact 22 (f := .glo "_law_kinds_of") rfl)
    b_lkof := F43.binds (ps := p_lkof) fun _ _ _ _ _ _ us hl => match us, hl with | [_], _ => rfl
    F_lsign := F47
    g_lsign := glo_ok X G (c.fact 23 (f := .glo "_law_sign") rfl)
    b_lsign := F47.binds (ps := p_lsign) fun _ _ _ _ _ _ us hl => match us, hl with | [_, _], _ => rfl
    F_lpar := F48
    g_lpar := glo_ok X G (c.fact 24 (f := .glo "_law_kind_of_parts") rfl)
    b_lpar := F48.binds (ps := p_lpar) fun _ _ _ _ _ _ us hl => match us, hl with | [_, _], _ => rfl
    F_lstr := F49
    g_lstr := glo_ok X G (c.fact 25 (f := .glo "_law_kind_of_stretches") rfl)
    b_lstr := F49.binds (ps := p_lstr) fun _ _ _ _ _ _ us hl => match us, hl with | [_, _], _ => rfl
    F_lkind := F50
    g_lkind := glo_ok X G (c.fact 26 (f := .glo "_law_kind_of") rfl)
    b_lkind := F50.binds (ps := p_lkind) fun _ _ _ _ _ _ us hl => match us, hl with | [_, _, _], _ => rfl
    F_lthings := F45
    g_lthings := glo_ok X G (c.fact 27 (f := .glo "_law_things_of") rfl)
    b_lthings := F45.binds (ps := p_lthings) fun _ _ _ _ _ _ us hl => match us, hl with | [_], _ => rfl
    F_ltrip := F46
    g_ltrip := glo_ok X G (c.fact 28 (f := .glo "_law_triples") rfl)
    b_ltrip := F46.binds (ps := p_ltrip) fun _ _ _ _ _ _ us hl => match us, hl with | [_], _ => rfl
    F_llines := F53
    g_llines := glo_ok X G (c.fact 29 (f := .glo "_law_lines") rfl)
    b_llines := F53.binds (ps := p_llines) fun _ _ _ _ _ _ us hl => match us, hl with | [_], _ => rfl
    F_lhand := F54
    g_lhand := glo_ok X G (c.fact 30 (f := .glo "_law_handed") rfl)
    b_lhand := F54.binds (ps := p_lhand) fun _ _ _ _ _ _ us hl => match us, hl with | [_], _ => rfl
    F_draw := F38
    g_draw := glo_ok X G (c.fact 31 (f := .glo "_law_draw") rfl)
    b_draw := F38.binds (ps := p_draw) fun _ _ _ _ _ _ us hl => match us, hl with | [_, _], _ => rfl
    F_lwords := F40
    g_lwords := glo_ok X G (c.fact 32 (f := .glo "_law_words") rfl)
    b_lwords := F40.binds (ps := p_lwords) fun _ _ _ _ _ _ us hl => match us, hl with | [_, _], _ => rfl
    F_lringof := F41
    g_lringof := glo_ok X G (c.fact 33 (f := .glo "_law_ring_of") rfl)
    b_lringof := F41.binds (ps := p_lringof) fun _ _ _ _ _ _ us hl => match us, hl with | [_, _], _ => rfl
    F_lring := F42
    g_lring := glo_ok X G (c.fact 34 (f := .glo "_law_ring") rfl)
    b_lring := F42.binds (ps := p_lring) fun _ _ _ _ _ _ us hl => match us, hl with | [_], _ => rfl
    F_lmade := F55
    g_lmade := glo_ok X G (c.fact 35 (f := .glo "_law_made") rfl)
    b_lmade := F55.binds (ps := p_lmade) fun _ _ _ _ _ _ us hl => match us, hl with | [_], _ => rfl
    F_lsame := F56
    g_lsame := glo_ok X G (c.fact 36 (f := .glo "_law_same") rfl)
    b_lsame := F56.binds (ps := p_lsame) fun _ _ _ _ _ _ us hl => match us, hl with | [_, _], _ => rfl
    F_lseen := F51
    g_lseen := glo_ok X G (c.fact 37 (f := .glo "_law_seen") rfl)
    b_lseen := F51.binds (ps := p_lseen) fun _ _ _ _ _ _ us hl => match us, hl with | [_], _ => rfl
    F_lcour := F44
    g_lcour := glo_ok X G (c.fact 38 (f := .glo "_law_seen_courses") rfl)
    b_lcour := F44.binds (ps := p_lcour) fun _ _ _ _ _ _ us hl => match us, hl with | [_], _ => rfl
    F_lsomet := F52
    g_lsomet := glo_ok X G (c.fact 39 (f := .glo "_law_some_table") rfl)
    b_lsomet := F52.binds (ps := p_lsomet) fun _ _ _ _ _ _ us hl => match us, hl with | [_], _ => rfl
    F_flow := F37
    g_flow := glo_ok X G (c.fact 40 (f := .glo "_law_flow") rfl)
    b_flow := F37.binds (ps := p_flow) fun _ _ _ _ _ _ us hl => match us, hl with | [_], _ => rfl
    F_lreord := F57
    g_lreord := glo_ok X G (c.fact 41 (f := .glo "_law_reordered") rfl)
    b_lreord := F57.binds (ps := p_lreord) fun _ _ _ _ _ _ us hl => match us, hl with | [_], _ => rfl
    F_lrenam := F58
    g_lrenam := glo_ok X G (c.fact 42 (f := .glo "_law_renamed") rfl)
    b_lrenam := F58.binds (ps := p_lrenam) fun _ _ _ _ _ _ us hl => match us, hl with | [_], _ => rfl
    F_law := F59
    g_law := glo_ok X G (c.fact 43 (f := .glo "law") rfl)
    b_law := F59.binds (ps := p_law) fun _ _ _ _ _ _ us hl => match us, hl with | [_], _ => rfl
    F_place := F4207
    b_place := F4207.binds (ps := p_place) fun _ _ _ _ _ _ us hl => match us, hl with | [_, _], _ => rfl
    mt_place := meth_ok (c.fact 96 (f := .meth "Table" "place") rfl)
    F_listed := F4209
    b_listed := F4209.binds (ps := p_listed) fun _ _ _ _ _ _ us hl => match us, hl with | [_, _], _ => rfl
    mt_listed := meth_ok (c.fact 97 (f := .meth "Table" "listed") rfl)
    F_gath := F4208
    b_gath := F4208.binds (ps := p_gath) fun _ _ _ _ _ _ us hl => match us, hl with | [_, _], _ => rfl
    mt_gath := meth_ok (c.fact 98 (f := .meth "Table" "gathered") rfl)
    F_tkinds := F4201
    b_tkinds := F4201.binds (ps := p_tkinds) fun _ _ _ _ _ _ us hl => match us, hl with | [_], _ => rfl
    mt_tkinds := meth_ok (c.fact 99 (f := .meth "Table" "kinds") rfl)
    F_tbacks := F4205
    b_tbacks := F4205.binds (ps := p_tbacks) fun _ _ _ _ _ _ us hl => match us, hl with | [_, _], _ => rfl
    mt_tbacks := meth_ok (c.fact 100 (f := .meth "Table" "backs") rfl)
    F_tsteps := F4204
    b_tsteps := F4204.binds (ps := p_tsteps) fun _ _ _ _ _ _ us hl => match us, hl with | [_, _, _], _ => rfl
    mt_tsteps := meth_ok (c.fact 101 (f := .meth "Table" "steps") rfl)
    F_tback := F4202
    b_tback := F4202.binds (ps := p_tback) fun _ _ _ _ _ _ us hl => match us, hl with | [_, _], _ => rfl
    mt_tback := meth_ok (c.fact 102 (f := .meth "Table" "back") rfl)
    F_tstep := F4203
    b_tstep := F4203.binds (ps := p_tstep) fun _ _ _ _ _ _ us hl => match us, hl with | [_, _, _], _ => rfl
    mt_tstep := meth_ok (c.fact 103 (f := .meth "Table" "step") rfl)
    F_teq := F4211
    b_teq := F4211.binds (ps := p_teq) fun _ _ _ _ _ _ us hl => match us, hl with | [_, _], _ => rfl
    mt_teq := meth_ok (c.fact 104 (f := .meth "Table" "__eq__") rfl)
    F_tstr := F4213
    b_tstr := F4213.binds (ps := p_tstr) fun _ _ _ _ _ _ us hl => match us, hl with | [_], _ => rfl
    mt_tstr := meth_ok (c.fact 105 (f := .meth "Table" "__str__") rfl)
    F_tinit := F4200
    b_tinit := F4200.binds (ps := p_tinit) fun _ _ _ _ _ _ us hl => match us, hl with | [_, _, _, _, _], _ => rfl
    mk_Table := mkr_ok (c.fact 90 (f := .mkr "Table") rfl)
    g_Table := glo_ok X G (c.fact 88 (f := .glo "Table") rfl)
    cl := cls_ok (c.fact 89 (f := .cls "Table") rfl)
    na_names := noat_ok (c.fact 91 (f := .noat "Table" "names") rfl)
    na_places := noat_ok (c.fact 92 (f := .noat "Table" "places") rfl)
    na_same := noat_ok (c.fact 93 (f := .noat "Table" "same") rfl)
    na_turns := noat_ok (c.fact 94 (f := .noat "Table" "turns") rfl)
    na_grid := noat_ok (c.fact 95 (f := .noat "Table" "grid") rfl)
    ins_Table := ⟨cls_ok (c.fact 89 (f := .cls "Table") rfl), eqO_ok x1, eqO_ok x2, of_decide_eq_true x3, of_decide_eq_true x4, of_decide_eq_true x5⟩
    ne_Table := eqO_ok x6
    mro_Table := of_decide_eq_true x4
    not_Table := ⟨of_decide_eq_true q1, of_decide_eq_true q2, of_decide_eq_true q3, q4, q5, q6⟩
    u_LETTERS := let ⟨t, e⟩ := str_ok X G (c.fact 123 (f := .str "LETTERS" "abcdefghijklmnopqrstuvwxyz") rfl); ⟨_, e, ⟨t, rfl⟩⟩
    u_LONGEST := let ⟨t, e⟩ := int_ok X G (c.fact 124 (f := .int "LONGEST" 8) rfl); ⟨_, e, ⟨t, rfl⟩⟩
    u_MOST_KINDS := let ⟨t, e⟩ := int_ok X G (c.fact 125 (f := .int "MOST_KINDS" 13) rfl); ⟨_, e, ⟨t, rfl⟩⟩
  }
theorem bl_mk (c0 : SaysX K) (X : K.In h) (G : h.Ns mainGlobals mg) : Bl mg := have c : SaysE fA fE K := c0.c; {
    m_len := free_ok X G (c.fact 107 (f := .free "len") rfl)
    m_abs := free_ok X G (c.fact 108 (f := .free "abs") rfl)
    m_range := free_ok X G (c.fact 109 (f := .free "range") rfl)
    m_set := free_ok X G (c.fact 110 (f := .free "set") rfl)
    m_list := free_ok X G (c.fact 111 (f := .free "list") rfl)
    m_sorted := free_ok X G (c.fact 112 (f := .free "sorted") rfl)
    m_int := free_ok X G (c.fact 113 (f := .free "int") rfl)
    m_tuple := free_ok X G (c.fact 114 (f := .free "tuple") rfl)
    m_dict := free_ok X G (c.fact 115 (f := .free "dict") rfl)
    m_zip := free_ok X G (c.fact 116 (f := .free "zip") rfl)
    m_all := free_ok X G (c.fact 117 (f := .free "all") rfl)
    m_any := free_ok X G (c.fact 118 (f := .free "any") rfl)
    m_isinstance := free_ok X G (c.fact 119 (f := .free "isinstance") rfl)
    m_bool := free_ok X G (c.fact 120 (f := .free "bool") rfl)
    m_str := free_ok X G (c.fact 121 (f := .free "str") rfl)
    m_enumerate := free_ok X G (c.fact 122 (f := .free "enumerate") rfl)
  }
end
open DL in
theorem ok_end {P : Program} {w : World} {K : PySem.W.Frag} {mg : Str → Option Value} {base : Heap} {ad : Nat → Addr} {fd : Nat → FuncData} (F : Fa K mg ad fd) (T : Bl mg) : FnOk P w K mg base CX0 13 (ad 59) (fd 59) p_law (spLaw K) := by
  have c0 : FnOk P w K mg base CX0 8 (ad 44) (fd 44) p_lcour (spF K 1 fun _ => none) := fn_none F.F_lcour sc_lcour
  have s0 : FnOk P w K mg base CX0 9 (ad 51) (fd 51) p_lseen (spF K 1 fs0) := ok_lseen F T (by decide) c0 hf0
  have c1 : FnOk P w K mg base CX0 10 (ad 44) (fd 44) p_lcour (spF K 1 (fn_lcour fs0)) := ok_lcour F T (by decide) s0
  have s1 : FnOk P w K mg base CX0 11 (ad 51) (fd 51) p_lseen (spF K 1 fs1) := ok_lseen F T (by decide) c1 hf1
  exact ok_law F T (by decide) s1 law_reckoned
theorem says_of {w : World} {h : Heap} (Y : hk.says w h) : ∃ K : PySem.W.Frag, K.In h ∧ SaysX K := Y
theorem law_at {K : PySem.W.Frag} {h : Heap} {mg : Str → Option Value} {f : Addr} (c : SaysX K) (X : K.In h) (G : h.Ns mainGlobals mg) (hmg : mg "law" = some (.ref f)) : f = adK K 59 := by
  have F := fa_mk c X G
  have eq := F.g_law.symm.trans hmg
  injection eq with eq
  injection eq with eq
  exact eq.symm
theorem law_binds {K : PySem.W.Frag} {h : Heap} {mg : Str → Option Value} (c : SaysX K) (X : K.In h) (G : h.Ns mainGlobals mg) (s : Shared) (v : Value) : BindsTo s (fdK K 59) ⟨[v], []⟩ [("_law_script", v)] := by
  have F := fa_mk c X G
  obtain ⟨oc, od, kV, doc, pm, an, cdv, ct, osl, e, l, cc⟩ := F.F_law.ex
  rw [e]
  exact .of_eq rfl
end KK
open PySem PySem.W PySem.Calls PyProof.Rows
theorem PySem.Challenge.cw_kindweft_k05_tables_alike_holds : PySem.Challenge.rw_kindweft_k05_tables_alike.Holds := by
  w_on; o_law
  refine HandSHeadRun.head_any (r := OpenLaw.row PySem.Challenge.rw_kindweft_k05_tables_alike) (q := view (OpenLaw.row PySem.Challenge.rw_kindweft_k05_tables_alike).prog [59]) (H := KK.hk) (ob := KK.ob) (M := 8000) (loose := KK.loose) (d := HandSHeadRun.topDef (OpenLaw.row PySem.Challenge.rw_kindweft_k05_tables_alike).prog 59) (kwd := []) KK.ob_eq
    (by kernel_rfl) (fun s => by kernel_rfl) KK.run (by kernel_rfl) (by kernel_rfl) (by kernel_rfl) (by rfl) (by first | assumption | decide +kernel) (by decide +kernel) ⟨rfl, rfl, rfl, rfl, rfl, by decide +kernel⟩ ?hw ?hc
  case hw => w_witness2
  case hc =>
    refine L2.walk_ofE (l := PySem.Challenge.rw_kindweft_k05_tables_alike) (n := 63) (k := 13) (x := "_law_script") (CX := L2.CX0) rfl (by decide) (by kernel_rfl) ⟨rfl, by decide, by decide⟩ ?F (fun _ _ _ _ z => z)
    intro w mg f h Y G hmg0
    obtain ⟨K, KX, c⟩ := KK.says_of Y
    have hmg : mg ("law" : PySem.Str) = some (.ref f) := by
      have e : (HandSHeadRun.topDef (OpenLaw.row PySem.Challenge.rw_kindweft_k05_tables_alike).prog 59).name = ("law" : PySem.Str) := by kernel_rfl
      rw [← e]
      exact hmg0
    obtain rfl := KK.law_at c KX G hmg
    exact ⟨K, KK.fdK K 59, KK.spLaw K, KX, KK.law_binds c KX G, fun H a ns hl _ hS => ⟨a, ns, rfl, hS, hl, fun _ => rfl⟩, fun base _ _ => KK.ok_end (KK.fa_mk c KX G) (KK.bl_mk c KX G)⟩
end

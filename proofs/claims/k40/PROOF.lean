import PyProof.Rows.All
import Wide.All
import OpenK.AllK
import Wide.FinOn
import HandS.ForExc
import HandS.ForMost
import HandS.Wide
import HandS.SetKeys
import HandS.Zip
import HandS.TupSets
import HandS.Style
import HandS.Rev
import HandS.IsInst
import HandS.Flow
import HandS.Strs
import HandS.Walk
import HandS.RevRange
import HandS.Defaults
import HandS.More
import HandS.SetFor
import HandS.Small
import KE.KRevSl
import PyProof.Rows.StrCountLaw
import HandS.FStrTup
import PyProof.ReprNest
import PyProof.StrHeap
import PyProof.AutoSeq1
import HandS.TupAny
import HandS.Deep
import HandS.Replace
import HandS.EndBits
import HandS.WideBits
import HandS.CallLocal
import HandS.Dict
import HandS.StrMore
import HandS.ReplaceList
import HandS.ReplaceLit
import PySem.Challenge.RW_waitwords_k40_whole_lines_and_owners
/-! DL1 -/
set_option Elab.async false
set_option linter.all false
set_option maxRecDepth 100000
set_option maxHeartbeats 4000000
/-! DL: a level above the hand layer: values as data, lists and dicts in a store, no heap. -/
namespace DL
open PySem L2

/-- values: tuples as data, lists and dicts by their place in the store; fl: a list that nobody changes -/
inductive DV where
  | non
  | bl (b : Bool)
  | int (i : Int)
  | str (s : Str)
  | tup (xs : List DV)
  | fl (xs : List DV)
  | loc (p : Addr)
  | ty (n : String)

/-- what stands at a place of the store -/
inductive MC where
  | lst (xs : List DV)
  | dct (kvs : List (Key × DV))
abbrev Mem := Addr → Option MC
def Mem.up (M : Mem) (p : Addr) (c : MC) : Mem := fun b => if b = p then some c else M b
theorem up_same {M : Mem} {p : Addr} {c : MC} : M.up p c p = some c := by unfold Mem.up; rw [if_pos rfl]
theorem up_ne {M : Mem} {p b : Addr} {c : MC} (h : b ≠ p) : M.up p c b = M b := by unfold Mem.up; rw [if_neg h]
theorem up_up {M : Mem} {p : Addr} {c d : MC} : (M.up p c).up p d = M.up p d := by
  funext b; unfold Mem.up; split <;> rfl
theorem up_none {M : Mem} {p b : Addr} {c : MC} (h : M.up p c b = none) : b ≠ p ∧ M b = none := by
  unfold Mem.up at h
  split at h
  · cases h
  · exact ⟨by assumption, h⟩
theorem mem_ne {M : Mem} {p q : Addr} {c : MC} (h : M p = some c) (n : M q = none) : p ≠ q := by
  intro e; subst e; rw [h] at n; cases n
/-- the store grows -/
def Ext (M M' : Mem) : Prop := ∀ p c, M p = some c → M' p = some c
theorem Ext.refl (M : Mem) : Ext M M := fun _ _ h => h
theorem Ext.trans {M M1 M2 : Mem} (a : Ext M M1) (b : Ext M1 M2) : Ext M M2 := fun p c h => b p c (a p c h)
theorem Ext.new {M : Mem} {p : Addr} {c : MC} (h : M p = none) : Ext M (M.up p c) := fun b d e => by
  rw [up_ne (mem_ne e h)]; exact e
theorem Ext.mut {M M' : Mem} {p : Addr} {c : MC} (e : Ext M M') (h : M p = none) : Ext M (M'.up p c) := fun b d q => by
  rw [up_ne (mem_ne q h)]; exact e b d q
theorem Ext.free {M M' : Mem} (e : Ext M M') {p : Addr} (h : M' p = none) : M p = none := by
  cases q : M p with
  | none => rfl
  | some c => rw [e p c q] at h; cases h

mutual
inductive VRel (K : PySem.W.Frag) (G : Hp) : DV → V → Prop
  | non : VRel K G .non .non
  | bl (b : Bool) : VRel K G (.bl b) (.bl b)
  | int (i : Int) : VRel K G (.int i) (.int i)
  | str (s : Str) : VRel K G (.str s) (.str s)
  | ty (n : String) : VRel K G (.ty n) (.ty n)
  | tup {a : Addr} {xs : List DV} {vs : List V} : SqT K G a vs → VAll K G xs vs → VRel K G (.tup xs) (.ref a)
  | fl {a : Addr} {xs : List DV} {vs : List V} : SqL K G a vs → VAll K G xs vs → VRel K G (.fl xs) (.ref a)
  | loc (p : Addr) : VRel K G (.loc p) (.ref p)
inductive VAll (K : PySem.W.Frag) (G : Hp) : List DV → List V → Prop
  | nil : VAll K G [] []
  | cons {x : DV} {v : V} {xs : List DV} {vs : List V} : VRel K G x v → VAll K G xs vs → VAll K G (x :: xs) (v :: vs)
end

theorem rd_mono {H H' : Hp} {a : Addr} {u : HO} (e : Same H H') (h : Rd H a u) : Rd H' a u := by
  rcases h with h | ⟨o, h⟩
  · exact Or.inl (e a _ h)
  · exact Or.inr ⟨o, e a _ h⟩
theorem sqL_mono {K : PySem.W.Frag} {H H' : Hp} {a : Addr} {xs : List V} (e : Same H H') (h : SqL K H a xs) : SqL K H' a xs := by
  rcases h with h | h
  · exact Or.inl (rd_mono e h)
  · exact Or.inr h
theorem sqT_mono {K : PySem.W.Frag} {H H' : Hp} {a : Addr} {xs : List V} (e : Same H H') (h : SqT K H a xs) : SqT K H' a xs := by
  rcases h with h | h
  · exact Or.inl (rd_mono e h)
  · exact Or.inr h
theorem same_new {H : Hp} {p : Addr} (h : H p = none) (o : HO) : Same H (upd H p o) := fun b u q => by rw [upd_ne (ne_of_none q h)]; exact q

section
variable {K : PySem.W.Frag} {G G' H : Hp}
mutual
theorem VRel.mono (e : Same G G') : ∀ {x : DV} {v : V}, VRel K G x v → VRel K G' x v
  | _, _, .non => .non
  | _, _, .bl b => .bl b
  | _, _, .int i => .int i
  | _, _, .str s => .str s
  | _, _, .ty n => .ty n
  | _, _, .tup h a => .tup (sqT_mono e h) (VAll.mono e a)
  | _, _, .fl h a => .fl (sqL_mono e h) (VAll.mono e a)
  | _, _, .loc p => .loc p
theorem VAll.mono (e : Same G G') : ∀ {xs : List DV} {vs : List V}, VAll K G xs vs → VAll K G' xs vs
  | _, _, .nil => .nil
  | _, _, .cons h a => .cons (VRel.mono e h) (VAll.mono e a)
end
theorem VAll.length : ∀ {xs : List DV} {vs : List V}, VAll K G xs vs → xs.length = vs.length
  | _, _, .nil => rfl
  | _, _, .cons _ a => congrArg (· + 1) (VAll.length a)
theorem VAll.get : ∀ {xs : List DV} {vs : List V} {i : Nat} {x : DV}, VAll K G xs vs → xs[i]? = some x → ∃ v, vs[i]? = some v ∧ VRel K G x v
  | _, _, i, _, .nil, e => by simp at e
  | _, _, 0, _, .cons h _, e => by simp at e; subst e; exact ⟨_, rfl, h⟩
  | _, _, i + 1, x, .cons _ t, e => by
    obtain ⟨u, h1, h2⟩ := VAll.get (i := i) (x := x) t (by simpa using e)
    exact ⟨u, by simpa using h1, h2⟩
theorem VAll.getV : ∀ {xs : List DV} {vs : List V} {i : Nat} {v : V}, VAll K G xs vs → vs[i]? = some v → ∃ x, xs[i]? = some x ∧ VRel K G x v
  | _, _, i, _, .nil, e => by simp at e
  | _, _, 0, _, .cons h _, e => by simp at e; subst e; exact ⟨_, rfl, h⟩
  | _, _, i + 1, x, .cons _ t, e => by
    obtain ⟨u, h1, h2⟩ := VAll.getV (i := i) (v := x) t (by simpa using e)
    exact ⟨u, by simpa using h1, h2⟩
theorem VAll.append : ∀ {xs ys : List DV} {us vs : List V}, VAll K G xs us → VAll K G ys vs → VAll K G (xs ++ ys) (us ++ vs)
  | _, _, _, _, .nil, b => b
  | _, _, _, _, .cons h a, b => .cons h (VAll.append a b)
theorem VAll.one {x : DV} {v : V} (h : VRel K G x v) : VAll K G [x] [v] := .cons h .nil
theorem VAll.take : ∀ {xs : List DV} {vs : List V} (n : Nat), VAll K G xs vs → VAll K G (xs.take n) (vs.take n)
  | _, _, 0, _ => by rw [List.take_zero, List.take_zero]; exact .nil
  | _, _, _ + 1, .nil => by simp; exact .nil
  | _, _, n + 1, .cons h a => .cons h (VAll.take n a)
theorem VAll.drop : ∀ {xs : List DV} {vs : List V} (n : Nat), VAll K G xs vs → VAll K G (xs.drop n) (vs.drop n)
  | _, _, 0, a => a
  | _, _, _ + 1, .nil => by simp; exact .nil
  | _, _, n + 1, .cons _ a => VAll.drop n a
theorem VAll.reverse : ∀ {xs : List DV} {vs : List V}, VAll K G xs vs → VAll K G xs.reverse vs.reverse
  | _, _, .nil => .nil
  | _, _, .cons h a => by rw [List.reverse_cons, List.reverse_cons]; exact VAll.append (VAll.reverse a) (.one h)
theorem VAll.set : ∀ {xs : List DV} {vs : List V} {x : DV} {v : V} (n : Nat), VAll K G xs vs → VRel K G x v → VAll K G (xs.set n x) (vs.set n v)
  | _, _, _, _, _, .nil, _ => .nil
  | _, _, _, _, 0, .cons _ a, r => .cons r a
  | _, _, _, _, n + 1, .cons h a, r => .cons h (VAll.set n a r)
theorem VAll.dropLast {xs : List DV} {vs : List V} (a : VAll K G xs vs) : VAll K G xs.dropLast vs.dropLast := by
  rw [List.dropLast_eq_take, List.dropLast_eq_take, a.length]; exact a.take _

def KAll (K : PySem.W.Frag) (G : Hp) (kvs : List (Key × DV)) (kws : List (Key × V)) : Prop :=
  kvs.map (·.1) = kws.map (·.1) ∧ VAll K G (kvs.map (·.2)) (kws.map (·.2))
theorem KAll.mono (e : Same G G') {kvs : List (Key × DV)} {kws : List (Key × V)} (h : KAll K G kvs kws) : KAll K G' kvs kws := ⟨h.1, h.2.mono e⟩

def CellOk (K : PySem.W.Frag) (G H : Hp) (p : Addr) : MC → Prop
  | .lst xs => ∃ vs, H p = some (.lst vs) ∧ VAll K G xs vs
  | .dct kvs => ∃ kws, H p = some (.dK kws) ∧ KAll K G kvs kws
structure Ok (K : PySem.W.Frag) (G H : Hp) (M : Mem) : Prop where
  same : Same G H
  mem : ∀ p c, M p = some c → G p = none ∧ CellOk K G H p c
theorem CellOk.some {p : Addr} {c : MC} (h : CellOk K G H p c) : ∃ o, H p = Option.some o := by
  cases c with
  | lst xs => obtain ⟨vs, e, _⟩ := h; exact ⟨_, e⟩
  | dct kvs => obtain ⟨vs, e, _⟩ := h; exact ⟨_, e⟩
theorem Ok.free {M : Mem} (o : Ok K G H M) {p : Addr} (h : H p = none) : M p = none ∧ G p = none := by
  refine ⟨?_, o.same.free h⟩
  cases q : M p with
  | none => rfl
  | some c =>
    obtain ⟨_, r⟩ := o.mem p c q
    obtain ⟨u, e⟩ := r.some
    rw [h] at e; cases e
/-- a cell laid or written -/
theorem Ok.put {M : Mem} (o : Ok K G H M) {p : Addr} {u : HO} {c : MC} (hg : G p = none) (hc : CellOk K G (upd H p u) p c) : Ok K G (upd H p u) (M.up p c) := by
  refine ⟨fun b v q => ?_, fun b d q => ?_⟩
  · have n : b ≠ p := fun e => by subst e; rw [hg] at q; cases q
    rw [upd_ne n]; exact o.same b v q
  · by_cases e : b = p
    · subst e
      rw [up_same] at q
      cases q
      exact ⟨hg, hc⟩
    · rw [up_ne e] at q
      obtain ⟨h1, h2⟩ := o.mem b d q
      refine ⟨h1, ?_⟩
      cases d with
      | lst xs => obtain ⟨vs, q1, q2⟩ := h2; exact ⟨vs, by rw [upd_ne e]; exact q1, q2⟩
      | dct kvs => obtain ⟨vs, q1, q2⟩ := h2; exact ⟨vs, by rw [upd_ne e]; exact q1, q2⟩
theorem Ok.putL {M : Mem} (o : Ok K G H M) {p : Addr} {xs : List DV} {vs : List V} (hg : G p = none) (a : VAll K G xs vs) : Ok K G (upd H p (.lst vs)) (M.up p (.lst xs)) :=
  o.put hg ⟨vs, upd_same, a⟩
theorem Ok.putD {M : Mem} (o : Ok K G H M) {p : Addr} {kvs : List (Key × DV)} {kws : List (Key × V)} (hg : G p = none) (a : KAll K G kvs kws) : Ok K G (upd H p (.dK kws)) (M.up p (.dct kvs)) :=
  o.put hg ⟨kws, upd_same, a⟩
/-- a new thing of the frozen part -/
theorem Ok.lay {M : Mem} (o : Ok K G H M) {p : Addr} (u : HO) (hp : H p = none) : Ok K (upd G p u) (upd H p u) M ∧ Same G (upd G p u) := by
  have hg := (o.free hp).2
  have sg := same_new hg u
  refine ⟨⟨fun b v q => ?_, fun b d q => ?_⟩, sg⟩
  · by_cases e : b = p
    · subst e; rw [upd_same] at q ⊢; exact q
    · rw [upd_ne e] at q ⊢; exact o.same b v q
  · obtain ⟨h1, h2⟩ := o.mem b d q
    have e : b ≠ p := fun e => by
      obtain ⟨w, z⟩ := h2.some
      rw [e, hp] at z; cases z
    refine ⟨by rw [upd_ne e]; exact h1, ?_⟩
    cases d with
    | lst xs => obtain ⟨vs, q1, q2⟩ := h2; exact ⟨vs, by rw [upd_ne e]; exact q1, q2.mono sg⟩
    | dct kvs => obtain ⟨vs, q1, q2⟩ := h2; exact ⟨vs, by rw [upd_ne e]; exact q1, q2.mono sg⟩

/-- slots -/
abbrev Sl := List (Option DV)
def SlOk (K : PySem.W.Frag) (G : Hp) (S : Sl) (σ : L2.St) : Prop := S.length = σ.length ∧ ∀ (i : Nat) (x : DV), S[i]? = some (some x) → ∃ v, σ[i]? = some (some v) ∧ VRel K G x v
theorem SlOk.mono (e : Same G G') {S : Sl} {σ : L2.St} (h : SlOk K G S σ) : SlOk K G' S σ := ⟨h.1, fun i x q => by
  obtain ⟨v, q1, q2⟩ := h.2 i x q; exact ⟨v, q1, q2.mono e⟩⟩
theorem SlOk.set {S : Sl} {σ : L2.St} {x : DV} {v : V} (h : SlOk K G S σ) (r : VRel K G x v) (i : Nat) : SlOk K G (S.set i (some x)) (σ.set i (some v)) := by
  refine ⟨by rw [List.length_set, List.length_set]; exact h.1, fun j y q => ?_⟩
  by_cases e : i = j
  · subst e
    by_cases l : i < S.length
    · rw [List.getElem?_set_self l] at q
      cases q
      exact ⟨v, by rw [List.getElem?_set_self (by rw [← h.1]; exact l)], r⟩
    · rw [List.getElem?_eq_none (by rw [List.length_set]; omega)] at q; cases q
  · rw [List.getElem?_set_ne e] at q ⊢
    exact h.2 j y q
def wipeD (S : Sl) : List Nat → Sl
  | [] => S
  | v :: vs => (wipeD S vs).set v none
theorem SlOk.unset {S : Sl} {σ : L2.St} (h : SlOk K G S σ) (i : Nat) : SlOk K G (S.set i none) (σ.set i none) := by
  refine ⟨by rw [List.length_set, List.length_set]; exact h.1, fun j y q => ?_⟩
  by_cases e : i = j
  · subst e
    by_cases l : i < S.length
    · rw [List.getElem?_set_self l] at q; cases q
    · rw [List.getElem?_eq_none (by rw [List.length_set]; omega)] at q; cases q
  · rw [List.getElem?_set_ne e] at q ⊢
    exact h.2 j y q
theorem SlOk.wipe {S : Sl} {σ : L2.St} (h : SlOk K G S σ) : ∀ vs : List Nat, SlOk K G (wipeD S vs) (L2.wipe σ vs)
  | [] => h
  | v :: vs => (SlOk.wipe h vs).unset v

/-! ### readings by data -/
abbrev PV := DV → Mem → Prop
abbrev DE := Sl → Mem → PV → Prop
abbrev DT := Sl → Mem → (Bool → Mem → Prop) → Prop
abbrev DA := Sl → Mem → (List DV → Mem → Prop) → Prop
structure DEnds where
  nx : Sl → Mem → Prop
  rt : PV
  bk : Sl → Mem → Prop := fun _ _ => False
  ct : Sl → Mem → Prop := fun _ _ => False
abbrev DS := DEnds → Sl → Mem → Prop
/-- behind an expression -/
def KontV (K : PySem.W.Frag) (G : Hp) (P : PV) (Q : VK) : Prop := ∀ x M' v G' H', P x M' → Ok K G' H' M' → Same G G' → VRel K G' x v → Q v H'
def KontB (K : PySem.W.Frag) (G : Hp) (P : Bool → Mem → Prop) (Q : Bool → Hp → Prop) : Prop := ∀ b M' G' H', P b M' → Ok K G' H' M' → Same G G' → Q b H'
def KontA (K : PySem.W.Frag) (G : Hp) (P : List DV → Mem → Prop) (Q : List V → Hp → Prop) : Prop := ∀ xs M' vs G' H', P xs M' → Ok K G' H' M' → Same G G' → VAll K G' xs vs → Q vs H'
def KontS (K : PySem.W.Frag) (G : Hp) (P : Sl → Mem → Prop) (Q : L2.St → Hp → Prop) : Prop := ∀ S' M' σ' G' H', P S' M' → Ok K G' H' M' → Same G G' → SlOk K G' S' σ' → Q σ' H'
theorem KontV.mono (e : Same G G') {P : PV} {Q : VK} (k : KontV K G P Q) : KontV K G' P Q := fun x M' v G2 H' p o s r => k x M' v G2 H' p o (e.trans s) r
theorem KontB.mono (e : Same G G') {P : Bool → Mem → Prop} {Q : Bool → Hp → Prop} (k : KontB K G P Q) : KontB K G' P Q := fun b M' G2 H' p o s => k b M' G2 H' p o (e.trans s)
theorem KontA.mono (e : Same G G') {P : List DV → Mem → Prop} {Q : List V → Hp → Prop} (k : KontA K G P Q) : KontA K G' P Q := fun x M' v G2 H' p o s r => k x M' v G2 H' p o (e.trans s) r
theorem KontS.mono (e : Same G G') {P : Sl → Mem → Prop} {Q : L2.St → Hp → Prop} (k : KontS K G P Q) : KontS K G' P Q := fun x M' v G2 H' p o s r => k x M' v G2 H' p o (e.trans s) r
structure EndsOk (K : PySem.W.Frag) (G : Hp) (D : DEnds) (D' : Ends) : Prop where
  nx : KontS K G D.nx D'.nx
  rt : KontV K G D.rt D'.rt
  bk : KontS K G D.bk D'.bk
  ct : KontS K G D.ct D'.ct
theorem EndsOk.mono (e : Same G G') {D : DEnds} {D' : Ends} (k : EndsOk K G D D') : EndsOk K G' D D' := ⟨k.nx.mono e, k.rt.mono e, k.bk.mono e, k.ct.mono e⟩

def RE (K : PySem.W.Frag) (te : TE) (de : DE) : Prop := ∀ S M P, de S M P → ∀ G σ H, Ok K G H M → SlOk K G S σ → ∀ Q : VK, KontV K G P Q → te σ H Q
def RT (K : PySem.W.Frag) (te : TT) (de : DT) : Prop := ∀ S M P, de S M P → ∀ G σ H, Ok K G H M → SlOk K G S σ → ∀ Q, KontB K G P Q → te σ H Q
def RA (K : PySem.W.Frag) (te : TA) (de : DA) : Prop := ∀ S M P, de S M P → ∀ G σ H, Ok K G H M → SlOk K G S σ → ∀ Q, KontA K G P Q → te σ H Q
def RS (K : PySem.W.Frag) (ts : TS) (ds : DS) : Prop := ∀ D S M, ds D S M → ∀ G σ H, Ok K G H M → SlOk K G S σ → ∀ D' : Ends, EndsOk K G D D' → ts D' σ H
abbrev DG := DV → Sl → Mem → (Sl → Mem → Prop) → Prop
abbrev DGs := List DV → Sl → Mem → (Sl → Mem → Prop) → Prop
def RG (K : PySem.W.Frag) (g : TG) (dg : DG) : Prop := ∀ x S M P, dg x S M P → ∀ G v σ H, Ok K G H M → SlOk K G S σ → VRel K G x v → ∀ Q, KontS K G P Q → g v σ H Q
def RGs (K : PySem.W.Frag) (g : TGs) (dg : DGs) : Prop := ∀ xs S M P, dg xs S M P → ∀ G vs σ H, Ok K G H M → SlOk K G S σ → VAll K G xs vs → ∀ Q, KontS K G P Q → g vs σ H Q

structure QE (X : Cx) (e : Expr) (te : TE) (de : DE) : Prop where
  p : PE X e te
  r : RE X.K te de
structure QT (X : Cx) (e : Expr) (te : TT) (de : DT) : Prop where
  p : PT X e te
  r : RT X.K te de
structure QW (X : Cx) (e : Expr) (te : TT) (de : DT) : Prop where
  p : PW X e te
  r : RT X.K te de
structure QA (X : Cx) (es : List Expr) (te : TA) (de : DA) : Prop where
  p : PA X es te
  r : RA X.K te de
structure QS (X : Cx) (st : Stmt) (ts : TS) (ds : DS) : Prop where
  p : PS X st ts
  r : RS X.K ts ds
structure QSs (X : Cx) (st : List Stmt) (ts : TS) (ds : DS) : Prop where
  p : PSs X st ts
  r : RS X.K ts ds
structure QG (X : Cx) (e : Expr) (g : TG) (dg : DG) : Prop where
  p : PG X e g
  r : RG X.K g dg
structure QGs (X : Cx) (es : List Expr) (g : TGs) (dg : DGs) : Prop where
  p : PGs X es g
  r : RGs X.K g dg
theorem QW.t {X : Cx} {e : Expr} {te : TT} {de : DT} (h : QW X e te de) : QT X e te de := ⟨h.p.pt, h.r⟩
end
end DL
/-! DL2 -/
set_option Elab.async false
set_option linter.all false
set_option maxRecDepth 100000
set_option maxHeartbeats 4000000
namespace DL
open PySem L2
section
variable {K : PySem.W.Frag} {G G' H : Hp} {M : Mem}
/-! ### what is read off the store -/
def lstOf (M : Mem) : DV → Option (List DV)
  | .fl xs => some xs
  | .loc p => match M p with
    | some (.lst xs) => some xs
    | _ => none
  | _ => none
def seqOf (M : Mem) : DV → Option (List DV)
  | .tup xs => some xs
  | x => lstOf M x
theorem lst_sq (o : Ok K G H M) {x : DV} {v : V} {xs : List DV} (r : VRel K G x v) (h : lstOf M x = some xs) : ∃ a vs, v = .ref a ∧ SqL K H a vs ∧ VAll K G xs vs := by
  cases r with
  | fl s a => cases h; exact ⟨_, _, rfl, sqL_mono o.same s, a⟩
  | loc p =>
    have h : (match M p with | some (.lst xs) => some xs | _ => none) = some xs := h
    cases q : M p with
    | none => rw [q] at h; cases h
    | some c =>
      rw [q] at h
      cases c with
      | lst ys =>
        cases h
        obtain ⟨_, vs, e, a⟩ := o.mem p _ q
        exact ⟨p, vs, rfl, .inl (.inl e), a⟩
      | dct _ => cases h
  | _ => cases h
theorem seq_sq (o : Ok K G H M) {x : DV} {v : V} {xs : List DV} (r : VRel K G x v) (h : seqOf M x = some xs) : ∃ a vs, v = .ref a ∧ (SqL K H a vs ∨ SqT K H a vs) ∧ VAll K G xs vs := by
  cases r with
  | tup s a => cases h; exact ⟨_, _, rfl, .inr (sqT_mono o.same s), a⟩
  | fl s a => cases h; exact ⟨_, _, rfl, .inl (sqL_mono o.same s), a⟩
  | loc p =>
    obtain ⟨a, vs, e, s, q⟩ := lst_sq o (.loc p) h
    exact ⟨a, vs, e, .inl s, q⟩
  | _ => cases h
theorem cell_lst (o : Ok K G H M) {p : Addr} {xs : List DV} (h : M p = some (.lst xs)) : ∃ vs, H p = some (.lst vs) ∧ VAll K G xs vs ∧ G p = none := by
  obtain ⟨g, vs, e, a⟩ := o.mem p _ h
  exact ⟨vs, e, a, g⟩
theorem atI_rel {xs : List DV} {vs : List V} {i : Int} {x : DV} (a : VAll K G xs vs) (h : atI xs i = some x) : ∃ v, atI vs i = some v ∧ VRel K G x v := by
  unfold atI at h ⊢
  rw [← a.length]
  cases e : ixN xs.length i with
  | none => rw [e] at h; cases h
  | some j =>
    rw [e] at h
    exact a.get h
theorem VAll.isEmpty {xs : List DV} {vs : List V} (a : VAll K G xs vs) : vs.isEmpty = xs.isEmpty := by
  cases a <;> rfl
theorem le_line {n : Nat} (h : n ≤ 100000) : n ≤ sizeLine := Nat.le_trans h (by decide)
theorem lt_line {n : Nat} (h : n < 100000) : n < sizeLine := Nat.lt_of_lt_of_le h (by decide)

/-! ### expressions -/
section
variable {X : Cx} {e e1 e2 a b : Expr} {te ta tb : TE} {de da db : DE} {pos : Pos}
def dVar (i : Nat) : DE := fun S M P => ∃ x, S[i]? = some (some x) ∧ P x M
theorem qv (i : Nat) {x : Str} {pos : Pos} (hN : X.N[i]? = some x := by rfl) (hv : Vis X.env.scope x := by first | exact Or.inl rfl | exact Or.inr (Or.inl rfl) | exact Or.inr (Or.inr rfl)) (hd : (x == ("__debug__" : Str)) = false := by decide)
    (hcd : (x == ("__classdict__" : Str)) = false := by decide) : QE X (.Name x pos) (tVar i) (dVar i) :=
  ⟨pe_var hN hv hd hcd, fun S M P ⟨x, h, p⟩ G σ H o s Q k => by
    obtain ⟨v, e, r⟩ := s.2 i x h
    exact ⟨v, e, k x M v G H p o (Same.refl _) r⟩⟩
def dC (x : DV) : DE := fun _ M P => P x M
theorem re_c {x : DV} {v : V} (r : ∀ G, VRel K G x v) : RE K (tC v) (dC x) := fun S M P p G σ H o s Q k => k x M v G H p o (Same.refl _) (r G)
theorem qe_int {i j pos} : QE X (.Constant (.int i) j pos) (tC (.int i)) (dC (.int i)) := ⟨pe_int, re_c fun _ => .int _⟩
theorem qe_bl {b j pos} : QE X (.Constant (.bool b) j pos) (tC (.bl b)) (dC (.bl b)) := ⟨pe_bl, re_c fun _ => .bl _⟩
theorem qe_non {j pos} : QE X (.Constant .none j pos) (tC .non) (dC .non) := ⟨pe_non, re_c fun _ => .non⟩
theorem qe_str {x j pos} : QE X (.Constant (.str x) j pos) (tC (.str x)) (dC (.str x)) := ⟨pe_str, re_c fun _ => .str _⟩
/-- a class's name as a value -/
theorem qe_ty {x : Str} {n : String} {pos : Pos} (hg : Gl X x) (hm : X.mg x = none) (hv : bootBuiltins x = some (.type n)) (hn : x ≠ "__name__" := by decide) (hd : (x == ("__debug__" : Str)) = false := by decide) : QE X (.Name x pos) (tC (.ty n)) (dC (.ty n)) :=
  ⟨pe_bltn hg hm hv rfl hn hd, re_c fun _ => .ty _⟩
/-- a module's text -/
theorem qe_gstr {x z : Str} {t : Tok} {pos : Pos} (hg : Gl X x) (hm : X.mg x = some (.str z t)) (hd : (x == ("__debug__" : Str)) = false := by decide) : QE X (.Name x pos) (tC (.str z)) (dC (.str z)) :=
  ⟨pe_glob hg hm ⟨_, rfl⟩ hd, re_c fun _ => .str _⟩

/-- a two-place operation by data -/
abbrev DR2 := DV → DV → Mem → PV → Prop
def ROp (K : PySem.W.Frag) (r : R2) (dr : DR2) : Prop := ∀ x y M P, dr x y M P → ∀ G v u H, Ok K G H M → VRel K G x v → VRel K G y u → ∀ Q, KontV K G P Q → r v u H Q
def dOp (dr : DR2) (da db : DE) : DE := fun S M P => da S M fun x M1 => db S M1 fun y M2 => dr x y M2 P
theorem re_op {r : R2} {dr : DR2} (hr : ROp K r dr) (ha : RE K ta da) (hb : RE K tb db) : RE K (tOp r ta tb) (dOp dr da db) := fun S M P p G σ H o s Q k =>
  ha S M _ p G σ H o s _ fun x M1 v G1 H1 p1 o1 e1 r1 => hb S M1 _ p1 G1 σ H1 o1 (s.mono e1) _ fun y M2 u G2 H2 p2 o2 e2 r2 =>
    hr x y M2 P p2 G2 v u H2 o2 (r1.mono e2) r2 Q (k.mono (e1.trans e2))
theorem qe_op {op : Operator} {r : R2} {dr : DR2} (ho : OpR X (binaryOp op) r) (hr : ROp X.K r dr) (ha : QE X a ta da) (hb : QE X b tb db) : QE X (.BinOp a op b pos) (tOp r ta tb) (dOp dr da db) := ⟨pe_op ho ha.p hb.p, re_op hr ha.r hb.r⟩
theorem qe_cmp {op : CmpOp} {r : R2} {dr : DR2} (ho : OpR X (compareOp op) r) (hr : ROp X.K r dr) (ha : QE X a ta da) (hb : QE X b tb db) (hm : behindInMarks op b = false) : QE X (.Compare a [op] [b] pos) (tOp r ta tb) (dOp dr da db) := ⟨pe_cmpR ho ha.p hb.p hm, re_op hr ha.r hb.r⟩
def dTest (d : DE) : DT := fun S M P => d S M fun x M1 => ∃ k, x = .bl k ∧ P k M1
theorem re_test (h : RE K te de) : RT K (tTest te) (dTest de) := fun S M P p G σ H o s Q k =>
  h S M _ p G σ H o s _ fun x M1 v G1 H1 ⟨b, e, p1⟩ o1 e1 r1 => by
    subst e
    cases r1
    exact ⟨b, rfl, k b M1 G1 H1 p1 o1 e1⟩
theorem qt_cmp {op : CmpOp} {r : R2} {dr : DR2} (ho : OpR X (compareOp op) r) (hr : ROp X.K r dr) (ha : QE X a ta da) (hb : QE X b tb db) (hm : behindInMarks op b = false) : QT X (.Compare a [op] [b] pos) (tTest (tOp r ta tb)) (dTest (dOp dr da db)) := ⟨pt_cmpR ho ha.p hb.p hm, re_test (re_op hr ha.r hb.r)⟩

/-! ints -/
def dI0 (g : Int → Int → DV) : DR2 := fun x y M P => match x, y with
  | .int i, .int j => P (g i j) M
  | _, _ => False
def dIC (C : Int → Int → Prop) (g : Int → Int → DV) : DR2 := fun x y M P => match x, y with
  | .int i, .int j => C i j ∧ P (g i j) M
  | _, _ => False
theorem ro_I0 {g : Int → Int → V} {g' : Int → Int → DV} (hg : ∀ i j G, VRel K G (g' i j) (g i j)) : ROp K (rI0 g) (dI0 g') := by
  intro x y M P p G v u H o r1 r2 Q k
  cases r1 <;> cases r2 <;> first | exact p.elim | skip
  exact ⟨_, _, rfl, rfl, k _ M _ G H p o (Same.refl _) (hg _ _ G)⟩
theorem ro_IC {C : Int → Int → Prop} {g : Int → Int → V} {g' : Int → Int → DV} (hg : ∀ i j G, VRel K G (g' i j) (g i j)) : ROp K (rI C g) (dIC C g') := by
  intro x y M P p G v u H o r1 r2 Q k
  cases r1 <;> cases r2 <;> first | exact p.elim | skip
  exact ⟨_, _, rfl, rfl, p.1, k _ M _ G H p.2 o (Same.refl _) (hg _ _ G)⟩
theorem ROp.or {r r' : R2} {d d' : DR2} (h : ROp K r d) (h' : ROp K r' d') : ROp K (fun x y H Q => r x y H Q ∨ r' x y H Q) (fun x y M P => d x y M P ∨ d' x y M P) := by
  intro x y M P p G v u H o r1 r2 Q k
  rcases p with p | p
  · exact .inl (h x y M P p G v u H o r1 r2 Q k)
  · exact .inr (h' x y M P p G v u H o r1 r2 Q k)
/-- a result alone: the store stands -/
theorem ROp.weak {r : R2} {d d' : DR2} (h : ROp K r d) (w : ∀ x y M P, d' x y M P → d x y M P) : ROp K r d' := fun x y M P p => h x y M P (w x y M P p)

abbrev dSub : DR2 := dI0 fun i j => .int (i - j)
abbrev dMod : DR2 := dIC (fun _ j => 0 < j) fun i j => .int (i % j)
abbrev dPow : DR2 := dIC CPow fun i j => .int (i ^ j.toNat)
abbrev dMul : DR2 := dIC CMulW fun i j => .int (i * j)
abbrev dFdiv : DR2 := dIC CDivW fun i j => .int (i / j)
theorem qe_sub (ha : QE X a ta da) (hb : QE X b tb db) : QE X (.BinOp a .Sub b pos) (tOp (rI0 fun i j => .int (i - j)) ta tb) (dOp dSub da db) := qe_op op_sub (ro_I0 fun _ _ _ => .int _) ha hb
theorem qe_mod (ha : QE X a ta da) (hb : QE X b tb db) : QE X (.BinOp a .Mod b pos) (tOp (rI (fun _ j => 0 < j) fun i j => .int (i % j)) ta tb) (dOp dMod da db) := qe_op op_mod (ro_IC fun _ _ _ => .int _) ha hb
theorem qe_pow (ha : QE X a ta da) (hb : QE X b tb db) : QE X (.BinOp a .Pow b pos) (tOp (rI CPow fun i j => .int (i ^ j.toNat)) ta tb) (dOp dPow da db) := qe_op op_pow (ro_IC fun _ _ _ => .int _) ha hb
theorem qe_mul (ha : QE X a ta da) (hb : QE X b tb db) : QE X (.BinOp a .Mult b pos) (tOp (rI CMulW fun i j => .int (i * j)) ta tb) (dOp dMul da db) := qe_op op_mulW (ro_IC fun _ _ _ => .int _) ha hb
theorem qe_fdiv (ha : QE X a ta da) (hb : QE X b tb db) : QE X (.BinOp a .FloorDiv b pos) (tOp (rI CDivW fun i j => .int (i / j)) ta tb) (dOp dFdiv da db) := qe_op op_fdivW (ro_IC fun _ _ _ => .int _) ha hb
/-! + of ints, texts, lists -/
def rAddS' : R2 := fun x y H Q => ∃ i j, x = .str i ∧ y = .str j ∧ i.length + j.length ≤ sizeLine ∧ Q (.str (i ++ j)) H
def dAdd : DR2 := fun x y M P => match x, y with
  | .int i, .int j => P (.int (i + j)) M
  | .str s, .str t => s.length + t.length ≤ 100000 ∧ P (.str (s ++ t)) M
  | .loc p, .loc q => ∃ xs ys, M p = some (.lst xs) ∧ M q = some (.lst ys) ∧ xs.length + ys.length ≤ 100000 ∧ ∀ r, M r = none → P (.loc r) (M.up r (.lst (xs ++ ys)))
  | _, _ => False
theorem op_addA : OpR X (binaryOp .Add) (fun x y H Q => (rI0 fun i j => .int (i + j)) x y H Q ∨ rAddS' x y H Q ∨ rCat x y H Q) := op_add.or (OpR.or op_add_str op_cat)
theorem ro_add : ROp K (fun x y H Q => (rI0 fun i j => .int (i + j)) x y H Q ∨ rAddS' x y H Q ∨ rCat x y H Q) dAdd := by
  intro x y M P p G v u H o r1 r2 Q k
  cases r1 with
  | int i =>
    cases r2 with
    | int j => exact .inl ⟨_, _, rfl, rfl, k _ M _ G H p o (Same.refl _) (.int _)⟩
    | _ => exact p.elim
  | str i =>
    cases r2 with
    | str j => exact .inr (.inl ⟨_, _, rfl, rfl, le_line p.1, k _ M _ G H p.2 o (Same.refl _) (.str _)⟩)
    | _ => exact p.elim
  | loc i =>
    cases r2 with
    | loc j =>
      obtain ⟨xs, ys, h1, h2, hl, p⟩ := p
      obtain ⟨vs, e1, a1, _⟩ := cell_lst o h1
      obtain ⟨us, e2, a2, _⟩ := cell_lst o h2
      refine .inr (.inr ⟨_, _, _, _, rfl, rfl, e1, e2, by rw [← a1.length, ← a2.length]; exact le_line hl, fun r hr => ?_⟩)
      obtain ⟨m0, g0⟩ := o.free hr
      exact k _ _ _ G _ (p r m0) (o.putL g0 (a1.append a2)) (Same.refl _) (.loc r)
    | _ => exact p.elim
  | _ => exact p.elim
theorem qe_add (ha : QE X a ta da) (hb : QE X b tb db) : QE X (.BinOp a .Add b pos) (tOp (fun x y H Q => (rI0 fun i j => .int (i + j)) x y H Q ∨ rAddS' x y H Q ∨ rCat x y H Q) ta tb) (dOp dAdd da db) := qe_op op_addA ro_add ha hb
/-! comparisons -/
theorem ro_lt : ROp K (rI0 fun i j => .bl (decide (i < j))) (dI0 fun i j => .bl (decide (i < j))) := ro_I0 fun _ _ _ => .bl _
theorem ro_le : ROp K (rI0 fun i j => .bl (decide (i ≤ j))) (dI0 fun i j => .bl (decide (i ≤ j))) := ro_I0 fun _ _ _ => .bl _
theorem ro_gt : ROp K (rI0 fun i j => .bl (decide (j < i))) (dI0 fun i j => .bl (decide (j < i))) := ro_I0 fun _ _ _ => .bl _
theorem ro_ge : ROp K (rI0 fun i j => .bl (decide (j ≤ i))) (dI0 fun i j => .bl (decide (j ≤ i))) := ro_I0 fun _ _ _ => .bl _
def scalD : DV → DV → Option Bool
  | .non, .non => some true
  | .int i, .int j => some (i == j)
  | .bl i, .bl j => some (i == j)
  | .str i, .str j => some (i == j)
  | .non, .int _ => some false | .int _, .non => some false | .non, .bl _ => some false | .bl _, .non => some false | .non, .str _ => some false | .str _, .non => some false
  | .int _, .str _ => some false | .str _, .int _ => some false | .bl _, .str _ => some false | .str _, .bl _ => some false
  | _, _ => none
def dEqS : DR2 := fun x y M P => ∃ b, scalD x y = some b ∧ P (.bl b) M
def dNeS : DR2 := fun x y M P => ∃ b, scalD x y = some b ∧ P (.bl (!b)) M
theorem scal_rel {x y : DV} {v u : V} {b : Bool} (r1 : VRel K G x v) (r2 : VRel K G y u) (h : scalD x y = some b) : scal v u = true ∧ decide (v = u) = b := by
  cases r1 <;> cases r2 <;> first | cases h; done | skip
  all_goals (cases h; first | exact ⟨rfl, rfl⟩ | exact ⟨rfl, dec_int⟩ | exact ⟨rfl, dec_bl⟩ | exact ⟨rfl, dec_str⟩ | exact ⟨rfl, by simp⟩)
theorem ro_eqS : ROp K rEq dEqS := by
  intro x y M P ⟨b, h, p⟩ G v u H o r1 r2 Q k
  obtain ⟨s, d⟩ := scal_rel r1 r2 h
  exact ⟨s, by rw [d]; exact k _ M _ G H p o (Same.refl _) (.bl b)⟩
theorem ro_neS : ROp K rNe dNeS := by
  intro x y M P ⟨b, h, p⟩ G v u H o r1 r2 Q k
  obtain ⟨s, d⟩ := scal_rel r1 r2 h
  exact ⟨s, by rw [d]; exact k _ M _ G H p o (Same.refl _) (.bl _)⟩
def rIsN' : R2 := fun x y H Q => y = .non ∧ Q (.bl (decide (x = .non))) H
def rNotN' : R2 := fun x y H Q => y = .non ∧ Q (.bl (!decide (x = .non))) H
def isN : DV → Bool
  | .non => true
  | _ => false
def dIsN : DR2 := fun x y M P => isN y = true ∧ P (.bl (isN x)) M
def dNotN : DR2 := fun x y M P => isN y = true ∧ P (.bl (!isN x)) M
theorem isN_rel {x : DV} {v : V} (r : VRel K G x v) : decide (v = .non) = isN x := by
  cases r <;> first | rfl | (exact decide_eq_false (by intro h; cases h))
theorem ro_isN : ROp K rIsN' dIsN := by
  intro x y M P ⟨h, p⟩ G v u H o r1 r2 Q k
  refine ⟨?_, ?_⟩
  · have := isN_rel r2; rw [h] at this; exact of_decide_eq_true this
  · rw [isN_rel r1]; exact k _ M _ G H p o (Same.refl _) (.bl _)
theorem ro_notN : ROp K rNotN' dNotN := by
  intro x y M P ⟨h, p⟩ G v u H o r1 r2 Q k
  refine ⟨?_, ?_⟩
  · have := isN_rel r2; rw [h] at this; exact of_decide_eq_true this
  · rw [isN_rel r1]; exact k _ M _ G H p o (Same.refl _) (.bl _)
def rLtS' : R2 := fun x y H Q => ∃ i j, x = .str i ∧ y = .str j ∧ Q (.bl (decide (i.cps.toList < j.cps.toList))) H

/-! truth -/
def dTru : DV → Mem → (Bool → Prop) → Prop := fun x M P => match x with
  | .non => P false
  | .bl b => P b
  | .int i => P (i != 0)
  | .str s => s.length ≤ 100000 ∧ P ((s.length : Int) != 0)
  | .tup xs => P (!xs.isEmpty)
  | .fl xs => P (!xs.isEmpty)
  | .loc p => match M p with
    | some (.lst xs) => P (!xs.isEmpty)
    | some (.dct kvs) => P (!kvs.isEmpty)
    | none => False
  | .ty _ => False
def dTruth (d : DE) : DT := fun S M P => d S M fun x M1 => dTru x M1 fun b => P b M1
theorem tru_rel (o : Ok K G H M) {x : DV} {v : V} (r : VRel K G x v) {P : Bool → Prop} (h : dTru x M P) : ∃ k, TruV K v H k ∧ P k := by
  cases r with
  | non => exact ⟨_, rfl, h⟩
  | bl b => exact ⟨_, rfl, h⟩
  | int i => exact ⟨_, rfl, h⟩
  | str s => exact ⟨_, ⟨le_line h.1, rfl⟩, h.2⟩
  | ty n => exact h.elim
  | tup s a => exact ⟨_, .inr (.inl ⟨_, sqT_mono o.same s, rfl⟩), by rw [a.isEmpty]; exact h⟩
  | fl s a => exact ⟨_, .inl ⟨_, sqL_mono o.same s, rfl⟩, by rw [a.isEmpty]; exact h⟩
  | loc p =>
    have h : (match M p with
    | some (.lst xs) => P (!xs.isEmpty)
    | some (.dct kvs) => P (!kvs.isEmpty)
    | none => False) := h
    cases q : M p with
    | none => rw [q] at h; exact h.elim
    | some c =>
      rw [q] at h
      cases c with
      | lst xs =>
        obtain ⟨_, vs, e, a⟩ := o.mem p _ q
        exact ⟨_, .inl ⟨vs, .inl (.inl e), rfl⟩, by rw [a.isEmpty]; exact h⟩
      | dct kvs =>
        obtain ⟨_, kws, e, a⟩ := o.mem p _ q
        refine ⟨_, .inr (.inr ⟨kws, e, rfl⟩), ?_⟩
        have : kws.isEmpty = kvs.isEmpty := by
          have l := congrArg List.length a.1
          rw [List.length_map, List.length_map] at l
          cases kvs <;> cases kws <;> first | rfl | (simp at l)
        rw [this]; exact h
theorem qt_truth (ha : QE X a ta da) (he : ∀ whole, isTrue a X.env whole = (do let v ← whole; standAt a.pos; holding [v] (truthy v)) := by intro _; rfl) : QT X a (fun σ H Q => ta σ H fun x H' => ∃ k, TruV X.K x H' k ∧ Q k H') (dTruth da) :=
  ⟨pt_truth ha.p he, fun S M P p G σ H o s Q k => ha.r S M _ p G σ H o s _ fun x M1 v G1 H1 p1 o1 e1 r1 => by
    obtain ⟨b, t, q⟩ := tru_rel o1 r1 p1
    exact ⟨b, t, k b M1 G1 H1 q o1 e1⟩⟩
variable {t1 t2 : TT} {d1 d2 : DT}
def dAndT (t u : DT) : DT := fun S M P => t S M fun c M1 => if c = true then u S M1 P else P false M1
def dOrT (t u : DT) : DT := fun S M P => t S M fun c M1 => if c = true then P true M1 else u S M1 P
def dNotT (t : DT) : DT := fun S M P => t S M fun c M1 => P (!c) M1
theorem re_and (h1 : RT K t1 d1) (h2 : RT K t2 d2) : RT K (tAnd t1 t2) (dAndT d1 d2) := fun S M P p G σ H o s Q k =>
  h1 S M _ p G σ H o s _ fun b M1 G1 H1 p1 o1 e1 => by
    cases b with
    | true => exact h2 S M1 P p1 G1 σ H1 o1 (s.mono e1) Q (k.mono e1)
    | false => exact k false M1 G1 H1 p1 o1 e1
theorem re_or (h1 : RT K t1 d1) (h2 : RT K t2 d2) : RT K (tOr t1 t2) (dOrT d1 d2) := fun S M P p G σ H o s Q k =>
  h1 S M _ p G σ H o s _ fun b M1 G1 H1 p1 o1 e1 => by
    cases b with
    | false => exact h2 S M1 P p1 G1 σ H1 o1 (s.mono e1) Q (k.mono e1)
    | true => exact k true M1 G1 H1 p1 o1 e1
theorem re_not (h1 : RT K t1 d1) : RT K (tNot t1) (dNotT d1) := fun S M P p G σ H o s Q k =>
  h1 S M _ p G σ H o s _ fun b M1 G1 H1 p1 o1 e1 => k (!b) M1 G1 H1 p1 o1 e1
theorem qw_and1 (ha : QT X a t1 d1) : QW X (.BoolOp .And [a] pos) t1 d1 := ⟨pw_and1 ha.p, ha.r⟩
theorem qw_or1 (ha : QT X a t1 d1) : QW X (.BoolOp .Or [a] pos) t1 d1 := ⟨pw_or1 ha.p, ha.r⟩
theorem qw_and {rest : List Expr} (ha : QT X a t1 d1) (hb : QW X (.BoolOp .And (b :: rest) pos) t2 d2) : QW X (.BoolOp .And (a :: b :: rest) pos) (tAnd t1 t2) (dAndT d1 d2) := ⟨pw_and ha.p hb.p, re_and ha.r hb.r⟩
theorem qw_or {rest : List Expr} (ha : QT X a t1 d1) (hb : QW X (.BoolOp .Or (b :: rest) pos) t2 d2) : QW X (.BoolOp .Or (a :: b :: rest) pos) (tOr t1 t2) (dOrT d1 d2) := ⟨pw_or ha.p hb.p, re_or ha.r hb.r⟩
theorem qt_not (ha : QT X a t1 d1) : QT X (.UnaryOp .Not a pos) (tNot t1) (dNotT d1) := ⟨pt_not ha.p, re_not ha.r⟩
/-! and, or, not as values of bools -/
def dAndV (da db : DE) : DE := fun S M P => da S M fun x M1 => ∃ c, x = .bl c ∧ if c = true then db S M1 P else P (.bl false) M1
def dOrV (da db : DE) : DE := fun S M P => da S M fun x M1 => ∃ c, x = .bl c ∧ if c = true then P (.bl true) M1 else db S M1 P
def dNotV (da : DE) : DE := fun S M P => da S M fun x M1 => ∃ c, x = .bl c ∧ P (.bl (!c)) M1
theorem qe_one {op} (h : QE X a ta da) : QE X (.BoolOp op [a] pos) ta da := ⟨pe_one h.p, h.r⟩
theorem qe_and {rest : List Expr} (ha : QE X a ta da) (hb : QE X (.BoolOp .And (b :: rest) pos) tb db) : QE X (.BoolOp .And (a :: b :: rest) pos) (tAndV ta tb) (dAndV da db) :=
  ⟨pe_and ha.p hb.p, fun S M P p G σ H o s Q k => ha.r S M _ p G σ H o s _ fun x M1 v G1 H1 ⟨c, e, p1⟩ o1 e1 r1 => by
    subst e; cases r1
    cases c with
    | true => exact ⟨true, rfl, hb.r S M1 P p1 G1 σ H1 o1 (s.mono e1) Q (k.mono e1)⟩
    | false => exact ⟨false, rfl, k _ M1 _ G1 H1 p1 o1 e1 (.bl _)⟩⟩
theorem qe_or {rest : List Expr} (ha : QE X a ta da) (hb : QE X (.BoolOp .Or (b :: rest) pos) tb db) : QE X (.BoolOp .Or (a :: b :: rest) pos) (tOrV ta tb) (dOrV da db) :=
  ⟨pe_or ha.p hb.p, fun S M P p G σ H o s Q k => ha.r S M _ p G σ H o s _ fun x M1 v G1 H1 ⟨c, e, p1⟩ o1 e1 r1 => by
    subst e; cases r1
    cases c with
    | false => exact ⟨false, rfl, hb.r S M1 P p1 G1 σ H1 o1 (s.mono e1) Q (k.mono e1)⟩
    | true => exact ⟨true, rfl, k _ M1 _ G1 H1 p1 o1 e1 (.bl _)⟩⟩
theorem qe_not (ha : QE X a ta da) : QE X (.UnaryOp .Not a pos) (tNotV ta) (dNotV da) :=
  ⟨pe_not ha.p, fun S M P p G σ H o s Q k => ha.r S M _ p G σ H o s _ fun x M1 v G1 H1 ⟨c, e, p1⟩ o1 e1 r1 => by
    subst e; cases r1
    exact ⟨c, rfl, k _ M1 _ G1 H1 p1 o1 e1 (.bl _)⟩⟩
def dIf (t : DT) (da db : DE) : DE := fun S M P => t S M fun c M1 => if c = true then da S M1 P else db S M1 P
theorem qe_ifExp {c : Expr} {tc : TT} {dc : DT} (hc : QT X c tc dc) (ha : QE X a ta da) (hb : QE X b tb db) : QE X (.IfExp c a b pos) (tIf tc ta tb) (dIf dc da db) :=
  ⟨pe_ifExp hc.p ha.p hb.p, fun S M P p G σ H o s Q k => hc.r S M _ p G σ H o s _ fun c M1 G1 H1 p1 o1 e1 => by
    cases c with
    | true => exact ha.r S M1 P p1 G1 σ H1 o1 (s.mono e1) Q (k.mono e1)
    | false => exact hb.r S M1 P p1 G1 σ H1 o1 (s.mono e1) Q (k.mono e1)⟩
/-! indexes -/
def dIx : DR2 := fun x y M P => ∃ i, y = .int i ∧ match x with
  | .str z => z.length ≤ 100000 ∧ ∃ c, atI z.cps.toList i = some c ∧ P (.str ⟨#[c]⟩) M
  | _ => ∃ xs z, seqOf M x = some xs ∧ atI xs i = some z ∧ P z M
theorem ro_ix : ROp K (rIx K) dIx := by
  intro x y M P ⟨i, ey, p⟩ G v u H o r1 r2 Q k
  subst ey
  cases r2
  have seq : (∃ xs z, seqOf M x = some xs ∧ atI xs i = some z ∧ P z M) → rIx K v (.int i) H Q := fun ⟨xs, z, h, hi, p⟩ => by
    obtain ⟨a, vs, ev, sq, al⟩ := seq_sq o r1 h
    subst ev
    obtain ⟨w, hw, rw'⟩ := atI_rel al hi
    have q := k _ M _ G H p o (Same.refl _) rw'
    rcases sq with sq | sq
    · exact .inl ⟨a, vs, i, w, rfl, rfl, sq, hw, q⟩
    · exact .inr (.inl ⟨a, vs, i, w, rfl, rfl, sq, hw, q⟩)
  cases r1 with
  | str z =>
    obtain ⟨hl, c, hc, p⟩ := p
    exact .inr (.inr ⟨z, i, c, rfl, rfl, le_line hl, hc, k _ M _ G H p o (Same.refl _) (.str _)⟩)
  | non => exact seq p
  | bl b => exact seq p
  | int i => exact seq p
  | ty n => exact seq p
  | tup s a => exact seq p
  | fl s a => exact seq p
  | loc q => exact seq p
theorem qe_ix (ha : QE X a ta da) (hb : QE X b tb db) (hs : PlainIx b := by exact fun _ _ => rfl) : QE X (.Subscript a b pos) (tOp (rIx X.K) ta tb) (dOp dIx da db) := ⟨pe_ix ix_seq ha.p hb.p hs, re_op ro_ix ha.r hb.r⟩
/-! arguments, displays -/
variable {es : List Expr} {t : TA} {d : DA}
def dNil : DA := fun _ M P => P [] M
def dCons (de : DE) (dr : DA) : DA := fun S M P => de S M fun x M1 => dr S M1 fun xs M2 => P (x :: xs) M2
theorem qa_nil : QA X [] tNil dNil := ⟨pa_nil, fun S M P p G σ H o s Q k => k [] M [] G H p o (Same.refl _) .nil⟩
theorem re_cons (he : RE K te de) (hr : RA K t d) : RA K (tCons te t) (dCons de d) := fun S M P p G σ H o s Q k =>
  he S M _ p G σ H o s _ fun x M1 v G1 H1 p1 o1 e1 r1 => hr S M1 _ p1 G1 σ H1 o1 (s.mono e1) _ fun xs M2 vs G2 H2 p2 o2 e2 r2 =>
    k (x :: xs) M2 (v :: vs) G2 H2 p2 o2 (e1.trans e2) (.cons (r1.mono e2) r2)
theorem qa_cons (ha : QE X e te de) (hr : QA X es t d) (hs : starEach (e :: es) X.env = (false, eval e X.env) :: starEach es X.env := by rfl) : QA X (e :: es) (tCons te t) (dCons de d) := ⟨pa_cons ha.p hr.p hs, re_cons ha.r hr.r⟩
def dTup (d : DA) : DE := fun S M P => d S M fun xs M1 => xs.length ≤ 100000 ∧ P (.tup xs) M1
def dLst (d : DA) : DE := fun S M P => d S M fun xs M1 => xs.length ≤ 100000 ∧ ∀ p, M1 p = none → P (.loc p) (M1.up p (.lst xs))
theorem qe_tup {x1} (h : QA X es t d) : QE X (.Tuple es x1 pos) (tTup t) (dTup d) :=
  ⟨pe_tup h.p, fun S M P p G σ H o s Q k => h.r S M _ p G σ H o s _ fun xs M1 vs G1 H1 ⟨hl, p1⟩ o1 e1 r1 =>
    ⟨by rw [← r1.length]; exact le_line hl, fun q hq => by
      obtain ⟨o2, e2⟩ := o1.lay (.tup vs) hq
      exact k _ M1 _ _ _ p1 o2 (e1.trans e2) (.tup (.inl (.inl upd_same)) (r1.mono e2))⟩⟩
theorem qe_lst (h : QA X es t d) : QE X (.List es pos) (tLst t) (dLst d) :=
  ⟨pe_lst h.p, fun S M P p G σ H o s Q k => h.r S M _ p G σ H o s _ fun xs M1 vs G1 H1 ⟨hl, p1⟩ o1 e1 r1 =>
    ⟨by rw [← r1.length]; exact le_line hl, fun q hq => by
      obtain ⟨m0, g0⟩ := o1.free hq
      exact k _ _ _ G1 _ (p1 q m0) (o1.putL g0 r1) e1 (.loc q)⟩⟩
/-! calls of built-ins -/
abbrev DC := List DV → Mem → PV → Prop
def RC (K : PySem.W.Frag) (r : List V → Hp → VK → Prop) (dc : DC) : Prop := ∀ xs M P, dc xs M P → ∀ G vs H, Ok K G H M → VAll K G xs vs → ∀ Q, KontV K G P Q → r vs H Q
def dCB (dc : DC) (d : DA) : DE := fun S M P => d S M fun xs M1 => dc xs M1 P
theorem re_CB {r : List V → Hp → VK → Prop} {dc : DC} (hc : RC K r dc) (h : RA K t d) : RE K (tCB r t) (dCB dc d) := fun S M P p G σ H o s Q k =>
  h S M _ p G σ H o s _ fun xs M1 vs G1 H1 p1 o1 e1 r1 => hc xs M1 P p1 G1 vs H1 o1 r1 Q (k.mono e1)
theorem qe_callB {x : Str} {id : String} {p : Pos} {r : List V → Hp → VK → Prop} {dc : DC} (hc : CallR X (.builtin id) r) (hr : RC X.K r dc) (hg : Gl X x) (hm : X.mg x = none) (hv : bootBuiltins x = some (.builtin id)) (ha : QA X (e :: es) t d) (hn : x ≠ "__name__" := by decide) (hdb : (x == ("__debug__" : Str)) = false := by decide)
    (he : starEach (e :: es) X.env = (false, eval e X.env) :: starEach es X.env := by rfl) (hpl : (backTo pos (starEach es X.env)).any (·.1) = false := by rfl) :
    QE X (.Call (.Name x p) (e :: es) [] pos) (tCB r t) (dCB dc d) := ⟨pe_callB hc hg hm hv ha.p hn hdb he hpl, re_CB hr ha.r⟩
theorem qe_callTy {x : Str} {T : String} {p : Pos} {r : List V → Hp → VK → Prop} {dc : DC} (hc : CallR X (.type T) r) (hr : RC X.K r dc) (hg : Gl X x) (hm : X.mg x = none) (hv : bootBuiltins x = some (.type T)) (ha : QA X (e :: es) t d) (hn : x ≠ "__name__" := by decide) (hdb : (x == ("__debug__" : Str)) = false := by decide)
    (he : starEach (e :: es) X.env = (false, eval e X.env) :: starEach es X.env := by rfl) (hpl : (backTo pos (starEach es X.env)).any (·.1) = false := by rfl) :
    QE X (.Call (.Name x p) (e :: es) [] pos) (tCB r t) (dCB dc d) := ⟨pe_callTy hc hg hm hv ha.p hn hdb he hpl, re_CB hr ha.r⟩
theorem vall1 {x : DV} {vs : List V} (a : VAll K G [x] vs) : ∃ v, vs = [v] ∧ VRel K G x v := by
  cases a with | cons r t => cases t; exact ⟨_, rfl, r⟩
theorem vall2 {x y : DV} {vs : List V} (a : VAll K G [x, y] vs) : ∃ v u, vs = [v, u] ∧ VRel K G x v ∧ VRel K G y u := by
  cases a with | cons r t => cases t with | cons r2 t => cases t; exact ⟨_, _, rfl, r, r2⟩
/-- len -/
def dLen : DC := fun xs M P => ∃ x, xs = [x] ∧ match x with
  | .str s => s.length ≤ 100000 ∧ P (.int s.length) M
  | x => ∃ ys, seqOf M x = some ys ∧ P (.int ys.length) M
theorem rc_len : RC K (fun xs H Q => ∃ x n, xs = [x] ∧ LenV K x H n ∧ Q (.int n) H) dLen := by
  intro xs M P ⟨x, e, p⟩ G vs H o a Q k
  subst e
  obtain ⟨v, rfl, r1⟩ := vall1 a
  have seq : (∃ ys, seqOf M x = some ys ∧ P (.int ys.length) M) → ∃ y n, [v] = [y] ∧ LenV K y H n ∧ Q (.int n) H := fun ⟨ys, h, p⟩ => by
    obtain ⟨a, vs, ev, sq, al⟩ := seq_sq o r1 h
    subst ev
    refine ⟨_, vs.length, rfl, ?_, k _ M _ G H (by rw [al.length] at p; exact p) o (Same.refl _) (.int _)⟩
    rcases sq with sq | sq
    · exact .inl ⟨vs, sq, rfl⟩
    · exact .inr ⟨vs, sq, rfl⟩
  cases r1 with
  | str z => exact ⟨_, _, rfl, ⟨le_line p.1, rfl⟩, k _ M _ G H p.2 o (Same.refl _) (.int _)⟩
  | non => exact seq p
  | bl b => exact seq p
  | int i => exact seq p
  | ty n => exact seq p
  | tup s a => exact seq p
  | fl s a => exact seq p
  | loc q => exact seq p
/-- int of an int, a bool -/
def dInt : DC := fun xs M P => match xs with
  | [.int i] => P (.int i) M
  | [.bl b] => P (.int (if b then 1 else 0)) M
  | _ => False
theorem rc_int : RC K (fun xs H Q => (∃ i, xs = [.int i] ∧ Q (.int i) H) ∨ ∃ k, xs = [.bl k] ∧ Q (.int (if k then 1 else 0)) H) dInt := by
  intro xs M P p G vs H o a Q k
  cases a with
  | nil => exact p.elim
  | cons r t =>
    cases t with
    | cons _ _ => cases r <;> exact p.elim
    | nil =>
      cases r with
      | int i => exact .inl ⟨i, rfl, k _ M _ G H p o (Same.refl _) (.int _)⟩
      | bl b => exact .inr ⟨b, rfl, k _ M _ G H p o (Same.refl _) (.int _)⟩
      | _ => exact p.elim
/-- max, min of two ints -/
def dMax2 : DC := fun xs M P => match xs with
  | [.int i, .int j] => P (.int (if j > i then j else i)) M
  | _ => False
def dMin2 : DC := fun xs M P => match xs with
  | [.int i, .int j] => P (.int (if j < i then j else i)) M
  | _ => False
theorem rc_max2 : RC K (fun xs H Q => ∃ i j, xs = [.int i, .int j] ∧ Q (.int (if j > i then j else i)) H) dMax2 := by
  intro xs M P p G vs H o a Q k
  cases a with
  | nil => exact p.elim
  | cons r t =>
    cases t with
    | nil => cases r <;> exact p.elim
    | cons r2 t =>
      cases t with
      | cons _ _ => cases r <;> cases r2 <;> exact p.elim
      | nil =>
        cases r <;> cases r2 <;> first | exact p.elim | skip
        exact ⟨_, _, rfl, k _ M _ G H p o (Same.refl _) (.int _)⟩
theorem rc_min2 : RC K (fun xs H Q => ∃ i j, xs = [.int i, .int j] ∧ Q (.int (if j < i then j else i)) H) dMin2 := by
  intro xs M P p G vs H o a Q k
  cases a with
  | nil => exact p.elim
  | cons r t =>
    cases t with
    | nil => cases r <;> exact p.elim
    | cons r2 t =>
      cases t with
      | cons _ _ => cases r <;> cases r2 <;> exact p.elim
      | nil =>
        cases r <;> cases r2 <;> first | exact p.elim | skip
        exact ⟨_, _, rfl, k _ M _ G H p o (Same.refl _) (.int _)⟩
end
end
end DL
/-! DL3 -/
set_option Elab.async false
set_option linter.all false
set_option maxRecDepth 100000
set_option maxHeartbeats 4000000
namespace DL
open PySem L2 PyProof.Rows
section
variable {K : PySem.W.Frag} {G G' H : Hp} {M : Mem} {X : Cx}
/-! ### targets -/
def dgName (i : Nat) : DG := fun x S M P => P (S.set i (some x)) M
theorem rg_name {i : Nat} : RG K (gName i) (dgName i) := fun x S M P p G v σ H o s r Q k => k _ M _ G H p o (Same.refl _) (s.set r i)
theorem qg_name {pos : Pos} {i : Nat} {x : Str} (hN : X.N.Nodup) (hi : X.N[i]? = some x := by rfl) (hx : Loc X.env.scope x := by first | exact Or.inl rfl | exact Or.inr rfl) (hf : X.fn x = true ∨ X.env.scope.names.lookup x = some .local := by first | exact .inl rfl | exact .inr rfl | assumption) : QG X (.Name x pos) (gName i) (dgName i) :=
  ⟨pg_name hN hi hx hf, rg_name⟩
def dgNil : DGs := fun xs S M P => xs = [] ∧ P S M
def dgCons (t : DG) (u : DGs) : DGs := fun xs S M P => ∃ x r, xs = x :: r ∧ t x S M fun S' M' => u r S' M' P
theorem qgs_nil : QGs X [] gNil dgNil := ⟨pgs_nil, fun xs S M P ⟨e, p⟩ G vs σ H o s r Q k => by
  subst e; cases r
  exact ⟨rfl, k S M σ G H p o (Same.refl _) s⟩⟩
theorem qgs_cons {e : Expr} {es : List Expr} {g : TG} {dg : DG} {gs : TGs} {dgs : DGs} (h : QG X e g dg) (hs : QGs X es gs dgs)
    (ha : (assignEach (e :: es) X.env).map (·.2) = assign e X.env :: (assignEach es X.env).map (·.2) := by rfl) : QGs X (e :: es) (gCons g gs) (dgCons dg dgs) :=
  ⟨pgs_cons h.p hs.p ha, fun xs S M P ⟨x, r, e, p⟩ G vs σ H o s a Q k => by
    subst e
    cases a with
    | cons r1 r2 => exact ⟨_, _, rfl, h.r x S M _ p G _ σ H o s r1 _ fun S1 M1 σ1 G1 H1 p1 o1 e1 s1 => hs.r r S1 M1 P p1 G1 _ σ1 H1 o1 s1 (r2.mono e1) Q (k.mono e1)⟩⟩
def dgTup (n : Nat) (t : DGs) : DG := fun x S M P => ∃ xs, x = .tup xs ∧ xs.length = n ∧ t xs S M P
theorem rg_tup {n : Nat} {gs : TGs} {dgs : DGs} (hs : RGs K gs dgs) : RG K (gTup K n gs) (dgTup n dgs) := fun x S M P ⟨xs, e, l, p⟩ G v σ H o s r Q k => by
  subst e
  cases r with
  | tup sq a => exact ⟨_, _, rfl, sqT_mono o.same sq, by rw [← a.length]; exact l, hs xs S M P p G _ σ H o s a Q k⟩
/-! ### statements -/
section
variable {st : Stmt} {rest : List Stmt} {t1 t2 : TS} {d1 d2 : DS} {e c : Expr} {te : TE} {de : DE} {pos : Pos}
def dNext : DS := fun D S M => D.nx S M
def dSeq (t u : DS) : DS := fun D S M => t { D with nx := fun S' M' => u D S' M' } S M
theorem rs_next : RS K tNext dNext := fun D S M p G σ H o s D' k => k.nx S M σ G H p o (Same.refl _) s
theorem rs_seq (h1 : RS K t1 d1) (h2 : RS K t2 d2) : RS K (tSeq t1 t2) (dSeq d1 d2) := fun D S M p G σ H o s D' k =>
  h1 _ S M p G σ H o s { D' with nx := fun σ' H' => t2 D' σ' H' } ⟨fun S1 M1 σ1 G1 H1 p1 o1 e1 s1 => h2 D S1 M1 p1 G1 σ1 H1 o1 s1 D' (k.mono e1), k.rt, k.bk, k.ct⟩
theorem qss_nil : QSs X [] tNext dNext := ⟨pss_nil, rs_next⟩
theorem qss_cons (h1 : QS X st t1 d1) (h2 : QSs X rest t2 d2) : QSs X (st :: rest) (tSeq t1 t2) (dSeq d1 d2) := ⟨pss_cons h1.p h2.p, rs_seq h1.r h2.r⟩
theorem qss_one (h1 : QS X st t1 d1) : QSs X [st] t1 d1 := ⟨pss_one h1.p, h1.r⟩
def dNever : DS := fun _ _ _ => False
theorem qs_never : QS X st tNever dNever := ⟨ps_never, fun _ _ _ p => p.elim⟩
theorem qss_never {sts : List Stmt} : QSs X sts tNever dNever := ⟨pss_never, fun _ _ _ p => p.elim⟩
theorem qs_pass : QS X (.Pass pos) tNext dNext := ⟨ps_pass, rs_next⟩
def dBreak : DS := fun D S M => D.bk S M
def dCont : DS := fun D S M => D.ct S M
theorem qs_break : QS X (.Break pos) tBreak dBreak := ⟨ps_break, fun D S M p G σ H o s D' k => k.bk S M σ G H p o (Same.refl _) s⟩
theorem qs_continue : QS X (.Continue pos) tCont dCont := ⟨ps_continue, fun D S M p G σ H o s D' k => k.ct S M σ G H p o (Same.refl _) s⟩
def dDrop (d : DE) : DS := fun D S M => d S M fun _ M1 => D.nx S M1
theorem qs_expr (he : QE X e te de) (hs : swapsWith e none pos.line X.env = pure false := by rfl) : QS X (.Expr e pos) (tDrop te) (dDrop de) :=
  ⟨ps_expr he.p hs, fun D S M p G σ H o s D' k => he.r S M _ p G σ H o s _ fun x M1 v G1 H1 p1 o1 e1 _ => k.nx S M1 σ G1 H1 p1 o1 e1 (s.mono e1)⟩
def dRet (d : DE) : DS := fun D S M => d S M D.rt
theorem qs_ret (he : QE X e te de) : QS X (.Return (some e) pos) (tRet te) (dRet de) := ⟨ps_ret he.p, fun D S M p G σ H o s D' k => he.r S M _ p G σ H o s _ k.rt⟩
def dRetN : DS := fun D _ M => D.rt .non M
theorem qs_retN : QS X (.Return none pos) tRetN dRetN := ⟨ps_retN, fun D S M p G σ H o s D' k => k.rt .non M .non G H p o (Same.refl _) .non⟩
def dIfS (c : DT) (t u : DS) : DS := fun D S M => c S M fun b M1 => if b = true then t D S M1 else u D S M1
theorem qs_if {a b : List Stmt} {tc : TT} {dc : DT} (hc : QT X c tc dc) (ha : QSs X a t1 d1) (hb : QSs X b t2 d2) : QS X (.If c a b pos) (tIfS tc t1 t2) (dIfS dc d1 d2) :=
  ⟨ps_if hc.p ha.p hb.p, fun D S M p G σ H o s D' k => hc.r S M _ p G σ H o s _ fun b M1 G1 H1 p1 o1 e1 => by
    cases b with
    | true => exact ha.r D S M1 p1 G1 σ H1 o1 (s.mono e1) D' (k.mono e1)
    | false => exact hb.r D S M1 p1 G1 σ H1 o1 (s.mono e1) D' (k.mono e1)⟩
def dAsg (d : DE) (g : DG) : DS := fun D S M => d S M fun x M1 => g x S M1 D.nx
theorem rs_asg {g : TG} {dg : DG} (he : RE K te de) (hg : RG K g dg) : RS K (tAsg te g) (dAsg de dg) := fun D S M p G σ H o s D' k =>
  he S M _ p G σ H o s _ fun x M1 v G1 H1 p1 o1 e1 r1 => hg x S M1 _ p1 G1 v σ H1 o1 (s.mono e1) r1 _ (k.nx.mono e1)
theorem qs_asg {tg : Expr} {g : TG} {dg : DG} (he : QE X e te de) (hg : QG X tg g dg) (hs : swapsWithSole [tg] e pos.line X.env = pure false := by rfl) (hw : swappedStores [tg] e X.env = pure none := by rfl)
    (h1 : (assignEach [tg] X.env).map (·.2) = [assign tg X.env] := by rfl) : QS X (.Assign [tg] e pos) (tAsg te g) (dAsg de dg) :=
  ⟨ps_asg he.p hg.p hs hw h1, rs_asg he.r hg.r⟩
theorem qs_set {x : Str} {pos' : Pos} (i : Nat) (hN : X.N.Nodup) (he : QE X e te de) (hi : X.N[i]? = some x := by rfl) (hx : Loc X.env.scope x := by first | exact Or.inl rfl | exact Or.inr rfl) (hs : swapsWith e (some (.Name x pos')) pos.line X.env = pure false := by rfl) (hf : X.fn x = true ∨ X.env.scope.names.lookup x = some .local := by first | exact .inl rfl | exact .inr rfl | assumption) :
    QS X (.Assign [.Name x pos'] e pos) (tAsg te (gName i)) (dAsg de (dgName i)) := ⟨ps_set hN hi hx he.p hs hf, rs_asg he.r rg_name⟩
def dPar (i j : Nat) (d : DA) : DS := fun D S M => d S M fun xs M1 => ∃ x y, xs = [x, y] ∧ D.nx ((S.set i (some x)).set j (some y)) M1
theorem rs_par {i j : Nat} {ta : TA} {da : DA} (h : RA K ta da) : RS K (tPar i j ta) (dPar i j da) := fun D S M p G σ H o s D' k =>
  h S M _ p G σ H o s _ fun xs M1 vs G1 H1 ⟨x, y, e, p1⟩ o1 e1 r1 => by
    subst e
    obtain ⟨v, u, rfl, r, r'⟩ := vall2 r1
    exact ⟨v, u, rfl, k.nx _ M1 _ G1 H1 p1 o1 e1 (((s.mono e1).set r i).set r' j)⟩
/-! stores into lists -/
def dgSubL (do_ di : DE) : DG := fun v S M P => do_ S M fun x M1 => di S M1 fun y M2 => ∃ p xs k j, x = .loc p ∧ y = .int k ∧ M2 p = some (.lst xs) ∧ ixN xs.length k = some j ∧ P S (M2.up p (.lst (xs.set j v)))
theorem rg_subL {to ti : TE} {do_ di : DE} (ho : RE K to do_) (hi : RE K ti di) : RG K (gSub to ti rSetL) (dgSubL do_ di) := fun v S M P p G w σ H o s r Q k =>
  ho S M _ p G σ H o s _ fun x M1 u G1 H1 p1 o1 e1 r1 => hi S M1 _ p1 G1 σ H1 o1 (s.mono e1) _ fun y M2 z G2 H2 ⟨q, xs, n, j, ex, ey, h, hj, p2⟩ o2 e2 r2 => by
    subst ex; subst ey
    cases r1; cases r2
    obtain ⟨vs, e3, a, g⟩ := cell_lst o2 h
    exact ⟨q, vs, n, j, rfl, rfl, e3, by rw [← a.length]; exact hj, k _ _ σ G2 _ p2 (o2.putL g (a.set j (r.mono (e1.trans e2)))) (e1.trans e2) (s.mono (e1.trans e2))⟩
theorem qg_subL {o i : Expr} {to ti : TE} {do_ di : DE} (ho : QE X o to do_) (hi : QE X i ti di)
    (ha : ∀ v, assign (.Subscript o i pos) X.env v = (do
      let ov ← holding [v] (eval o X.env)
      let iv ← holding [v, ov] (eval i X.env)
      standAt pos
      holding [v, ov, iv] (setItem ov iv v)
      release [v, ov, iv] []) := by intro _; rfl) : QG X (.Subscript o i pos) (gSub to ti rSetL) (dgSubL do_ di) := ⟨pg_sub ho.p hi.p set_list ha, rg_subL ho.r hi.r⟩
/-! methods of lists -/
def dAppend (do_ da : DE) : DE := fun S M P => do_ S M fun x M1 => (∃ ys, lstOf M1 x = some ys) ∧ da S M1 fun y M2 => ∃ p xs, x = .loc p ∧ M2 p = some (.lst xs) ∧ xs.length < 100000 ∧ P .non (M2.up p (.lst (xs ++ [y])))
theorem re_append {to ta : TE} {do_ da : DE} (ho : RE K to do_) (ha : RE K ta da) : RE K (tBM K "list" rAppend to (tCons ta tNil)) (dAppend do_ da) := fun S M P p G σ H o s Q k =>
  ho S M _ p G σ H o s _ fun x M1 u G1 H1 ⟨⟨ys, hy⟩, p1⟩ o1 e1 r1 => by
    obtain ⟨a, vs, rfl, sq, _⟩ := lst_sq o1 r1 hy
    refine ⟨.inl ⟨rfl, vs, sq⟩, ?_⟩
    refine ha S M1 _ p1 G1 σ H1 o1 (s.mono e1) _ fun y M2 z G2 H2 ⟨q, xs, ex, h, hl, p2⟩ o2 e2 r2 => ?_
    subst ex
    have ea : a = q := by cases r1; rfl
    subst ea
    obtain ⟨vs, e3, al, g⟩ := cell_lst o2 h
    exact ⟨a, vs, z, rfl, rfl, e3, by rw [← al.length]; exact lt_line hl, k _ _ _ G2 _ p2 (o2.putL g (al.append (.one r2))) (e1.trans e2) .non⟩
theorem qe_append {o a : Expr} {to ta : TE} {do_ da : DE} {apos : Pos} (ho : QE X o to do_) (ha : QE X a ta da) (hbase : attributeBase o "append" X.env (eval o X.env) = eval o X.env := by rfl) (hline : (apos.endLine == pos.line) = true := by rfl)
    (hfew : ((backTo pos (starEach [a] X.env)).all (fun x => !x.1) && (backToKw pos (keywordEach [] X.env)).all (fun x => x.1.isSome)
      && decide (([a] : List Expr).length + ([] : List Keyword).length + (if ([] : List Keyword).isEmpty then 0 else 1) < 30)) = true := by rfl)
    (hs : starEach [a] X.env = (false, eval a X.env) :: starEach [] X.env := by rfl) (hplain : (backTo pos (starEach [] X.env)).any (·.1) = false := by rfl) :
    QE X (.Call (.Attribute o "append" apos) [a] [] pos) (tBM X.K "list" rAppend to (tCons ta tNil)) (dAppend do_ da) :=
  ⟨pe_bm PySem.F.plainAttrs_list PySem.F.slot_list_append PySem.F.type_list_append mt_append ho.p (pa_cons ha.p pa_nil hs) hbase hfew hline hs hplain, re_append ho.r ha.r⟩
def dPop (do_ : DE) : DE := fun S M P => do_ S M fun x M1 => ∃ p xs y, x = .loc p ∧ M1 p = some (.lst xs) ∧ xs[xs.length - 1]? = some y ∧ P y (M1.up p (.lst xs.dropLast))
theorem re_pop {to : TE} {do_ : DE} (ho : RE K to do_) : RE K (tBM0 K "list" rPop to) (dPop do_) := fun S M P p G σ H o s Q k =>
  ho S M _ p G σ H o s _ fun x M1 u G1 H1 ⟨q, xs, y, ex, h, hy, p1⟩ o1 e1 r1 => by
    subst ex
    cases r1
    obtain ⟨vs, e3, a, g⟩ := cell_lst o1 h
    obtain ⟨w, hw, rw'⟩ := a.get hy
    refine ⟨.inl ⟨rfl, vs, .inl (.inl e3)⟩, q, vs, w, rfl, rfl, e3, by rw [← a.length]; exact hw, ?_⟩
    exact k _ _ _ G1 _ p1 (o1.putL g a.dropLast) e1 rw'
theorem qe_pop {o : Expr} {to : TE} {do_ : DE} {apos : Pos} (ho : QE X o to do_) (hbase : attributeBase o "pop" X.env (eval o X.env) = eval o X.env := by rfl) (hline : (apos.endLine == pos.line) = true := by rfl) :
    QE X (.Call (.Attribute o "pop" apos) [] [] pos) (tBM0 X.K "list" rPop to) (dPop do_) := ⟨pe_bm0 PySem.F.plainAttrs_list PySem.F.slot_list_pop PySem.F.type_list_pop mt_pop ho.p hbase hline, re_pop ho.r⟩
/-! xs[::-1] -/
def dRevL (d : DE) : DE := fun S M P => d S M fun x M1 => ∃ xs, lstOf M1 x = some xs ∧ ∀ p, M1 p = none → P (.loc p) (M1.up p (.lst xs.reverse))
theorem qe_revL {k : Nat} {p1 p2 p3 : Pos} (he : QE X e te de) : QE X (.Subscript e (.Slice none none (some (.UnaryOp .USub (.Constant (.int 1) k p1) p2)) p3) pos) (tRevL X.K te) (dRevL de) :=
  ⟨pe_revL he.p, fun S M P p G σ H o s Q k => he.r S M _ p G σ H o s _ fun x M1 v G1 H1 ⟨xs, hx, q⟩ o1 e1 r1 => by
    obtain ⟨a, vs, rfl, sq, al⟩ := lst_sq o1 r1 hx
    exact ⟨a, vs, rfl, sq, fun p hp => k _ _ _ G1 _ (q p (o1.free hp).1) (o1.putL (o1.free hp).2 al.reverse) e1 (.loc p)⟩⟩
/-! ### while -/
def dWhile (c : DT) (b : DS) : DS := fun D S M => ∃ W : Nat → Sl → Mem → Prop, (∃ m, W m S M) ∧ ∀ m S M, W m S M →
  c S M fun k M1 => if k = true then b { D with nx := fun S' M' => ∃ m', m' < m ∧ W m' S' M', ct := fun S' M' => ∃ m', m' < m ∧ W m' S' M', bk := D.nx } S M1 else D.nx S M1
theorem rs_while {tc : TT} {dc : DT} (hc : RT K tc dc) (hb : RS K t1 d1) : RS K (tWhile tc t1) (dWhile dc d1) := by
  intro D S M ⟨W, ⟨m0, w0⟩, hW⟩ G σ H o s D' k
  refine ⟨fun m σ H => ∃ G2 S2 M2, Same G G2 ∧ Ok K G2 H M2 ∧ SlOk K G2 S2 σ ∧ W m S2 M2, ⟨m0, G, S, M, Same.refl _, o, s, w0⟩, ?_⟩
  rintro m σ H ⟨G2, S2, M2, e2, o2, s2, w2⟩
  refine hc S2 M2 _ (hW m S2 M2 w2) G2 σ H o2 s2 _ fun b M3 G3 H3 p3 o3 e3 => ?_
  cases b with
  | false => exact k.nx S2 M3 σ G3 H3 p3 o3 (e2.trans e3) (s2.mono e3)
  | true =>
    refine ⟨fun σ H => ∃ m', m' < m ∧ ∃ G2 S2 M2, Same G G2 ∧ Ok K G2 H M2 ∧ SlOk K G2 S2 σ ∧ W m' S2 M2, fun _ _ q => q, ?_⟩
    have again : KontS K G3 (fun S' M' => ∃ m', m' < m ∧ W m' S' M') (fun σ H => ∃ m', m' < m ∧ ∃ G2 S2 M2, Same G G2 ∧ Ok K G2 H M2 ∧ SlOk K G2 S2 σ ∧ W m' S2 M2) :=
      fun S4 M4 σ4 G4 H4 ⟨m', l, w4⟩ o4 e4 s4 => ⟨m', l, G4, S4, M4, (e2.trans e3).trans e4, o4, s4, w4⟩
    exact hb _ S2 M3 p3 G3 σ H3 o3 (s2.mono e3) _ ⟨again, k.rt.mono (e2.trans e3), k.nx.mono (e2.trans e3), again⟩
theorem qs_while {body : List Stmt} {tc : TT} {dc : DT} (hp : PassesOwn (model X.prog X.w) X.A X.env X.xe) (hc : QT X c tc dc) (hb : QSs X body t1 d1) : QS X (.While c body [] pos) (tWhile tc t1) (dWhile dc d1) := ⟨ps_while hp hc.p hb.p, rs_while hc.r hb.r⟩
end
/-! ### what is walked -/
abbrev DI := Sl → Mem → (List DV → (Mem → Prop) → Mem → Prop) → Prop
def WalkD (K : PySem.W.Frag) (G' : Hp) (J : It) (xs : List DV) (C : Mem → Prop) : Prop := ∃ (Gd : Hp → Prop) (Y : Nat → Hp → V → Hp → Prop), Walk J xs.length Gd Y ∧
  (∀ G2 H2 M2, Same G' G2 → Ok K G2 H2 M2 → C M2 → Gd H2) ∧
  (∀ i v G2 H2 M2 H3, i < xs.length → Same G' G2 → Ok K G2 H2 M2 → C M2 → Y i H2 v H3 → ∃ G3 x, Ok K G3 H3 M2 ∧ Same G2 G3 ∧ xs[i]? = some x ∧ VRel K G3 x v)
def RI (K : PySem.W.Frag) (wi : TI) (di : DI) : Prop := ∀ S M P, di S M P → ∀ G σ H, Ok K G H M → SlOk K G S σ → ∀ R : It → Hp → Prop,
  (∀ xs C M' G' H' J, P xs C M' → Ok K G' H' M' → Same G G' → WalkD K G' J xs C → R J H') → wi σ H R
structure QI (X : Cx) (tg iter : Expr) (wi : TI) (di : DI) : Prop where
  p : PI X tg iter wi
  r : RI X.K wi di
/-- a for loop, by a word over what is left, the slots and the store -/
def dFor (di : DI) (dg : DG) (db : DS) : DS := fun D S M => di S M fun xs C M1 => ∃ I : List DV → Sl → Mem → Prop, I xs S M1 ∧ (∀ S2 M2, I [] S2 M2 → C M2 ∧ D.nx S2 M2) ∧
  ∀ x r S2 M2, I (x :: r) S2 M2 → C M2 ∧ dg x S2 M2 fun S3 M3 => db { nx := I r, ct := I r, bk := D.nx, rt := D.rt } S3 M3
theorem rs_for {wi : TI} {di : DI} {g : TG} {dg : DG} {tb : TS} {db : DS} (hi : RI K wi di) (hg : RG K g dg) (hb : RS K tb db) : RS K (tFor wi g tb) (dFor di dg db) := by
  intro D S M p G σ H o s D' k
  refine hi S M _ p G σ H o s _ fun xs C M1 G1 H1 J ⟨I, p1, i0, i1⟩ o1 e1 ⟨Gd, Y, w, hG, hY⟩ => ?_
  have inC : ∀ l S2 M2, I l S2 M2 → C M2 := fun l S2 M2 h => by
    cases l with
    | nil => exact (i0 S2 M2 h).1
    | cons x r => exact (i1 x r S2 M2 h).1
  refine for_it w (fun i σ H => ∃ G2 S2 M2, Same G1 G2 ∧ Ok K G2 H M2 ∧ SlOk K G2 S2 σ ∧ I (xs.drop i) S2 M2) ⟨G1, S, M1, Same.refl _, o1, s.mono e1, p1⟩
    (fun i σ H hi ⟨G2, S2, M2, e2, o2, s2, p2⟩ => hG G2 H M2 e2 o2 (inC _ _ _ p2)) ?_ ?_
  · rintro i v σ H H3 hi ⟨G2, S2, M2, e2, o2, s2, p2⟩ y
    obtain ⟨G3, x, o3, e3, hx, r3⟩ := hY i v G2 H M2 H3 hi e2 o2 (inC _ _ _ p2) y
    have hd : xs.drop i = x :: xs.drop (i + 1) := by
      rw [List.drop_eq_getElem_cons hi]
      rw [List.getElem?_eq_getElem hi] at hx
      rw [Option.some.inj hx]
    rw [hd] at p2
    refine hg x S2 M2 _ (i1 _ _ _ _ p2).2 G3 v σ H3 o3 (s2.mono e3) r3 _ fun S4 M4 σ4 G4 H4 p4 o4 e4 s4 => ?_
    have again : KontS K G4 (I (xs.drop (i + 1))) (fun σ H => ∃ G2 S2 M2, Same G1 G2 ∧ Ok K G2 H M2 ∧ SlOk K G2 S2 σ ∧ I (xs.drop (i + 1)) S2 M2) :=
      fun S5 M5 σ5 G5 H5 p5 o5 e5 s5 => ⟨G5, S5, M5, ((e2.trans e3).trans e4).trans e5, o5, s5, p5⟩
    have kk := k.mono (e1.trans ((e2.trans e3).trans e4))
    exact hb _ S4 M4 p4 G4 σ4 H4 o4 s4 _ ⟨again, kk.rt, kk.nx, again⟩
  · rintro σ H ⟨G2, S2, M2, e2, o2, s2, p2⟩
    rw [List.drop_length] at p2
    exact k.nx S2 M2 σ G2 H (i0 _ _ p2).2 o2 (e1.trans e2) s2
theorem qs_for {tg iter : Expr} {body : List Stmt} {wi : TI} {di : DI} {g : TG} {dg : DG} {tb : TS} {db : DS} {pos : Pos} (hp : PassesOwn (model X.prog X.w) X.A X.env X.xe) (hc : X.calm = true) (hi : QI X tg iter wi di) (hg : QG X tg g dg) (hb : QSs X body tb db)
    (hs : ∀ x, foldedSetIterable iter X.env x = pure x := by intro _; rfl) : QS X (.For tg iter body [] pos) (tFor wi g tb) (dFor di dg db) := ⟨ps_for hp hc hi.p hg.p hb.p hs, rs_for hi.r hg.r hb.r⟩
/-! comprehensions -/
/-- a comprehension: a word over what is left, what is made and the store -/
def dLc (di : DI) (dg : DG) (dt : DT) (de : DE) (vs : List Nat) : DE := fun S M P => di S M fun xs C M1 => ∀ D, M1 D = none → ∃ I : List DV → List DV → Mem → Prop, I xs [] (M1.up D (.lst [])) ∧
  (∀ acc M2, I [] acc M2 → C M2 ∧ P (.loc D) M2) ∧
  ∀ x r acc M2, I (x :: r) acc M2 → C M2 ∧ dg x (wipeD S vs) M2 fun S3 M3 => dt S3 M3 fun b M4 => if b = true then de S3 M4 fun y M5 => M5 D = some (.lst acc) ∧ acc.length < 100000 ∧ I r (acc ++ [y]) (M5.up D (.lst (acc ++ [y]))) else I r acc M4
/-- the target's slots are the block's own -/
def WG (g : TG) (vs : List Nat) : Prop := ∀ (v : V) (σ : L2.St) (H : Hp) (Q : L2.St → Hp → Prop), g v (L2.wipe σ vs) H Q → g v (L2.wipe σ vs) H (fun σ2 H2 => L2.wipe σ2 vs = L2.wipe σ vs ∧ Q σ2 H2)
theorem re_lc {wi : TI} {di : DI} {g : TG} {dg : DG} {tt : TT} {dt : DT} {te : TE} {de : DE} {vs : List Nat} (hi : RI K wi di) (hg : RG K g dg) (hw : WG g vs) (ht : RT K tt dt) (he : RE K te de) : RE K (tLc wi g tt te vs) (dLc di dg dt de vs) := by
  intro S M P p G σ H o s Q k
  refine hi S M _ p G σ H o s _ fun xs C M1 G1 H1 J p1 o1 e1 ⟨Gd, Y, w, hG, hY⟩ => fun D hD => ?_
  obtain ⟨m0, g0⟩ := o1.free hD
  obtain ⟨I, q0, i0, i1⟩ := p1 D m0
  have inC : ∀ l acc M2, I l acc M2 → C M2 := fun l acc M2 h => by
    cases l with
    | nil => exact (i0 acc M2 h).1
    | cons x r => exact (i1 x r acc M2 h).1
  have sw := (s.mono e1).wipe vs
  refine lc_it w (fun i H => ∃ G2 M2 acc, Same G1 G2 ∧ Ok K G2 H M2 ∧ I (xs.drop i) acc M2) ⟨G1, _, [], Same.refl _, o1.putL g0 .nil, q0⟩
    (fun i H hi ⟨G2, M2, acc, e2, o2, p2⟩ => hG G2 H M2 e2 o2 (inC _ _ _ p2)) ?_ ?_
  · rintro i v H H3 hi ⟨G2, M2, acc, e2, o2, p2⟩ y
    obtain ⟨G3, x, o3, e3, hx, r3⟩ := hY i v G2 H M2 H3 hi e2 o2 (inC _ _ _ p2) y
    have hd : xs.drop i = x :: xs.drop (i + 1) := by
      rw [List.drop_eq_getElem_cons hi]
      rw [List.getElem?_eq_getElem hi] at hx
      rw [Option.some.inj hx]
    rw [hd] at p2
    refine hw v σ H3 _ (hg x _ M2 _ (i1 _ _ _ _ p2).2 G3 v _ H3 o3 (sw.mono (e2.trans e3)) r3 _ fun S4 M4 σ4 G4 H4 p4 o4 e4 s4 => ?_)
    refine ht S4 M4 _ p4 G4 σ4 H4 o4 s4 _ fun b M5 G5 H5 p5 o5 e5 => ?_
    cases b with
    | false => exact ⟨G5, M5, acc, ((e2.trans e3).trans e4).trans e5, o5, p5⟩
    | true =>
      refine he S4 M5 _ p5 G5 σ4 H5 o5 (s4.mono e5) _ fun z M6 u G6 H6 ⟨hm, hl, p6⟩ o6 e6 r6 => ?_
      obtain ⟨vs', e7, a7, g7⟩ := cell_lst o6 hm
      exact ⟨vs', e7, by rw [← a7.length]; exact lt_line hl, G6, _, _, (((e2.trans e3).trans e4).trans e5).trans e6, o6.putL g7 (a7.append (.one r6)), p6⟩
  · rintro H ⟨G2, M2, acc, e2, o2, p2⟩
    rw [List.drop_length] at p2
    exact k (.loc D) M2 (.ref D) G2 H (i0 _ _ p2).2 o2 (e1.trans e2) (.loc D)
theorem set_set' {α : Type} (l : List α) (i : Nat) (a b : α) : (l.set i a).set i b = l.set i b := by
  apply List.ext_getElem? ; intro j
  by_cases h : i = j
  · subst h; simp [List.getElem?_set]
  · simp [List.getElem?_set, h]
theorem wg_name {i : Nat} : WG (gName i) [i] := fun v σ H Q h => by
  refine ⟨?_, h⟩
  show ((σ.set i none).set i (some v)).set i none = σ.set i none
  rw [set_set', set_set']
theorem wg_tup2 {K : PySem.W.Frag} {i j : Nat} : WG (gTup K 2 (gCons (gName i) (gCons (gName j) gNil))) [i, j] := fun v σ H Q ⟨a, xs, e1, e2, e3, x, r, e4, y, r2, e5, e6, q⟩ => by
  refine ⟨a, xs, e1, e2, e3, x, r, e4, y, r2, e5, e6, ?_, q⟩
  show ((((((σ.set j none).set i none).set i (some x)).set j (some y)).set j none).set i none) = (σ.set j none).set i none
  apply List.ext_getElem? ; intro k
  by_cases h1 : i = k <;> by_cases h2 : j = k <;> simp [List.getElem?_set, h1, h2]
def dYes : DT := fun _ M P => P true M
theorem rt_yes : RT K tYes dYes := fun S M P p G σ H o s Q k => k true M G H p o (Same.refl _)
structure QTs (X : Cx) (ifs : List Expr) (tt : TT) (dt : DT) : Prop where
  p : PTs X ifs tt
  r : RT X.K tt dt
theorem qts_nil : QTs X [] tYes dYes := ⟨pts_nil, rt_yes⟩
theorem qts_one {c : Expr} {t : TT} {d : DT} (h : QT X c t d) : QTs X [c] t d := ⟨pts_one h.p, h.r⟩
theorem qe_lc {elt tg iter : Expr} {ifs : List Expr} {scope : Scope} {own : List (Str × Nat)} {pos : Pos} {wi : TI} {di : DI} {g : TG} {dg : DG} {tt : TT} {dt : DT} {te : TE} {de : DE} (hc : X.calm = true) (hN : X.N.Nodup) (hi : QI X tg iter wi di) (ok : BlkOk X.N X.env.scope scope own)
    (hw : WG g (own.map (·.2)))
    (hg : ∀ (s : Shared) (H : Hp) (C : Addr) (cl : List (Str × Addr)) (fp : List Addr), QG (X.blk s H scope (compEnvC scope cl C X.env) fp) tg g dg)
    (ht : ∀ (s : Shared) (H : Hp) (C : Addr) (cl : List (Str × Addr)) (fp : List Addr), QTs (X.blk s H scope (compEnvC scope cl C X.env) fp) ifs tt dt)
    (he : ∀ (s : Shared) (H : Hp) (C : Addr) (cl : List (Str × Addr)) (fp : List Addr), QE (X.blk s H scope (compEnvC scope cl C X.env) fp) elt te de)
    (hs : ∀ x, foldedSetIterable iter X.env x = pure x := by intro _; rfl) :
    QE X (.ListComp elt [⟨tg, iter, ifs, 0⟩] scope pos) (tLc wi g tt te (own.map (·.2))) (dLc di dg dt de (own.map (·.2))) :=
  ⟨pe_lc hc hN hi.p ok (fun a b c d e => (hg a b c d e).p) (fun a b c d e => (ht a b c d e).p) (fun a b c d e => (he a b c d e).p) hs,
    re_lc hi.r (hg X.s_0 (fun _ => none) 0 [] []).r hw (ht X.s_0 (fun _ => none) 0 [] []).r (he X.s_0 (fun _ => none) 0 [] []).r⟩
end
end DL
/-! DL4 -/
set_option Elab.async false
set_option linter.all false
set_option maxRecDepth 100000
set_option maxHeartbeats 4000000
namespace DL
open PySem L2 RZ PyProof.Rows
/-! ### defs: promises by data -/
abbrev PX := Value → DV → Mem → Prop
abbrev FS := List DV → Mem → PV → PX → Prop
def KontX (K : PySem.W.Frag) (G : Hp) (Pe : PX) (E : XK) : Prop := ∀ cls x M' G' H' d v, Pe cls x M' → Ok K G' H' M' → Same G G' → VRel K G' x v → H' d = some (.xd [(("value" : Str), v)]) → E cls (some d) H'
def lift (K : PySem.W.Frag) (fs : FS) : Sp := fun vs H Q E => ∃ G M xs P Pe, Ok K G H M ∧ VAll K G xs vs ∧ fs xs M P Pe ∧ KontV K G P Q ∧ KontX K G Pe E
abbrev PX0 : PX := fun _ _ _ => False
def startD (N : List Str) (xs : List DV) : Sl := xs.map some ++ List.replicate (N.length - xs.length) none
theorem slOk_start {K : PySem.W.Frag} {G : Hp} {N : List Str} {xs : List DV} {vs : List V} (a : VAll K G xs vs) : SlOk K G (startD N xs) (L2.start N vs) := by
  unfold startD L2.start
  refine ⟨by simp [a.length], fun i x q => ?_⟩
  by_cases h : i < xs.length
  · rw [List.getElem?_append_left (by simpa using h)] at q
    rw [List.getElem?_map] at q
    cases e : xs[i]? with
    | none => rw [e] at q; cases q
    | some y =>
      rw [e] at q
      cases q
      obtain ⟨v, hv, r⟩ := a.get e
      exact ⟨v, by rw [List.getElem?_append_left (by simp; rw [← a.length]; exact h), List.getElem?_map, hv]; rfl, r⟩
  · rw [List.getElem?_append_right (by simpa using Nat.le_of_not_lt h)] at q
    exfalso
    rw [List.getElem?_replicate] at q
    split at q <;> cases q
section
variable {P : Program} {w : World} {K : PySem.W.Frag} {mg : Str → Option Value} {base : Heap}
/-- a def keeps its promise: its body's reading by data, and that the promise gives it -/
theorem okD {x qual : Str} {st : Stmt} {f : Addr} {fd : FuncData} {N ps : List Str} {k : Nat} {fs : FS} (F : Fun K x qual st f fd) (S : FnScope N ps (defScope st)) (len : ∀ xs M P Pe, fs xs M P Pe → xs.length = ps.length)
    (hbody : ∀ (cdv : Value) (A : Around) (outer : List Env) (s : Shared) (H : Hp) (E : XK), Room k (A.deeper (envOfC qual (defScope st) s.heap.objs.size f cdv)) →
      ∃ t d, QSs (cxOf CX0 P w K mg base N qual (defScope st) f cdv A outer s H E).nox (defBody st) t d ∧ ∀ xs M P Pe, fs xs M P Pe → d { nx := fun _ M' => P .non M', rt := P } (startD N xs) M) :
    FnOk P w K mg base CX0 (k + 1) f fd ps (lift K fs) := by
  refine F.ok S (fun vs H Q E h => ?_) (fun cdv A outer s H vs Q E hr h => ?_)
  · obtain ⟨G, M, xs, P, Pe, o, a, h, _⟩ := h
    rw [← a.length]; exact len xs M P Pe h
  · obtain ⟨G, M, xs, P, Pe, o, a, h, kv, kx⟩ := h
    obtain ⟨t, d, q, r⟩ := hbody cdv A outer s H E hr
    refine ⟨t, q.p, ?_⟩
    exact q.r _ _ M (r xs M P Pe h) G _ H o (slOk_start a) _ ⟨fun S' M' σ' G' H' p o' e s' => kv .non M' .non G' H' p o' e .non, kv, fun _ _ _ _ _ p => p.elim, fun _ _ _ _ _ p => p.elim⟩
end
section
variable {K : PySem.W.Frag} {G G' H : Hp} {M : Mem} {X : Cx} {e : Expr} {es : List Expr} {kws : List Keyword} {te : TE} {de : DE} {t tk : TA} {d dk : DA} {pos p : Pos} {x : Str}
def dCall (fs : FS) (Pe : PX) (d : DA) : DE := fun S M P => d S M fun xs M1 => fs xs M1 P Pe
theorem re_call {fs : FS} {Pe : PX} {E : XK} (kx : ∀ G, KontX K G Pe E) (h : RA K t d) : RE K (tCall (lift K fs) [] E t) (dCall fs Pe d) := fun S M P p G σ H o s Q k =>
  h S M _ p G σ H o s _ fun xs M1 vs G1 H1 p1 o1 e1 r1 => ⟨G1, M1, xs, P, Pe, o1, by rw [List.append_nil]; exact r1, p1, k.mono e1, kx G1⟩
theorem kx0 : ∀ G, KontX K G PX0 E0 := fun _ _ _ _ _ _ _ _ p => p.elim
section
variable {CX : CXT} {k : Nat} {f : Addr} {fd : FuncData} {ps : List Str} {fs : FS}
theorem qe_call (F : FnOk X.prog X.w X.K X.mg X.base CX0 k f fd ps (lift X.K fs)) (hr : Room k X.A) (hg : Gl X x) (hm : X.mg x = some (.ref f)) (hk : PySem.W.keepIn X.K (.ref f) = true) (hb : Binds X.K fd ps [])
    (ha : QA X (e :: es) t d) (hdb : (x == ("__debug__" : Str)) = false := by decide) (he : starEach (e :: es) X.env = (false, eval e X.env) :: starEach es X.env := by rfl) (hpl : (backTo pos (starEach es X.env)).any (·.1) = false := by rfl) :
    QE X (.Call (.Name x p) (e :: es) [] pos) (tCall (lift X.K fs) [] E0 t) (dCall fs PX0 d) := ⟨pe_call F hr hg hm hk hb .nil pass0 ha.p hdb he hpl, re_call kx0 ha.r⟩
/-! keywords -/
def pick {α : Type} (π : List Nat) (us ws : List α) : List α := us ++ π.filterMap fun i => ws[i]?
theorem pickR {vs zs : List V} {us ws : List Value} (r : Vals vs us) (rz : Vals zs ws) : ∀ π : List Nat, Vals (pick π vs zs) (pick π us ws) := fun π => by
  refine r.append ?_
  induction π with
  | nil => exact .nil
  | cons i π ih =>
    rw [List.filterMap_cons, List.filterMap_cons]
    cases e : zs[i]? with
    | none => rw [rz.none_of e]; exact ih
    | some z =>
      obtain ⟨u, h1, h2⟩ := rz.get e
      rw [h1]
      exact .cons h2 ih
theorem pickD {xs zs : List DV} {us ws : List V} (r : VAll K G xs us) (rz : VAll K G zs ws) : ∀ π : List Nat, VAll K G (pick π xs zs) (pick π us ws) := fun π => by
  refine r.append ?_
  induction π with
  | nil => exact .nil
  | cons i π ih =>
    rw [List.filterMap_cons, List.filterMap_cons]
    cases e : zs[i]? with
    | none =>
      have : ws[i]? = none := List.getElem?_eq_none_iff.mpr (by rw [← rz.length]; exact List.getElem?_eq_none_iff.mp e)
      rw [this]; exact ih
    | some z =>
      obtain ⟨u, h1, h2⟩ := rz.get e
      rw [h1]
      exact .cons h2 ih
theorem Fun.kbn {K : PySem.W.Frag} {x qual : Str} {st : Stmt} {f : Addr} {fd : FuncData} {ps : List Str} (F : Fun K x qual st f fd) (n : Nat) (ks : List Str) (π : List Nat)
    (h : ∀ (kV doc pm : Value) (an : Option Addr) (cdv ct : Value) (us ws : List Value), us.length = n → ws.length = ks.length → bindArgs (PySem.W.fnOf x qual (defArgs st) (defBody st) (defScope st) .none kV doc pm an cdv ct) ⟨us, ks.zip ws⟩ = pure (ps.zip (pick π us ws))) :
    KBn K fd ps n ks (pick π) (pick π) := by
  obtain ⟨oc, od, kV, doc, pm, an, cdv, ct, osl, rfl, lk, hcd⟩ := F.ex
  exact ⟨fun s us ws _ l1 l2 => .of_eq (h kV doc pm an cdv ct us ws l1 l2), fun r rz => pickR r rz π⟩
theorem pe_callN0 {ks : List Str} {g : List Value → List Value → List Value} {gV : List V → List V → List V} {sp : Sp} {E : XK} (F : FnOk X.prog X.w X.K X.mg X.base CX k f fd ps sp) (hr : Room k X.A) (hg : Gl X x) (hm : X.mg x = some (.ref f)) (hk : PySem.W.keepIn X.K (.ref f) = true) (hb : KBn X.K fd ps 0 ks g gV) (hx : Passes CX X E)
    (hkw : PK X kws tk) (hall : (backToKw pos (keywordEach kws X.env)).all (·.1.isSome) = true := by rfl) (hks : (backToKw pos (keywordEach kws X.env)).filterMap (·.1) = ks := by rfl)
    (hdb : (x == ("__debug__" : Str)) = false := by decide)
    (hpl : ((backTo pos (starEach [] X.env)).any (·.1) || (backToKw pos (keywordEach kws X.env)).any (·.1.isNone)) = false := by rfl) :
    PE X (.Call (.Name x p) [] kws pos) (tCallN 0 ks.length sp gV E tNil tk) := by
  refine ⟨fun pins s σ H Q I h => ?_⟩
  refine wpAny_Call_Name_kw (ld_glob I hg hm ?_ hdb)
  refine PySem.W.callWith_KW0 (h₀ := X.base) I.ok.mod.kin hk hall ?_ hpl
  refine thn (hkw.run pos pins s σ H _ I h) fun ws s2 ⟨zs, H2, I2, rz, l1, l2, q2⟩ => ⟨I2.kIn, ?_⟩
  rw [hks]
  exact run_fnN (us := []) F hr hb hx I2 .nil rz l1 l2 q2
structure QK (X : Cx) (kws : List Keyword) (t : TA) (d : DA) : Prop where
  p : PK X kws t
  r : RA X.K t d
theorem qk_nil : QK X [] tNil dNil := ⟨pk_nil, (qa_nil (X := X)).r⟩
theorem qk_cons {nm : Option Str} {kpos : Pos} (ha : QE X e te de) (hr : QK X kws t d) : QK X (⟨nm, e, kpos⟩ :: kws) (tCons te t) (dCons de d) := ⟨pk_cons ha.p hr.p, re_cons ha.r hr.r⟩
def dCallN (n m : Nat) (fs : FS) (π : List Nat) (Pe : PX) (d dk : DA) : DE := fun S M P => d S M fun xs M1 => dk S M1 fun zs M2 => xs.length = n ∧ zs.length = m ∧ fs (pick π xs zs) M2 P Pe
theorem re_callN {n m : Nat} {π : List Nat} {Pe : PX} {E : XK} (kx : ∀ G, KontX K G Pe E) (h : RA K t d) (hk : RA K tk dk) : RE K (tCallN n m (lift K fs) (pick π) E t tk) (dCallN n m fs π Pe d dk) := fun S M P p G σ H o s Q k =>
  h S M _ p G σ H o s _ fun xs M1 vs G1 H1 p1 o1 e1 r1 => hk S M1 _ p1 G1 σ H1 o1 (s.mono e1) _ fun zs M2 us G2 H2 ⟨l1, l2, p2⟩ o2 e2 r2 =>
    ⟨by rw [← r1.length]; exact l1, by rw [← r2.length]; exact l2, G2, M2, _, P, Pe, o2, pickD (r1.mono e2) r2 π, p2, k.mono (e1.trans e2), kx G2⟩
theorem qe_callN {n : Nat} {ks : List Str} {π : List Nat} (F : FnOk X.prog X.w X.K X.mg X.base CX0 k f fd ps (lift X.K fs)) (hr : Room k X.A) (hg : Gl X x) (hm : X.mg x = some (.ref f)) (hk : PySem.W.keepIn X.K (.ref f) = true) (hb : KBn X.K fd ps n ks (pick π) (pick π))
    (ha : QA X (e :: es) t d) (hkw : QK X kws tk dk) (hall : (backToKw pos (keywordEach kws X.env)).all (·.1.isSome) = true := by rfl) (hks : (backToKw pos (keywordEach kws X.env)).filterMap (·.1) = ks := by rfl)
    (hdb : (x == ("__debug__" : Str)) = false := by decide) (he : starEach (e :: es) X.env = (false, eval e X.env) :: starEach es X.env := by rfl)
    (hpl : ((backTo pos (starEach (e :: es) X.env)).any (·.1) || (backToKw pos (keywordEach kws X.env)).any (·.1.isNone)) = false := by rfl) :
    QE X (.Call (.Name x p) (e :: es) kws pos) (tCallN n ks.length (lift X.K fs) (pick π) E0 t tk) (dCallN n ks.length fs π PX0 d dk) := ⟨pe_callN F hr hg hm hk hb pass0 ha.p hkw.p hall hks hdb he hpl, re_callN kx0 ha.r hkw.r⟩
theorem qe_callN0 {ks : List Str} {π : List Nat} (F : FnOk X.prog X.w X.K X.mg X.base CX0 k f fd ps (lift X.K fs)) (hr : Room k X.A) (hg : Gl X x) (hm : X.mg x = some (.ref f)) (hk : PySem.W.keepIn X.K (.ref f) = true) (hb : KBn X.K fd ps 0 ks (pick π) (pick π))
    (hkw : QK X kws tk dk) (hall : (backToKw pos (keywordEach kws X.env)).all (·.1.isSome) = true := by rfl) (hks : (backToKw pos (keywordEach kws X.env)).filterMap (·.1) = ks := by rfl)
    (hdb : (x == ("__debug__" : Str)) = false := by decide)
    (hpl : ((backTo pos (starEach [] X.env)).any (·.1) || (backToKw pos (keywordEach kws X.env)).any (·.1.isNone)) = false := by rfl) :
    QE X (.Call (.Name x p) [] kws pos) (tCallN 0 ks.length (lift X.K fs) (pick π) E0 tNil tk) (dCallN 0 ks.length fs π PX0 dNil dk) := ⟨pe_callN0 F hr hg hm hk hb pass0 hkw.p hall hks hdb hpl, re_callN kx0 (qa_nil (X := X)).r hkw.r⟩
end
/-! ### what is walked -/
/-- a list, a tuple or a text -/
def iAny (K : PySem.W.Frag) (te : TE) : TI := fun σ H R => te σ H fun x H1 => (∃ a, x = .ref a ∧ (∃ xs, SqL K H1 a xs) ∧ R (Itl K a) H1) ∨ (∃ a, x = .ref a ∧ (∃ xs, SqT K H1 a xs) ∧ R (Itt K a) H1) ∨ ∃ z, x = .str z ∧ R (Its z) H1
theorem pi_any {tg l : Expr} {tl : TE} (hl : PE X l tl) : PI X tg l (iAny X.K tl) := by
  refine ⟨fun pins s σ H R I h => ?_⟩
  refine thn (hl.run pins s σ H _ I h) fun v s1 ⟨x, H1, I1, r1, q1⟩ => ?_
  rcases q1 with ⟨a, e, ⟨xs, hq⟩, q⟩ | ⟨a, e, ⟨xs, hq⟩, q⟩ | ⟨z, e, q⟩
  · subst e
    cases r1
    obtain ⟨its, rv, p, hz⟩ := I1.list hq
    refine wpAny_pyIter_list p.isList ?_
    refine ⟨s1.heap.objs.size, [s1.heap.objs.size], _, _, H1, rfl, I1.kept (t' := s1.toks) fun b o e => Heap.get?_push_of_some _ e, turn_list a _, ⟨_, Heap.get?_push_size _ rfl, rfl, rfl⟩, fun b hb => ?_, q⟩
    have e : b = s1.heap.objs.size := by simpa using hb
    subst e
    exact I1.fpOk (Nat.le_refl _) (I1.hok.fresh (Nat.le_refl _))
  · subst e
    cases r1
    obtain ⟨its, rv, p, hz⟩ := I1.tuple hq
    refine wpAny_pyIter_tuple (show s1.heap.IsTuple a its.toArray from p) ?_
    refine ⟨s1.heap.objs.size, [s1.heap.objs.size], _, _, H1, rfl, I1.kept (t' := s1.toks) fun b o e => Heap.get?_push_of_some _ e, turn_tuple a _, ⟨_, Heap.get?_push_size _ rfl, rfl, rfl⟩, fun b hb => ?_, q⟩
    have e : b = s1.heap.objs.size := by simpa using hb
    subst e
    exact I1.fpOk (Nat.le_refl _) (I1.hok.fresh (Nat.le_refl _))
  · subst e
    obtain ⟨t, rfl⟩ := r1
    cases ha : z.cps.all (· < 128)
    · exact wpAny_pyIter_wide ha (pi_one (tk := s1.toks) I1 _ (turn_str _ z t "str_iterator" (.inr rfl)) ⟨_, Heap.get?_push_size _ rfl, rfl, rfl⟩ q)
    · exact wpAny_pyIter_ascii ha (pi_one (tk := s1.toks) I1 _ (turn_str _ z t "str_ascii_iterator" (.inl rfl)) ⟨_, Heap.get?_push_size _ rfl, rfl, rfl⟩ q)
def isStand (x : DV) (xs : List DV) (M : Mem) : Prop := match x with
  | .loc p => M p = some (.lst xs)
  | _ => True
def signs (z : Str) : List DV := z.cps.toList.map fun c => .str ⟨#[c]⟩
def dIterV (x : DV) (M1 : Mem) (P : List DV → (Mem → Prop) → Mem → Prop) : Prop := match x with
  | .str z => P (signs z) (fun _ => True) M1
  | x => ∃ xs, seqOf M1 x = some xs ∧ P xs (isStand x xs) M1
def dIter (de : DE) : DI := fun S M P => de S M fun x M1 => dIterV x M1 P
theorem walkD_list {a : Addr} {vs : List V} {xs : List DV} {C : Mem → Prop} (al : VAll K G xs vs) (h : ∀ G2 H2 M2, Same G G2 → Ok K G2 H2 M2 → C M2 → ∃ us, SqL K H2 a us ∧ VAll K G2 xs us) : WalkD K G (Itl K a) xs C := by
  refine ⟨fun H2 => ∃ us, SqL K H2 a us ∧ us.length = xs.length, fun i H2 v H3 => H3 = H2 ∧ ∀ us, SqL K H2 a us → us[i]? = some v, ⟨fun i H2 hi ⟨us, q, l⟩ => ⟨us, us[i]'(by omega), q, by simp⟩, fun H2 ⟨us, q, l⟩ => ⟨us, q, by omega⟩, fun i H2 v H3 _ _ y => y⟩, fun G2 H2 M2 e o c => ?_, fun i v G2 H2 M2 H3 hi e o c y => ?_⟩
  · obtain ⟨us, q, a⟩ := h G2 H2 M2 e o c
    exact ⟨us, q, a.length.symm⟩
  · obtain ⟨us, q, a⟩ := h G2 H2 M2 e o c
    obtain ⟨y1, y2⟩ := y
    subst y1
    obtain ⟨x, hx, r⟩ := a.getV (y2 us q)
    exact ⟨G2, x, o, Same.refl _, hx, r⟩
theorem ri_any {te : TE} {de : DE} (he : RE K te de) : RI K (iAny K te) (dIter de) := fun S M P p G σ H o s R k =>
  he S M _ p G σ H o s _ fun x M1 v G1 H1 p1 o1 e1 r1 => by
    have seq : (∃ xs, seqOf M1 x = some xs ∧ P xs (isStand x xs) M1) → (∀ z, x ≠ .str z) → (∃ a, v = .ref a ∧ (∃ xs, SqL K H1 a xs) ∧ R (Itl K a) H1) ∨ (∃ a, v = .ref a ∧ (∃ xs, SqT K H1 a xs) ∧ R (Itt K a) H1) ∨ ∃ z, v = .str z ∧ R (Its z) H1 := fun ⟨xs, hx, p⟩ _ => by
      cases r1 with
      | tup sq al =>
        cases hx
        refine .inr (.inl ⟨_, rfl, ⟨_, sqT_mono o1.same sq⟩, k _ _ M1 G1 H1 _ p o1 e1 ?_⟩)
        refine ⟨fun H2 => SqT K H2 _ _, YAt _, by rw [al.length]; exact walk_tup, fun G2 H2 M2 e o _ => sqT_mono (e.trans o.same) sq, fun i u G2 H2 M2 H3 hi e o _ y => ?_⟩
        obtain ⟨y1, y2⟩ := y
        subst y1
        obtain ⟨x, hx, r⟩ := (al.mono e).getV y2
        exact ⟨G2, x, o, Same.refl _, hx, r⟩
      | fl sq al =>
        cases hx
        refine .inl ⟨_, rfl, ⟨_, sqL_mono o1.same sq⟩, k _ _ M1 G1 H1 _ p o1 e1 ?_⟩
        refine ⟨fun H2 => SqL K H2 _ _, YAt _, by rw [al.length]; exact walk_list, fun G2 H2 M2 e o _ => sqL_mono (e.trans o.same) sq, fun i u G2 H2 M2 H3 hi e o _ y => ?_⟩
        obtain ⟨y1, y2⟩ := y
        subst y1
        obtain ⟨x, hx, r⟩ := (al.mono e).getV y2
        exact ⟨G2, x, o, Same.refl _, hx, r⟩
      | loc q =>
        obtain ⟨a, vs, ev, sq, al⟩ := lst_sq o1 (.loc q) hx
        cases ev
        refine .inl ⟨_, rfl, ⟨_, sq⟩, k _ _ M1 G1 H1 _ p o1 e1 (walkD_list al fun G2 H2 M2 e o c => ?_)⟩
        obtain ⟨us, h1, h2, _⟩ := cell_lst o c
        exact ⟨us, .inl (.inl h1), h2⟩
      | _ => cases hx
    cases r1 with
    | str z =>
      refine .inr (.inr ⟨z, rfl, k _ _ M1 G1 H1 _ p1 o1 e1 ?_⟩)
      refine ⟨fun _ => True, fun i H v H' => H' = H ∧ ∃ c, z.cps[i]? = some c ∧ v = .str ⟨#[c]⟩, ?_, fun _ _ _ _ _ _ => trivial, fun i u G2 H2 M2 H3 hi e o _ y => ?_⟩
      · have : (signs z).length = z.cps.size := by simp [signs]
        rw [this]; exact walk_str
      · obtain ⟨rfl, c, hc, rfl⟩ := y
        refine ⟨G2, .str ⟨#[c]⟩, o, Same.refl _, ?_, .str _⟩
        unfold signs
        rw [List.getElem?_map, Array.getElem?_toList, hc]
        rfl
    | non => exact seq p1 (fun z h => nomatch h)
    | bl b => exact seq p1 (fun z h => nomatch h)
    | int i => exact seq p1 (fun z h => nomatch h)
    | ty n => exact seq p1 (fun z h => nomatch h)
    | tup s a => exact seq p1 (fun z h => nomatch h)
    | fl s a => exact seq p1 (fun z h => nomatch h)
    | loc q => exact seq p1 (fun z h => nomatch h)
theorem qi_any {tg : Expr} (he : QE X e te de) : QI X tg e (iAny X.K te) (dIter de) := ⟨pi_any he.p, ri_any he.r⟩
/-- lo, lo + 1, .. -/
def rngD (lo : Int) (n : Nat) : List DV := (List.range n).map fun (i : Nat) => .int (lo + (i : Int))
theorem walkD_range {lo : Int} {n : Nat} : WalkD K G (Itr lo n) (rngD lo n) (fun _ => True) := by
  have hl : (rngD lo n).length = n := by simp [rngD]
  refine ⟨fun _ => True, _, by rw [hl]; exact walk_range, fun _ _ _ _ _ _ => trivial, fun i v G2 H2 M2 H3 hi e o _ y => ?_⟩
  obtain ⟨y1, y2⟩ := y
  subst y1; subst y2
  rw [hl] at hi
  exact ⟨G2, _, o, Same.refl _, by simp [rngD, hi], .int _⟩
def dRng1 (d : DA) : DI := fun S M P => d S M fun xs M1 => ∃ j : Int, xs = [.int j] ∧ j < 2 ^ 62 ∧ -(2 ^ 62) ≤ j ∧ P (rngD 0 j.toNat) (fun _ => True) M1
def dRng2 (d : DA) : DI := fun S M P => d S M fun xs M1 => ∃ i j : Int, xs = [.int i, .int j] ∧ (-(2 ^ 62) ≤ i ∧ i < 2 ^ 62 ∧ -(2 ^ 62) ≤ j ∧ j < 2 ^ 62) ∧ P (rngD i (j - i).toNat) (fun _ => True) M1
theorem qi_range1 {tg a : Expr} (hg : Gl X "range") (hm : X.mg "range" = none) (ha : QA X [a] t d) (hs : starEach [a] X.env = [(false, eval a X.env)] := by rfl) : QI X tg (.Call (.Name "range" p) [a] [] pos) (iRng1 t) (dRng1 d) :=
  ⟨pi_range1 hg hm ha.p hs, fun S M P q G σ H o s R k => ha.r S M _ q G σ H o s _ fun xs M1 vs G1 H1 ⟨j, e, l1, l2, p1⟩ o1 e1 r1 => by
    subst e
    obtain ⟨v, rfl, r⟩ := vall1 r1
    cases r
    exact ⟨j, rfl, l2, l1, k _ _ M1 G1 H1 _ p1 o1 e1 walkD_range⟩⟩
theorem qi_range2 {tg a b : Expr} (hg : Gl X "range") (hm : X.mg "range" = none) (ha : QA X [a, b] t d) (hs : starEach [a, b] X.env = [(false, eval a X.env), (false, eval b X.env)] := by rfl) (hs2 : starEach [b] X.env = [(false, eval b X.env)] := by rfl) : QI X tg (.Call (.Name "range" p) [a, b] [] pos) (iRng2 t) (dRng2 d) :=
  ⟨pi_range2 hg hm ha.p hs hs2, fun S M P q G σ H o s R k => ha.r S M _ q G σ H o s _ fun xs M1 vs G1 H1 ⟨i, j, e, l, p1⟩ o1 e1 r1 => by
    subst e
    obtain ⟨v, u, rfl, r, r'⟩ := vall2 r1
    cases r; cases r'
    exact ⟨i, j, rfl, l, k _ _ M1 G1 H1 _ p1 o1 e1 walkD_range⟩⟩
/-- zip of two lists or of two tuples -/
def pairs : List DV → List DV → List DV
  | x :: xs, y :: ys => .tup [x, y] :: pairs xs ys
  | _, _ => []
theorem pairs_len : ∀ xs ys : List DV, (pairs xs ys).length = min xs.length ys.length
  | [], _ => by simp [pairs]
  | _ :: _, [] => by simp [pairs]
  | x :: xs, y :: ys => by simp [pairs, pairs_len xs ys]
theorem pairs_get : ∀ {xs ys : List DV} {i : Nat} {x y : DV}, xs[i]? = some x → ys[i]? = some y → (pairs xs ys)[i]? = some (.tup [x, y])
  | [], _, i, _, _, h, _ => by simp at h
  | _ :: _, [], i, _, _, _, h => by simp at h
  | a :: xs, b :: ys, 0, x, y, h1, h2 => by simp at h1 h2; simp [pairs, h1, h2]
  | a :: xs, b :: ys, i + 1, x, y, h1, h2 => by
    simp only [pairs, List.getElem?_cons_succ] at h1 h2 ⊢
    exact pairs_get h1 h2
def isTupD : DV → Bool
  | .tup _ => true
  | _ => false
def dZip (d : DA) : DI := fun S M P => d S M fun zs M1 => ∃ x y xs ys, zs = [x, y] ∧ seqOf M1 x = some xs ∧ seqOf M1 y = some ys ∧ isTupD x = isTupD y ∧ P (pairs xs ys) (fun M2 => isStand x xs M2 ∧ isStand y ys M2) M1
theorem zip_one {xs ys : List DV} {us ws : List V} {i : Nat} {v : V} {G2 H2 H3 : Hp} {M2 : Mem} {T : Addr} {a b : V} (o : Ok K G2 H2 M2) (al : VAll K G2 xs us) (bl : VAll K G2 ys ws) (hv : v = .ref T) (hT : H2 T = none) (hH : H3 = upd H2 T (.tup [a, b])) (ha : us[i]? = some a) (hb : ws[i]? = some b) :
    ∃ G3 x, Ok K G3 H3 M2 ∧ Same G2 G3 ∧ (pairs xs ys)[i]? = some x ∧ VRel K G3 x v := by
  subst hv; subst hH
  obtain ⟨o3, e3⟩ := o.lay (.tup [a, b]) hT
  obtain ⟨x, hx, rx⟩ := al.getV ha
  obtain ⟨y, hy, ry⟩ := bl.getV hb
  exact ⟨_, .tup [x, y], o3, e3, pairs_get hx hy, .tup (.inl (.inl upd_same)) (.cons (rx.mono e3) (.cons (ry.mono e3) .nil))⟩
theorem stand_sq {x : DV} {v : V} {xs : List DV} {G1 : Hp} {M1 : Mem} {H1 : Hp} (o1 : Ok K G1 H1 M1) (r : VRel K G1 x v) (h : seqOf M1 x = some xs) (ht : isTupD x = false) : ∃ a, v = .ref a ∧ (∃ us, SqL K H1 a us) ∧ ∀ G2 H2 M2, Same G1 G2 → Ok K G2 H2 M2 → isStand x xs M2 → ∃ us, SqL K H2 a us ∧ VAll K G2 xs us := by
  cases r with
  | tup sq al => cases ht
  | fl sq al =>
    cases h
    exact ⟨_, rfl, ⟨_, sqL_mono o1.same sq⟩, fun G2 H2 M2 e o _ => ⟨_, sqL_mono (e.trans o.same) sq, al.mono e⟩⟩
  | loc q =>
    obtain ⟨a, vs, ev, sq, al⟩ := lst_sq o1 (.loc q) h
    cases ev
    refine ⟨_, rfl, ⟨_, sq⟩, fun G2 H2 M2 e o c => ?_⟩
    obtain ⟨us, h1, h2, _⟩ := cell_lst o c
    exact ⟨us, .inl (.inl h1), h2⟩
  | _ => cases h
theorem walkD_zip {a b : Addr} {xs ys : List DV} {C : Mem → Prop} {G1 : Hp} (h1 : ∀ G2 H2 M2, Same G1 G2 → Ok K G2 H2 M2 → C M2 → ∃ us, SqL K H2 a us ∧ VAll K G2 xs us) (h2 : ∀ G2 H2 M2, Same G1 G2 → Ok K G2 H2 M2 → C M2 → ∃ us, SqL K H2 b us ∧ VAll K G2 ys us) : WalkD K G1 (Itz K a b) (pairs xs ys) C := by
  refine ⟨fun H2 => ∃ us ws, SqL K H2 a us ∧ SqL K H2 b ws ∧ us.length = xs.length ∧ ws.length = ys.length, fun i H2 v H3 => ∃ T x y, v = .ref T ∧ H2 T = none ∧ H3 = upd H2 T (.tup [x, y]) ∧ (∀ us, SqL K H2 a us → us[i]? = some x) ∧ ∀ ws, SqL K H2 b ws → ws[i]? = some y, ⟨fun i H2 hi ⟨us, ws, q1, q2, l1, l2⟩ => ?_, fun H2 ⟨us, ws, q1, q2, l1, l2⟩ => ⟨us, ws, q1, q2, ?_⟩, fun i H2 v H3 _ _ y => y⟩, fun G2 H2 M2 e o c => ?_, fun i v G2 H2 M2 H3 hi e o c y => ?_⟩
  · rw [pairs_len] at hi
    exact ⟨us, ws, us[i]'(by omega), ws[i]'(by omega), q1, q2, by simp, by simp⟩
  · rw [pairs_len]; omega
  · obtain ⟨us, q1, a1⟩ := h1 G2 H2 M2 e o c
    obtain ⟨ws, q2, a2⟩ := h2 G2 H2 M2 e o c
    exact ⟨us, ws, q1, q2, a1.length.symm, a2.length.symm⟩
  · obtain ⟨us, q1, a1⟩ := h1 G2 H2 M2 e o c
    obtain ⟨ws, q2, a2⟩ := h2 G2 H2 M2 e o c
    obtain ⟨T, x, y, hv, hT, hH, y1, y2⟩ := y
    exact zip_one o a1 a2 hv hT hH (y1 us q1) (y2 ws q2)
theorem walkD_zipT {a b : Addr} {xs ys : List DV} {us ws : List V} {C : Mem → Prop} {G1 : Hp} (sq : SqT K G1 a us) (sq2 : SqT K G1 b ws) (al : VAll K G1 xs us) (al2 : VAll K G1 ys ws) : WalkD K G1 (ItzT K a b) (pairs xs ys) C := by
  refine ⟨fun H2 => SqT K H2 a us ∧ SqT K H2 b ws, fun i H2 v H3 => ∃ T x y, v = .ref T ∧ H2 T = none ∧ H3 = upd H2 T (.tup [x, y]) ∧ (∀ us, SqT K H2 a us → us[i]? = some x) ∧ ∀ ws, SqT K H2 b ws → ws[i]? = some y, ⟨fun i H2 hi ⟨q1, q2⟩ => ?_, fun H2 ⟨q1, q2⟩ => ⟨us, ws, q1, q2, ?_⟩, fun i H2 v H3 _ _ y => y⟩, fun G2 H2 M2 e o c => ⟨sqT_mono (e.trans o.same) sq, sqT_mono (e.trans o.same) sq2⟩, fun i v G2 H2 M2 H3 hi e o c y => ?_⟩
  · rw [pairs_len, al.length, al2.length] at hi
    exact ⟨us, ws, us[i]'(by omega), ws[i]'(by omega), q1, q2, by simp, by simp⟩
  · rw [pairs_len, al.length, al2.length]; omega
  · obtain ⟨T, x, y, hv, hT, hH, y1, y2⟩ := y
    exact zip_one o (al.mono e) (al2.mono e) hv hT hH (y1 _ (sqT_mono (e.trans o.same) sq)) (y2 _ (sqT_mono (e.trans o.same) sq2))
theorem qi_zip {elts : List Expr} {kk : Nat} {tpos : Pos} {a b : Expr} (hg : Gl X "zip") (hm : X.mg "zip" = none) (ha : QA X [a, b] t d)
    (hs : starEach [a, b] X.env = (false, eval a X.env) :: starEach [b] X.env := by rfl) (hpl : (backTo pos (starEach [b] X.env)).any (·.1) = false := by rfl) :
    QI X (.Tuple elts kk tpos) (.Call (.Name "zip" p) [a, b] [] pos) (iZipA X.K t) (dZip d) :=
  ⟨pi_zipA hg hm ha.p hs hpl, fun S M P q G σ H o s R k => ha.r S M _ q G σ H o s _ fun zs M1 vs G1 H1 ⟨x, y, xs, ys, e, hx, hy, ht, p1⟩ o1 e1 r1 => by
    subst e
    obtain ⟨v, u, rfl, r, r'⟩ := vall2 r1
    cases hb : isTupD x with
    | true =>
      rw [hb] at ht
      cases r with
      | tup sq al =>
        cases r' with
        | tup sq2 al2 =>
          cases hx; cases hy
          exact ⟨_, _, _, _, rfl, .inr ⟨sqT_mono o1.same sq, sqT_mono o1.same sq2, k _ _ M1 G1 H1 _ p1 o1 e1 (walkD_zipT sq sq2 al al2)⟩⟩
        | _ => cases ht
      | _ => cases hb
    | false =>
      rw [hb] at ht
      obtain ⟨a1, rfl, ⟨us, q1⟩, w1⟩ := stand_sq o1 r hx hb
      obtain ⟨a2, rfl, ⟨ws, q2⟩, w2⟩ := stand_sq o1 r' hy ht.symm
      exact ⟨a1, a2, us, ws, rfl, .inl ⟨q1, q2, k _ _ M1 G1 H1 _ p1 o1 e1 (walkD_zip (fun G2 H2 M2 e o c => w1 G2 H2 M2 e o c.1) (fun G2 H2 M2 e o c => w2 G2 H2 M2 e o c.2))⟩⟩⟩
end
end DL
/-! DL5 -/
set_option Elab.async false
set_option linter.all false
set_option maxRecDepth 100000
set_option maxHeartbeats 4000000
namespace DL
open PySem L2 PyProof.Rows
section
variable {K : PySem.W.Frag} {G G' H : Hp} {M : Mem} {X : Cx} {e a b : Expr} {es : List Expr} {te ta tb : TE} {de da db : DE} {t : TA} {d : DA} {pos p : Pos} {x : Str}
/-! ### isinstance -/
def tyD (M : Mem) : DV → Option String
  | .non => some "NoneType"
  | .bl _ => some "bool"
  | .int _ => some "int"
  | .str _ => some "str"
  | .tup _ => some "tuple"
  | .fl _ => some "list"
  | .loc q => match M q with
    | some (.lst _) => some "list"
    | some (.dct _) => some "dict"
    | none => none
  | .ty _ => none
theorem ty_rel (o : Ok K G H M) {x : DV} {v : V} {n : String} (r : VRel K G x v) (h : tyD M x = some n) : TyX K H v (.type n) := by
  cases r with
  | non => cases h; exact .base .non
  | bl b => cases h; exact .base (.bl b)
  | int i => cases h; exact .base (.int i)
  | str s => cases h; exact .base (.str s)
  | ty n => cases h
  | tup s a =>
    cases h
    rcases sqT_mono o.same s with (h | ⟨u, h⟩) | ⟨u, its, n, h, hc, _⟩
    · exact .base (.tup h)
    · exact .fTuple h
    · exact .kTuple h hc
  | fl s a =>
    cases h
    rcases sqL_mono o.same s with (h | ⟨u, h⟩) | ⟨u, its, n, h, hc, _⟩
    · exact .base (.lst h)
    · exact .base (.frz h)
    · exact .kList h hc
  | loc q =>
    have h : (match M q with | some (.lst _) => some "list" | some (.dct _) => some "dict" | none => none) = some n := h
    cases e : M q with
    | none => rw [e] at h; cases h
    | some c =>
      rw [e] at h
      cases c with
      | lst xs =>
        cases h
        obtain ⟨_, vs, q1, _⟩ := o.mem q _ e
        exact .base (.lst q1)
      | dct kvs =>
        cases h
        obtain ⟨_, vs, q1, _⟩ := o.mem q _ e
        exact .base (.dK q1)
def dIsi : DC := fun xs M P => ∃ x n m b, xs = [x, .ty n] ∧ tyD M x = some m ∧ kitB m n = some b ∧ P (.bl b) M
theorem rc_isi : RC K (rIsi K) dIsi := by
  intro xs M P ⟨x, n, m, b, e, ht, hk, p⟩ G vs H o al Q k
  subst e
  obtain ⟨v, u, rfl, r1, r2⟩ := vall2 al
  cases r2
  exact ⟨v, .ty n, _, _, b, rfl, .ty n, ty_rel o r1 ht, kit_ty hk, k _ M _ G H p o (Same.refl _) (.bl b)⟩
def kitAnyB (m : String) : List String → Option Bool
  | [] => some false
  | n :: ns => match kitB m n with
    | some true => some true
    | some false => kitAnyB m ns
    | none => none
theorem kitAny_rel {m : String} : ∀ {ns : List String} {b : Bool}, kitAnyB m ns = some b → PySem.W.kitAny K (.type m) (ns.map Value.type) = some b
  | [], b, h => by cases h; exact kitAny_nil
  | n :: ns, b, h => by
    unfold kitAnyB at h
    cases e : kitB m n with
    | none => rw [e] at h; cases h
    | some c =>
      rw [e] at h
      cases c with
      | true => cases h; exact kitAny_cons (r := true) (kit_ty e) (fun z => nomatch z) (fun _ => rfl)
      | false => exact kitAny_cons (kit_ty e) (fun _ => kitAny_rel h) (fun z => nomatch z)
def dIsiT (n1 n2 : String) (de : DE) : DE := fun S M P => de S M fun x M1 => ∃ m b, tyD M1 x = some m ∧ kitAnyB m [n1, n2] = some b ∧ P (.bl b) M1
theorem re_isiT {n1 n2 : String} (he : RE K te de) : RE K (tCB (rIsiT K) (tCons te (tCons (tTup (tCons (tC (.ty n1)) (tCons (tC (.ty n2)) tNil))) tNil))) (dIsiT n1 n2 de) := fun S M P p G σ H o s Q k =>
  he S M _ p G σ H o s _ fun x M1 v G1 H1 ⟨m, b, ht, hk, p1⟩ o1 e1 r1 => by
    refine ⟨by show 2 ≤ sizeLine; decide, fun q hq => ?_⟩
    obtain ⟨o2, e2⟩ := o1.lay (.tup [.ty n1, .ty n2]) hq
    exact ⟨v, q, [.ty n1, .ty n2], .type m, [.type n1, .type n2], b, rfl, upd_same, .cons (.ty n1) (.cons (.ty n2) .nil), ty_rel o2 (r1.mono e2) ht, kitAny_rel (ns := [n1, n2]) hk, k _ M1 _ _ _ p1 o2 (e1.trans e2) (.bl b)⟩
theorem qe_isiT {n1 n2 : String} {y1 y2 : Str} {k1 : Nat} {q1 q2 q3 : Pos} (hg : Gl X "isinstance") (hm : X.mg "isinstance" = none) (he : QE X e te de) (h1 : QE X (.Name y1 q1) (tC (.ty n1)) (dC (.ty n1))) (h2 : QE X (.Name y2 q2) (tC (.ty n2)) (dC (.ty n2)))
    (hs : starEach [e, .Tuple [.Name y1 q1, .Name y2 q2] k1 q3] X.env = (false, eval e X.env) :: starEach [.Tuple [.Name y1 q1, .Name y2 q2] k1 q3] X.env := by rfl)
    (hs2 : starEach [.Tuple [.Name y1 q1, .Name y2 q2] k1 q3] X.env = (false, eval (.Tuple [.Name y1 q1, .Name y2 q2] k1 q3) X.env) :: starEach [] X.env := by rfl)
    (ht1 : starEach [.Name y1 q1, .Name y2 q2] X.env = (false, eval (.Name y1 q1) X.env) :: starEach [.Name y2 q2] X.env := by rfl) (ht2 : starEach [.Name y2 q2] X.env = (false, eval (.Name y2 q2) X.env) :: starEach [] X.env := by rfl)
    (hpl : (backTo pos (starEach [.Tuple [.Name y1 q1, .Name y2 q2] k1 q3] X.env)).any (·.1) = false := by rfl) :
    QE X (.Call (.Name "isinstance" p) [e, .Tuple [.Name y1 q1, .Name y2 q2] k1 q3] [] pos) (tCB (rIsiT X.K) (tCons te (tCons (tTup (tCons (tC (.ty n1)) (tCons (tC (.ty n2)) tNil))) tNil))) (dIsiT n1 n2 de) :=
  ⟨pe_callB call_isiT hg hm (by decide +kernel) (pa_cons he.p (pa_cons (pe_tup (pa_cons h1.p (pa_cons h2.p pa_nil ht2) ht1)) pa_nil hs2) hs) (by decide) (by decide) hs hpl, re_isiT he.r⟩
/-! ### any of a list of bools, max of a list of ints -/
def blsOf : List DV → Option (List Bool)
  | [] => some []
  | .bl b :: r => (blsOf r).map (b :: ·)
  | _ => none
def intsOf : List DV → Option (List Int)
  | [] => some []
  | .int b :: r => (intsOf r).map (b :: ·)
  | _ => none
def strsOf : List DV → Option (List Str)
  | [] => some []
  | .str b :: r => (strsOf r).map (b :: ·)
  | _ => none
theorem bls_rel : ∀ {xs : List DV} {vs : List V} {bs : List Bool}, VAll K G xs vs → blsOf xs = some bs → vs = bs.map V.bl
  | _, _, _, .nil, h => by cases h; rfl
  | _, _, _, .cons r a, h => by
    cases r with
    | bl b =>
      unfold blsOf at h
      obtain ⟨l, h1, rfl⟩ := Option.map_eq_some_iff.mp h
      rw [bls_rel a h1]; rfl
    | _ => cases h
theorem ints_rel : ∀ {xs : List DV} {vs : List V} {bs : List Int}, VAll K G xs vs → intsOf xs = some bs → vs = bs.map V.int
  | _, _, _, .nil, h => by cases h; rfl
  | _, _, _, .cons r a, h => by
    cases r with
    | int b =>
      unfold intsOf at h
      obtain ⟨l, h1, rfl⟩ := Option.map_eq_some_iff.mp h
      rw [ints_rel a h1]; rfl
    | _ => cases h
theorem strs_rel : ∀ {xs : List DV} {vs : List V} {bs : List Str}, VAll K G xs vs → strsOf xs = some bs → vs = bs.map V.str
  | _, _, _, .nil, h => by cases h; rfl
  | _, _, _, .cons r a, h => by
    cases r with
    | str b =>
      unfold strsOf at h
      obtain ⟨l, h1, rfl⟩ := Option.map_eq_some_iff.mp h
      rw [strs_rel a h1]; rfl
    | _ => cases h
theorem strs_all {G : Hp} : ∀ ss : List Str, VAll K G (ss.map DV.str) (ss.map V.str)
  | [] => .nil
  | s :: r => .cons (.str s) (strs_all r)
theorem ints_all {G : Hp} : ∀ ss : List Int, VAll K G (ss.map DV.int) (ss.map V.int)
  | [] => .nil
  | s :: r => .cons (.int s) (ints_all r)
theorem strsOf_map : ∀ ss : List Str, strsOf (ss.map DV.str) = some ss
  | [] => rfl
  | s :: r => by rw [List.map_cons, strsOf, strsOf_map r]; rfl
theorem intsOf_map : ∀ ss : List Int, intsOf (ss.map DV.int) = some ss
  | [] => rfl
  | s :: r => by rw [List.map_cons, intsOf, intsOf_map r]; rfl
theorem blsOf_map : ∀ ss : List Bool, blsOf (ss.map DV.bl) = some ss
  | [] => rfl
  | s :: r => by rw [List.map_cons, blsOf, blsOf_map r]; rfl
def dAny : DC := fun xs M P => ∃ x ys bs, xs = [x] ∧ lstOf M x = some ys ∧ blsOf ys = some bs ∧ P (.bl (bs.any id)) M
theorem rc_any : RC K (rAny K) dAny := by
  intro xs M P ⟨x, ys, bs, e, hl, hb, p⟩ G vs H o al Q k
  subst e
  obtain ⟨v, rfl, r1⟩ := vall1 al
  obtain ⟨a, us, rfl, sq, al2⟩ := lst_sq o r1 hl
  rw [bls_rel al2 hb] at sq
  exact ⟨a, bs, rfl, sq, k _ M _ G H p o (Same.refl _) (.bl _)⟩
def dMaxL : DC := fun xs M P => ∃ x ys ns, xs = [x] ∧ lstOf M x = some ys ∧ intsOf ys = some ns ∧ 0 < ns.length ∧ ∀ m, m ∈ ns → (∀ y, y ∈ ns → y ≤ m) → P (.int m) M
theorem rc_maxL : RC K (rMax K) dMaxL := by
  intro xs M P ⟨x, ys, bs, e, hl, hb, h0, p⟩ G vs H o al Q k
  subst e
  obtain ⟨v, rfl, r1⟩ := vall1 al
  obtain ⟨a, us, rfl, sq, al2⟩ := lst_sq o r1 hl
  rw [ints_rel al2 hb] at sq
  exact ⟨a, bs, rfl, sq, h0, fun m h1 h2 => k _ M _ G H (p m h1 h2) o (Same.refl _) (.int _)⟩
/-- sorted of a list of texts -/
def dSortS : DC := fun xs M P => ∃ x ys ss, xs = [x] ∧ lstOf M x = some ys ∧ strsOf ys = some ss ∧ ss.length < 64 ∧ ∀ ts p, ts.Perm ss → sortedS ts = true → M p = none → P (.loc p) (M.up p (.lst (ts.map .str)))
theorem rc_sortS : RC K (rSortedS K) dSortS := by
  intro xs M P ⟨x, ys, bs, e, hl, hb, h0, p⟩ G vs H o al Q k
  subst e
  obtain ⟨v, rfl, r1⟩ := vall1 al
  obtain ⟨a, us, rfl, sq, al2⟩ := lst_sq o r1 hl
  rw [strs_rel al2 hb] at sq
  exact ⟨a, bs, rfl, sq, h0, fun ts q h1 h2 h3 => k _ _ _ G _ (p ts q h1 h2 (o.free h3).1) (o.putL (o.free h3).2 (strs_all ts)) (Same.refl _) (.loc q)⟩
/-- list(x) -/
def dListOf : DC := fun xs M P => ∃ x ys, xs = [x] ∧ seqOf M x = some ys ∧ ∀ p, M p = none → P (.loc p) (M.up p (.lst ys))
theorem rc_list : RC K (fun xs H Q => ∃ p ys, xs = [.ref p] ∧ (SqL K H p ys ∨ SqT K H p ys) ∧ ∀ l, H l = none → Q (.ref l) (upd H l (.lst ys))) dListOf := by
  intro xs M P ⟨x, ys, e, hl, p⟩ G vs H o al Q k
  subst e
  obtain ⟨v, rfl, r1⟩ := vall1 al
  obtain ⟨a, us, rfl, sq, al2⟩ := seq_sq o r1 hl
  exact ⟨a, us, rfl, sq, fun q h3 => k _ _ _ G _ (p q (o.free h3).1) (o.putL (o.free h3).2 al2) (Same.refl _) (.loc q)⟩
/-! ### sep.join(list of texts) -/
def rJoin (K : PySem.W.Frag) : V → List V → Hp → VK → Prop := fun x xs H Q => ∃ a p, ∃ ys : List Str, x = .str a ∧ xs = [.ref p] ∧ (SqL K H p (ys.map V.str) ∨ SqT K H p (ys.map V.str)) ∧ (ys.map (·.length)).sum + ys.length * a.length ≤ 16777216 ∧ Q (.str (Txt.join a ys)) H
def dJoin (do_ de : DE) : DE := fun S M P => do_ S M fun x M1 => ∃ z, x = .str z ∧ de S M1 fun y M2 => ∃ ys ss, seqOf M2 y = some ys ∧ strsOf ys = some ss ∧ (ss.map (·.length)).sum + ss.length * z.length ≤ 16777216 ∧ P (.str (Txt.join z ss)) M2
theorem re_join {to : TE} {do_ : DE} (ho : RE K to do_) (he : RE K te de) : RE K (tM1 (rJoin K) to te) (dJoin do_ de) := fun S M P p G σ H o s Q k =>
  ho S M _ p G σ H o s _ fun x M1 v G1 H1 ⟨z, ex, p1⟩ o1 e1 r1 => by
    subst ex
    cases r1
    refine ⟨⟨z, rfl⟩, he S M1 _ p1 G1 σ H1 o1 (s.mono e1) _ fun y M2 u G2 H2 ⟨ys, ss, hy, hs, hz, p2⟩ o2 e2 r2 => ?_⟩
    obtain ⟨a, us, rfl, sq, al⟩ := seq_sq o2 r2 hy
    rw [strs_rel al hs] at sq
    exact ⟨z, a, ss, rfl, rfl, sq, hz, k _ M2 _ G2 H2 p2 o2 (e1.trans e2) (.str _)⟩
theorem qe_join {o : Expr} {to : TE} {do_ : DE} {apos : Pos} (ho : QE X o to do_) (he : QE X e te de)
    (hs : starEach [e] X.env = [(false, eval e X.env)] := by rfl) (hbase : attributeBase o "join" X.env (eval o X.env) = eval o X.env := by rfl) (hline : (apos.endLine == pos.line) = true := by rfl) :
    QE X (.Call (.Attribute o "join" apos) [e] [] pos) (tM1 (rJoin X.K) to te) (dJoin do_ de) := ⟨pe_join ho.p he.p hs hbase hline, re_join ho.r he.r⟩
/-! ### a module's dict with text keys -/
def rInKd (K : PySem.W.Frag) (dd : Addr) : R2 := fun x y H Q => ∃ (z : Str) (r : Option Value), x = .str z ∧ y = .ref dd ∧ PySem.W.nsIn K dd z = some r ∧ Q (.bl r.isSome) H
/-- f tells, of the texts that it knows, whether they are keys -/
def KHas (K : PySem.W.Frag) (dd : Addr) (f : Str → Option Bool) : Prop := ∀ z b, f z = some b → ∃ r, PySem.W.nsIn K dd z = some r ∧ r.isSome = b
def dInKd (dd : Addr) (f : Str → Option Bool) : DR2 := fun x y M P => ∃ z b, x = .str z ∧ y = .loc dd ∧ f z = some b ∧ P (.bl b) M
theorem ro_inKd {dd : Addr} {f : Str → Option Bool} (hf : KHas K dd f) : ROp K (rInKd K dd) (dInKd dd f) := by
  intro x y M P ⟨z, b, ex, ey, h, p⟩ G v u H o r1 r2 Q k
  subst ex; subst ey
  cases r1; cases r2
  obtain ⟨r, h1, h2⟩ := hf z b h
  exact ⟨z, r, rfl, rfl, h1, by rw [h2]; exact k _ M _ G H p o (Same.refl _) (.bl b)⟩
theorem qe_gref {dd : Addr} (hg : Gl X x) (hm : X.mg x = some (.ref dd)) (hd : (x == ("__debug__" : Str)) = false := by decide) : QE X (.Name x pos) (tC (.ref dd)) (dC (.loc dd)) :=
  ⟨pe_glob hg hm rfl hd, re_c fun _ => .loc _⟩
theorem qe_inKd {dd : Addr} {es' : Array DictEntry} {n : Nat} {f : Str → Option Bool} (D : KDict X.K X.w dd es' n) (hf : KHas X.K dd f) (ha : QE X a ta da) (hb : QE X b tb db) (hm : behindInMarks .In b = false := by rfl) : QE X (.Compare a [.In] [b] pos) (tOp (rInKd X.K dd) ta tb) (dOp (dInKd dd f) da db) :=
  qe_cmp (op_in_kd D) (ro_inKd hf) ha hb hm
theorem qt_inKd {dd : Addr} {es' : Array DictEntry} {n : Nat} {f : Str → Option Bool} (D : KDict X.K X.w dd es' n) (hf : KHas X.K dd f) (ha : QE X a ta da) (hb : QE X b tb db) (hm : behindInMarks .In b = false := by rfl) : QT X (.Compare a [.In] [b] pos) (tTest (tOp (rInKd X.K dd) ta tb)) (dTest (dOp (dInKd dd f) da db)) :=
  qt_cmp (op_in_kd D) (ro_inKd hf) ha hb hm
/-! ### a < b < c, texts -/
def rLeS' : R2 := fun x y H Q => ∃ i j, x = .str i ∧ y = .str j ∧ Q (.bl (!decide (j.cps.toList < i.cps.toList))) H
end
/-! ### the law's end -/
def fsLaw : FS := fun xs M P _ => ∃ ns : List Int, xs = [.fl (ns.map DV.int)] ∧ ns.length ≤ 63 ∧ ∀ M', P (.bl true) M'
theorem law_sp {K : PySem.W.Frag} {H : Hp} {a : Addr} {ns : List Int} (hl : ns.length ≤ 63) (hS : SqL K H a (ns.map V.int)) : lift K fsLaw [.ref a] H (fun v _ => v = .bl true) fun _ _ _ => False :=
  ⟨H, fun _ => none, [.fl (ns.map DV.int)], fun x _ => x = .bl true, PX0, ⟨Same.refl _, fun _ _ e => nomatch e⟩, .cons (.fl hS (ints_all ns)) .nil, ⟨ns, rfl, hl, fun _ => rfl⟩,
    fun x M' v G' H' e o s r => by subst e; cases r; rfl, fun _ _ _ _ _ _ _ p => p.elim⟩
end DL
/-! DL6 -/
set_option Elab.async false
set_option linter.all false
set_option maxRecDepth 100000
set_option maxHeartbeats 4000000
namespace DL
open PySem L2 PyProof.Rows
section
variable {K : PySem.W.Frag} {G G' H : Hp} {M : Mem} {X : Cx} {e a b : Expr} {te ta tb : TE} {de da db : DE} {pos p : Pos}
/-! ### a list beside an empty one -/
def rNeNil (K : PySem.W.Frag) : R2 := fun x y H Q => ∃ l m xs, x = .ref l ∧ y = .ref m ∧ SqL K H l xs ∧ SqL K H m [] ∧ Q (.bl (!xs.isEmpty)) H
theorem op_neNil (hu : X.A.units < cLine) : OpR X (compareOp .NotEq) (rNeNil X.K) := by
  intro pins s σ H x y v u Q I rx ry ⟨l, m, xs, ex, ey, h1, h2, q⟩
  subst ex; subst ey
  cases rx; cases ry
  obtain ⟨its, r1, p1, _⟩ := I.list h1
  obtain ⟨its2, r2, p2, _⟩ := I.list h2
  cases r2
  have fin : EP X pins σ Q (.bool (!xs.isEmpty)) s := ⟨.bl (!xs.isEmpty), H, I, rfl, q⟩
  cases r1 with
  | nil => exact SeqAt.RcNeAt.lists (e := fun _ => true) p1.isList p2.isList rfl hu (fun j h _ => absurd h (Nat.not_lt_zero j)) _ _ _ _ fin
  | cons r t => exact SeqAt.RcNeAt.lists_lengths p1.isList p2.isList (by simp) hu _ _ _ _ fin
def dNeNil : DR2 := fun x y M P => ∃ xs, lstOf M x = some xs ∧ lstOf M y = some [] ∧ P (.bl (!xs.isEmpty)) M
theorem ro_neNil : ROp K (rNeNil K) dNeNil := by
  intro x y M P ⟨xs, h1, h2, p⟩ G v u H o r1 r2 Q k
  obtain ⟨l, vs, rfl, s1, a1⟩ := lst_sq o r1 h1
  obtain ⟨m, us, rfl, s2, a2⟩ := lst_sq o r2 h2
  cases a2
  exact ⟨l, m, vs, rfl, rfl, s1, s2, by rw [a1.isEmpty]; exact k _ M _ G H p o (Same.refl _) (.bl _)⟩
/-! ### signs of ints; chains of texts -/
def dNeg (da : DE) : DE := fun S M P => da S M fun x M1 => ∃ i, x = .int i ∧ P (.int (-i)) M1
theorem qe_neg (ha : QE X a ta da) : QE X (.UnaryOp .USub a pos) (tUn (rU fun i => .int (-i)) ta) (dNeg da) :=
  ⟨pe_un un_neg ha.p, fun S M P p G σ H o s Q k => ha.r S M _ p G σ H o s _ fun x M1 v G1 H1 ⟨i, e, p1⟩ o1 e1 r1 => by
    subst e; cases r1
    exact ⟨i, rfl, k _ M1 _ G1 H1 p1 o1 e1 (.int _)⟩⟩
def dLeS : DR2 := fun x y M P => match x, y with
  | .str i, .str j => P (.bl (!decide (j.cps.toList < i.cps.toList))) M
  | _, _ => False
theorem ro_leS : ROp K rLeS' dLeS := by
  intro x y M P p G v u H o r1 r2 Q k
  cases r1 <;> cases r2 <;> first | exact p.elim | skip
  exact ⟨_, _, rfl, rfl, k _ M _ G H p o (Same.refl _) (.bl _)⟩
def dChain (dr dr' : DR2) (da db dc : DE) : DE := fun S M P => da S M fun x M1 => db S M1 fun y M2 => dr x y M2 fun z M3 => ∃ k, z = .bl k ∧ (if k = true then dc S M3 fun w M4 => dr' y w M4 P else P (.bl false) M3)
theorem qe_chain {c : Expr} {tc : TE} {dc : DE} {op op' : CmpOp} {r r' : R2} {dr dr' : DR2} (ho : OpR X (compareOp op) r) (ho' : OpR X (compareOp op') r') (hr : ROp X.K r dr) (hr' : ROp X.K r' dr') (hc : QE X c tc dc) (ha : QE X a ta da) (hb : QE X b tb db) (hm : lastMarks [op, op'] [b, c] = false := by with_unfolding_all rfl) :
    QE X (.Compare a [op, op'] [b, c] pos) (tChain r r' ta tb tc) (dChain dr dr' da db dc) :=
  ⟨pe_chain ho ho' ha.p hb.p hc.p hm, fun S M P p G σ H o s Q k => ha.r S M _ p G σ H o s _ fun x M1 v G1 H1 p1 o1 e1 r1 => hb.r S M1 _ p1 G1 σ H1 o1 (s.mono e1) _ fun y M2 u G2 H2 p2 o2 e2 r2 =>
    hr x y M2 _ p2 G2 v u H2 o2 (r1.mono e2) r2 _ fun z M3 w G3 H3 ⟨b, ez, p3⟩ o3 e3 r3 => by
      subst ez; cases r3
      have e03 := (e1.trans e2).trans e3
      cases b with
      | true => exact ⟨true, rfl, hc.r S M3 _ p3 G3 σ H3 o3 (s.mono e03) _ fun z4 M4 w4 G4 H4 p4 o4 e4 r4 => hr' y z4 M4 P p4 G4 u w4 H4 o4 (r2.mono (e3.trans e4)) r4 Q (k.mono (e03.trans e4))⟩
      | false => exact ⟨false, rfl, k _ M3 _ G3 H3 p3 o3 e03 (.bl _)⟩⟩
end
/-! ### statements that store in an own way -/
section
variable {X : Cx}
theorem qs_setLc {y : Str} {py : Pos} {elt tg iter : Expr} {ifs : List Expr} {scope : Scope} {own : List (Str × Nat)} {pos spos : Pos} {wi : TI} {di : DI} {g : TG} {dg : DG} {tt : TT} {dt : DT} {te : TE} {de : DE} (i : Nat) (hc : X.calm = true) (hN : X.N.Nodup) (hi : QI X tg iter wi di) (ok : BlkOk X.N X.env.scope scope own)
    (hw : WG g (own.map (·.2)))
    (hg : ∀ (s : Shared) (H : Hp) (C : Addr) (cl : List (Str × Addr)) (fp : List Addr), QG (X.blk s H scope (compEnvC scope cl C X.env) fp) tg g dg)
    (ht : ∀ (s : Shared) (H : Hp) (C : Addr) (cl : List (Str × Addr)) (fp : List Addr), QTs (X.blk s H scope (compEnvC scope cl C X.env) fp) ifs tt dt)
    (he : ∀ (s : Shared) (H : Hp) (C : Addr) (cl : List (Str × Addr)) (fp : List Addr), QE (X.blk s H scope (compEnvC scope cl C X.env) fp) elt te de)
    (hy : X.N[i]? = some y := by rfl) (hyl : X.env.scope.names.lookup y = some .local := by rfl)
    (hsw : swapsWith (.ListComp elt [⟨tg, iter, ifs, 0⟩] scope pos) (some (.Name y py)) spos.line X.env = pure true := by exact sw_true rfl rfl rfl (by decide +kernel))
    (hs : ∀ x, foldedSetIterable iter X.env x = pure x := by intro _; rfl) :
    QS X (.Assign [.Name y py] (.ListComp elt [⟨tg, iter, ifs, 0⟩] scope pos) spos) (tAsg (tLc wi g tt te (own.map (·.2))) (gName i)) (dAsg (dLc di dg dt de (own.map (·.2))) (dgName i)) :=
  ⟨ps_setLc hc hN hy hyl hsw hi.p ok (fun a b c d e => (hg a b c d e).p) (fun a b c d e => (ht a b c d e).p) (fun a b c d e => (he a b c d e).p) hs,
    rs_asg (re_lc hi.r (hg X.s_0 (fun _ => none) 0 [] []).r hw (ht X.s_0 (fun _ => none) 0 [] []).r (he X.s_0 (fun _ => none) 0 [] []).r) rg_name⟩
theorem qs_par {x y : Str} {a b : Expr} {ta : TA} {da : DA} {pos px py pt : Pos} {kt k2 : Nat} {pt2 : Pos} (i j : Nat) (hc : X.calm = true) (hN : X.N.Nodup) (ha : QA X [a, b] ta da) (hij : i ≠ j := by decide) (hi : X.N[i]? = some x := by rfl) (hj : X.N[j]? = some y := by rfl)
    (hx : X.env.scope.names.lookup x = some .local := by rfl) (hy : X.env.scope.names.lookup y = some .local := by rfl)
    (hw : swappedStores [.Tuple [.Name x px, .Name y py] kt pt] (.Tuple [a, b] k2 pt2) X.env = pure (some [x, y]) := by rfl)
    (hs : swapsWithSole [.Tuple [.Name x px, .Name y py] kt pt] (.Tuple [a, b] k2 pt2) pos.line X.env = pure false := by rfl) :
    QS X (.Assign [.Tuple [.Name x px, .Name y py] kt pt] (.Tuple [a, b] k2 pt2) pos) (tPar i j ta) (dPar i j da) := ⟨ps_par hc hN hi hj hij hx hy ha.p hw hs, rs_par ha.r⟩
end
end DL
/-! DK -/
set_option Elab.async false
set_option linter.all false
set_option maxRecDepth 100000
set_option maxHeartbeats 4000000
namespace DL
open PySem L2 PyProof.Rows
/-! ### more of the level by data -/
theorem fnOk_none {P : Program} {w : World} {K : PySem.W.Frag} {mg : Str → Option Value} {base : Heap} {CX : CXT} {k : Nat} {f : Addr} {fd : FuncData} {ps : List Str} {fs : FS} (no : ∀ xs M P Pe, ¬ fs xs M P Pe) : FnOk P w K mg base CX k f fd ps (lift K fs) :=
  ⟨fun vs H Q E ⟨_, _, _, _, _, _, _, h, _⟩ => absurd h (no _ _ _ _), fun A outer s H args us vs Q E _ _ _ _ ⟨_, _, _, _, _, _, _, h, _⟩ => absurd h (no _ _ _ _)⟩
/-! ### kinds -/
inductive Fm where
  | bh | ah | wi
  deriving DecidableEq
def Fm.s : Fm → Str
  | .bh => "behind"
  | .ah => "ahead"
  | .wi => "with"
/-- a kind: a plain one by its sign's code, or two parts -/
inductive Kd where
  | pl (c : Nat)
  | tw (f : Fm) (a b : Kd)
  deriving DecidableEq
def sg (c : Nat) : Str := ⟨#[c]⟩
def Kd.dv : Kd → DV
  | .pl c => .tup [.str "plain", .str (sg c)]
  | .tw f a b => .tup [.str f.s, a.dv, b.dv]
def Kd.good : Kd → Prop
  | .pl c => 97 ≤ c ∧ c ≤ 122
  | .tw _ a b => a.good ∧ b.good
def Kd.size : Kd → Nat
  | .pl _ => 1
  | .tw _ a b => a.size + b.size
def Kd.depth : Kd → Nat
  | .pl _ => 1
  | .tw _ a b => 1 + max a.depth b.depth
/-- all parts, a part ahead of those within it -/
def Kd.parts : Kd → List Kd
  | .pl c => [.pl c]
  | .tw f a b => .tw f a b :: (a.parts ++ b.parts)
/-- the letters as they stand -/
def Kd.lets : Kd → List Nat
  | .pl c => [c]
  | .tw _ a b => a.lets ++ b.lets
def Kd.hasW : Kd → Bool
  | .pl _ => false
  | .tw f a b => decide (f = .wi) || (a.hasW || b.hasW)
theorem Kd.size_pos (k : Kd) : 1 ≤ k.size := by
  induction k with
  | pl c => exact Nat.le_refl 1
  | tw f a b ha hb => show 1 ≤ a.size + b.size; omega
theorem Kd.parts_len (k : Kd) : k.parts.length + 1 = 2 * k.size := by
  induction k with
  | pl c => rfl
  | tw f a b ha hb => simp only [Kd.parts, Kd.size, List.length_cons, List.length_append]; omega
theorem Kd.lets_len (k : Kd) : k.lets.length = k.size := by
  induction k with
  | pl c => rfl
  | tw f a b ha hb => simp only [Kd.lets, Kd.size, List.length_append]; omega
theorem Kd.depth_pos (k : Kd) : 1 ≤ k.depth := by
  cases k with
  | pl c => exact Nat.le_refl 1
  | tw f a b => show 1 ≤ 1 + _; omega
theorem Kd.parts_good (k : Kd) (h : k.good) : ∀ x ∈ k.parts, x.good := by
  induction k with
  | pl c => intro x hx; simp only [Kd.parts, List.mem_singleton] at hx; subst hx; exact h
  | tw f a b ha hb =>
    intro x hx
    simp only [Kd.parts, List.mem_cons, List.mem_append] at hx
    rcases hx with rfl | hx | hx
    · exact h
    · exact ha h.1 x hx
    · exact hb h.2 x hx
/-- the first text of a kind -/
def Kd.head : Kd → Str
  | .pl _ => "plain"
  | .tw f _ _ => f.s
theorem Kd.tup (k : Kd) : ∃ r, k.dv = .tup (.str k.head :: r) := by
  cases k with
  | pl c => exact ⟨_, rfl⟩
  | tw f a b => exact ⟨_, rfl⟩
theorem fm_ne (f : Fm) : (f.s == ("plain" : Str)) = false := by cases f <;> decide
theorem fm_ne' (f : Fm) : (("plain" : Str) == f.s) = false := by cases f <;> decide
theorem fm_inj {f g : Fm} (h : f.s = g.s) : f = g := by
  cases f <;> cases g <;> first | rfl | exact absurd h (by decide)
theorem fm_beq (f g : Fm) : (f.s == g.s) = decide (f = g) := by
  cases f <;> cases g <;> decide
theorem plain_beq : (("plain" : Str) == ("plain" : Str)) = true := by decide
end DL
/-! DI -/
set_option Elab.async false
set_option linter.all false
set_option maxRecDepth 100000
set_option maxHeartbeats 4000000
namespace DL
open PySem L2 PyProof.Rows
/-! ### steps through a reading by data -/
section
variable {D : DEnds} {S : Sl} {M : Mem} {P : PV} {PB : Bool → Mem → Prop} {PA : List DV → Mem → Prop} {PS : Sl → Mem → Prop} {a b : DS} {d da db dc : DE} {t u : DT} {da' : DA} {g : DG} {gs : DGs} {x y z : DV} {i j : Nat} {dr dr' : DR2} {xs ys : List DV} {p q : Addr}
theorem i_seq (h : a { D with nx := fun S' M' => b D S' M' } S M) : dSeq a b D S M := h
theorem i_seqI (W : Sl → Mem → Prop) (fin : ∀ S' M', W S' M' → b D S' M') (main : ∀ R : Sl → Mem → Prop, (∀ S' M', W S' M' → R S' M') → a { D with nx := R } S M) : dSeq a b D S M := main _ fin
theorem i_next (h : D.nx S M) : dNext D S M := h
theorem i_asg (h : d S M fun x M1 => g x S M1 D.nx) : dAsg d g D S M := h
theorem i_drop (h : d S M fun _ M1 => D.nx S M1) : dDrop d D S M := h
theorem i_ret (h : d S M D.rt) : dRet d D S M := h
theorem i_retN (h : D.rt .non M) : dRetN D S M := h
theorem i_name (h : PS (S.set i (some x)) M) : dgName i x S M PS := h
theorem i_var (h : S[i]? = some (some x)) (p : P x M) : dVar i S M P := ⟨x, h, p⟩
theorem i_c (p : P x M) : dC x S M P := p
theorem i_op (h : da S M fun x M1 => db S M1 fun y M2 => dr x y M2 P) : dOp dr da db S M P := h
theorem i_test (h : d S M fun x M1 => ∃ k, x = .bl k ∧ PB k M1) : dTest d S M PB := h
theorem i_bl {k : Bool} (h : PB k M) : ∃ c, DV.bl k = .bl c ∧ PB c M := ⟨k, rfl, h⟩
theorem i_truth (h : d S M fun x M1 => dTru x M1 fun b => PB b M1) : dTruth d S M PB := h
theorem i_trub {k : Bool} {B : Bool → Prop} (h : B k) : dTru (.bl k) M B := h
theorem i_trul {B : Bool → Prop} (e : M p = some (.lst xs)) (h : B (!xs.isEmpty)) : dTru (.loc p) M B := by
  show (match M p with | some (.lst xs) => B (!xs.isEmpty) | some (.dct kvs) => B (!kvs.isEmpty) | none => False)
  rw [e]; exact h
theorem i_and (h : t S M fun c M1 => if c = true then u S M1 PB else PB false M1) : dAndT t u S M PB := h
theorem i_or (h : t S M fun c M1 => if c = true then PB true M1 else u S M1 PB) : dOrT t u S M PB := h
theorem i_not (h : t S M fun c M1 => PB (!c) M1) : dNotT t S M PB := h
theorem i_andV (h : da S M fun x M1 => ∃ c, x = .bl c ∧ if c = true then db S M1 P else P (.bl false) M1) : dAndV da db S M P := h
theorem i_orV (h : da S M fun x M1 => ∃ c, x = .bl c ∧ if c = true then P (.bl true) M1 else db S M1 P) : dOrV da db S M P := h
theorem i_notV (h : da S M fun x M1 => ∃ c, x = .bl c ∧ P (.bl (!c)) M1) : dNotV da S M P := h
theorem i_blV {k : Bool} {R : Bool → Prop} (h : R k) : ∃ c, DV.bl k = .bl c ∧ R c := ⟨k, rfl, h⟩
theorem i_if (h : t S M fun b M1 => if b = true then a D S M1 else b' D S M1) : dIfS t a b' D S M := h
theorem i_ifE (h : t S M fun c M1 => if c = true then da S M1 P else db S M1 P) : dIf t da db S M P := h
theorem i_t {c : Bool} {A B : Prop} (e : c = true) (h : A) : if c = true then A else B := by rw [if_pos e]; exact h
theorem i_f {c : Bool} {A B : Prop} (e : c = false) (h : B) : if c = true then A else B := by rw [if_neg (by rw [e]; exact Bool.false_ne_true)]; exact h
theorem i_tt {A B : Prop} (h : A) : if true = true then A else B := by rw [if_pos rfl]; exact h
theorem i_ff {A B : Prop} (h : B) : if false = true then A else B := by rw [if_neg Bool.false_ne_true]; exact h
theorem i_tf {c : Bool} {A B : Prop} (h1 : c = true → A) (h2 : c = false → B) : if c = true then A else B := by
  cases c with
  | true => exact i_t rfl (h1 rfl)
  | false => exact i_f rfl (h2 rfl)
theorem i_intI {n : Int} (h : P (.int n) M) : dInt [.int n] M P := h
theorem i_intB {k : Bool} (h : P (.int (if k then 1 else 0)) M) : dInt [.bl k] M P := h
theorem i_subL {do_ di : DE} (h : do_ S M fun x M1 => di S M1 fun y M2 => ∃ p xs k j, x = .loc p ∧ y = .int k ∧ M2 p = some (.lst xs) ∧ ixN xs.length k = some j ∧ PS S (M2.up p (.lst (xs.set j z)))) : dgSubL do_ di z S M PS := h
theorem i_yes (h : PB true M) : dYes S M PB := h
theorem i_nil (h : PA [] M) : dNil S M PA := h
theorem i_cons {dr : DA} (h : d S M fun x M1 => dr S M1 fun xs M2 => PA (x :: xs) M2) : dCons d dr S M PA := h
theorem i_tup (h : da' S M fun xs M1 => xs.length ≤ 100000 ∧ P (.tup xs) M1) : dTup da' S M P := h
theorem i_lst (h : da' S M fun xs M1 => xs.length ≤ 100000 ∧ ∀ p, M1 p = none → P (.loc p) (M1.up p (.lst xs))) : dLst da' S M P := h
theorem i_CB {dc : DC} (h : da' S M fun xs M1 => dc xs M1 P) : dCB dc da' S M P := h
theorem i_call {fs : FS} {Pe : PX} (h : da' S M fun xs M1 => fs xs M1 P Pe) : dCall fs Pe da' S M P := h
theorem i_callN {fs : FS} {Pe : PX} {n m : Nat} {π : List Nat} {dk : DA} (h : da' S M fun xs M1 => dk S M1 fun zs M2 => xs.length = n ∧ zs.length = m ∧ fs (pick π xs zs) M2 P Pe) : dCallN n m fs π Pe da' dk S M P := h
theorem i_ixT {n : Int} (h : atI xs n = some z) (p : P z M) : dIx (.tup xs) (.int n) M P := ⟨n, rfl, xs, z, rfl, h, p⟩
theorem i_ixF {n : Int} (h : atI xs n = some z) (p : P z M) : dIx (.fl xs) (.int n) M P := ⟨n, rfl, xs, z, rfl, h, p⟩
theorem lst_loc (e : M p = some (.lst xs)) : lstOf M (.loc p) = some xs := by
  show (match M p with | some (.lst xs) => some xs | _ => none) = some xs
  rw [e]
theorem seq_loc (e : M p = some (.lst xs)) : seqOf M (.loc p) = some xs := lst_loc e
theorem i_ixL {n : Int} (e : M p = some (.lst xs)) (h : atI xs n = some z) (k : P z M) : dIx (.loc p) (.int n) M P := ⟨n, rfl, xs, z, seq_loc e, h, k⟩
theorem i_eqS {c : Bool} (h : scalD x y = some c) (p : P (.bl c) M) : dEqS x y M P := ⟨c, h, p⟩
theorem i_neS {c : Bool} (h : scalD x y = some c) (p : P (.bl (!c)) M) : dNeS x y M P := ⟨c, h, p⟩
theorem i_I0 {n m : Int} {f : Int → Int → DV} (p : P (f n m) M) : dI0 f (.int n) (.int m) M P := p
theorem i_add {n m : Int} (p : P (.int (n + m)) M) : dAdd (.int n) (.int m) M P := p
theorem i_addS {n m : Str} (l : n.length + m.length ≤ 100000) (p : P (.str (n ++ m)) M) : dAdd (.str n) (.str m) M P := ⟨l, p⟩
theorem i_addL (e1 : M p = some (.lst xs)) (e2 : M q = some (.lst ys)) (l : xs.length + ys.length ≤ 100000) (h : ∀ r, M r = none → P (.loc r) (M.up r (.lst (xs ++ ys)))) : dAdd (.loc p) (.loc q) M P := ⟨xs, ys, e1, e2, l, h⟩
theorem i_IC {n m : Int} {f : Int → Int → DV} {C : Int → Int → Prop} (c : C n m) (p : P (f n m) M) : dIC C f (.int n) (.int m) M P := ⟨c, p⟩
theorem i_inKd {s : Str} {f : Str → Option Bool} {c : Bool} {dd : Addr} (h : f s = some c) (p : P (.bl c) M) : dInKd dd f (.str s) (.loc dd) M P := ⟨s, c, rfl, rfl, h, p⟩
theorem i_isN {c : Bool} (h : isN x = c) (p : P (.bl c) M) : dIsN x .non M P := ⟨rfl, by rw [h]; exact p⟩
theorem i_notN {c : Bool} (h : isN x = c) (p : P (.bl (!c)) M) : dNotN x .non M P := ⟨rfl, by rw [h]; exact p⟩
theorem i_neNil (e1 : M p = some (.lst xs)) (e2 : M q = some (.lst [])) (h : P (.bl (!xs.isEmpty)) M) : dNeNil (.loc p) (.loc q) M P := ⟨xs, lst_loc e1, lst_loc e2, h⟩
theorem i_append1 (h : d S M fun x M1 => (∃ ys, lstOf M1 x = some ys) ∧ da S M1 fun y M2 => ∃ p xs, x = .loc p ∧ M2 p = some (.lst xs) ∧ xs.length < 100000 ∧ P .non (M2.up p (.lst (xs ++ [y])))) : dAppend d da S M P := h
theorem i_append2 (e : M p = some (.lst xs)) (l : xs.length < 100000) (h : P .non (M.up p (.lst (xs ++ [y])))) : ∃ q ys, DV.loc p = .loc q ∧ M q = some (.lst ys) ∧ ys.length < 100000 ∧ P .non (M.up q (.lst (ys ++ [y]))) := ⟨p, xs, rfl, e, l, h⟩
theorem i_pop1 (h : d S M fun x M1 => ∃ p xs y, x = .loc p ∧ M1 p = some (.lst xs) ∧ xs[xs.length - 1]? = some y ∧ P y (M1.up p (.lst xs.dropLast))) : dPop d S M P := h
theorem i_pop2 (e : M p = some (.lst (xs ++ [y]))) (h : P y (M.up p (.lst xs))) : ∃ q ys z, DV.loc p = .loc q ∧ M q = some (.lst ys) ∧ ys[ys.length - 1]? = some z ∧ P z (M.up q (.lst ys.dropLast)) :=
  ⟨p, _, y, rfl, e, by simp, by rw [List.dropLast_concat]; exact h⟩
theorem i_revL (e : M p = some (.lst xs)) (h : ∀ r, M r = none → P (.loc r) (M.up r (.lst xs.reverse))) : ∃ ys, lstOf M (.loc p) = some ys ∧ ∀ r, M r = none → P (.loc r) (M.up r (.lst ys.reverse)) := ⟨xs, lst_loc e, h⟩
theorem i_iterL {Q : List DV → (Mem → Prop) → Mem → Prop} (h : d S M fun x M1 => dIterV x M1 Q) : dIter d S M Q := h
theorem i_iter1 {Q : List DV → (Mem → Prop) → Mem → Prop} (e : M p = some (.lst xs)) (h : Q xs (fun M2 => M2 p = some (.lst xs)) M) : dIterV (.loc p) M Q := ⟨xs, seq_loc e, h⟩
theorem i_iterT {Q : List DV → (Mem → Prop) → Mem → Prop} (h : Q xs (fun _ => True) M) : dIterV (.tup xs) M Q := ⟨xs, rfl, h⟩
theorem i_iterF {Q : List DV → (Mem → Prop) → Mem → Prop} (h : Q xs (fun _ => True) M) : dIterV (.fl xs) M Q := ⟨xs, rfl, h⟩
theorem i_iterS {z : Str} {Q : List DV → (Mem → Prop) → Mem → Prop} (h : Q (signs z) (fun _ => True) M) : dIterV (.str z) M Q := h
theorem i_chain (h : da S M fun x M1 => db S M1 fun y M2 => dr x y M2 fun z M3 => ∃ k, z = .bl k ∧ (if k = true then dc S M3 fun w M4 => dr' y w M4 P else P (.bl false) M3)) : dChain dr dr' da db dc S M P := h
theorem i_leS {m n : Str} (h : P (.bl (!decide (n.cps.toList < m.cps.toList))) M) : dLeS (.str m) (.str n) M P := h
theorem i_par (h : da' S M fun xs M1 => ∃ x y, xs = [x, y] ∧ D.nx ((S.set i (some x)).set j (some y)) M1) : dPar i j da' D S M := h
theorem i_par2 (h : D.nx ((S.set i (some x)).set j (some y)) M) : ∃ x' y', [x, y] = [x', y'] ∧ D.nx ((S.set i (some x')).set j (some y')) M := ⟨x, y, rfl, h⟩
theorem i_gtup {n : Nat} (l : xs.length = n) (h : gs xs S M PS) : dgTup n gs (.tup xs) S M PS := ⟨xs, rfl, l, h⟩
theorem i_gcons (h : g x S M fun S' M' => gs xs S' M' PS) : dgCons g gs (x :: xs) S M PS := ⟨x, xs, rfl, h⟩
theorem i_gnil (h : PS S M) : dgNil [] S M PS := ⟨rfl, h⟩
theorem i_lenL (e : M p = some (.lst xs)) (h : P (.int (xs.length : Nat)) M) : dLen [.loc p] M P := ⟨_, rfl, _, seq_loc e, h⟩
theorem i_lenT (h : P (.int (xs.length : Nat)) M) : dLen [.tup xs] M P := ⟨_, rfl, _, rfl, h⟩
theorem i_lenF (h : P (.int (xs.length : Nat)) M) : dLen [.fl xs] M P := ⟨_, rfl, _, rfl, h⟩
theorem i_lenS {s : Str} (l : s.length ≤ 100000) (h : P (.int (s.length : Nat)) M) : dLen [.str s] M P := ⟨_, rfl, l, h⟩
theorem i_for {di : DI} {dg : DG} (h : di S M fun xs C M1 => ∃ I : List DV → Sl → Mem → Prop, I xs S M1 ∧ (∀ S2 M2, I [] S2 M2 → C M2 ∧ D.nx S2 M2) ∧
  ∀ x r S2 M2, I (x :: r) S2 M2 → C M2 ∧ dg x S2 M2 fun S3 M3 => b { nx := I r, ct := I r, bk := D.nx, rt := D.rt } S3 M3) : dFor di dg b D S M := h
theorem i_while {c : DT} (h : ∃ W : Nat → Sl → Mem → Prop, (∃ m, W m S M) ∧ ∀ m S M, W m S M →
  c S M fun k M1 => if k = true then b { D with nx := fun S' M' => ∃ m', m' < m ∧ W m' S' M', ct := fun S' M' => ∃ m', m' < m ∧ W m' S' M', bk := D.nx } S M1 else D.nx S M1) : dWhile c b D S M := h
theorem i_lc {di : DI} {dg : DG} {dt : DT} {vs : List Nat} (h : di S M fun xs C M1 => ∀ D, M1 D = none → ∃ I : List DV → List DV → Mem → Prop, I xs [] (M1.up D (.lst [])) ∧
  (∀ acc M2, I [] acc M2 → C M2 ∧ P (.loc D) M2) ∧
  ∀ x r acc M2, I (x :: r) acc M2 → C M2 ∧ dg x (wipeD S vs) M2 fun S3 M3 => dt S3 M3 fun b M4 => if b = true then d S3 M4 fun y M5 => M5 D = some (.lst acc) ∧ acc.length < 100000 ∧ I r (acc ++ [y]) (M5.up D (.lst (acc ++ [y]))) else I r acc M4) : dLc di dg dt d vs S M P := h
theorem i_zip {Q : List DV → (Mem → Prop) → Mem → Prop} (h : da' S M fun zs M1 => ∃ x y xs ys, zs = [x, y] ∧ seqOf M1 x = some xs ∧ seqOf M1 y = some ys ∧ isTupD x = isTupD y ∧ Q (pairs xs ys) (fun M2 => isStand x xs M2 ∧ isStand y ys M2) M1) : dZip da' S M Q := h
theorem i_rng1 {Q : List DV → (Mem → Prop) → Mem → Prop} (h : da' S M fun xs M1 => ∃ j : Int, xs = [.int j] ∧ j < 2 ^ 62 ∧ -(2 ^ 62) ≤ j ∧ Q (rngD 0 j.toNat) (fun _ => True) M1) : dRng1 da' S M Q := h
theorem i_rng2 {Q : List DV → (Mem → Prop) → Mem → Prop} (h : da' S M fun xs M1 => ∃ i j : Int, xs = [.int i, .int j] ∧ (-(2 ^ 62) ≤ i ∧ i < 2 ^ 62 ∧ -(2 ^ 62) ≤ j ∧ j < 2 ^ 62) ∧ Q (rngD i (j - i).toNat) (fun _ => True) M1) : dRng2 da' S M Q := h
theorem i_join (h : da S M fun x M1 => ∃ z, x = .str z ∧ db S M1 fun y M2 => ∃ ys ss, seqOf M2 y = some ys ∧ strsOf ys = some ss ∧ (ss.map (·.length)).sum + ss.length * z.length ≤ 16777216 ∧ P (.str (Txt.join z ss)) M2) : dJoin da db S M P := h
theorem i_isiT {n1 n2 : String} (h : d S M fun x M1 => ∃ m b, tyD M1 x = some m ∧ kitAnyB m [n1, n2] = some b ∧ P (.bl b) M1) : dIsiT n1 n2 d S M P := h
theorem i_revS (h : d S M fun x M1 => ∃ xs, lstOf M1 x = some xs ∧ ∀ p, M1 p = none → P (.loc p) (M1.up p (.lst xs.reverse))) : dRevL d S M P := h
theorem i_ixK0 {k : Kd} (h : P (.str k.head) M) : dIx k.dv (.int 0) M P := by
  cases k with
  | pl c => exact i_ixT rfl h
  | tw f a b => exact i_ixT rfl h
theorem i_ixP1 {c : Nat} (h : P (.str (sg c)) M) : dIx (Kd.pl c).dv (.int 1) M P := i_ixT rfl h
theorem i_ixW1 {f : Fm} {a b : Kd} (h : P a.dv M) : dIx (Kd.tw f a b).dv (.int 1) M P := i_ixT rfl h
theorem i_ixW2 {f : Fm} {a b : Kd} (h : P b.dv M) : dIx (Kd.tw f a b).dv (.int 2) M P := i_ixT rfl h
end
end DL
/-! DL7 -/
set_option Elab.async false
set_option linter.all false
set_option maxRecDepth 100000
set_option maxHeartbeats 4000000
namespace DL
open PySem L2 PyProof.Rows
/-! ### texts of letters, sorted sets of texts -/
/-- a text of letters -/
def txtOf (l : List Nat) : Str := ⟨l.toArray⟩
theorem txt_len (l : List Nat) : (txtOf l).length = l.length := by
  show l.toArray.size = l.length
  simp
theorem join_txt : ∀ l : List Nat, Str.join ⟨#[]⟩ (l.map sg) = txtOf l
  | [] => rfl
  | [k] => rfl
  | k :: m :: r => by
    show (⟨#[k]⟩ : Str) ++ ⟨#[]⟩ ++ Str.join ⟨#[]⟩ ((m :: r).map sg) = _
    rw [join_txt (m :: r)]
    apply congrArg Str.mk
    apply Array.toList_inj.mp
    simp [Str.cps_append, txtOf]
theorem txt_join {z : Str} (e : z.cps.toList = []) (l : List Nat) : Txt.join z (l.map sg) = txtOf l := by
  have ez : z = ⟨#[]⟩ := by
    obtain ⟨a⟩ := z
    exact congrArg Str.mk (Array.toList_inj.mp e)
  subst ez
  rw [← join_txt l]
  show Builtin.Str.glued _ _ = _
  rw [StrLaws.glued_eq_join]
theorem strs_txt (l : List Nat) : strsOf (l.map fun c => DV.str (sg c)) = some (l.map sg) := by
  induction l with
  | nil => rfl
  | cons a r ih => 
    show (strsOf (r.map fun c => DV.str (sg c))).map _ = _
    rw [ih]; rfl
theorem sum_sg (l : List Nat) : ((l.map sg).map (·.length)).sum = l.length := by
  induction l with
  | nil => rfl
  | cons a r ih => simp only [List.map_cons, List.sum_cons, List.length_cons, ih]; show 1 + r.length = _; omega
section
variable {P : PV} {M : Mem}
theorem i_ixS {s : List Nat} {n : Int} {c : Nat} (l : s.length ≤ 100000) (h : atI s n = some c) (k : P (.str (sg c)) M) : dIx (.str (txtOf s)) (.int n) M P :=
  ⟨n, rfl, by rw [txt_len]; exact l, c, h, k⟩
theorem i_joinT {z : Str} {l : List Nat} (e : z.cps.toList = []) (hl : l.length ≤ 100000) (h : P (.str (txtOf l)) M) {y : DV} (hy : seqOf M y = some (l.map fun c => DV.str (sg c))) : ∃ ys ss, seqOf M y = some ys ∧ strsOf ys = some ss ∧ (ss.map (·.length)).sum + ss.length * z.length ≤ 16777216 ∧ P (.str (Txt.join z ss)) M :=
  ⟨_, _, hy, strs_txt l, by
    have : z.length = 0 := by show z.cps.size = 0; rw [← Array.length_toList, e]; rfl
    rw [sum_sg, this, Nat.mul_zero]; omega, by rw [txt_join e]; exact h⟩
end
/-- sorted(set(x)) of a list of texts -/
def dSortedSet (d : DA) : DE := fun S M P => d S M fun xs M1 => ∃ x ys ss, xs = [x] ∧ lstOf M1 x = some ys ∧ strsOf ys = some ss ∧ ss.length < 64 ∧ ∀ ts p, ts.Nodup → sortedS ts = true → (∀ z, z ∈ ts ↔ z ∈ ss) → M1 p = none → P (.loc p) (M1.up p (.lst (ts.map .str)))
theorem abc_txt : ("abcdefghijklmnopqrstuvwxyz" : Str) = txtOf (List.range' 97 26) := by decide
theorem abc_at {r : Int} (h0 : 0 ≤ r) (h1 : r < 26) : ∃ c, atI (List.range' 97 26) r = some c ∧ 97 ≤ c ∧ c ≤ 122 := by
  obtain ⟨m, rfl⟩ : ∃ m : Nat, r = (m : Int) := ⟨r.toNat, by omega⟩
  have hm : m < 26 := by omega
  refine ⟨97 + m, atI_nat ?_, by omega, by omega⟩
  rw [List.getElem?_range' (by omega)]
  simp
end DL
/-! DL8 -/
set_option Elab.async false
set_option linter.all false
set_option maxRecDepth 100000
set_option maxHeartbeats 4000000
namespace DL
open PySem PySem.Spec PyProof.Rows L2
/-! ### sets of texts -/
def txtKey (e : Int × Value) : Str := match e.2 with | .str z _ => z | _ => Str.empty
def TxtE (P : Program) (w : World) (e : Int × Value) : Prop := ∃ z tk, e.2 = Value.str z tk ∧ e.1 = (PySem.strKind P w).hash z
/-- what stands in the table of a set of these texts -/
structure TabOk (P : Program) (w : World) (l : List Str) (es : Array (Int × Value)) (t : SetTable) : Prop where
  els : ∀ e ∈ es.toList, TxtE P w e
  once : (es.toList.map txtKey).Nodup
  mem : ∀ z, z ∈ l ↔ z ∈ es.toList.map txtKey
  few : es.size < scanBound
  fit : t.fits es.size = true
  ris : Ris t.place.toList
  led : w.params.followText "set-order" = true ∨ t.led = true
def TxtSet (P : Program) (w : World) (h : Heap) (a : Addr) (l : List Str) (n : Nat) : Prop :=
  ∃ (o : Obj) (es : Array (Int × Value)) (ep : Nat) (t : SetTable), h.get? a = some o ∧ o.ExactSet ∧ o.data = .set es ep t ∧ TabOk P w l es t ∧ es.size ≤ n
section
variable {P : Program} {w : World} {h h' : Heap} {a : Addr} {l : List Str} {n : Nat}
theorem TxtSet.keep (R : TxtSet P w h a l n) (k : ∀ o, h.get? a = some o → h'.get? a = some o) : TxtSet P w h' a l n :=
  let ⟨o, es, ep, t, ho, r⟩ := R
  ⟨o, es, ep, t, k o ho, r⟩
theorem txt_els {es : List (Int × Value)} (g : ∀ e ∈ es, TxtE P w e) : ElemsOf (PySem.strKind P w) es := fun e he => by
  obtain ⟨z, tk, h1, h2⟩ := g e he
  refine ⟨⟨z, ?_, h2⟩, ?_⟩
  · rw [h1]; exact strKind_is P w z tk
  · rw [h1]; rfl
theorem txt_is {e : Int × Value} (g : TxtE P w e) (z : Str) : (PySem.strKind P w).is z e.2 = true ↔ txtKey e = z := by
  obtain ⟨y, tk, h1, _⟩ := g
  have hk : txtKey e = y := by unfold txtKey; rw [h1]
  rw [hk]
  constructor
  · intro q
    rw [h1] at q
    exact (PySem.strKind P w).inj _ _ _ (strKind_is P w y tk) q
  · intro q
    subst q
    rw [h1]
    exact strKind_is P w y tk
theorem txt_mem {es : List (Int × Value)} (g : ∀ e ∈ es, TxtE P w e) (z : Str) : z ∈ es.map txtKey ↔ ∃ e ∈ es, (PySem.strKind P w).is z e.2 = true := by
  rw [List.mem_map]
  exact ⟨fun ⟨e, he, q⟩ => ⟨e, he, (txt_is (g e he) z).2 q⟩, fun ⟨e, he, q⟩ => ⟨e, he, (txt_is (g e he) z).1 q⟩⟩
end
section
variable {P : Program} {w : World} {A : Around} {E : Value → Shared → Prop} {s : Shared} {a : Addr} {l l' : List Str} {n : Nat}
theorem txt_tail {g : Bool → Sem Unit} (hg : ∀ (b : Bool) (u : Shared) (R' : Unit → Shared → Prop), R' () u → wpAny (model P w) A (g b) R' E u)
    {o : Obj} {es es1 : Array (Int × Value)} {ep : Nat} {t t2 : SetTable} (ho : s.heap.get? a = some o) (hex : o.ExactSet) (hd : o.data = .set es ep t)
    (T : TabOk P w l' es1 t2) {dm : Bool} {R : Option Bool → Shared → Prop}
    (hR : ∀ h', Heap.SameBut a s.heap h' → TxtSet P w h' a l' es1.size → R (some true) { s with heap := h' }) :
    wpAny (model P w) A (do
        storeSet a es1 t2
        if (!dm && t2.tooFull) = true then do
            g (relayAll t2 es1 (SetTable.grown es1.size)).2.2
            storeSet a (relayAll t2 es1 (SetTable.grown es1.size)).1 (relayAll t2 es1 (SetTable.grown es1.size)).2.1
            pure (some true)
          else pure (some true)) R E s := by
  refine wpAny_bind (wpAny_storeSet_of ho hd ?_ (fits_of_scanBound T.few))
  have k1 := store_at (es' := es1) (t' := t2) ho hd
  have b1 := Heap.SameBut.update s.heap a (Obj.putSet es1 t2)
  split
  · have p0 := relayAll_perm t2 es1 (SetTable.grown es1.size)
    have p1 := relayAll_fits t2 es1 (SetTable.grown es1.size)
    have p2 := relayAll_ris t2 es1 (SetTable.grown es1.size)
    have p3 := relayAll_led t2 es1 (SetTable.grown es1.size)
    generalize relayAll t2 es1 (SetTable.grown es1.size) = Z at p0 p1 p2 p3 ⊢
    obtain ⟨es2, t3, gave⟩ := Z
    dsimp only at p0 p1 p2 p3 ⊢
    have z2 : es2.size = es1.size := by rw [← Array.length_toList, p0.length_eq, Array.length_toList]
    have few2 : es2.size < scanBound := by have := T.few; omega
    refine wpAny_bind (hg _ _ _ (wpAny_bind (wpAny_storeSet_of k1 rfl ?_ (fits_of_scanBound few2))))
    have k2 := store_at (es' := es2) (t' := t3) k1 rfl
    refine wpAny_pure (hR _ (b1.trans (Heap.SameBut.update _ a _)) ⟨_, es2, _, t3, k2, hex, rfl, ⟨?_, ?_, ?_, few2, p1, p2, ?_⟩, Nat.le_of_eq z2⟩)
    · exact fun e he => T.els e (p0.mem_iff.mp he)
    · exact (p0.map txtKey).nodup_iff.mpr T.once
    · exact fun z => (T.mem z).trans (p0.map txtKey).mem_iff.symm
    · exact T.led.imp id fun z => by rw [p3]; exact z
  · exact wpAny_pure (hR _ b1 ⟨_, es1, _, t2, k1, hex, rfl, T, Nat.le_refl _⟩)
theorem txt_add {z : Str} {tk : Tok} {Q : Bool → Shared → Prop} (R : TxtSet P w s.heap a l n) (room : n + 1 < scanBound)
    (hQ : ∀ h' b, Heap.SameBut a s.heap h' → TxtSet P w h' a (l ++ [z]) (n + 1) → Q b { s with heap := h' }) :
    wpAny (model P w) A (setAddHashed a (.str z tk) ((PySem.strKind P w).hash z)) Q E s := by
  obtain ⟨o, es, ep, t, ho, hex, hd, T, hn⟩ := R
  have key : (PySem.strKind P w).is z (.str z tk) = true := strKind_is P w z tk
  have sc : (Value.str z tk).scannable = true := rfl
  have el : ElemsOf (PySem.strKind P w) es.toList := txt_els T.els
  unfold setAddHashed setAddHashedIn
  refine wpAny_holding (wpAny_bind (wpAny_setState_of ho hd T.fit ?_))
  dsimp only
  rw [byScan_of sc T.few el]
  simp only [↓reduceIte]
  unfold setAddByScan
  refine wpAny_bind (wpAny_bind (wpAny_rule (wpAny_bind (wpAny_setScan_of key ho hd T.fit el ?_))))
  cases hfi : List.findIdx? (fun e => (PySem.strKind P w).is z e.2) es.toList with
  | some j =>
    dsimp only
    obtain ⟨hj, pj, _⟩ := List.findIdx?_eq_some_iff_getElem.mp hfi
    have hz : z ∈ l := (T.mem z).2 ((txt_mem T.els z).2 ⟨es.toList[j], List.getElem_mem hj, pj⟩)
    have hl : ∀ y, y ∈ l ++ [z] ↔ y ∈ es.toList.map txtKey := fun y => by
      rw [← T.mem y, List.mem_append, List.mem_singleton]
      exact ⟨fun q => q.elim id fun e => by rw [e]; exact hz, .inl⟩
    exact wpAny_pure (wpAny_pure (hQ s.heap _ (Heap.SameBut.refl a s.heap) ⟨o, es, ep, t, ho, hex, hd, ⟨T.els, T.once, hl, T.few, T.fit, T.ris, T.led⟩, Nat.le_succ_of_le hn⟩))
  | none =>
    dsimp only
    have hz : z ∉ es.toList.map txtKey := fun q => by
      obtain ⟨e, he, q⟩ := (txt_mem (P := P) (w := w) T.els z).1 q
      have c := List.findIdx?_eq_none_iff.mp hfi e he
      rw [q] at c; cases c
    have hgw : ∀ (b : Bool) {u : Shared} {R' : Unit → Shared → Prop}, R' () u → wpAny (model P w) A (match b with | true => rule "set.scan.the-table-gave-way" | false => pure ()) R' E u := by
      intro b u R' q; cases b
      · exact wpAny_pure q
      · exact wpAny_rule q
    have p0 := layNew_perm t es ((PySem.strKind P w).hash z) (.str z tk)
    have p1 := layNew_fits t es ((PySem.strKind P w).hash z) (.str z tk)
    have p2 := layNew_ris t es ((PySem.strKind P w).hash z) (.str z tk) T.ris
    have p3 := layNew_led t es ((PySem.strKind P w).hash z) (.str z tk)
    generalize layNew t es ((PySem.strKind P w).hash z) (.str z tk) = Z at p0 p1 p2 p3 ⊢
    obtain ⟨es1, t1, wd, gave⟩ := Z
    dsimp only at p0 p1 p2 p3 ⊢
    rw [Array.toList_push] at p0
    have p4 : es1.toList.Perm (((PySem.strKind P w).hash z, Value.str z tk) :: es.toList) := p0.trans (List.perm_append_singleton _ _)
    have p5 : (es1.toList.map txtKey).Perm (z :: es.toList.map txtKey) := p4.map txtKey
    have els1 : ∀ e ∈ es1.toList, TxtE P w e := by
      intro e he
      rcases List.mem_cons.mp (p4.mem_iff.mp he) with q | q
      · rw [q]; exact ⟨z, tk, rfl, rfl⟩
      · exact T.els e q
    have once1 : (es1.toList.map txtKey).Nodup := p5.nodup_iff.mpr (List.nodup_cons.mpr ⟨hz, T.once⟩)
    have mem1 : ∀ y, y ∈ l ++ [z] ↔ y ∈ es1.toList.map txtKey := fun y => by
      rw [p5.mem_iff, List.mem_cons, List.mem_append, List.mem_singleton, T.mem y]
      exact Or.comm
    have z1 : es1.size ≤ n + 1 := by
      have q := p4.length_eq
      rw [Array.length_toList, List.length_cons, Array.length_toList] at q
      omega
    have few1 : es1.size < scanBound := Nat.lt_of_le_of_lt z1 room
    have led1 : w.params.followText "set-order" = true ∨ t1.led = true := T.led.imp id fun q => by rw [p3]; exact q
    have fin : ∀ h', Heap.SameBut a s.heap h' → TxtSet P w h' a (l ++ [z]) es1.size → Q true { s with heap := h' } := fun h' sb ⟨o, e, p, t, r1, r2, r3, r4, r5⟩ =>
      hQ h' true sb ⟨o, e, p, t, r1, r2, r3, r4, Nat.le_trans r5 z1⟩
    refine wpAny_bind (hgw _ ?_)
    split
    · refine wpAny_bind ?_
      rw [hashByValue_scannable 8 sc]
      refine wpAny_pure ?_
      refine txt_tail ?_ ho hex hd ⟨els1, once1, mem1, few1, ?_, ?_, ?_⟩ ?_
      · intro b u R' q; cases b
        · exact wpAny_pure q
        · exact wpAny_rule q
      · first | (split <;> first | exact p1 | exact SetTable.fits_plain_off p1) | exact p1
      · first | (split <;> exact p2) | exact p2
      · first | (split <;> exact led1) | exact led1
      · intro h' sb r; dsimp only; exact wpAny_pure (fin h' sb r)
    · refine wpAny_bind (wpAny_pure ?_)
      simp only [↓reduceIte]
      refine txt_tail ?_ ho hex hd ⟨els1, once1, mem1, few1, p1, p2, led1⟩ ?_
      · intro b u R' q; cases b
        · exact wpAny_pure q
        · exact wpAny_rule q
      · intro h' sb r; dsimp only; exact wpAny_pure (fin h' sb r)
end
end DL
/-! DL9 -/
set_option Elab.async false
set_option linter.all false
set_option maxRecDepth 100000
set_option maxHeartbeats 4000000
namespace DL
open PySem PySem.Spec PyProof.Rows L2
/-! ### set(texts) -/
def newSet (w : World) : Obj := { cls := .type "set", dict := none, data := .set #[] 0 (.fresh 0 0 (!w.params.followText "set-order")) }
theorem txt_new {P : Program} {w : World} {h : Heap} {a : Addr} (ho : h.get? a = some (newSet w)) : TxtSet P w h a [] 0 := by
  refine ⟨_, #[], 0, _, ho, ⟨rfl, rfl, rfl⟩, rfl, ⟨by simp, by simp, by simp, by decide, by rfl, List.Pairwise.nil, ?_⟩, Nat.le_refl 0⟩
  show w.params.followText "set-order" = true ∨ (!w.params.followText "set-order") = true
  cases w.params.followText "set-order" <;> simp
section
variable {P : Program} {w : World} {A : Around} {E : Value → Shared → Prop} {s : Shared}
theorem txt_loop {I : Addr} {fp wr : List Addr} {G : Array GenState → Array GenState → Prop} {n : Nat} {Pv : Nat → Value → Prop} {St : Nat → Shared → Prop} {R : Result → Shared → Prop}
    (W : WalksS P w A.in1 I fp wr G n Pv St) (T : Addr) (hT : T ∉ fp) (zs : List Str) (hn : n = zs.length) (hb : zs.length + 1 < scanBound) (hval : ∀ i v, Pv i v → ∃ z t, zs[i]? = some z ∧ v = .str z t) :
    ∀ (k i : Nat) (s : Shared), n - i = k → i ≤ n → St i s → TxtSet P w s.heap T (zs.take i) i →
      (∀ u, Moved (T :: wr) G s u → TxtSet P w u.heap T zs n → R (.ok (.ret .none)) u) →
      codeAny (model P w) A (.builtin "set.update.loop" ⟨[.ref T, .ref I], []⟩) R s := by
  have hTw : T ∉ wr := fun q => hT (W.sub _ q)
  have sub : ∀ b ∈ wr, b ∈ T :: wr := fun b q => List.mem_cons_of_mem _ q
  intro k
  induction k with
  | zero =>
    intro i s e0 hi st hS hR
    obtain rfl : i = n := by omega
    refine codeAny_builtin F.entry_set_update_loop ?_; rw [Around.under_plainId F.plain_set_update_loop _]
    show wpAny _ A.in1 (pyNext (.ref I) >>= fun _ => _) _ _ s
    refine wpAny_bind (W.done s _ _ st fun u hm => ?_)
    show wpAny _ A.in1 (ret Value.none) _ _ u
    have e : zs.take i = zs := List.take_of_length_le (Nat.le_of_eq hn.symm)
    rw [e] at hS
    exact wpAny_pure (hR u (hm.mono sub) (hS.keep fun o q => hm.heap T o hTw q))
  | succ k ih =>
    intro i s e0 hi st hS hR
    have lt : i < n := by omega
    refine codeAny_builtin F.entry_set_update_loop ?_; rw [Around.under_plainId F.plain_set_update_loop _]
    show wpAny _ A.in1 (pyNext (.ref I) >>= fun _ => _) _ _ s
    refine wpAny_bind (W.item i s _ _ lt st fun v u hP st' hm => ?_)
    obtain ⟨z, t, hz, rfl⟩ := hval i v hP
    have hS1 : TxtSet P w u.heap T (zs.take i) i := hS.keep fun o q => hm.heap T o hTw q
    show wpAny _ A.in1 (holding [Value.str z t] (setAdd T (.str z t)) >>= fun _ => _) _ _ u
    refine wpAny_bind (wpAny_holding ?_); unfold setAdd
    refine wpAny_holding (wpAny_bind ((PySem.strKind P w).pyHash (k := z) (strKind_is _ _ _ _) ?_))
    refine txt_add (s := { u with toks := u.toks + 1 }) hS1 (by omega) fun h' b sb hS2 => ?_
    have e2 : zs.take (i + 1) = zs.take i ++ [z] := by rw [List.take_add_one, hz]; rfl
    rw [← e2] at hS2
    refine wpAny_pure ⟨plainId_quiet F.plain_set_update_loop _, ih (i + 1) _ (by omega) lt (W.frame _ u _ _ st' (Nat.le_succ _) fun b q o e => ?_) hS2 fun u2 m2 r2 => ?_⟩
    · rw [sb.2 b fun e' : b = T => hT (by rw [← e']; exact q)]; exact e
    · refine hR u2 (Moved.trans W.gtrans ((hm.mono sub).then_heap (Nat.le_succ _) fun b o q e => ?_) m2) r2
      rw [sb.2 b fun e' : b = T => q (by rw [e']; exact List.mem_cons_self)]; exact e
theorem strs_get : ∀ {us : List Value} {zs : List Str}, StrsAre us zs → ∀ (i : Nat) (v : Value), us[i]? = some v → ∃ z t, zs[i]? = some z ∧ v = .str z t
  | _, _, .nil, i, v, h => by simp at h
  | _, _, .cons z t r, 0, v, h => ⟨z, t, rfl, by simpa using h.symm⟩
  | _, _, .cons z t r, i + 1, v, h => strs_get r i v (by simpa using h)
set_option maxHeartbeats 6400000 in
theorem txt_set {l : Addr} {its : Array Value} (zs : List Str) {Q : Value → Shared → Prop} (hh : A.handled = none) (hl : s.heap.IsList l its) (hit : StrsAre its.toList zs) (hb : zs.length + 1 < scanBound)
    (h : ∀ (h' : Heap) (tk : Nat), TxtSet P w h' s.heap.objs.size zs zs.length → (∀ b o, s.heap.get? b = some o → h'.get? b = some o) → Q (.ref s.heap.objs.size) { s with heap := h', toks := tk }) :
    wpAny (model P w) A (call (.type "set") [.ref l]) Q E s := by
  have sz : its.size = zs.length := by rw [← StrsAre.len_eq hit, Array.length_toList]
  obtain ⟨c, tl, mro⟩ := F.called_set.mro
  have made := F.called_set.made
  have hsub := F.called_set.sub
  refine wpAny_call (codeAny_of_tree (show wpAny _ _ (callAny (.type "set") _) _ _ _ from ?_))
  refine wpAny_pure ⟨Code.quiet_builtin _ (by decide +kernel), codeAny_builtin F.entry_type_call ?_⟩; rw [Around.under_plain (weight_type_call_type "set" [.ref l] []) rfl]
  have c1 := F.called_set.notType
  have c2 := F.called_set.canCreate
  have c3 := F.typeCall_set_1 (.ref l)
  repeat (any_goals (first | assumption | wp_step))
  refine codeAny_mono (code_set_led1 (.ref l) (E := E) (Q₁ := fun x u => x = .ref s.heap.objs.size ∧ u = { s with heap := s.heap.push (newSet w) }) ⟨rfl, rfl⟩) fun r u hr => ?_
  cases r with
  | error e => exact hr
  | ok fl =>
    cases fl with
    | ret x =>
      obtain ⟨rfl, rfl⟩ := hr
      have g0 : (s.heap.push (newSet w)).get? s.heap.objs.size = some (newSet w) := Heap.get?_push_size _ rfl
      have tT : Shared.TypeIs { s with heap := s.heap.push (newSet w) } (.ref s.heap.objs.size) "set" := ⟨_, g0, rfl⟩
      have c4 := F.called_set.init.lookup
      have c5 := F.called_set.init.bind (.ref s.heap.objs.size)
      repeat (any_goals (first | assumption | wp_step))
      refine codeAny_mono (codeAny_call_builtin (R := wants (fun r u => r = .none ∧ ∃ h' tk, u = { s with heap := h', toks := tk } ∧ TxtSet P w h' s.heap.objs.size zs zs.length ∧
          (∀ b o, s.heap.get? b = some o → h'.get? b = some o)) E) F.called_set.init.plain F.entry_set_init (check_set_init_1 tT ?_)) fun r2 u2 hr2 => ?_
      · have hl' := hl
        obtain ⟨ol, hol, hcl, nl, hdl⟩ := hl'
        have hol' : (s.heap.push (newSet w)).get? l = some ol := Heap.get?_push_of_some _ hol
        obtain ⟨k1, k2, k3, k4⟩ := ol
        simp only at hcl hdl
        subst hcl hdl
        have d1 := F.sub_list_set
        have d2 := F.sub_list_frozenset
        have d3 : (Value.type "list" == Value.type "dict") = false := by decide
        have hl1 : (s.heap.push (newSet w)).IsList l its := ⟨_, hol', rfl, nl, rfl⟩
        unfold Builtin.«set.__init__» noKeywords Builtin.Frozenset.updateFrom
        generalize hPI : pyIter = PI
        wp_walk
        subst hPI
        refine wpAny_pyIter_list hl1 (wpAny_bind (wpAny_runValue ?_))
        have hlS : l < s.heap.objs.size := Heap.lt_size hol
        have hh3 : A.in1.in1.in1.handled = none := by simp [hh]
        have z1 : (s.heap.push (newSet w)).objs.size = s.heap.objs.size + 1 := Heap.size_push ..
        have n1 : l ≠ (s.heap.push (newSet w)).objs.size := by rw [z1]; exact Nat.ne_of_lt (Nat.lt_succ_of_lt hlS)
        have n2 : s.heap.objs.size ∉ [(s.heap.push (newSet w)).objs.size, l] := by
          rw [z1]; simp only [List.mem_cons, List.not_mem_nil, or_false, not_or]; exact ⟨Nat.ne_of_lt (Nat.lt_succ_self _), Nat.ne_of_gt hlS⟩
        refine txt_loop ((Walks.list hh3 _ l n1 its).toS) s.heap.objs.size n2 zs sz hb (fun i v hv => strs_get hit i v (by rw [Array.getElem?_toList]; exact hv)) (its.size - 0) 0 _ (by omega) (Nat.zero_le _)
          ⟨⟨_, Heap.get?_push_size _ rfl, rfl, rfl⟩, hl1.push _⟩ (txt_new (Heap.get?_push_of_some _ g0)) ?_
        intro u hm hS
        obtain ⟨h', g', d', tk', os'⟩ := u
        obtain rfl : g' = s.gens := hm.gens
        obtain rfl : d' = s.drawn := hm.drawn
        obtain rfl : os' = s.os := hm.os
        show wpAny _ _ _ _ _ _
        refine wpAny_pure (show wpAny _ _ (ret Value.none) _ _ _ from ?_)
        rw [sz] at hS
        refine wpAny_pure ⟨rfl, h', tk', rfl, hS, fun b o e => ?_⟩
        have lt0 : b < s.heap.objs.size := Heap.lt_size e
        refine hm.heap b o ?_ (Heap.get?_push_of_some _ (Heap.get?_push_of_some _ e))
        rw [z1]; simp only [List.mem_cons, List.not_mem_nil, or_false, not_or]; exact ⟨Nat.ne_of_lt lt0, Nat.ne_of_lt (Nat.lt_succ_of_lt lt0)⟩
      · cases r2 with
        | error e => exact hr2
        | ok fl2 =>
          cases fl2 with
          | ret r =>
            obtain ⟨rfl, h', tk, rfl, q1, q2⟩ := hr2
            repeat (any_goals (first | assumption | wp_step))
            exact h _ _ q1 q2
          | _ => exact hr2.elim
    | _ => exact hr.elim
end
end DL
/-! DLa -/
set_option Elab.async false
set_option linter.all false
set_option maxRecDepth 100000
set_option maxHeartbeats 4000000
namespace DL
open PySem PySem.Spec PyProof.Rows L2
/-! ### sorted(set(texts)) -/
theorem strs_of : ∀ (us : List Value), (∀ v ∈ us, ∃ z tk, v = Value.str z tk) → StrsAre us (us.map strOf)
  | [], _ => .nil
  | v :: us, h => by
    obtain ⟨z, tk, rfl⟩ := h v List.mem_cons_self
    exact .cons z tk (strs_of us fun u hu => h u (List.mem_cons_of_mem _ hu))
section
variable {P : Program} {w : World} {A : Around} {E : Value → Shared → Prop} {s : Shared} {a : Addr} {l : List Str} {n : Nat}
theorem txt_sorted {Q : Value → Shared → Prop} (R : TxtSet P w s.heap a l n) (hh : A.handled = none) (h64 : n < 64)
    (hQ : ∀ u p (out : Array Value) (c : Nat) (ts : List Str), (∀ b o, s.heap.get? b = some o → u.heap.get? b = some o) → u.gens = s.gens → u.os = s.os → s.heap.objs.size ≤ p →
      u.heap.get? p = some (seqObj "list" out c) → StrsAre out.toList ts → sortedS ts = true → ts.Nodup → (∀ z, z ∈ ts ↔ z ∈ l) → ts.length < 64 → Q (.ref p) u) :
    wpAny (model P w) A (call (.builtin "sorted") [.ref a]) Q E s := by
  obtain ⟨o, es, ep, t, ho, hex, hd, T, hn⟩ := R
  refine Calls.call_function_entry kind_sorted plain_sorted entry_sorted (args_sorted1 _) ?_
  unfold Builtin.«sorted»
  refine wpAny_bind (m := checkCount "sorted" 1 1 _) (wpAny_pure (wpAny_bind (collect_set (A := A.in1) hh ⟨o, ho, hex.1, hd⟩ T.fit T.few T.ris T.led fun u vs k1 hz g1 o1 pm => ?_)))
  have vl : vs.length = es.size := by rw [pm.length_eq, List.length_map, Array.length_toList]
  have hS : StrsAre vs (vs.map strOf) := strs_of vs fun v hv => by
    obtain ⟨e, he, q⟩ := List.mem_map.mp (pm.mem_iff.mp hv)
    obtain ⟨z, tk, h1, _⟩ := T.els e he
    exact ⟨z, tk, by rw [← q]; exact h1⟩
  have pk : (vs.map strOf).Perm (es.toList.map txtKey) := by
    have q := pm.map strOf
    rw [List.map_map] at q
    refine q.trans (List.Perm.of_eq (List.map_congr_left fun e he => ?_))
    obtain ⟨z, tk, h1, _⟩ := T.els e he
    show strOf e.2 = txtKey e
    unfold txtKey; rw [h1]; rfl
  refine wpAny_bind (wpAny_newList ?_ (by rw [vl, sizeLine_eq]; omega))
  have hL : (u.heap.push (seqObj "list" vs.toArray 0)).get? u.heap.objs.size = some (seqObj "list" vs.toArray 0) := Heap.get?_push_size _ rfl
  refine wpAny_bind (wpAny_holding (wpAny_call_entry slot_list_sort ⟨_, hL, rfl⟩ entry_list_sort (list_sort_treeK strKind_oneLt hL hS.keysOf (fun v1 v2 r e => keyKind_strs (by rw [← e]; exact hS)) (by omega) fun st p1 p2 => ?_) (args_list_sort _)))
  obtain ⟨ts, a1, a2, a3⟩ := sorted_out_str hS p1 p2
  refine ⟨_, rfl, ?_⟩
  obtain ⟨c, hc⟩ := sortedHeap_at (vs := vs) (out := (arrOf st).map (·.2)) hL
  have pn : ts.Perm (es.toList.map txtKey) := a2.trans pk
  refine wpAny_pure ⟨_, rfl, hQ _ u.heap.objs.size _ c ts (fun b v e => ?_) g1 o1 hz hc a1 a3 (pn.nodup_iff.mpr T.once) (fun z => by rw [pn.mem_iff, ← T.mem z]) ?_⟩
  · have q := k1 b v e
    have lt := Heap.lt_size q
    refine Eq.trans (sortedHeap_old (Nat.ne_of_lt lt) (by rw [size_push']; exact Nat.lt_succ_of_lt lt)) ?_
    exact Heap.get?_push_of_some _ q
  · rw [pn.length_eq, List.length_map, Array.length_toList]; omega
end
def TxO (P : Program) (w : World) (a : Addr) (l : List Str) (n : Nat) : HO := .ext fun h => TxtSet P w h a l n
theorem txo_new {w : World} {P : Program} {H : Hp} {h : Heap} {a : Addr} {l : List Str} {n : Nat} (R : TxtSet P w h a l n) : ObjOk P w H h a (TxO P w a l n) := by
  have R' := R
  obtain ⟨o, _, _, _, ho, _⟩ := R'
  exact ⟨R, ⟨o, ho⟩, fun h1 h2 p k => TxtSet.keep p k⟩
def rSetTx (K : PySem.W.Frag) (P : Program) (w : World) : List V → Hp → VK → Prop := fun vs H Q => ∃ (a : Addr) (zs : List Str), vs = [V.ref a] ∧ SqL K H a (zs.map V.str) ∧ zs.length < 64 ∧ ∀ p, H p = none → Q (.ref p) (upd H p (TxO P w p zs zs.length))
def rSortedTx (P : Program) (w : World) : List V → Hp → VK → Prop := fun vs H Q => ∃ (a : Addr) (l : List Str) (n : Nat), vs = [V.ref a] ∧ H a = some (TxO P w a l n) ∧ n < 64 ∧
  ∀ (ts : List Str) (p : Addr), ts.Nodup → sortedS ts = true → (∀ z, z ∈ ts ↔ z ∈ l) → H p = none → Q (.ref p) (upd H p (.lst (ts.map V.str)))
section
variable {X : Cx}
theorem cr_setTx (hc : X.calm = true) : CallR X (.type "set") (rSetTx X.K X.prog X.w) := by
  intro pins s σ H vs us Q I r h
  obtain ⟨a, zs, rfl, hs, h64, q⟩ := h
  obtain ⟨its, rv, hl, _⟩ := I.list hs
  rw [Vals.ref1 r]
  refine txt_set zs (I.ok.hd hc) hl.isList (by simpa using rv.strs) (by unfold scanBound; omega) fun h' tk new k => ?_
  exact ⟨.ref _, upd H s.heap.objs.size (TxO X.prog X.w s.heap.objs.size zs zs.length), I.laid (t' := tk) k (Nat.le_refl _) (txo_new new), rfl, q _ (I.hok.fresh (Nat.le_refl _))⟩
theorem cr_sortedTx (hc : X.calm = true) : CallR X (.builtin "sorted") (rSortedTx X.prog X.w) := by
  intro pins s σ H vs us Q I r h
  obtain ⟨a, l, n, rfl, ha, h64, q⟩ := h
  have R : TxtSet X.prog X.w s.heap a l n := (I.hok a _ ha).1
  rw [Vals.ref1 r]
  refine txt_sorted R (I.ok.hd hc) h64 fun u p out c ts k g o hp hg hi hs nd hm hl => ?_
  have len : (ts.map V.str).length ≤ sizeLine := by rw [List.length_map, sizeLine_eq]; omega
  have hn : H p = none := I.hok.fresh hp
  have new : ObjOk X.prog X.w (upd H p (.lst (ts.map V.str))) u.heap p (.lst (ts.map V.str)) := ⟨len, out.toList, c, vals_of_strs hi, hg⟩
  exact ⟨.ref p, _, I.call' (ch := []) o (Un.laid k hp hn) (I.hok.laid k hp new) (by rw [g]; exact I.bare) (fun _ z => nomatch z), rfl, q ts p nd hs hm hn⟩
end
def rSorted2 (K : PySem.W.Frag) (P : Program) (w : World) (t : TA) : TE := tCB (rSortedTx P w) (tCons (tCB (rSetTx K P w) t) tNil)
theorem re_sorted2 {K : PySem.W.Frag} {P : Program} {w : World} {t : TA} {d : DA} (h : RA K t d) : RE K (rSorted2 K P w t) (dSortedSet d) := fun S M Pv p G σ H o s Q k =>
  h S M _ p G σ H o s _ fun xs M1 vs G1 H1 ⟨x, ys, zs, e, hl, hz, h64, p1⟩ o1 e1 r1 => by
    subst e
    obtain ⟨v, rfl, r⟩ := vall1 r1
    obtain ⟨a, us, rfl, sq, al⟩ := lst_sq o1 r hl
    rw [strs_rel al hz] at sq
    refine ⟨a, zs, rfl, sq, h64, fun b hb => ?_⟩
    obtain ⟨o2, e2⟩ := o1.lay (TxO P w b zs zs.length) hb
    refine ⟨b, zs, zs.length, rfl, upd_same, h64, fun ts q n1 n2 n3 hq => ?_⟩
    have f := o2.free hq
    exact k _ _ _ _ _ (p1 ts q n1 n2 n3 f.1) (o2.putL f.2 (strs_all ts)) ((e1.trans e2)) (.loc q)
section
variable {X : Cx}
theorem qe_sortedSet {e : Expr} {te : TE} {de : DE} {x1 x2 : Pos} {pos pos2 : Pos} (hc : X.calm = true) (hg : Gl X "sorted") (hm : X.mg "sorted" = none) (hg2 : Gl X "set") (hm2 : X.mg "set" = none) (hv : bootBuiltins "sorted" = some (.builtin "sorted")) (hv2 : bootBuiltins "set" = some (.type "set"))
    (he : QE X e te de) (h1 : starEach [e] X.env = [(false, eval e X.env)] := by rfl)
    (h2 : starEach [.Call (.Name "set" x2) [e] [] pos2] X.env = [(false, eval (.Call (.Name "set" x2) [e] [] pos2) X.env)] := by rfl) :
    QE X (.Call (.Name "sorted" x1) [.Call (.Name "set" x2) [e] [] pos2] [] pos) (rSorted2 X.K X.prog X.w (tCons te tNil)) (dSortedSet (dCons de dNil)) :=
  ⟨pe_callB (cr_sortedTx hc) hg hm hv (pa_cons (pe_callTy (cr_setTx hc) hg2 hm2 hv2 (pa_cons he.p pa_nil h1) (by decide) (by decide) h1) pa_nil h2) (by decide) (by decide) h2, re_sorted2 (re_cons he.r qa_nil.r)⟩
theorem qg_tup {es : List Expr} {k : Nat} {g : TGs} {dg : DGs} {n : Nat} {pos : Pos} (hc : X.calm = true) (h : QGs X es g dg) (hn : (assignEach es X.env).length = n := by rfl) (hst : (assignEach es X.env).findIdx? (·.1) = none := by rfl) : QG X (.Tuple es k pos) (gTup X.K n g) (dgTup n dg) := ⟨pg_tup hc h.p hn hst, rg_tup h.r⟩
theorem blk_K {s : Shared} {H : Hp} {sc : Scope} {env : Env} {fp : List Addr} : (X.blk s H sc env fp).K = X.K := rfl
theorem in_blkE {e : Expr} {te te' : TE} {de : DE} (h : QE X e te' de) (q : te' = te) : QE X e te de := q ▸ h
theorem in_blkG {e : Expr} {te te' : TG} {de : DG} (h : QG X e te' de) (q : te' = te) : QG X e te de := q ▸ h
theorem in_blkT {e : List Expr} {te te' : TT} {de : DT} (h : QTs X e te' de) (q : te' = te) : QTs X e te de := q ▸ h
end
end DL
/-! DLb -/
set_option Elab.async false
set_option linter.all false
set_option maxRecDepth 100000
set_option maxHeartbeats 4000000
namespace DL
open PySem L2 PyProof.Rows
/-! ### what stands in a written dict -/
/-- f tells, of the texts that it knows, what stands at them -/
def KVal (K : PySem.W.Frag) (w : World) (dd : Addr) (f : Str → Option DV) : Prop := ∀ z x, f z = some x → ∃ v, KDct K w dd z v ∧ ∀ G, VRel K G x v
def dIxKd (dd : Addr) (f : Str → Option DV) : DR2 := fun x y M P => ∃ z u, x = .loc dd ∧ y = .str z ∧ f z = some u ∧ P u M
section
variable {X : Cx} {K : PySem.W.Frag} {w : World}
theorem ro_ixKd {dd : Addr} {f : Str → Option DV} (hf : KVal K w dd f) : ROp K (rIxD K w) (dIxKd dd f) := by
  intro x y M P ⟨z, u, ex, ey, h, p⟩ G v u' H o r1 r2 Q k
  subst ex; subst ey
  cases r1; cases r2
  obtain ⟨v0, h1, h3⟩ := hf z u h
  exact ⟨dd, z, v0, rfl, rfl, h1, k _ M _ G H p o (Same.refl _) (h3 G)⟩
theorem qe_ixKd {dd : Addr} {f : Str → Option DV} {a b : Expr} {ta tb : TE} {da db : DE} {pos : Pos} (hf : KVal X.K X.w dd f) (ha : QE X a ta da) (hb : QE X b tb db) (hs : PlainIx b := by exact fun _ _ => rfl) :
    QE X (.Subscript a b pos) (tOp (rIxD X.K X.w) ta tb) (dOp (dIxKd dd f) da db) := ⟨pe_ix ix_kdict ha.p hb.p hs, re_op (ro_ixKd hf) ha.r hb.r⟩
theorem i_ixKd {dd : Addr} {f : Str → Option DV} {z : Str} {u : DV} {P : PV} {M : Mem} (h : f z = some u) (p : P u M) : dIxKd dd f (.loc dd) (.str z) M P := ⟨z, u, rfl, rfl, h, p⟩
/-- a text that stands there -/
theorem kval_str {dd : Addr} {es : Array DictEntry} {n : Nat} {z y : Str} {t : Tok} (D : KDict K w dd es n) (q : PySem.W.nsIn K dd z = some (some (.str y t))) : ∃ v, KDct K w dd z v ∧ ∀ G, VRel K G (.str y) v :=
  ⟨.str y, ⟨es, n, _, D.at_, D.lit, q, ⟨t, rfl⟩⟩, fun _ => .str y⟩
end
end DL
/-! DLc -/
set_option Elab.async false
set_option linter.all false
set_option autoImplicit false
set_option maxRecDepth 100000
set_option maxHeartbeats 4000000
namespace DL
open PySem L2 PyProof.Rows
/-! ### dicts -/
def kD : Key → DV
  | .inl i => .int i
  | .inr s => .str s
def dval (kvs : List (Key × DV)) (k : Key) : Option DV := (kvs.find? fun kv => decide (kv.1 = k)).map (·.2)
def dput (kvs : List (Key × DV)) (k : Key) (x : DV) : List (Key × DV) :=
  if (kvs.any fun kv => decide (kv.1 = k)) = true then kvs.map (fun kv => if kv.1 = k then (kv.1, x) else kv) else kvs ++ [(k, x)]
section
variable {K : PySem.W.Frag} {G H : Hp} {M : Mem}
theorem KAll.cons_inv {kv : Key × DV} {r : List (Key × DV)} {kws : List (Key × V)} (h : KAll K G (kv :: r) kws) : ∃ v r', kws = (kv.1, v) :: r' ∧ VRel K G kv.2 v ∧ KAll K G r r' := by
  obtain ⟨h1, h2⟩ := h
  cases kws with
  | nil => simp at h1
  | cons w r' =>
    obtain ⟨k, v⟩ := w
    simp only [List.map_cons, List.cons.injEq] at h1
    simp only [List.map_cons] at h2
    cases h2 with
    | cons a b =>
      obtain ⟨e, e2⟩ := h1
      subst e
      exact ⟨v, r', rfl, a, e2, b⟩
theorem KAll.nil_inv {kws : List (Key × V)} (h : KAll K G [] kws) : kws = [] := by
  obtain ⟨h1, _⟩ := h
  simpa using h1.symm
theorem KAll.mk_cons {k : Key} {x : DV} {v : V} {r : List (Key × DV)} {r' : List (Key × V)} (a : VRel K G x v) (h : KAll K G r r') : KAll K G ((k, x) :: r) ((k, v) :: r') :=
  ⟨by simp only [List.map_cons]; rw [h.1], .cons a h.2⟩
theorem KAll.len : ∀ {kvs : List (Key × DV)} {kws : List (Key × V)}, KAll K G kvs kws → kvs.length = kws.length := fun h => by
  have := congrArg List.length h.1
  simpa using this
theorem kall_val {k : Key} : ∀ {kvs : List (Key × DV)} {kws : List (Key × V)}, KAll K G kvs kws → (dval kvs k = none → valV kws k = none) ∧ ∀ x, dval kvs k = some x → ∃ v, valV kws k = some v ∧ VRel K G x v
  | [], kws, h => by
    rw [h.nil_inv]
    exact ⟨fun _ => rfl, fun x e => by cases e⟩
  | kv :: r, kws, h => by
    obtain ⟨v, r', rfl, a, t⟩ := h.cons_inv
    have ih := kall_val (k := k) t
    by_cases e : kv.1 = k
    · have e1 : dval (kv :: r) k = some kv.2 := by simp [dval, List.find?_cons, e]
      have e2 : valV ((kv.1, v) :: r') k = some v := by simp [valV, List.find?_cons, e]
      rw [e1, e2]
      refine ⟨(fun q => by cases q), fun x q => ?_⟩
      cases q
      exact ⟨v, rfl, a⟩
    · have e1 : dval (kv :: r) k = dval r k := by simp [dval, List.find?_cons, e]
      have e2 : valV ((kv.1, v) :: r') k = valV r' k := by simp [valV, List.find?_cons, e]
      rw [e1, e2]; exact ih
theorem kall_any {k : Key} : ∀ {kvs : List (Key × DV)} {kws : List (Key × V)}, KAll K G kvs kws → (kvs.any fun kv => decide (kv.1 = k)) = (kws.any fun kv => decide (kv.1 = k))
  | [], kws, h => by rw [h.nil_inv]; rfl
  | kv :: r, kws, h => by
    obtain ⟨v, r', rfl, a, t⟩ := h.cons_inv
    simp only [List.any_cons]
    rw [kall_any t]
theorem kall_map {k : Key} {x : DV} {v : V} (b : VRel K G x v) : ∀ {kvs : List (Key × DV)} {kws : List (Key × V)}, KAll K G kvs kws → KAll K G (kvs.map fun kv => if kv.1 = k then (kv.1, x) else kv) (kws.map fun kv => if kv.1 = k then (kv.1, v) else kv)
  | [], kws, h => by rw [h.nil_inv]; exact ⟨rfl, .nil⟩
  | kv :: r, kws, h => by
    obtain ⟨w, r', rfl, a, t⟩ := h.cons_inv
    have ih := kall_map (k := k) b t
    simp only [List.map_cons]
    by_cases e : kv.1 = k
    · rw [if_pos e, if_pos e]; exact .mk_cons b ih
    · rw [if_neg e, if_neg e]; exact .mk_cons a ih
theorem kall_app {k : Key} {x : DV} {v : V} (b : VRel K G x v) : ∀ {kvs : List (Key × DV)} {kws : List (Key × V)}, KAll K G kvs kws → KAll K G (kvs ++ [(k, x)]) (kws ++ [(k, v)])
  | [], kws, h => by rw [h.nil_inv]; exact .mk_cons b ⟨rfl, .nil⟩
  | kv :: r, kws, h => by
    obtain ⟨w, r', rfl, a, t⟩ := h.cons_inv
    exact .mk_cons a (kall_app b t)
theorem kall_put {k : Key} {x : DV} {v : V} {kvs : List (Key × DV)} {kws : List (Key × V)} (h : KAll K G kvs kws) (b : VRel K G x v) : KAll K G (dput kvs k x) (putK kws k v) := by
  unfold dput putK
  rw [kall_any h]
  split
  · exact kall_map b h
  · exact kall_app b h
theorem cell_dct (o : Ok K G H M) {p : Addr} {kvs : List (Key × DV)} (h : M p = some (.dct kvs)) : ∃ kws, H p = some (.dK kws) ∧ KAll K G kvs kws ∧ G p = none := by
  obtain ⟨g, kws, e, a⟩ := o.mem p _ h
  exact ⟨kws, e, a, g⟩
theorem kD_rel {k : Key} {v : V} (r : VRel K G (kD k) v) : v = kV k := by
  cases k <;> (cases r; rfl)
def dDNew : DE := fun _ M P => ∀ p, M p = none → P (.loc p) (M.up p (.dct []))
theorem re_dnew : RE K tDNewK dDNew := fun S M P p G σ H o s Q k => fun q hq =>
  k _ _ _ G _ (p q (o.free hq).1) (o.putD (o.free hq).2 ⟨rfl, .nil⟩) (Same.refl _) (.loc q)
def dDItem (do_ dk : DE) : DE := fun S M P => do_ S M fun x M1 => dk S M1 fun y M2 => ∃ p kvs k w, x = .loc p ∧ M2 p = some (.dct kvs) ∧ y = kD k ∧ dval kvs k = some w ∧ P w M2
theorem re_ditem {to tk : TE} {do_ dk : DE} (ho : RE K to do_) (hk : RE K tk dk) : RE K (tDGet to tk) (dDItem do_ dk) := fun S M P p G σ H o s Q k =>
  ho S M _ p G σ H o s _ fun x M1 u G1 H1 p1 o1 e1 r1 => hk S M1 _ p1 G1 σ H1 o1 (s.mono e1) _ fun y M2 z G2 H2 ⟨q, kvs, ky, w, ex, h, ey, hv, p2⟩ o2 e2 r2 => by
    subst ex; subst ey
    cases r1
    obtain ⟨kws, e3, a, g⟩ := cell_dct o2 h
    obtain ⟨v, hv2, rv⟩ := (kall_val a).2 w hv
    rw [kD_rel r2]
    exact ⟨q, v, rfl, hv2 ▸ DGet.k e3, k w M2 v G2 H2 p2 o2 (e1.trans e2) rv⟩
def dDGet2 (do_ dk dx : DE) : DE := fun S M P => do_ S M fun x M1 => ∃ p, x = .loc p ∧ (∃ kvs, M1 p = some (.dct kvs)) ∧ dk S M1 fun y M2 => dx S M2 fun z M3 => ∃ kvs k, M3 p = some (.dct kvs) ∧ y = kD k ∧ P ((dval kvs k).getD z) M3
theorem re_dget2 {to tk tx : TE} {do_ dk dx : DE} (ho : RE K to do_) (hk : RE K tk dk) (hx : RE K tx dx) : RE K (tDGet2 to tk tx) (dDGet2 do_ dk dx) := fun S M P p G σ H o s Q k =>
  ho S M _ p G σ H o s _ fun x M1 u G1 H1 ⟨q, ex, ⟨kv0, h0⟩, p1⟩ o1 e1 r1 => by
    subst ex
    cases r1
    obtain ⟨kw0, i0, _, _⟩ := cell_dct o1 h0
    refine ⟨q, rfl, .inl ⟨_, .inl i0⟩, hk S M1 _ p1 G1 σ H1 o1 (s.mono e1) _ fun y M2 z G2 H2 p2 o2 e2 r2 => hx S M2 _ p2 G2 σ H2 o2 (s.mono (e1.trans e2)) _ fun z' M3 v' G3 H3 ⟨kvs, ky, h, ey, p3⟩ o3 e3 r3 => ?_⟩
    subst ey
    obtain ⟨kws, i3, a, g⟩ := cell_dct o3 h
    rw [kD_rel r2]
    refine ⟨_, DGet.k i3, ?_⟩
    have hv := kall_val (k := ky) a
    cases hd : dval kvs ky with
    | none =>
      rw [hd] at p3
      rw [hv.1 hd]
      exact k _ M3 _ G3 H3 p3 o3 ((e1.trans e2).trans e3) r3
    | some w =>
      rw [hd] at p3
      obtain ⟨v, ev, rv⟩ := hv.2 w hd
      rw [ev]
      exact k _ M3 _ G3 H3 p3 o3 ((e1.trans e2).trans e3) rv
def dgSubD (do_ di : DE) : DG := fun v S M P => do_ S M fun x M1 => di S M1 fun y M2 => ∃ p kvs k, x = .loc p ∧ y = kD k ∧ M2 p = some (.dct kvs) ∧ kvs.length < 100000 ∧ P S (M2.up p (.dct (dput kvs k v)))
theorem rg_subD {to ti : TE} {do_ di : DE} (ho : RE K to do_) (hi : RE K ti di) : RG K (gSub to ti rSetD) (dgSubD do_ di) := fun v S M P p G w σ H o s r Q k =>
  ho S M _ p G σ H o s _ fun x M1 u G1 H1 p1 o1 e1 r1 => hi S M1 _ p1 G1 σ H1 o1 (s.mono e1) _ fun y M2 z G2 H2 ⟨q, kvs, ky, ex, ey, h, hl, p2⟩ o2 e2 r2 => by
    subst ex; subst ey
    cases r1
    obtain ⟨kws, e3, a, g⟩ := cell_dct o2 h
    rw [kD_rel r2]
    unfold rSetD
    exact ⟨q, _, rfl, DPut.k e3 (by rw [← a.len]; exact lt_line hl), k _ _ σ G2 _ p2 (o2.putD g (kall_put a (r.mono (e1.trans e2)))) (e1.trans e2) (s.mono (e1.trans e2))⟩
/-- sorted of a dict whose keys are texts -/
def dSortD : DC := fun xs M P => ∃ p kvs ss, xs = [.loc p] ∧ M p = some (.dct kvs) ∧ kvs.map (·.1) = ss.map Sum.inr ∧ ss.length < 64 ∧ ∀ ts q, ts.Perm ss → sortedS ts = true → M q = none → P (.loc q) (M.up q (.lst (ts.map .str)))
def rSortD : List V → Hp → VK → Prop := fun xs H Q => ∃ (a : Addr) (kvs : List (Key × V)) (ks : List Str), xs = [.ref a] ∧ Rd H a (.dK kvs) ∧ kvs.map (·.1) = ks.map Sum.inr ∧ ks.length < 64 ∧
    ∀ ys p, ys.Perm ks → sortedS ys = true → H p = none → Q (.ref p) (upd H p (.lst (ys.map V.str)))
theorem rc_sortD : RC K rSortD dSortD := by
  intro xs M P ⟨p, kvs, ss, e, h, hk, h64, pr⟩ G vs H o al Q k
  subst e
  obtain ⟨v, rfl, r1⟩ := vall1 al
  cases r1
  obtain ⟨kws, i, a, g⟩ := cell_dct o h
  exact ⟨p, kws, ss, rfl, .inl i, by rw [← a.1]; exact hk, h64, fun ts q h1 h2 h3 => k _ _ _ G _ (pr ts q h1 h2 (o.free h3).1) (o.putL (o.free h3).2 (strs_all ts)) (Same.refl _) (.loc q)⟩
/-- xs.extend(ys) -/
def dExtend (do_ da : DE) : DE := fun S M P => do_ S M fun x M1 => (∃ ys, lstOf M1 x = some ys) ∧ da S M1 fun y M2 => ∃ p q xs ys, x = .loc p ∧ y = .loc q ∧ M2 p = some (.lst xs) ∧ M2 q = some (.lst ys) ∧ xs.length + ys.length ≤ 100000 ∧ P .non (M2.up p (.lst (xs ++ ys)))
end
end DL
/-! DLe -/
set_option Elab.async false
set_option linter.all false
set_option autoImplicit false
set_option maxRecDepth 100000
set_option maxHeartbeats 4000000
namespace DL
open PySem L2 PyProof.Rows
/-! ### pairs of a text and an integer, compared -/
def dEqP : DR2 := fun x y M P => ∃ a b i j, x = .tup [.str a, .int i] ∧ y = .tup [.str b, .int j] ∧ PyData.strOk a = true ∧ PyData.strOk b = true ∧ P (.bl (a == b && i == j)) M
theorem pd_eqv (a b : Str) (i j : Int) : PyData.eqv (.tuple [.str a, .int i]) (.tuple [.str b, .int j]) = (a == b && i == j) := by
  simp [PyData.eqv, PyData.eqvAll]
theorem pd_shaped (a : Str) (i : Int) (h : PyData.strOk a = true) : SeqAt.shaped (.tuple [.str a, .int i]) = true := by
  simp [SeqAt.shaped, PyData.canLay0, PyData.canLayAll0, PyData.depth, PyData.depthAll, h]
section
variable {K : PySem.W.Frag} {X : Cx}
theorem pair_dp {G H : Hp} {M : Mem} (o : Ok K G H M) {a : Str} {i : Int} {v : V} (r : VRel K G (.tup [.str a, .int i]) v) : Dp K H v (.tuple [.str a, .int i]) := by
  cases r with
  | tup sq al =>
    obtain ⟨v1, v2, rfl, r1, r2⟩ := vall2 al
    cases r1; cases r2
    exact .tup (sqT_mono o.same sq) (.cons (.str a) (.cons (.int i) .nil))
theorem ro_eqP : ROp K (rEqD K) dEqP := by
  intro x y M P ⟨a, b, i, j, ex, ey, oa, ob, p⟩ G v u H o r1 r2 Q k
  subst ex; subst ey
  refine ⟨_, _, pair_dp o r1, pair_dp o r2, pd_shaped a i oa, pd_shaped b j ob, ?_⟩
  rw [pd_eqv]
  exact k _ M _ G H p o (Same.refl _) (.bl _)
theorem kval_tup {w : World} {dd r : Addr} {es : Array DictEntry} {n m : Nat} {z : Str} {its : Array Value} {od : Option Addr} {sl : Array (Option Value)} {xs : List DV} {vs : List V} (D : KDict K w dd es n) (q : PySem.W.nsIn K dd z = some (some (.ref r)))
    (l : K.lookup r = some ⟨.type "tuple", od, .seq its m, sl⟩) (hz : its.size ≤ sizeLine) (hv : Vals vs its.toList) (ha : ∀ G, VAll K G xs vs) : ∃ v, KDct K w dd z v ∧ ∀ G, VRel K G (.tup xs) v :=
  ⟨.ref r, ⟨es, n, _, D.at_, D.lit, q, rfl⟩, fun G => .tup (.inr ⟨_, its, m, l, rfl, rfl, hz, hv⟩) (ha G)⟩
end
end DL
/-! DLf -/
set_option Elab.async false
set_option linter.all false
set_option autoImplicit false
set_option maxRecDepth 100000
set_option maxHeartbeats 4000000
namespace DL
open PySem L2 PyProof.Rows
/-! ### kinds compared at any depth -/
def Kd.pd : Kd → PyData
  | .pl c => .tuple [.str "plain", .str (sg c)]
  | .tw f a b => .tuple [.str f.s, a.pd, b.pd]
theorem sg_strOk {c : Nat} (h : c < 200) : PyData.strOk (sg c) = true := by
  simp [PyData.strOk, sg]
  omega
theorem pd_can (k : Kd) (h : k.good) : PyData.canLay0 k.pd = true := by
  induction k with
  | pl c =>
    have h' : 97 ≤ c ∧ c ≤ 122 := h
    have h1 : PyData.strOk ("plain" : Str) = true := by decide +kernel
    simp [Kd.pd, PyData.canLay0, PyData.canLayAll0, h1, sg_strOk (c := c) (by omega)]
  | tw f a b ha hb =>
    have h1 : PyData.strOk f.s = true := by cases f <;> decide +kernel
    simp [Kd.pd, PyData.canLay0, PyData.canLayAll0, h1, ha h.1, hb h.2]
theorem pd_depth (k : Kd) : PyData.depth k.pd = k.depth := by
  induction k with
  | pl c => simp [Kd.pd, PyData.depth, PyData.depthAll, Kd.depth]
  | tw f a b ha hb =>
    simp [Kd.pd, PyData.depth, PyData.depthAll, Kd.depth, ha, hb]
    omega
theorem kd_shaped (k : Kd) (h : k.good) (hd : k.depth ≤ 60) : SeqAt.shaped k.pd = true := by
  unfold SeqAt.shaped
  rw [pd_can k h, pd_depth]
  simp; omega
theorem str_beq_ne {a b : Str} (h : a ≠ b) : (a == b) = false := beq_eq_false_iff_ne.mpr h
theorem pd_tup (a b c d : PyData) : PyData.eqv (.tuple [a, b]) (.tuple [c, d]) = (PyData.eqv a c && PyData.eqv b d) := by
  simp [PyData.eqv, PyData.eqvAll]
theorem pd_tup3 (a b e c d f : PyData) : PyData.eqv (.tuple [a, b, e]) (.tuple [c, d, f]) = (PyData.eqv a c && (PyData.eqv b d && PyData.eqv e f)) := by
  simp [PyData.eqv, PyData.eqvAll]
theorem pd_str (a b : Str) : PyData.eqv (.str a) (.str b) = (a == b) := by simp [PyData.eqv]
theorem pd_23 (a b c d e : PyData) : PyData.eqv (.tuple [a, b]) (.tuple [c, d, e]) = false := by
  simp [PyData.eqv, PyData.eqvAll]
theorem pd_32 (a b c d e : PyData) : PyData.eqv (.tuple [c, d, e]) (.tuple [a, b]) = false := by
  simp [PyData.eqv, PyData.eqvAll]
theorem pd_eqK (a : Kd) : ∀ b : Kd, PyData.eqv a.pd b.pd = decide (a = b) := by
  induction a with
  | pl c =>
    intro b
    cases b with
    | pl d =>
      show PyData.eqv (.tuple [.str "plain", .str (sg c)]) (.tuple [.str "plain", .str (sg d)]) = _
      rw [pd_tup, pd_str, pd_str, beq_self_eq_true, Bool.true_and]
      by_cases h : c = d
      · subst h; simp
      · have : ¬ sg c = sg d := fun e => h (by
          have e2 : [c] = [d] := congrArg (fun z : Str => z.cps.toList) e
          simpa using e2)
        rw [str_beq_ne this]; simp [h]
    | tw f x y =>
      show PyData.eqv (.tuple [.str "plain", .str (sg c)]) (.tuple [.str f.s, x.pd, y.pd]) = _
      rw [pd_23]; simp
  | tw f x y hx hy =>
    intro b
    cases b with
    | pl d =>
      show PyData.eqv (.tuple [.str f.s, x.pd, y.pd]) (.tuple [.str "plain", .str (sg d)]) = _
      rw [pd_32]; simp
    | tw g u v =>
      show PyData.eqv (.tuple [.str f.s, x.pd, y.pd]) (.tuple [.str g.s, u.pd, v.pd]) = _
      have h3 : (f.s == g.s) = decide (f = g) := by cases f <;> cases g <;> decide +kernel
      rw [pd_tup3, pd_str, h3, hx, hy]
      by_cases e1 : f = g <;> by_cases e2 : x = u <;> by_cases e3 : y = v <;> simp [e1, e2, e3]
section
variable {K : PySem.W.Frag} {X : Cx}
theorem kd_dp {G H : Hp} {M : Mem} (o : Ok K G H M) : ∀ (k : Kd) {v : V}, VRel K G k.dv v → Dp K H v k.pd
  | .pl c, v, r => by
    cases r with
    | tup sq al =>
      obtain ⟨v1, v2, rfl, r1, r2⟩ := vall2 al
      cases r1; cases r2
      exact .tup (sqT_mono o.same sq) (.cons (.str _) (.cons (.str _) .nil))
  | .tw f a b, v, r => by
    cases r with
    | tup sq al =>
      cases al with
      | cons r1 al =>
        obtain ⟨v2, v3, rfl, r2, r3⟩ := vall2 al
        cases r1
        exact .tup (sqT_mono o.same sq) (.cons (.str _) (.cons (kd_dp o a r2) (.cons (kd_dp o b r3) .nil)))
def KdIn (k : Kd) : Prop := k.good ∧ k.depth ≤ 60
def dEqK : DR2 := fun x y M P => ∃ a b : Kd, x = a.dv ∧ y = b.dv ∧ KdIn a ∧ KdIn b ∧ P (.bl (decide (a = b))) M
def dNeK : DR2 := fun x y M P => ∃ a b : Kd, x = a.dv ∧ y = b.dv ∧ KdIn a ∧ KdIn b ∧ P (.bl (!decide (a = b))) M
theorem ro_eqK : ROp K (rEqD K) dEqK := by
  intro x y M P ⟨a, b, ex, ey, oa, ob, p⟩ G v u H o r1 r2 Q k
  subst ex; subst ey
  refine ⟨_, _, kd_dp o a r1, kd_dp o b r2, kd_shaped a oa.1 oa.2, kd_shaped b ob.1 ob.2, ?_⟩
  rw [pd_eqK]
  exact k _ M _ G H p o (Same.refl _) (.bl _)
theorem ro_neK : ROp K (rNeD K) dNeK := by
  intro x y M P ⟨a, b, ex, ey, oa, ob, p⟩ G v u H o r1 r2 Q k
  subst ex; subst ey
  refine ⟨_, _, kd_dp o a r1, kd_dp o b r2, kd_shaped a oa.1 oa.2, kd_shaped b ob.1 ob.2, ?_⟩
  rw [pd_eqK]
  exact k _ M _ G H p o (Same.refl _) (.bl _)
/-! ### setdefault -/
def dDSetd (do_ dk dx : DE) : DE := fun S M P => do_ S M fun x M1 => ∃ p, x = .loc p ∧ (∃ kvs, M1 p = some (.dct kvs)) ∧ dk S M1 fun y M2 => dx S M2 fun z M3 => ∃ kvs k, M3 p = some (.dct kvs) ∧ y = kD k ∧ kvs.length < 100000 ∧
  (∀ w, dval kvs k = some w → P w M3) ∧ (dval kvs k = none → P z (M3.up p (.dct (dput kvs k z))))
theorem re_dsetd {to tk tx : TE} {do_ dk dx : DE} (ho : RE K to do_) (hk : RE K tk dk) (hx : RE K tx dx) : RE K (tDSetd to tk tx) (dDSetd do_ dk dx) := fun S M P p G σ H o s Q k =>
  ho S M _ p G σ H o s _ fun x M1 u G1 H1 ⟨q, ex, ⟨kv0, h0⟩, p1⟩ o1 e1 r1 => by
    subst ex
    cases r1
    obtain ⟨kw0, i0, _, _⟩ := cell_dct o1 h0
    refine ⟨q, rfl, .inl ⟨_, .inl i0⟩, hk S M1 _ p1 G1 σ H1 o1 (s.mono e1) _ fun y M2 z G2 H2 p2 o2 e2 r2 => hx S M2 _ p2 G2 σ H2 o2 (s.mono (e1.trans e2)) _ fun z' M3 v' G3 H3 ⟨kvs, ky, h, ey, hl, p3, p4⟩ o3 e3 r3 => ?_⟩
    subst ey
    obtain ⟨kws, i3, a, g⟩ := cell_dct o3 h
    have hv := kall_val (k := ky) a
    refine ⟨kws, ky, i3, kD_rel r2, by rw [← a.len]; exact lt_line hl, fun v ev => ?_, fun en => ?_⟩
    · cases hd : dval kvs ky with
      | none => rw [hv.1 hd] at ev; cases ev
      | some w =>
        obtain ⟨v2, ev2, rv⟩ := hv.2 w hd
        rw [ev2] at ev
        cases ev
        exact k _ M3 _ G3 H3 (p3 w hd) o3 ((e1.trans e2).trans e3) rv
    · cases hd : dval kvs ky with
      | some w => obtain ⟨v2, ev2, _⟩ := hv.2 w hd; rw [ev2] at en; cases en
      | none => exact k _ _ _ G3 _ (p4 hd) (o3.putD g (kall_put a r3)) ((e1.trans e2).trans e3) r3
theorem qe_dsetd {o e f : Expr} {to ti tx : TE} {do_ di dx : DE} {apos cpos : Pos} (ho : QE X o to do_) (he : QE X e ti di) (hf : QE X f tx dx) (hm : L2.M2 X o "setdefault" apos e f cpos := by exact ⟨rfl, rfl, rfl, rfl⟩) : QE X (.Call (.Attribute o "setdefault" apos) [e, f] [] cpos) (tDSetd to ti tx) (dDSetd do_ di dx) :=
  ⟨pe_dsetd ho.p he.p hf.p hm, re_dsetd ho.r he.r hf.r⟩
theorem i_dsetd {do_ di dx : DE} {S : Sl} {M : Mem} {P : PV} (h : do_ S M fun x M1 => ∃ p, x = .loc p ∧ (∃ kvs, M1 p = some (.dct kvs)) ∧ di S M1 fun y M2 => dx S M2 fun z M3 => ∃ kvs k, M3 p = some (.dct kvs) ∧ y = kD k ∧ kvs.length < 100000 ∧
  (∀ w, dval kvs k = some w → P w M3) ∧ (dval kvs k = none → P z (M3.up p (.dct (dput kvs k z))))) : dDSetd do_ di dx S M P := h
/-! ### how often a text stands in a list of texts -/
theorem count_isStr (z : Str) : ∀ {us : List Value} {ys : List Str}, StrsAre us ys → us.countP (isStrOf z) = ys.count z
  | _, _, .nil => rfl
  | _, _, .cons n t h => by
    have ih := count_isStr z h
    rw [List.countP_cons, List.count_cons, ih] <;> rfl
def rCntS (K : PySem.W.Frag) : V → List V → Hp → VK → Prop := fun x xs H Q => ∃ (p : Addr) (ns : List Str) (z : Str), x = .ref p ∧ xs = [.str z] ∧ SqL K H p (ns.map V.str) ∧ Q (.int (ns.count z : Nat)) H
theorem mt_lcountS : MtR X "list.count" (rCntS X.K) := by
  intro pins s σ H x xs v us Q I rx rxs h
  obtain ⟨p, ns, k, rfl, rfl, hs, q⟩ := h
  cases rx
  obtain ⟨u, rfl, ru⟩ := rxs.one
  obtain ⟨t, rfl⟩ := ru
  obtain ⟨its, rv, ⟨⟨cls, dd, data, sl⟩, n, ho, hc, hdn, hd⟩, hlen⟩ := I.list hs
  simp only at hc hd
  subst hc hd
  have hi := strs_of_vals rv
  refine call_meets PySem.F.slot_list_count ⟨_, ho, rfl⟩ PySem.F.entry_list_count (PySem.F.args_list_count_2 _ _)
    (SeqAt.list_countAt p its.toArray n dd sl (.str k t) (isStrOf k)) ⟨ho, fun y hy => (eq_isStrOf k t hi y (by simpa using hy)).at _ _, ?_⟩
  have ec : its.toArray.toList.countP (isStrOf k) = ns.count k := count_isStr k hi
  refine ⟨.int (ns.count k : Nat), H, I.tok _, ⟨s.toks, ?_⟩, q⟩
  show Value.int ((its.toArray.toList.countP (isStrOf k) : Nat) : Int) s.toks = Value.int ((ns.count k : Nat) : Int) s.toks
  rw [ec]
def dCount (do_ da : DE) : DE := fun S M P => do_ S M fun x M1 => (∃ ys, lstOf M1 x = some ys) ∧ da S M1 fun y M2 => ∃ ys ss z, lstOf M2 x = some ys ∧ strsOf ys = some ss ∧ y = .str z ∧ P (.int (ss.count z : Nat)) M2
theorem re_count {to ta : TE} {do_ da : DE} (ho : RE K to do_) (ha : RE K ta da) : RE K (tBM K "list" (rCntS K) to (tCons ta tNil)) (dCount do_ da) := fun S M P p G σ H ok s Q k =>
  ho S M _ p G σ H ok s _ fun x M1 v G1 H1 ⟨⟨ys, hy⟩, p1⟩ o1 e1 r1 => by
    obtain ⟨b, vs, rfl, sq, _⟩ := lst_sq o1 r1 hy
    refine ⟨.inl ⟨rfl, vs, sq⟩, ?_⟩
    refine ha S M1 _ p1 G1 σ H1 o1 (s.mono e1) _ fun y M2 z G2 H2 ⟨zs, ss, z', h, h2, ey, p2⟩ o2 e2 r2 => ?_
    subst ey
    cases r2
    obtain ⟨c, ws, ev, sq2, al⟩ := lst_sq o2 (r1.mono e2) h
    rw [strs_rel al h2] at sq2
    exact ⟨c, ss, z', ev, rfl, sq2, k _ M2 _ G2 H2 p2 o2 (e1.trans e2) (.int _)⟩
theorem qe_count {o a : Expr} {to ta : TE} {do_ da : DE} {pos apos : Pos} (ho : QE X o to do_) (ha : QE X a ta da) (hbase : attributeBase o "count" X.env (eval o X.env) = eval o X.env := by rfl) (hline : (apos.endLine == pos.line) = true := by rfl)
    (hfew : ((backTo pos (starEach [a] X.env)).all (fun x => !x.1) && (backToKw pos (keywordEach [] X.env)).all (fun x => x.1.isSome)
      && decide (([a] : List Expr).length + ([] : List Keyword).length + (if ([] : List Keyword).isEmpty then 0 else 1) < 30)) = true := by rfl)
    (hs : starEach [a] X.env = (false, eval a X.env) :: starEach [] X.env := by rfl) (hplain : (backTo pos (starEach [] X.env)).any (·.1) = false := by rfl) :
    QE X (.Call (.Attribute o "count" apos) [a] [] pos) (tBM X.K "list" (rCntS X.K) to (tCons ta tNil)) (dCount do_ da) :=
  ⟨pe_bm PySem.F.plainAttrs_list PySem.F.slot_list_count PySem.F.type_list_count mt_lcountS ho.p (pa_cons ha.p pa_nil hs) hbase hfew hline hs hplain, re_count ho.r ha.r⟩
theorem i_count {do_ da : DE} {S : Sl} {M : Mem} {P : PV} (h : do_ S M fun x M1 => (∃ ys, lstOf M1 x = some ys) ∧ da S M1 fun y M2 => ∃ ys ss z, lstOf M2 x = some ys ∧ strsOf ys = some ss ∧ y = .str z ∧ P (.int (ss.count z : Nat)) M2) : dCount do_ da S M P := h
/-! ### three names at once -/
theorem vall3 {G : Hp} {x y z : DV} {vs : List V} (a : VAll K G [x, y, z] vs) : ∃ v u w, vs = [v, u, w] ∧ VRel K G x v ∧ VRel K G y u ∧ VRel K G z w := by
  cases a with
  | cons r t =>
    obtain ⟨u, w, rfl, r2, r3⟩ := vall2 t
    exact ⟨_, _, _, rfl, r, r2, r3⟩
def dPar3 (i j l : Nat) (d : DA) : DS := fun D S M => d S M fun xs M1 => ∃ x y z, xs = [x, y, z] ∧ D.nx (((S.set i (some x)).set j (some y)).set l (some z)) M1
theorem rs_par3 {i j l : Nat} {ta : TA} {da : DA} (h : RA K ta da) : RS K (tPar3 i j l ta) (dPar3 i j l da) := fun D S M p G σ H o s D' k =>
  h S M _ p G σ H o s _ fun xs M1 vs G1 H1 ⟨x, y, z, e, p1⟩ o1 e1 r1 => by
    subst e
    obtain ⟨v, u, w, rfl, r, r', r''⟩ := vall3 r1
    exact ⟨v, u, w, rfl, k.nx _ M1 _ G1 H1 p1 o1 e1 ((((s.mono e1).set r i).set r' j).set r'' l)⟩
theorem qs_par3 {x y z : Str} {a b c : Expr} {ta : TA} {da : DA} {pos px py pz pt : Pos} {kt k2 : Nat} {pt2 : Pos} (i j l : Nat) (hc : X.calm = true) (hN : X.N.Nodup) (ha : QA X [a, b, c] ta da) (hij : i ≠ j := by decide) (hil : i ≠ l := by decide) (hjl : j ≠ l := by decide) (hi : X.N[i]? = some x := by rfl) (hj : X.N[j]? = some y := by rfl) (hl : X.N[l]? = some z := by rfl)
    (hx : X.env.scope.names.lookup x = some .local := by rfl) (hy : X.env.scope.names.lookup y = some .local := by rfl) (hz : X.env.scope.names.lookup z = some .local := by rfl)
    (hw : swappedStores [.Tuple [.Name x px, .Name y py, .Name z pz] kt pt] (.Tuple [a, b, c] k2 pt2) X.env = pure (some [x, y, z]) := by rfl)
    (hs : swapsWithSole [.Tuple [.Name x px, .Name y py, .Name z pz] kt pt] (.Tuple [a, b, c] k2 pt2) pos.line X.env = pure false := by rfl) :
    QS X (.Assign [.Tuple [.Name x px, .Name y py, .Name z pz] kt pt] (.Tuple [a, b, c] k2 pt2) pos) (tPar3 i j l ta) (dPar3 i j l da) := ⟨ps_par3 hc hN hi hj hl hij hil hjl hx hy hz ha.p hw hs, rs_par3 ha.r⟩
theorem i_par3 {i j l : Nat} {d : DA} {D : DEnds} {S : Sl} {M : Mem} (h : d S M fun xs M1 => ∃ x y z, xs = [x, y, z] ∧ D.nx (((S.set i (some x)).set j (some y)).set l (some z)) M1) : dPar3 i j l d D S M := h
theorem i_par32 {i j l : Nat} {D : DEnds} {S : Sl} {M : Mem} {x y z : DV} (h : D.nx (((S.set i (some x)).set j (some y)).set l (some z)) M) : ∃ x' y' z', [x, y, z] = [x', y', z'] ∧ D.nx (((S.set i (some x')).set j (some y')).set l (some z')) M := ⟨x, y, z, rfl, h⟩
/-! ### putting kinds for letters -/
end
def Kd.sub (f : Nat → Kd) : Kd → Kd
  | .pl c => f c
  | .tw g a b => .tw g (a.sub f) (b.sub f)
theorem sub_congr {f g : Nat → Kd} (k : Kd) (h : ∀ c, c ∈ k.lets → f c = g c) : k.sub f = k.sub g := by
  induction k with
  | pl c => exact h c (by simp [Kd.lets])
  | tw fm a b ha hb =>
    show Kd.tw fm _ _ = Kd.tw fm _ _
    rw [ha fun c hc => h c (by simp [Kd.lets, hc]), hb fun c hc => h c (by simp [Kd.lets, hc])]
theorem sub_inj {f g : Nat → Kd} (k : Kd) (h : k.sub f = k.sub g) : ∀ c, c ∈ k.lets → f c = g c := by
  induction k with
  | pl c => intro d hd; simp only [Kd.lets, List.mem_singleton] at hd; subst hd; exact h
  | tw fm a b ha hb =>
    intro d hd
    have h' : Kd.tw fm (a.sub f) (b.sub f) = Kd.tw fm (a.sub g) (b.sub g) := h
    obtain ⟨_, h1, h2⟩ := Kd.tw.injEq .. ▸ h'
    rcases List.mem_append.mp hd with q | q
    · exact ha h1 d q
    · exact hb h2 d q
theorem sub_good {f : Nat → Kd} (k : Kd) (h : ∀ c, c ∈ k.lets → (f c).good) : (k.sub f).good := by
  induction k with
  | pl c => exact h c (by simp [Kd.lets])
  | tw fm a b ha hb => exact ⟨ha fun c hc => h c (by simp [Kd.lets, hc]), hb fun c hc => h c (by simp [Kd.lets, hc])⟩
theorem sub_size {f : Nat → Kd} {n : Nat} (k : Kd) (h : ∀ c, c ∈ k.lets → (f c).size ≤ n) : (k.sub f).size ≤ k.size * n := by
  induction k with
  | pl c => have := h c (by simp [Kd.lets]); show (f c).size ≤ 1 * n; omega
  | tw fm a b ha hb =>
    have h1 := ha fun c hc => h c (by simp [Kd.lets, hc])
    have h2 := hb fun c hc => h c (by simp [Kd.lets, hc])
    show (a.sub f).size + (b.sub f).size ≤ (a.size + b.size) * n
    rw [Nat.add_mul]; omega
theorem sub_depth {f : Nat → Kd} {n : Nat} (k : Kd) (h : ∀ c, c ∈ k.lets → (f c).depth ≤ n) : (k.sub f).depth ≤ k.depth + n := by
  induction k with
  | pl c => have := h c (by simp [Kd.lets]); show (f c).depth ≤ 1 + n; omega
  | tw fm a b ha hb =>
    have h1 := ha fun c hc => h c (by simp [Kd.lets, hc])
    have h2 := hb fun c hc => h c (by simp [Kd.lets, hc])
    show 1 + max (a.sub f).depth (b.sub f).depth ≤ 1 + max a.depth b.depth + n
    omega
theorem lets_good (k : Kd) (h : k.good) : ∀ c, c ∈ k.lets → 97 ≤ c ∧ c ≤ 122 := by
  induction k with
  | pl c => intro d hd; simp only [Kd.lets, List.mem_singleton] at hd; subst hd; exact h
  | tw fm a b ha hb =>
    intro d hd
    rcases List.mem_append.mp hd with q | q
    · exact ha h.1 d q
    · exact hb h.2 d q
/-- a kind within the bounds that all functions are asked in -/
def KdSm (k : Kd) : Prop := k.good ∧ k.size ≤ 1000 ∧ k.depth ≤ 50
theorem KdSm.kin {k : Kd} (h : KdSm k) : KdIn k := ⟨h.1, by have := h.2.2; omega⟩
end DL
/-! DLg -/
set_option Elab.async false
set_option linter.all false
set_option autoImplicit false
set_option maxRecDepth 100000
set_option maxHeartbeats 4000000
namespace DL
open PySem L2 PyProof.Rows
/-! ### a comprehension that changes nothing: what is kept, and what is made of it -/
section
variable {α : Type} {S : Sl} {M : Mem} {vs : List Nat} {dg : DG} {dt : DT} {d : DE} {P : Addr → Mem → Prop} {C : Mem → Prop}
theorem lcF (l : List α) (fx fy : α → DV) (keep : α → Bool) (hl : l.length < 100000) (hC : ∀ M2, Ext M M2 → C M2)
    (step : ∀ x, x ∈ l → ∀ M4 (Q : PV) (R : Mem → Prop), Ext M M4 → (keep x = true → Q (fy x) M4) → (keep x = false → R M4) → dg (fx x) (wipeD S vs) M4 fun S3 M5 => dt S3 M5 fun b M6 => if b = true then d S3 M6 Q else R M6)
    (fin : ∀ D M', Ext M M' → M D = none → M' D = some (.lst ((l.filter keep).map fy)) → P D M') :
    ∀ D, M D = none → ∃ I : List DV → List DV → Mem → Prop, I (l.map fx) [] (M.up D (.lst [])) ∧
      (∀ acc M2, I [] acc M2 → C M2 ∧ P D M2) ∧
      ∀ x r acc M2, I (x :: r) acc M2 → C M2 ∧ dg x (wipeD S vs) M2 fun S3 M3 => dt S3 M3 fun b M4 => if b = true then d S3 M4 fun y M5 => M5 D = some (.lst acc) ∧ acc.length < 100000 ∧ I r (acc ++ [y]) (M5.up D (.lst (acc ++ [y]))) else I r acc M4 := by
  intro D hD
  refine ⟨fun r acc M2 => ∃ dn rm : List α, r = rm.map fx ∧ dn ++ rm = l ∧ acc = (dn.filter keep).map fy ∧ M2 D = some (.lst acc) ∧ Ext M M2, ⟨[], l, rfl, rfl, rfl, up_same, Ext.new hD⟩, ?_, ?_⟩
  · rintro acc M2 ⟨dn, rm, er, ed, rfl, h1, e⟩
    have : rm = [] := by simpa using er.symm
    subst this
    rw [List.append_nil] at ed
    subst ed
    exact ⟨hC M2 e, fin D M2 e hD h1⟩
  · rintro x r acc M2 ⟨dn, rm, er, ed, rfl, h1, e⟩
    refine ⟨hC M2 e, ?_⟩
    cases rm with
    | nil => simp at er
    | cons z rm =>
      simp only [List.map_cons, List.cons.injEq] at er
      obtain ⟨rfl, rfl⟩ := er
      have ed' : (dn ++ [z]) ++ rm = l := by rw [← ed]; simp
      have hlen := congrArg List.length ed
      simp only [List.length_append, List.length_cons] at hlen
      have hfl := List.length_filter_le keep dn
      refine step z (by rw [← ed]; simp) M2 _ _ e (fun hk => ?_) (fun hk => ?_)
      · refine ⟨h1, by rw [List.length_map]; omega, dn ++ [z], rm, rfl, ed', ?_, up_same, e.mut hD⟩
        rw [List.filter_append, List.map_append]
        simp [hk]
      · refine ⟨dn ++ [z], rm, rfl, ed', ?_, h1, e⟩
        rw [List.filter_append]
        simp [hk]
theorem i_lcL {p : Addr} (l : List α) (fx fy : α → DV) (keep : α → Bool) (hp : M p = some (.lst (l.map fx))) (hl : l.length < 100000)
    (step : ∀ x, x ∈ l → ∀ M4 (Q : PV) (R : Mem → Prop), Ext M M4 → (keep x = true → Q (fy x) M4) → (keep x = false → R M4) → dg (fx x) (wipeD S vs) M4 fun S3 M5 => dt S3 M5 fun b M6 => if b = true then d S3 M6 Q else R M6)
    (fin : ∀ D M', Ext M M' → M D = none → M' D = some (.lst ((l.filter keep).map fy)) → P D M') :
    dIterV (.loc p) M fun xs C M1 => ∀ D, M1 D = none → ∃ I : List DV → List DV → Mem → Prop, I xs [] (M1.up D (.lst [])) ∧
      (∀ acc M2, I [] acc M2 → C M2 ∧ P D M2) ∧
      ∀ x r acc M2, I (x :: r) acc M2 → C M2 ∧ dg x (wipeD S vs) M2 fun S3 M3 => dt S3 M3 fun b M4 => if b = true then d S3 M4 fun y M5 => M5 D = some (.lst acc) ∧ acc.length < 100000 ∧ I r (acc ++ [y]) (M5.up D (.lst (acc ++ [y]))) else I r acc M4 :=
  i_iter1 hp (lcF l fx fy keep hl (fun M2 e => e _ _ hp) step fin)
/-- all kept -/
theorem i_lcA {p : Addr} (l : List α) (fx fy : α → DV) (hp : M p = some (.lst (l.map fx))) (hl : l.length < 100000)
    (step : ∀ x, x ∈ l → ∀ M4 (Q : PV) (R : Mem → Prop), Ext M M4 → Q (fy x) M4 → dg (fx x) (wipeD S vs) M4 fun S3 M5 => dt S3 M5 fun b M6 => if b = true then d S3 M6 Q else R M6)
    (fin : ∀ D M', Ext M M' → M D = none → M' D = some (.lst (l.map fy)) → P D M') :
    dIterV (.loc p) M fun xs C M1 => ∀ D, M1 D = none → ∃ I : List DV → List DV → Mem → Prop, I xs [] (M1.up D (.lst [])) ∧
      (∀ acc M2, I [] acc M2 → C M2 ∧ P D M2) ∧
      ∀ x r acc M2, I (x :: r) acc M2 → C M2 ∧ dg x (wipeD S vs) M2 fun S3 M3 => dt S3 M3 fun b M4 => if b = true then d S3 M4 fun y M5 => M5 D = some (.lst acc) ∧ acc.length < 100000 ∧ I r (acc ++ [y]) (M5.up D (.lst (acc ++ [y]))) else I r acc M4 :=
  i_lcL l fx fy (fun _ => true) hp hl (fun x hx M4 Q R e h1 _ => step x hx M4 Q R e (h1 rfl)) (fun D M' e hD h => fin D M' e hD (by rw [List.filter_eq_self.mpr (fun _ _ => rfl)] at h; exact h))
end
section
variable {S : Sl} {M : Mem} {P : PV} {d : DA} {da' : DA} {x y z : DV}
theorem i_dnew (h : ∀ p, M p = none → P (.loc p) (M.up p (.dct []))) : dDNew S M P := h
theorem i_sub2 {a b : Int} (h : P (.int (a - b)) M) : dSub (.int a) (.int b) M P := h
theorem i_max2 {a b : Int} (h : P (.int (if b > a then b else a)) M) : dMax2 [.int a, .int b] M P := h
theorem i_sset (h : d S M fun xs M1 => ∃ x ys ss, xs = [x] ∧ lstOf M1 x = some ys ∧ strsOf ys = some ss ∧ ss.length < 64 ∧ ∀ ts p, ts.Nodup → sortedS ts = true → (∀ z, z ∈ ts ↔ z ∈ ss) → M1 p = none → P (.loc p) (M1.up p (.lst (ts.map .str)))) : dSortedSet d S M P := h
end
end DL
/-! DLk -/
set_option Elab.async false
set_option linter.all false
set_option autoImplicit false
set_option maxRecDepth 100000
set_option maxHeartbeats 4000000
namespace DL
open PySem L2 PyProof.Rows
/-! ### text[::-1] -/
def revT (z : Str) : Str := ⟨z.cps.toList.reverse.toArray⟩
theorem pick_rev (z : Str) : (Builtin.Str.strSliceIndices none none (-1) z.length).filterMap (z.cps[·]?) = z.cps.toList.reverse := by
  show (sliceRange ((z.cps.size : Int) - 1) (-1) (-1)).filterMap (z.cps[·]?) = _
  rw [PySem.W.krv_sliceRange, PySem.W.krv_range, List.filterMap_reverse, PySem.W.krv_all]
def tRevT (te : TE) : TE := fun σ H Q => te σ H fun x H1 => ∃ z, x = .str z ∧ z.length ≤ 100000 ∧ Q (.str (revT z)) H1
section
variable {X : Cx} {K : PySem.W.Frag} {e o a b : Expr} {te to ta tb : TE} {de do_ da db : DE} {pos apos : Pos}
theorem pe_revT {k : Nat} {p1 p2 p3 : Pos} (he : PE X e te) : PE X (.Subscript e (.Slice none none (some (.UnaryOp .USub (.Constant (.int 1) k p1) p2)) p3) pos) (tRevT te) := by
  refine ⟨fun pins s σ H Q I h => ?_⟩
  refine Subscript_ (thn (he.run pins s σ H _ I h) fun v s1 ⟨x, H1, I1, r1, q1⟩ => ?_)
  obtain ⟨z, ex, hz, q⟩ := q1
  subst ex
  obtain ⟨t, rfl⟩ := r1
  have hst : PO X (some (.UnaryOp .USub (.Constant (.int 1) k p1) p2)) (tPart (tUn (rU fun i => .int (-i)) (tC (.int 1)))) := po_some (pe_un un_neg pe_int)
  refine wpAny_Slice (thn (po_none.run pins s1 σ H1 (fun o H2 => o = none ∧ H2 = H1) I1 ⟨rfl, rfl⟩) fun vl s2 ⟨l, H2, I2, pl, el, e2⟩ => ?_)
  subst el e2
  refine thn (po_none.run pins s2 σ H2 (fun o H3 => o = none ∧ H3 = H2) I2 ⟨rfl, rfl⟩) fun vu s3 ⟨u, H3, I3, pu, eu, e3⟩ => ?_
  subst eu e3
  refine thn (hst.run pins s3 σ H3 (fun o H4 => o = some (-1) ∧ H4 = H3) I3 ⟨1, rfl, -1, rfl, rfl, rfl⟩) fun vs s4 ⟨o, H4, I4, ps, eo, e4⟩ => ?_
  subst eo e4
  have I5 : Inv X pins σ H4 { s4 with heap := s4.heap.push { cls := .type "slice", data := .fields #[vl, vu, vs] } } := I4.kept (t' := s4.toks) fun b ob q => Heap.get?_push_of_some _ q
  obtain ⟨l, rfl, hl⟩ := IsPart.raw pl
  obtain ⟨u, rfl, hu⟩ := IsPart.raw pu
  obtain ⟨w, rfl, hw⟩ := IsPart.raw ps
  show wpAny (model X.prog X.w) X.A (subscriptTail e (.Slice none none (some (.UnaryOp .USub (.Constant (.int 1) k p1) p2)) p3) (.str z t) (.ref s4.heap.objs.size)) (EP X pins σ Q) X.xe _
  refine tail_any (ops := [.str z t, .ref s4.heap.objs.size]) (typeIs_str _ _ _) PySem.F.slot_str_getitem.lookup ?_ (by with_unfolding_all rfl)
  have hs := Heap.IsSliceOf.new s4.heap (partValue l) (partValue u) (partValue w)
  obtain ⟨os, hos, hcs, hds⟩ := hs
  refine wpAny_getItem_str_slice (l := l) (u := u) (st := w) ⟨os, hos, hcs, hds⟩ (by rw [hw]; rfl) ?_
  have hp : slicePicked z l u w = Builtin.Str.strSliceIndices none none (-1) z.length := by
    unfold slicePicked
    rw [hl, hu, hw]; rfl
  unfold sliceMade
  rw [hp, hw, pick_rev]
  rw [if_neg (by simp)]
  refine ⟨?_, .str (revT z), H4, I5.tok _, ⟨_, rfl⟩, q⟩
  show (z.cps.toList.reverse.toArray).size ≤ sizeLine
  rw [List.size_toArray, List.length_reverse, Array.length_toList]
  exact Nat.le_trans hz (by decide)
def dRevT (de : DE) : DE := fun S M P => de S M fun x M1 => ∃ z, x = .str z ∧ z.length ≤ 100000 ∧ P (.str (revT z)) M1
theorem re_revT (he : RE K te de) : RE K (tRevT te) (dRevT de) := fun S M P p G σ H ok s Q k =>
  he S M _ p G σ H ok s _ fun x M1 v G1 H1 ⟨z, ex, hl, p1⟩ o1 e1 r1 => by
    subst ex; cases r1
    exact ⟨z, rfl, hl, k _ M1 _ G1 H1 p1 o1 e1 (.str _)⟩
theorem qe_revT {k : Nat} {p1 p2 p3 : Pos} (he : QE X e te de) : QE X (.Subscript e (.Slice none none (some (.UnaryOp .USub (.Constant (.int 1) k p1) p2)) p3) pos) (tRevT te) (dRevT de) := ⟨pe_revT he.p, re_revT he.r⟩
theorem i_revT {S : Sl} {M : Mem} {P : PV} (h : de S M fun x M1 => ∃ z, x = .str z ∧ z.length ≤ 100000 ∧ P (.str (revT z)) M1) : dRevT de S M P := h
/-! ### list.insert, a list times a number -/
def dInsert (do_ di da : DE) : DE := fun S M P => do_ S M fun x M1 => (∃ ys, lstOf M1 x = some ys) ∧ di S M1 fun y M2 => da S M2 fun z M3 => ∃ p xs n, x = .loc p ∧ M3 p = some (.lst xs) ∧ y = .int (n : Nat) ∧ n < 1000 ∧ xs.length < 100000 ∧ P .non (M3.up p (.lst (xs.take n ++ [z] ++ xs.drop n)))
def rIns : V → List V → Hp → VK → Prop := fun x vs H Q => ∃ (l : Addr) (xs : List V) (i : Int) (y : V), x = .ref l ∧ vs = [.int i, y] ∧ H l = some (.lst xs) ∧ xs.length < sizeLine ∧ 0 ≤ i ∧ i < 2 ^ 63 ∧
    Q .non (upd H l (.lst (xs.take i.toNat ++ [y] ++ xs.drop i.toNat)))
theorem re_insert (ho : RE K to do_) (hi : RE K ta da) (ha : RE K tb db) : RE K (tBM K "list" rIns to (tCons ta (tCons tb tNil))) (dInsert do_ da db) := fun S M P p G σ H ok s Q k =>
  ho S M _ p G σ H ok s _ fun x M1 v G1 H1 ⟨⟨ys, hy⟩, p1⟩ o1 e1 r1 => by
    obtain ⟨b, vs, rfl, sq, _⟩ := lst_sq o1 r1 hy
    refine ⟨.inl ⟨rfl, vs, sq⟩, ?_⟩
    refine hi S M1 _ p1 G1 σ H1 o1 (s.mono e1) _ fun y M2 yv G2 H2 p2 o2 e2 r2 => ha S M2 _ p2 G2 σ H2 o2 (s.mono (e1.trans e2)) _ fun z M3 zv G3 H3 ⟨q, xs, n, ex, h, ey, hn, hl, p3⟩ o3 e3 r3 => ?_
    subst ex; subst ey
    cases r1; cases r2
    obtain ⟨ws, i1, a1, g⟩ := cell_lst o3 h
    have hal := (a1.take n).append (VAll.one r3)
    refine ⟨_, ws, (n : Int), zv, rfl, rfl, i1, by rw [← a1.length]; exact lt_line hl, by omega, by omega, ?_⟩
    rw [Int.toNat_natCast]
    exact k _ _ _ G3 _ p3 (o3.putL g (hal.append (a1.drop n))) ((e1.trans e2).trans e3) .non
theorem qe_insert (ho : QE X o to do_) (ha : QE X a ta da) (hb : QE X b tb db) (hbase : attributeBase o "insert" X.env (eval o X.env) = eval o X.env := by rfl) (hline : (apos.endLine == pos.line) = true := by rfl)
    (hfew : ((backTo pos (starEach [a, b] X.env)).all (fun x => !x.1) && (backToKw pos (keywordEach [] X.env)).all (fun x => x.1.isSome)
      && decide (([a, b] : List Expr).length + ([] : List Keyword).length + (if ([] : List Keyword).isEmpty then 0 else 1) < 30)) = true := by rfl)
    (hs : starEach [a, b] X.env = (false, eval a X.env) :: starEach [b] X.env := by rfl) (hs2 : starEach [b] X.env = (false, eval b X.env) :: starEach [] X.env := by rfl) (hplain : (backTo pos (starEach [b] X.env)).any (·.1) = false := by rfl) :
    QE X (.Call (.Attribute o "insert" apos) [a, b] [] pos) (tBM X.K "list" rIns to (tCons ta (tCons tb tNil))) (dInsert do_ da db) :=
  ⟨pe_bm PySem.F.plainAttrs_list PySem.F.slot_list_insert PySem.F.type_list_insert mt_insert ho.p (pa_cons ha.p (pa_cons hb.p pa_nil hs2) hs) hbase hfew hline hs hplain, re_insert ho.r ha.r hb.r⟩
theorem i_insert {di : DE} {S : Sl} {M : Mem} {P : PV} (h : do_ S M fun x M1 => (∃ ys, lstOf M1 x = some ys) ∧ di S M1 fun y M2 => da S M2 fun z M3 => ∃ p xs n, x = .loc p ∧ M3 p = some (.lst xs) ∧ y = .int (n : Nat) ∧ n < 1000 ∧ xs.length < 100000 ∧ P .non (M3.up p (.lst (xs.take n ++ [z] ++ xs.drop n)))) : dInsert do_ di da S M P := h
def dRep : DR2 := fun x y M P => ∃ p xs n, x = .loc p ∧ M p = some (.lst xs) ∧ y = .int (n : Nat) ∧ n < 1000 ∧ xs.length * n ≤ 100000 ∧ ∀ q, M q = none → P (.loc q) (M.up q (.lst (List.replicate n xs).flatten))
theorem vall_rep {G : Hp} {xs : List DV} {vs : List V} (a : VAll K G xs vs) : ∀ n, VAll K G (List.replicate n xs).flatten (List.replicate n vs).flatten
  | 0 => .nil
  | n + 1 => by
    rw [List.replicate_succ, List.replicate_succ, List.flatten_cons, List.flatten_cons]
    exact a.append (vall_rep a n)
theorem ro_rep : ROp K rRep dRep := by
  intro x y M P ⟨p, xs, n, ex, h, ey, hn, hl, q⟩ G v u H o r1 r2 Q k
  subst ex; subst ey
  cases r1; cases r2
  obtain ⟨ws, i1, a1, g⟩ := cell_lst o h
  refine ⟨p, (n : Int), ws, rfl, rfl, i1, by omega, by omega, ?_, fun z hz => ?_⟩
  · rw [Int.toNat_natCast, ← a1.length]; exact le_line hl
  · rw [Int.toNat_natCast]
    exact k _ _ _ G _ (q z (o.free hz).1) (o.putL (o.free hz).2 (vall_rep a1 n)) (Same.refl _) (.loc z)
end
/-! ### letters, small and great -/
/-- the code of a letter with its sign -/
def cde (x : Nat × Int) : Nat := if x.2 = 1 then x.1 else x.1 - 32
def SgOk (x : Nat × Int) : Prop := 97 ≤ x.1 ∧ x.1 ≤ 122 ∧ (x.2 = 1 ∨ x.2 = -1)
theorem low_all : ∀ i : Fin 26, Unicode.lowerOf (97 + i.val) = [97 + i.val] ∧ Unicode.lowerOf (65 + i.val) = [97 + i.val] ∧ Unicode.upperOf (97 + i.val) = [65 + i.val] ∧ Unicode.upperOf (65 + i.val) = [65 + i.val] ∧ Unicode.isUpper (97 + i.val) = false ∧ Unicode.isUpper (65 + i.val) = true ∧ Unicode.isLower (65 + i.val) = false ∧ Unicode.isTitle (65 + i.val) = false := by
  decide +kernel
end DL
/-! DLl -/
set_option Elab.async false
set_option linter.all false
set_option autoImplicit false
set_option maxRecDepth 100000
set_option maxHeartbeats 4000000
namespace DL
open PySem L2 PyProof.Rows
/-! ### what methods make of texts of letters -/
theorem flat_single {α : Type} (l : List α) : (l.map fun c => [c]).flatten = l := by
  induction l with
  | nil => rfl
  | cons a r ih => rw [List.map_cons, List.flatten_cons, ih]; rfl
theorem str_ext {a b : Str} (h : a.cps.toList = b.cps.toList) : a = b := by
  cases a; cases b; exact congrArg Str.mk (Array.toList_inj.mp h)
theorem placed_map {x : Str} {f : Nat → Nat → List Nat} {g : Nat → Nat} (h : ∀ i c, x.cps[i]? = some c → f i c = [g c]) : placed x f = (x.cps.toList.map g).toArray := by
  unfold placed
  have e : (x.cps.mapIdx fun i c => (f i c).toArray) = x.cps.map fun c => #[g c] := by
    apply Array.ext
    · simp
    · intro i h1 h2
      have hi : i < x.cps.size := by simpa using h1
      simp only [Array.getElem_mapIdx, Array.getElem_map]
      rw [h i _ (by rw [Array.getElem?_eq_getElem hi])]
  rw [e]
  apply Array.toList_inj.mp
  rw [Array.toList_flatten]
  simp only [Array.toList_map, List.map_map]
  have : (Array.toList ∘ fun c => #[g c]) = fun c => [g c] := rfl
  rw [this]
  have := flat_single (x.cps.toList.map g)
  rw [List.map_map] at this
  exact this
theorem nl_of (c : Nat) (h0 : 97 ≤ c) (h1 : c ≤ 122) : Unicode.lowerOf c = [c] ∧ Unicode.lowerOf (c - 32) = [c] ∧ Unicode.upperOf c = [c - 32] ∧ Unicode.upperOf (c - 32) = [c - 32] ∧ Unicode.isUpper c = false ∧ Unicode.isUpper (c - 32) = true ∧ Unicode.isLower (c - 32) = false ∧ Unicode.isTitle (c - 32) = false := by
  have h := low_all ⟨c - 97, by omega⟩
  have e1 : 97 + (c - 97) = c := by omega
  have e2 : 65 + (c - 97) = c - 32 := by omega
  simp only [e1, e2] at h
  exact h
theorem cde_pos {c : Nat} : cde (c, 1) = c := by simp [cde]
theorem cde_neg {c : Nat} : cde (c, -1) = c - 32 := by simp [cde]
theorem txt_one (c : Nat) : (⟨#[c].toList.map id |>.toArray⟩ : Str) = sg c := rfl
theorem upper_one {c d : Nat} (h : Unicode.upperOf c = [d]) : Txt.upper (sg c) = sg d := by
  unfold Txt.upper
  rw [placed_map (g := fun _ => d) (fun i z hz => by
    cases i with
    | zero => simp [sg] at hz; subst hz; exact h
    | succ i => simp [sg] at hz)]
  rfl
theorem lower_one {c d : Nat} (hc : c < 200) (h : Unicode.lowerOf c = [d]) : Txt.lower (sg c) = sg d := by
  unfold Txt.lower
  rw [placed_map (g := fun _ => d) (fun i z hz => by
    have hz' := hz
    cases i with
    | zero =>
      simp [sg] at hz; subst hz
      unfold Unicode.lowerAt
      rw [hz']
      have : (c == 0x3A3) = false := beq_eq_false_iff_ne.mpr (by omega)
      simp only [this, Bool.false_and]
      exact h
    | succ i => simp [sg] at hz)]
  rfl
theorem upper_sg {x : Nat × Int} (h : SgOk x) : Txt.upper (sg (cde x)) = sg (cde (x.1, -1)) := by
  obtain ⟨c, s⟩ := x
  obtain ⟨h0, h1, h2⟩ := h
  obtain ⟨n1, n2, n3, n4, _⟩ := nl_of c h0 h1
  rw [cde_neg]
  rcases h2 with h2 | h2
  · have h2 : s = 1 := h2
    subst h2; rw [cde_pos]; exact upper_one n3
  · have h2 : s = -1 := h2
    subst h2; rw [cde_neg]; exact upper_one n4
theorem lower_sg {x : Nat × Int} (h : SgOk x) : Txt.lower (sg (cde x)) = sg x.1 := by
  obtain ⟨c, s⟩ := x
  obtain ⟨h0, h1, h2⟩ := h
  have h0 : 97 ≤ c := h0
  have h1 : c ≤ 122 := h1
  obtain ⟨n1, n2, n3, n4, _⟩ := nl_of c h0 h1
  rcases h2 with h2 | h2
  · have h2 : s = 1 := h2
    subst h2; rw [cde_pos]; exact lower_one (by omega) n1
  · have h2 : s = -1 := h2
    subst h2; rw [cde_neg]; exact lower_one (by omega) n2
theorem isup_sg {x : Nat × Int} (h : SgOk x) : Txt.isupper (sg (cde x)) = decide (x.2 = -1) := by
  obtain ⟨c, s⟩ := x
  obtain ⟨h0, h1, h2⟩ := h
  obtain ⟨n1, n2, n3, n4, n5, n6, n7, n8⟩ := nl_of c h0 h1
  rcases h2 with h2 | h2
  · have h2 : s = 1 := h2
    subst h2; rw [cde_pos]
    simp [Txt.isupper, sg]
    intro q
    have n5 : Unicode.isUpper c = false := n5
    rw [n5] at q; cases q
  · have h2 : s = -1 := h2
    subst h2; rw [cde_neg]
    have n6 : Unicode.isUpper (c - 32) = true := n6
    have n7 : Unicode.isLower (c - 32) = false := n7
    have n8 : Unicode.isTitle (c - 32) = false := n8
    simp [Txt.isupper, sg, n6, n7, n8]
/-- the text of a row of letters with signs -/
def lin (l : List (Nat × Int)) : Str := txtOf (l.map cde)
def AllSg (l : List (Nat × Int)) : Prop := ∀ x ∈ l, SgOk x
theorem lin_len (l : List (Nat × Int)) : (lin l).length = l.length := by unfold lin; rw [txt_len, List.length_map]
theorem lin_app (l r : List (Nat × Int)) : lin l ++ lin r = lin (l ++ r) := by
  apply congrArg Str.mk
  apply Array.toList_inj.mp
  simp [lin, txtOf]
theorem rev_txt (l : List Nat) : revT (txtOf l) = txtOf l.reverse := by
  apply congrArg Str.mk
  apply Array.toList_inj.mp
  simp [txtOf]
theorem rev_lin (l : List (Nat × Int)) : revT (lin l) = lin l.reverse := by
  unfold lin
  rw [rev_txt, List.map_reverse]
theorem signs_txt (l : List Nat) : signs (txtOf l) = l.map fun c => DV.str (sg c) := by
  simp [signs, txtOf, sg]
theorem lower_lin {l : List (Nat × Int)} (h : AllSg l) : Txt.lower (lin l) = txtOf (l.map Prod.fst) := by
  unfold Txt.lower
  apply congrArg Str.mk
  rw [placed_map (g := fun c => if 97 ≤ c then c else c + 32)]
  · apply Array.toList_inj.mp
    simp only [lin, txtOf, List.map_map]
    refine List.map_congr_left fun x hx => ?_
    obtain ⟨h0, h1, h2⟩ := h x hx
    obtain ⟨c, s⟩ := x
    rcases h2 with h2 | h2
    · have h2 : s = 1 := h2
      subst h2
      show (if 97 ≤ cde (c, 1) then cde (c, 1) else cde (c, 1) + 32) = c
      rw [cde_pos, if_pos h0]
    · have h2 : s = -1 := h2
      subst h2
      have h0 : 97 ≤ c := h0
      have h1 : c ≤ 122 := h1
      show (if 97 ≤ cde (c, -1) then cde (c, -1) else cde (c, -1) + 32) = c
      rw [cde_neg, if_neg (by omega)]; omega
  · intro i c hc
    have hm : c ∈ l.map cde := by
      have := Array.mem_of_getElem? hc
      simpa [lin, txtOf] using this
    obtain ⟨x, hx, rfl⟩ := List.mem_map.mp hm
    obtain ⟨h0, h1, h2⟩ := h x hx
    obtain ⟨d, s⟩ := x
    have h0 : 97 ≤ d := h0
    have h1 : d ≤ 122 := h1
    obtain ⟨n1, n2, _⟩ := nl_of d h0 h1
    have hlt : cde (d, s) < 200 := by unfold cde; split <;> simp <;> omega
    unfold Unicode.lowerAt
    rw [hc]
    have : (cde (d, s) == 0x3A3) = false := beq_eq_false_iff_ne.mpr (by omega)
    simp only [this, Bool.false_and]
    rcases h2 with h2 | h2
    · have h2 : s = 1 := h2
      subst h2
      rw [cde_pos, if_pos h0]; exact n1
    · have h2 : s = -1 := h2
      subst h2
      show Unicode.lowerOf (cde (d, -1)) = [if 97 ≤ cde (d, -1) then cde (d, -1) else cde (d, -1) + 32]
      rw [cde_neg, if_neg (show ¬ 97 ≤ d - 32 by omega), show d - 32 + 32 = d by omega]; exact n2
theorem count_txt (l : List Nat) (c : Nat) : Txt.count (txtOf l) (sg c) = (l.count c : Nat) := by
  have h : Txt.count (txtOf l) (sg c) = PyProof.Rows.cnt c l := PyProof.Rows.count_is (txtOf l) c
  rw [h]
  clear h
  induction l with
  | nil => rfl
  | cons a r ih =>
    rw [PyProof.Rows.cnt_cons, ih, List.count_cons]
    by_cases q : a = c
    · subst q; simp; omega
    · simp [q]
/-- what is left when each x with its opposite behind it is taken out, from the left -/
def delP (x : Nat × Int) : List (Nat × Int) → List (Nat × Int)
  | [] => []
  | [a] => [a]
  | a :: b :: r => if a = x ∧ b = (x.1, -x.2) then delP x r else a :: delP x (b :: r)
theorem cde_inj {x y : Nat × Int} (hx : SgOk x) (hy : SgOk y) (h : cde x = cde y) : x = y := by
  obtain ⟨a, s⟩ := x
  obtain ⟨b, t⟩ := y
  obtain ⟨x1, x2, x3⟩ := hx
  obtain ⟨y1, y2, y3⟩ := hy
  simp only at x1 x2 x3 y1 y2 y3
  rcases x3 with rfl | rfl <;> rcases y3 with rfl | rfl
  · rw [cde_pos, cde_pos] at h; rw [h]
  · rw [cde_pos, cde_neg] at h; omega
  · rw [cde_neg, cde_pos] at h; omega
  · rw [cde_neg, cde_neg] at h
    have : a = b := by omega
    rw [this]
theorem sgok_neg {x : Nat × Int} (h : SgOk x) : SgOk (x.1, -x.2) := by
  obtain ⟨h0, h1, h2⟩ := h
  refine ⟨h0, h1, ?_⟩
  rcases h2 with h2 | h2
  · right; show -x.2 = -1; omega
  · left; show -x.2 = 1; omega
theorem repl_del {x : Nat × Int} (hx : SgOk x) : ∀ n, ∀ l : List (Nat × Int), l.length ≤ n → AllSg l → StrLaws.replL [cde x, cde (x.1, -x.2)] [] (l.map cde) = (delP x l).map cde := by
  intro n
  induction n with
  | zero =>
    intro l hl _
    have : l = [] := List.length_eq_zero_iff.mp (by omega)
    subst this; rfl
  | succ n ih =>
    intro l hl ha
    match l, hl, ha with
    | [], _, _ => rfl
    | [a], _, _ =>
      show StrLaws.replL _ _ [cde a] = [cde a]
      rw [StrLaws.replL_miss (by simp), StrLaws.replL_nil]
    | a :: b :: r, hl, ha =>
      have hla : SgOk a := ha a (by simp)
      have hlb : SgOk b := ha b (by simp)
      have hr : AllSg r := fun z hz => ha z (by simp [hz])
      have hbr : AllSg (b :: r) := fun z hz => ha z (by simp at hz ⊢; exact .inr hz)
      simp only [List.length_cons] at hl
      by_cases q : a = x ∧ b = (x.1, -x.2)
      · obtain ⟨q1, q2⟩ := q
        subst q1; subst q2
        have e : delP a (a :: (a.1, -a.2) :: r) = delP a r := by simp [delP]
        rw [e, ← ih r (by omega) hr]
        show StrLaws.replL _ [] (cde a :: cde (a.1, -a.2) :: r.map cde) = _
        rw [StrLaws.replL_hit (by simp) (by simp)]
        simp
      · have e : delP x (a :: b :: r) = a :: delP x (b :: r) := by simp [delP, q]
        rw [e]
        show StrLaws.replL _ [] (cde a :: cde b :: r.map cde) = cde a :: (delP x (b :: r)).map cde
        rw [← ih (b :: r) (by simp; omega) hbr]
        rw [StrLaws.replL_miss]
        · rfl
        · intro h
          simp at h
          exact q ⟨cde_inj hla hx h.1, cde_inj hlb (sgok_neg hx) h.2⟩
theorem repl_lin {x : Nat × Int} (hx : SgOk x) {l : List (Nat × Int)} (h : AllSg l) {z : Str} (hz : z.cps.toList = []) : Txt.replace (lin l) (sg (cde x) ++ sg (cde (x.1, -x.2))) z = lin (delP x l) := by
  apply str_ext
  have h1 : 1 ≤ (sg (cde x) ++ sg (cde (x.1, -x.2))).length := by show 1 ≤ 2; decide
  rw [StrLaws.replace_list h1, hz]
  show StrLaws.replL [cde x, cde (x.1, -x.2)] [] (l.map cde) = (delP x l).map cde
  exact repl_del hx l.length l (Nat.le_refl _) h
theorem delP_len (x : Nat × Int) : ∀ n, ∀ l : List (Nat × Int), l.length ≤ n → (delP x l = l ∨ (delP x l).length + 2 ≤ l.length) ∧ (delP x l).length ≤ l.length ∧ ∀ z ∈ delP x l, z ∈ l := by
  intro n
  induction n with
  | zero =>
    intro l hl
    have : l = [] := List.length_eq_zero_iff.mp (by omega)
    subst this; simp [delP]
  | succ n ih =>
    intro l hl
    match l, hl with
    | [], _ => simp [delP]
    | [a], _ => simp [delP]
    | a :: b :: r, hl =>
      simp only [List.length_cons] at hl
      by_cases q : a = x ∧ b = (x.1, -x.2)
      · have e : delP x (a :: b :: r) = delP x r := by simp only [delP]; rw [if_pos q]
        obtain ⟨i1, i2, i3⟩ := ih r (by omega)
        rw [e]
        refine ⟨.inr (by simp; omega), by simp; omega, fun z hz => by simp [i3 z hz]⟩
      · have e : delP x (a :: b :: r) = a :: delP x (b :: r) := by simp only [delP]; rw [if_neg q]
        obtain ⟨i1, i2, i3⟩ := ih (b :: r) (by simp; omega)
        rw [e]
        refine ⟨?_, by simp at i2 ⊢; omega, fun z hz => ?_⟩
        · rcases i1 with i1 | i1
          · left; rw [i1]
          · right; simp at i1 ⊢; omega
        · rcases List.mem_cons.mp hz with h | h
          · rw [h]; simp
          · exact List.mem_cons_of_mem _ (i3 z h)
end DL
/-! DLn -/
set_option Elab.async false
set_option linter.all false
set_option autoImplicit false
set_option maxRecDepth 100000
set_option maxHeartbeats 4000000
namespace DL
open PySem L2 PyProof.Rows
/-! ### sum of a list of ints -/
section
variable {K : PySem.W.Frag} {X : Cx} {G H : Hp} {M : Mem}
def dSum : DC := fun xs M P => ∃ x ys ns, xs = [x] ∧ lstOf M x = some ys ∧ intsOf ys = some ns ∧ P (.int ns.sum) M
theorem rc_sum : RC K (rSum K) dSum := by
  intro xs M P ⟨x, ys, ns, e, hl, hb, p⟩ G vs H o al Q k
  subst e
  obtain ⟨v, rfl, r1⟩ := vall1 al
  obtain ⟨a, us, rfl, sq, al2⟩ := lst_sq o r1 hl
  rw [ints_rel al2 hb] at sq
  exact ⟨a, ns, rfl, sq, k _ M _ G H p o (Same.refl _) (.int _)⟩
/-! ### slices of lists -/
abbrev DO := Sl → Mem → (Option Int → Mem → Prop) → Prop
def RO (K : PySem.W.Frag) (t : TO) (d : DO) : Prop := ∀ S M P, d S M P → ∀ G σ H, Ok K G H M → SlOk K G S σ → ∀ Q : Option Int → Hp → Prop, (∀ i M' G' H', P i M' → Ok K G' H' M' → Same G G' → Q i H') → t σ H Q
structure QO (X : Cx) (e : Option Expr) (t : TO) (d : DO) : Prop where
  p : PO X e t
  r : RO X.K t d
def dNoPt : DO := fun _ M P => P none M
def dPt (d : DE) : DO := fun S M P => d S M fun x M1 => ∃ i, x = .int i ∧ P (some i) M1
theorem qo_none : QO X none tNoPart dNoPt := ⟨po_none, fun S M P p G σ H o s Q k => k none M G H p o (Same.refl _)⟩
theorem qo_some {e : Expr} {te : TE} {de : DE} (h : QE X e te de) : QO X (some e) (tPart te) (dPt de) := ⟨po_some h.p, fun S M P p G σ H o s Q k => h.r S M _ p G σ H o s _ fun x M1 v G1 H1 ⟨i, ex, p1⟩ o1 e1 r1 => by
  subst ex; cases r1
  exact ⟨i, rfl, k (some i) M1 G1 H1 p1 o1 e1⟩⟩
def cutD (xs : List DV) (lo hi : Option Int) : List DV := (xs.drop (HT.sIx xs.length 0 lo)).take (HT.sIx xs.length xs.length hi - HT.sIx xs.length 0 lo)
def dSlc (de : DE) (dl du : DO) : DE := fun S M P => de S M fun x M1 => dl S M1 fun l M2 => du S M2 fun u M3 => ∃ xs, lstOf M3 x = some xs ∧ ∀ p, M3 p = none → P (.loc p) (M3.up p (.lst (cutD xs l u)))
theorem re_slc {te : TE} {tl th : TO} {de : DE} {dl du : DO} (he : RE K te de) (hl : RO K tl dl) (hu : RO K th du) : RE K (tSl (rSlL K) te tl th) (dSlc de dl du) := fun S M P p G σ H o s Q k =>
  he S M _ p G σ H o s _ fun x M1 v G1 H1 p1 o1 e1 r1 => hl S M1 _ p1 G1 σ H1 o1 (s.mono e1) _ fun l M2 G2 H2 p2 o2 e2 => hu S M2 _ p2 G2 σ H2 o2 (s.mono (e1.trans e2)) _ fun u M3 G3 H3 ⟨xs, hx, p3⟩ o3 e3 => by
    obtain ⟨a, vs, rfl, sq, al⟩ := lst_sq o3 (r1.mono (e2.trans e3)) hx
    refine ⟨a, vs, rfl, sq, fun q hq => ?_⟩
    have hc : VAll K G3 (cutD xs l u) (cutV vs l u) := by
      unfold cutD cutV
      rw [al.length]
      exact (al.drop _).take _
    exact k _ _ _ G3 _ (p3 q (o3.free hq).1) (o3.putL (o3.free hq).2 hc) ((e1.trans e2).trans e3) (.loc q)
theorem qe_slc {e : Expr} {lo hi : Option Expr} {te : TE} {tl th : TO} {de : DE} {dl du : DO} {pos p2 : Pos} (he : QE X e te de) (hl : QO X lo tl dl) (hu : QO X hi th du) : QE X (.Subscript e (.Slice lo hi none p2) pos) (tSl (rSlL X.K) te tl th) (dSlc de dl du) :=
  ⟨pe_slice sl_list he.p hl.p hu.p, re_slc he.r hl.r hu.r⟩
theorem i_slc {de : DE} {dl du : DO} {S : Sl} {P : PV} (h : de S M fun x M1 => dl S M1 fun l M2 => du S M2 fun u M3 => ∃ xs, lstOf M3 x = some xs ∧ ∀ p, M3 p = none → P (.loc p) (M3.up p (.lst (cutD xs l u)))) : dSlc de dl du S M P := h
theorem i_noPt {S : Sl} {P : Option Int → Mem → Prop} (h : P none M) : dNoPt S M P := h
theorem i_pt {d : DE} {S : Sl} {P : Option Int → Mem → Prop} (h : d S M fun x M1 => ∃ i, x = .int i ∧ P (some i) M1) : dPt d S M P := h
theorem cut_to (xs : List DV) (n : Nat) : cutD xs none (some (n : Int)) = xs.take n := by
  unfold cutD
  rw [HT.sIx_none, HT.sIx_nat, List.drop_zero, Nat.sub_zero]
  rcases Nat.le_total n xs.length with h | h
  · rw [Nat.min_eq_left h]
  · rw [Nat.min_eq_right h, List.take_of_length_le (Nat.le_refl _), List.take_of_length_le h]
theorem cut_from (xs : List DV) (n : Nat) : cutD xs (some (n : Int)) none = xs.drop n := by
  unfold cutD
  rw [HT.sIx_none, HT.sIx_nat]
  rcases Nat.le_total n xs.length with h | h
  · rw [Nat.min_eq_left h, List.take_of_length_le (by rw [List.length_drop]; omega)]
  · rw [Nat.min_eq_right h, List.drop_eq_nil_of_le (Nat.le_refl _), List.drop_eq_nil_of_le h, List.take_nil]
end
end DL
/-! DLo -/
set_option Elab.async false
set_option linter.all false
set_option autoImplicit false
set_option maxRecDepth 100000
set_option maxHeartbeats 4000000
/-! ### repr of a kind: some text, whatever is under way -/
namespace PySem
open PySem.Spec PyProof.Rows
section
variable {prog : Program} {w : World} {A : Around} {E : Value → Shared → Prop} {s : Shared}
/-- some text of at most N signs, the heap as it stands, u deep -/
def RepS (prog : Program) (w : World) (h : Heap) (u : Nat) (x : Value) (N : Nat) : Prop :=
  ∀ (b : Nat), b + N ≤ sizeLine → ∀ (A : Around) (E : Value → Shared → Prop) (s : Shared) (Q : Str → Shared → Prop), s.heap = h → A.units + u < cLine → (∀ (t : Str) tk, t.length ≤ N → Q t { s with toks := tk }) → wpAny (model prog w) A (pyReprUnder b x) Q E s
inductive RepAll (prog : Program) (w : World) (h : Heap) (u : Nat) : List Value → List Nat → Prop
  | nil : RepAll prog w h u [] []
  | cons {x : Value} {N : Nat} {l : List Value} {Ns : List Nat} : RepS prog w h u x N → RepAll prog w h u l Ns → RepAll prog w h u (x :: l) (N :: Ns)
def sumN : List Nat → Nat
  | [] => 0
  | n :: r => n + 2 + sumN r
theorem RepS.text {h : Heap} {u : Nat} {x : Str} {t : Tok} {N : Nat} (hN : (reprText x).length ≤ N) (hz : N ≤ sizeLine) : RepS prog w h u (.str x t) N := fun b hb A E s Q _ _ k =>
  ReprIs.str x t (by omega) b (by omega) A E s Q fun tk => k _ tk hN
theorem rep_fold {h : Heap} {u : Nat} : ∀ (l : List Value) (Ns : List Nat) (acc : Array Str) (n : Nat) (A : Around) (E : Value → Shared → Prop) (s : Shared) (Q : (Array Str × Nat) → Shared → Prop), RepAll prog w h u l Ns → s.heap = h → A.units + u < cLine → n + sumN Ns ≤ sizeLine →
    (∀ (ts : List Str) tk, ts.length = l.length → piled ts ≤ sumN Ns → Q ⟨acc ++ ts.toArray, n + piled ts⟩ { s with toks := tk }) → wpAny (model prog w) A (forIn l (⟨acc, n⟩ : (Array Str × Nat)) tupBody) Q E s := by
  intro l
  induction l with
  | nil =>
    intro Ns acc n A E s Q hT hs hu hn k
    cases hT
    have h0 := k [] s.toks rfl (Nat.le_refl 0)
    simp only [List.forIn_nil]
    exact wpAny_pure (by simpa [piled] using h0)
  | cons x l ih =>
    intro Ns acc n A E s Q hT hs hu hn k
    cases hT with
    | cons hx hl =>
      rename_i N Ns'
      have e0 : sumN (N :: Ns') = N + 2 + sumN Ns' := rfl
      rw [e0] at hn
      rw [List.forIn_cons]
      refine wpAny_bind (wpAny_bind (hx (n + 1) (by omega) _ _ _ _ hs hu fun t tk ht => wpAny_pure ?_))
      refine ih Ns' (acc.push t) (n + (t.length + 2)) A E { s with toks := tk } Q hl hs hu (by omega) fun ts tk' hlen hp => ?_
      have h1 := k (t :: ts) tk' (by simp [hlen]) (by rw [piled_cons, e0]; omega)
      have e : n + piled (t :: ts) = n + (t.length + 2) + piled ts := by rw [piled_cons]; omega
      rw [e] at h1
      simpa using h1
theorem rep_rest {h : Heap} {u a : Nat} {o : Obj} {items : Array Value} {n b : Nat} {Ns : List Nat} {Q : Fin → Shared → Prop} (ha : h.get? a = some o) (hd : o.data = .seq items n) (hs : s.heap = h) (hu : A.units + u < cLine)
    (hT : RepAll prog w h u items.toList Ns) (k : ∀ (t : Str) v tk, t.length ≤ sumN Ns + 5 → Q (.done (.ret (.str t v))) { s with toks := tk }) (hsz : b + sumN Ns + 5 ≤ sizeLine) :
    wpAny (model prog w) A (tupleReprRest b (.ref a)) Q E s := by
  unfold tupleReprRest Builtin.Tuple.tupleItemsOf
  refine wpAny_bind (wpAny_bind (wpAny_seqItems (by rw [hs]; exact ha) hd (wpAny_pure ?_)))
  rw [← Array.forIn_toList]
  refine wpAny_bind (rep_fold _ Ns _ _ _ _ _ _ hT hs hu (by omega) fun ts tk hlen hp => ?_)
  have hft := fmt_text ts
  have hl2 : ts.length = items.size := by simpa using hlen
  have hz : (tupleText ts).length ≤ sizeLine := by omega
  refine wpAny_bind (wpAny_mkStr (wpAny_pure ?_) (by simpa [tupleText, hl2] using hz))
  have h1 := k (tupleText ts) tk (tk + 1) (by omega)
  simpa [tupleText, hl2] using h1
theorem rep_at {h : Heap} {u a : Nat} {o : Obj} {items : Array Value} {n b : Nat} {Ns : List Nat} {Q : Fin → Shared → Prop} (ha : h.get? a = some o) (hd : o.data = .seq items n) (hs : s.heap = h) (hu : A.units + u < cLine)
    (hT : RepAll prog w h u items.toList Ns) (k : ∀ (t : Str) v tk, t.length ≤ sumN Ns + 5 → Q (.done (.ret (.str t v))) { s with toks := tk }) (hsz : b + sumN Ns + 5 ≤ sizeLine) :
    wpAny (model prog w) A (Builtin.tupleReprAt b ⟨[.ref a], []⟩) Q E s := by
  rw [tuple_repr_tree]
  refine wpAny_bind (fmt_underWay fun c => ?_)
  cases c with
  | true =>
    refine PySem.W.KFB.if_so rfl ?_
    refine wpAny_bind (wpAny_rule ?_)
    refine wpAny_bind (wpAny_mkStr (wpAny_pure ?_) (by decide +kernel))
    exact k "(...)" _ _ (Nat.le_trans fmt_way (Nat.le_add_left _ _))
  | false =>
    refine PySem.W.KFB.if_not rfl ?_
    exact rep_rest ha hd hs hu hT k hsz
theorem RepS.tuple {h : Heap} {u a : Nat} {o : Obj} {items : Array Value} {n : Nat} {Ns : List Nat} (ha : h.get? a = some o) (hc : o.cls = .type "tuple") (hd : o.data = .seq items n)
    (hT : RepAll prog w h u items.toList Ns) : RepS prog w h (u + 1) (.ref a) (sumN Ns + 5) := fun b hb A E s Q hs hu k => by
  refine wpAny_pyReprUnder_ref (by omega) ?_
  refine wpAny_pyReprObjUnder_twin (twin := "tuple.__repr__.under") ⟨o, by rw [hs]; exact ha, hc⟩ F.slot_tuple_repr rfl (by omega) ?_
  refine call_twin_own (F.quiet_tuple_repr_under _) F.entry_tuple_repr_under F.check_tuple_repr_under ⟨o, by rw [hs]; exact ha, hc⟩ F.slot_tuple_repr (F.args_tuple_repr_1 _) ?_
  refine wpOwn_of_wpAny ?_
  refine rep_at ha hd hs (by rw [units_under_tuple_repr_under]; omega) hT (fun t v tk ht => ?_) (by omega)
  exact ⟨⟨t, v, rfl⟩, t, v, rfl, k t tk ht⟩
/-- repr(t) of a tuple -/
theorem rep_call {u a : Nat} {o : Obj} {items : Array Value} {n : Nat} {Ns : List Nat} {Q : Value → Shared → Prop} (ha : s.heap.get? a = some o) (hc : o.cls = .type "tuple") (hd : o.data = .seq items n)
    (hT : RepAll prog w s.heap u items.toList Ns) (hu : A.units + u + 3 < cLine) (hz : sumN Ns + 5 ≤ sizeLine) (k : ∀ (t : Str) v tk, t.length ≤ sumN Ns + 5 → Q (.str t v) { s with toks := tk }) : wpAny (model prog w) A (call (.builtin "repr") [.ref a]) Q E s := by
  refine call_repr_slot (by omega) ⟨o, ha, hc⟩ F.slot_tuple_repr ?_
  refine wpAny_call (codeAny_call_builtin_own (Code.quiet_builtin _ (by decide +kernel)) F.entry_tuple_repr (F.slot_tuple_repr.check _ _ _ _ _ _ _ _ ⟨o, ha, hc⟩ (F.args_tuple_repr_1 _) (wpOwn_of_wpAny ?_)))
  show wpAny _ _ (Builtin.tupleReprAt 0 ⟨[.ref a], []⟩) _ _ s
  refine rep_at ha hd rfl ?_ hT (fun t v tk ht => ?_) (by omega)
  · rw [units_under_tuple_repr]
    show A.units + 1 + 1 + u < cLine
    omega
  · exact ⟨t, v, rfl, k t v tk ht⟩
end
end PySem
/-! DZ1 -/
set_option Elab.async false
set_option linter.all false
set_option autoImplicit false
set_option maxRecDepth 100000
set_option maxHeartbeats 4000000
namespace DL
open PySem L2 PyProof.Rows
/-! ### a store given up: what stands still from now on is told by value -/
mutual
inductive Fz (M M2 : Mem) : DV → DV → Prop
  | same (x : DV) : Fz M M2 x x
  | loc {p : Addr} {xs ys : List DV} : M p = some (.lst xs) → M2 p = none → FzA M M2 xs ys → Fz M M2 (.loc p) (.fl ys)
  | tup {xs ys : List DV} : FzA M M2 xs ys → Fz M M2 (.tup xs) (.tup ys)
  | fl {xs ys : List DV} : FzA M M2 xs ys → Fz M M2 (.fl xs) (.fl ys)
inductive FzA (M M2 : Mem) : List DV → List DV → Prop
  | nil : FzA M M2 [] []
  | cons {x y : DV} {xs ys : List DV} : Fz M M2 x y → FzA M M2 xs ys → FzA M M2 (x :: xs) (y :: ys)
end
inductive FzC (M M2 : Mem) : MC → MC → Prop
  | same (c : MC) : FzC M M2 c c
  | lst {xs ys : List DV} : FzA M M2 xs ys → FzC M M2 (.lst xs) (.lst ys)
def FzM (M M2 : Mem) : Prop := ∀ p c, M2 p = some c → ∃ c', M p = some c' ∧ FzC M M2 c' c
theorem FzA.refl {M M2 : Mem} : ∀ xs : List DV, FzA M M2 xs xs
  | [] => .nil
  | x :: r => .cons (.same x) (FzA.refl r)
theorem fzm_ext {M M2 : Mem} (e : Ext M2 M) : FzM M M2 := fun p c h => ⟨c, e p c h, .same c⟩
section
variable {K : PySem.W.Frag} {G H : Hp} {M M2 : Mem}
open Classical in
/-- the frozen part with what is given up -/
noncomputable def frz (G H : Hp) (M M2 : Mem) : Hp := fun b => if (∃ xs, M b = some (.lst xs)) ∧ M2 b = none then H b else G b
theorem frz_same (o : Ok K G H M) : Same G (frz G H M M2) := by
  intro b u h
  unfold frz
  rw [if_neg]
  · exact h
  · rintro ⟨⟨xs, q⟩, _⟩
    have := (o.mem b _ q).1
    rw [h] at this; cases this
mutual
theorem fz_rel (o : Ok K G H M) : ∀ {x y : DV} {v : V}, Fz M M2 x y → VRel K G x v → VRel K (frz G H M M2) y v
  | _, _, _, .same x, r => r.mono (frz_same o)
  | _, _, _, .loc (p := p) (xs := xs) h1 h2 a, .loc _ => by
    obtain ⟨_, vs, e, al⟩ := o.mem p _ h1
    refine .fl (.inl (.inl ?_)) (fzA_rel o a al)
    unfold frz
    rw [if_pos ⟨⟨xs, h1⟩, h2⟩]; exact e
  | _, _, _, .tup a, .tup s al => .tup (sqT_mono (frz_same o) s) (fzA_rel o a al)
  | _, _, _, .fl a, .fl s al => .fl (sqL_mono (frz_same o) s) (fzA_rel o a al)
theorem fzA_rel (o : Ok K G H M) : ∀ {xs ys : List DV} {vs : List V}, FzA M M2 xs ys → VAll K G xs vs → VAll K (frz G H M M2) ys vs
  | _, _, _, .nil, .nil => .nil
  | _, _, _, .cons a b, .cons r s => .cons (fz_rel o a r) (fzA_rel o b s)
end
theorem fz_ok (o : Ok K G H M) (f : FzM M M2) : Ok K (frz G H M M2) H M2 := by
  refine ⟨fun b u h => ?_, fun p c h => ?_⟩
  · unfold frz at h
    split at h
    · exact h
    · exact o.same b u h
  · obtain ⟨c', h1, hc⟩ := f p c h
    obtain ⟨g, q⟩ := o.mem p c' h1
    refine ⟨?_, ?_⟩
    · unfold frz
      rw [if_neg]
      · exact g
      · rintro ⟨_, e⟩; rw [h] at e; cases e
    · cases hc with
      | same =>
        cases c with
        | lst xs => obtain ⟨vs, e, a⟩ := q; exact ⟨vs, e, a.mono (frz_same o)⟩
        | dct kvs => obtain ⟨vs, e, a⟩ := q; exact ⟨vs, e, a.mono (frz_same o)⟩
      | lst a => obtain ⟨vs, e, al⟩ := q; exact ⟨vs, e, fzA_rel o a al⟩
end
/-- what is wanted of a value, behind giving up a part of the store -/
def Rt (P : PV) : PV := fun x M => ∃ y M2, FzM M M2 ∧ Fz M M2 x y ∧ P y M2
theorem rt_kont {K : PySem.W.Frag} {G : Hp} {P : PV} {Q : VK} (k : KontV K G P Q) : KontV K G (Rt P) Q := fun x M' v G' H' ⟨y, M2, f, z, p⟩ o e r =>
  k y M2 v _ H' p (fz_ok o f) (e.trans (frz_same o)) (fz_rel o z r)
def dFz (d : DE) : DE := fun S M P => d S M (Rt P)
theorem qe_fz {X : Cx} {e : Expr} {te : TE} {de : DE} (h : QE X e te de) : QE X e te (dFz de) := ⟨h.p, fun S M P p G σ H o s Q k => h.r S M _ p G σ H o s Q (rt_kont k)⟩
theorem i_fz {d : DE} {S : Sl} {M : Mem} {P : PV} (h : d S M (Rt P)) : dFz d S M P := h
section
variable {P : PV} {M M0 : Mem} {x y : DV} {p : Addr} {xs ys : List DV}
theorem rt_gen (e : Ext M0 M) (z : Fz M M0 x y) (h : P y M0) : Rt P x M := ⟨y, M0, fzm_ext e, z, h⟩
theorem rt_here (h : P x M) : Rt P x M := rt_gen (Ext.refl M) (.same x) h
theorem rt_sub (e : Ext M0 M) (h : P x M0) : Rt P x M := rt_gen e (.same x) h
theorem rt_int {n : Int} (h : P (.int n) M) : Rt P (.int n) M := rt_here h
theorem rt_str {n : Str} (h : P (.str n) M) : Rt P (.str n) M := rt_here h
theorem rt_bl {n : Bool} (h : P (.bl n) M) : Rt P (.bl n) M := rt_here h
theorem rt_non (h : P .non M) : Rt P .non M := rt_here h
theorem rt_fl (h : P (.fl xs) M) : Rt P (.fl xs) M := rt_here h
theorem rt_tup (h : P (.tup xs) M) : Rt P (.tup xs) M := rt_here h
theorem rt_lst (e : Ext M0 M) (h1 : M p = some (.lst xs)) (h2 : M0 p = none) (h : P (.fl xs) M0) : Rt P (.loc p) M := rt_gen e (.loc h1 h2 (.refl _)) h
/-- a new list, told by value at once -/
theorem rt_new (h : P (.fl xs) M) : ∀ p, M p = none → Rt P (.loc p) (M.up p (.lst xs)) := fun p hp => rt_lst (Ext.new hp) up_same hp h
end
section
variable {P : Program} {w : World} {K : PySem.W.Frag} {mg : Str → Option Value} {base : Heap}
theorem okZ {x qual : Str} {st : Stmt} {f : Addr} {fd : FuncData} {N ps : List Str} {k : Nat} {fs : FS} (F : Fun K x qual st f fd) (S : FnScope N ps (defScope st)) (len : ∀ xs M P Pe, fs xs M P Pe → xs.length = ps.length)
    (hbody : ∀ (cdv : Value) (A : Around) (outer : List Env) (s : Shared) (H : Hp) (E : XK), Room k (A.deeper (envOfC qual (defScope st) s.heap.objs.size f cdv)) →
      ∃ t d, QSs (cxOf CX0 P w K mg base N qual (defScope st) f cdv A outer s H E).nox (defBody st) t d ∧ ∀ xs M P Pe, fs xs M P Pe → d { nx := fun _ M' => Rt P .non M', rt := Rt P } (startD N xs) M) :
    FnOk P w K mg base CX0 (k + 1) f fd ps (lift K fs) := by
  refine F.ok S (fun vs H Q E h => ?_) (fun cdv A outer s H vs Q E hr h => ?_)
  · obtain ⟨G, M, xs, P, Pe, o, a, h, _⟩ := h
    rw [← a.length]; exact len xs M P Pe h
  · obtain ⟨G, M, xs, P, Pe, o, a, h, kv, kx⟩ := h
    obtain ⟨t, d, q, r⟩ := hbody cdv A outer s H E hr
    refine ⟨t, q.p, ?_⟩
    have kv := rt_kont kv
    exact q.r _ _ M (r xs M P Pe h) G _ H o (slOk_start a) _ ⟨fun S' M' σ' G' H' p o' e s' => kv .non M' .non G' H' p o' e .non, kv, fun _ _ _ _ _ p => p.elim, fun _ _ _ _ _ p => p.elim⟩
end
/-! ### comprehensions told by value -/
section
variable {α : Type} {S : Sl} {M : Mem} {vs : List Nat} {dg : DG} {dt : DT} {d : DE} {P : PV} {C : Mem → Prop}
/-- each item is made while the list under way stands beside -/
theorem lcZ (l : List α) (fx fy : α → DV) (keep : α → Bool) (hl : l.length < 100000) (hC : ∀ M2, Ext M M2 → C M2)
    (step : ∀ x, x ∈ l → ∀ M4 (Q : PV) (R : Mem → Prop), Ext M M4 → (keep x = true → Q (fy x) M4) → (keep x = false → R M4) → dg (fx x) (wipeD S vs) M4 fun S3 M5 => dt S3 M5 fun b M6 => if b = true then d S3 M6 Q else R M6)
    (fin : P (.fl ((l.filter keep).map fy)) M) :
    ∀ D, M D = none → ∃ I : List DV → List DV → Mem → Prop, I (l.map fx) [] (M.up D (.lst [])) ∧
      (∀ acc M2, I [] acc M2 → C M2 ∧ Rt P (.loc D) M2) ∧
      ∀ x r acc M2, I (x :: r) acc M2 → C M2 ∧ dg x (wipeD S vs) M2 fun S3 M3 => dt S3 M3 fun b M4 => if b = true then d S3 M4 fun y M5 => M5 D = some (.lst acc) ∧ acc.length < 100000 ∧ I r (acc ++ [y]) (M5.up D (.lst (acc ++ [y]))) else I r acc M4 :=
  lcF (P := fun D M2 => Rt P (.loc D) M2) l fx fy keep hl hC step fun D M' e hD h => rt_lst e h hD fin
theorem lcZA (l : List α) (fx fy : α → DV) (hl : l.length < 100000) (hC : ∀ M2, Ext M M2 → C M2)
    (step : ∀ x, x ∈ l → ∀ M4 (Q : PV) (R : Mem → Prop), Ext M M4 → Q (fy x) M4 → dg (fx x) (wipeD S vs) M4 fun S3 M5 => dt S3 M5 fun b M6 => if b = true then d S3 M6 Q else R M6)
    (fin : P (.fl (l.map fy)) M) :
    ∀ D, M D = none → ∃ I : List DV → List DV → Mem → Prop, I (l.map fx) [] (M.up D (.lst [])) ∧
      (∀ acc M2, I [] acc M2 → C M2 ∧ Rt P (.loc D) M2) ∧
      ∀ x r acc M2, I (x :: r) acc M2 → C M2 ∧ dg x (wipeD S vs) M2 fun S3 M3 => dt S3 M3 fun b M4 => if b = true then d S3 M4 fun y M5 => M5 D = some (.lst acc) ∧ acc.length < 100000 ∧ I r (acc ++ [y]) (M5.up D (.lst (acc ++ [y]))) else I r acc M4 :=
  lcZ l fx fy (fun _ => true) hl hC (fun x hx M4 Q R e h1 _ => step x hx M4 Q R e (h1 rfl)) (by rw [List.filter_eq_self.mpr (fun _ _ => rfl)]; exact fin)
end
end DL
/-! DZ2 -/
set_option Elab.async false
set_option linter.all false
set_option autoImplicit false
set_option maxRecDepth 100000
set_option maxHeartbeats 4000000
namespace DL
open PySem L2 PyProof.Rows
/-! ### + by value -/
theorem cat_any (l : Addr) (items : Array Value) (n : Nat) (s1 : Array (Option Value)) (b : Addr) (items2 : Array Value) (n2 : Nat) (s2 : Array (Option Value)) (hc0 : items.size + items2.size ≤ sizeLine) :
    Meets (Builtin.«list.__add__» ⟨[.ref l, .ref b], []⟩) (fun _ R s => s.heap.get? l = some { cls := .type "list", dict := none, data := .seq items n, slots := s1 } ∧ s.heap.get? b = some { cls := .type "list", dict := none, data := .seq items2 n2, slots := s2 } ∧
      R (.ok (.ret (Value.ref s.heap.objs.size))) { s with heap := s.heap.push { cls := Value.type "list", data := Data.seq (items ++ items2) }, toks := s.toks }) :=
  Meets.of_wp fun prg wd ar rr sh hyp => by
    obtain ⟨hp, g, d, tk, os⟩ := sh
    obtain ⟨one, two, hyp⟩ := hyp
    have f1 := AutoSeq1.idx_int
    have f2 := AutoSeq1.sub_tuple_tuple
    have f3 := AutoSeq1.sub_list_list
    have f4 := AutoSeq1.sub_tuple_list
    have f5 := AutoSeq1.sub_list_tuple
    wp_walk using AutoSeq1.wpAny_loadPart' one, AutoSeq1.wpAny_loadPart' two
    exact ⟨_, rfl, hyp⟩
theorem add_any {P : Program} {w : World} {A : Around} {s : Shared} {E : Value → Shared → Prop} {l b : Addr} {items items2 : Array Value} {Q : Value → Shared → Prop} (hl : PlainL s.heap l items) (hb : PlainL s.heap b items2)
    (h : Q (.ref s.heap.objs.size) { s with heap := s.heap.push { cls := .type "list", data := .seq (items ++ items2) } }) (hsz : items.size + items2.size ≤ sizeLine) : wpAny (model P w) A (binaryOp .Add (.ref l) (.ref b)) Q E s := by
  obtain ⟨o1, n1, e1, c1, d1, q1⟩ := hl
  obtain ⟨o2, n2, e2, c2, d2, q2⟩ := hb
  obtain ⟨x1, y1, z1, w1⟩ := o1
  obtain ⟨x2, y2, z2, w2⟩ := o2
  dsimp only at c1 d1 q1 c2 d2 q2
  subst c1; subst d1; subst q1; subst c2; subst d2; subst q2
  exact concat_meets ⟨_, e1, rfl⟩ ⟨_, e2, rfl⟩ noFill_list_add seq_list_add F.slot_list_add F.entry_list_add (F.args_list_add_2 _ _) (cat_any l items n1 w1 b items2 n2 w2 hsz) ⟨e1, e2, h⟩
def rCatF (K : PySem.W.Frag) : R2 := fun x y H Q => ∃ l b xs zs, x = .ref l ∧ y = .ref b ∧ SqL K H l xs ∧ SqL K H b zs ∧ xs.length + zs.length ≤ sizeLine ∧ ∀ p, H p = none → Q (.ref p) (upd H p (.lst (xs ++ zs)))
section
variable {X : Cx} {K : PySem.W.Frag} {G G' H : Hp} {M : Mem} {e a b : Expr} {te ta tb : TE} {de da db : DE} {pos p2 : Pos}
theorem op_catF : OpR X (binaryOp .Add) (rCatF X.K) := by
  intro pins s σ H x y v u Q I rx ry h
  obtain ⟨l, b, xs, zs, rfl, rfl, hH, hB, hz, q⟩ := h
  cases rx
  cases ry
  obtain ⟨its, r, e, hl⟩ := I.list hH
  obtain ⟨its2, r2, e2, hl2⟩ := I.list hB
  have z1 := r.length
  have z2 := r2.length
  refine add_any e e2 ?_ (by rw [List.size_toArray, List.size_toArray]; omega)
  have ea : its.toArray ++ its2.toArray = (its ++ its2).toArray := by simp
  rw [ea]
  exact ⟨.ref _, _, I.lnew (t' := s.toks) (r.append r2) (by rw [List.length_append]; omega), rfl, q _ I.fresh⟩
def rAddZ (K : PySem.W.Frag) : R2 := fun x y H Q => (rI0 fun i j => .int (i + j)) x y H Q ∨ rAddS' x y H Q ∨ rCatF K x y H Q ∨ rCatA K x y H Q
theorem op_addZ : OpR X (binaryOp .Add) (rAddZ X.K) := op_add.or (OpR.or op_add_str (OpR.or op_catF op_catA))
def dAddZ : DR2 := fun x y M P => match x, y with
  | .int i, .int j => P (.int (i + j)) M
  | .str s, .str t => s.length + t.length ≤ 100000 ∧ P (.str (s ++ t)) M
  | .tup xs, .tup ys => xs.length + ys.length ≤ 100000 ∧ P (.tup (xs ++ ys)) M
  | x, y => ∃ xs ys, lstOf M x = some xs ∧ lstOf M y = some ys ∧ xs.length + ys.length ≤ 100000 ∧ P (.fl (xs ++ ys)) M
theorem ro_addZ : ROp K (rAddZ K) dAddZ := by
  intro x y M P p G v u H o r1 r2 Q k
  have lst : (∃ xs ys, lstOf M x = some xs ∧ lstOf M y = some ys ∧ xs.length + ys.length ≤ 100000 ∧ P (.fl (xs ++ ys)) M) → rAddZ K v u H Q := fun ⟨xs, ys, h1, h2, hl, p⟩ => by
    obtain ⟨l, vs, e1, s1, a1⟩ := lst_sq o r1 h1
    obtain ⟨m, us, e2, s2, a2⟩ := lst_sq o r2 h2
    subst e1; subst e2
    refine .inr (.inr (.inl ⟨l, m, vs, us, rfl, rfl, s1, s2, by rw [← a1.length, ← a2.length]; exact le_line hl, fun q hq => ?_⟩))
    obtain ⟨o2, e2⟩ := o.lay (.lst (vs ++ us)) hq
    exact k _ M _ _ _ p o2 e2 (.fl (.inl (.inl upd_same)) ((a1.append a2).mono e2))
  cases r1 with
  | int i =>
    cases r2 with
    | int j => exact .inl ⟨_, _, rfl, rfl, k _ M _ G H p o (Same.refl _) (.int _)⟩
    | _ => exact lst p
  | str i =>
    cases r2 with
    | str j => exact .inr (.inl ⟨_, _, rfl, rfl, le_line p.1, k _ M _ G H p.2 o (Same.refl _) (.str _)⟩)
    | _ => exact lst p
  | tup s1 a1 =>
    cases r2 with
    | tup s2 a2 =>
      refine .inr (.inr (.inr ⟨_, _, _, _, rfl, rfl, sqT_mono o.same s1, sqT_mono o.same s2, by rw [← a1.length, ← a2.length]; exact le_line p.1, fun en => ?_, fun n1 en => ?_, fun n1 n2 q hq => ?_⟩))
      · subst en
        cases a1
        exact k _ M _ G H p.2 o (Same.refl _) (.tup s2 a2)
      · subst en
        cases a2
        refine k _ M _ G H p.2 o (Same.refl _) ?_
        rw [List.append_nil]
        exact .tup s1 a1
      · obtain ⟨o2, e2⟩ := o.lay (.tup _) hq
        exact k _ M _ _ _ p.2 o2 e2 (.tup (.inl (.inl upd_same)) ((a1.append a2).mono e2))
    | _ => exact lst p
  | _ => cases r2 <;> exact lst p
theorem qe_addZ (ha : QE X a ta da) (hb : QE X b tb db) : QE X (.BinOp a .Add b pos) (tOp (rAddZ X.K) ta tb) (dOp dAddZ da db) := qe_op op_addZ ro_addZ ha hb
/-! ### slices by value -/
def cutT (z : Str) (lo hi : Option Int) : Str := cutS z lo hi
def dSlcZ (de : DE) (dl du : DO) : DE := fun S M P => de S M fun x M1 => dl S M1 fun l M2 => du S M2 fun u M3 => match x with
  | .str z => z.length ≤ 100000 ∧ P (.str (cutT z l u)) M3
  | .tup xs => P (.tup (cutD xs l u)) M3
  | x => ∃ xs, lstOf M3 x = some xs ∧ P (.fl (cutD xs l u)) M3
def rSlZ (K : PySem.W.Frag) : V → Option Int → Option Int → Hp → VK → Prop := fun x lo hi H Q => rSlL K x lo hi H Q ∨ rSlS x lo hi H Q ∨ rSlA K x lo hi H Q
theorem sl_Z : SlR X (rSlZ X.K) := SlR.or sl_list (SlR.or sl_str sl_tupA)
theorem cut_rel {xs : List DV} {vs : List V} (al : VAll K G xs vs) (l u : Option Int) : VAll K G (cutD xs l u) (cutV vs l u) := by
  unfold cutD cutV
  rw [al.length]
  exact (al.drop _).take _
theorem re_slcZ {tl th : TO} {dl du : DO} (he : RE K te de) (hl : RO K tl dl) (hu : RO K th du) : RE K (tSl (rSlZ K) te tl th) (dSlcZ de dl du) := fun S M P p G σ H o s Q k =>
  he S M _ p G σ H o s _ fun x M1 v G1 H1 p1 o1 e1 r1 => hl S M1 _ p1 G1 σ H1 o1 (s.mono e1) _ fun l M2 G2 H2 p2 o2 e2 => hu S M2 _ p2 G2 σ H2 o2 (s.mono (e1.trans e2)) _ fun u M3 G3 H3 p3 o3 e3 => by
    have E := (e1.trans e2).trans e3
    have r3 := r1.mono (e2.trans e3)
    have lst : (∃ xs, lstOf M3 x = some xs ∧ P (.fl (cutD xs l u)) M3) → rSlZ K v l u H3 Q := fun ⟨xs, hx, p3⟩ => by
      obtain ⟨a, vs, rfl, sq, al⟩ := lst_sq o3 r3 hx
      refine .inl ⟨a, vs, rfl, sq, fun q hq => ?_⟩
      obtain ⟨o4, e4⟩ := o3.lay (.lst (cutV vs l u)) hq
      exact k _ M3 _ _ _ p3 o4 (E.trans e4) (.fl (.inl (.inl upd_same)) ((cut_rel al l u).mono e4))
    cases r3 with
    | str z => exact .inr (.inl ⟨z, rfl, le_line p3.1, k _ M3 _ G3 H3 p3.2 o3 E (.str _)⟩)
    | tup s3 al =>
      refine .inr (.inr ⟨_, _, rfl, sqT_mono o3.same s3, fun hw => ?_, fun _ q hq => ?_⟩)
      · refine k _ M3 _ G3 H3 p3 o3 E ?_
        have ec : ∀ ys : List DV, ys.length = _ → cutD ys l u = ys := fun ys el => by
          unfold cutD
          rw [el, hw.1, hw.2, ← el]
          simp
        rw [ec _ al.length]
        exact .tup s3 al
      · obtain ⟨o4, e4⟩ := o3.lay (.tup _) hq
        exact k _ M3 _ _ _ p3 o4 (E.trans e4) (.tup (.inl (.inl upd_same)) ((cut_rel al l u).mono e4))
    | non => exact lst p3
    | bl b => exact lst p3
    | int b => exact lst p3
    | ty b => exact lst p3
    | fl s a => exact lst p3
    | loc b => exact lst p3
theorem qe_slcZ {lo hi : Option Expr} {tl th : TO} {dl du : DO} (he : QE X e te de) (hl : QO X lo tl dl) (hu : QO X hi th du) : QE X (.Subscript e (.Slice lo hi none p2) pos) (tSl (rSlZ X.K) te tl th) (dSlcZ de dl du) :=
  ⟨pe_slice sl_Z he.p hl.p hu.p, re_slcZ he.r hl.r hu.r⟩
theorem i_slcZ {dl du : DO} {S : Sl} {P : PV} (h : de S M fun x M1 => dl S M1 fun l M2 => du S M2 fun u M3 => match x with
  | .str z => z.length ≤ 100000 ∧ P (.str (cutT z l u)) M3
  | .tup xs => P (.tup (cutD xs l u)) M3
  | x => ∃ xs, lstOf M3 x = some xs ∧ P (.fl (cutD xs l u)) M3) : dSlcZ de dl du S M P := h
end
/-! ### plain data, alike or not -/
mutual
def pd : DV → PyData
  | .non => .none
  | .bl b => .bool b
  | .int i => .int i
  | .str s => .str s
  | .tup xs => .tuple (pds xs)
  | .fl xs => .list (pds xs)
  | .loc _ => .none
  | .ty _ => .none
def pds : List DV → List PyData
  | [] => []
  | x :: r => pd x :: pds r
end
/-- data of no bools, at most so deep -/
inductive Pl : Nat → DV → Prop
  | non {n : Nat} : Pl n .non
  | int {n : Nat} (i : Int) : Pl n (.int i)
  | str {n : Nat} {s : Str} (h : PyData.strOk s = true) : Pl n (.str s)
  | tup {n : Nat} {xs : List DV} (h : ∀ x ∈ xs, Pl n x) : Pl (n + 1) (.tup xs)
  | fl {n : Nat} {xs : List DV} (h : ∀ x ∈ xs, Pl n x) : Pl (n + 1) (.fl xs)
theorem pds_len : ∀ xs : List DV, (pds xs).length = xs.length
  | [] => rfl
  | x :: r => by show (pds r).length + 1 = r.length + 1; rw [pds_len r]
theorem Pl.lay : ∀ {n : Nat} {x : DV}, Pl n x → (pd x).canLay0 = true ∧ (pd x).depth ≤ n := by
  intro n
  have all : ∀ m, (∀ x, Pl m x → (pd x).canLay0 = true ∧ (pd x).depth ≤ m) → ∀ xs : List DV, (∀ x ∈ xs, Pl m x) → PyData.canLayAll0 (pds xs) = true ∧ PyData.depthAll (pds xs) ≤ m := by
    intro m hm xs
    induction xs with
    | nil => intro _; exact ⟨by simp only [pds, PyData.canLayAll0], by simp only [pds, PyData.depthAll]; exact Nat.zero_le _⟩
    | cons x r ih =>
      intro h
      obtain ⟨a, b⟩ := ih fun y hy => h y (List.mem_cons_of_mem _ hy)
      obtain ⟨c, d⟩ := hm x (h x List.mem_cons_self)
      exact ⟨by simp only [pds, PyData.canLayAll0]; rw [a, c]; rfl, by simp only [pds, PyData.depthAll]; omega⟩
  induction n with
  | zero =>
    intro x h
    cases h with
    | non => exact ⟨by simp only [pd, PyData.canLay0], by simp only [pd, PyData.depth]; exact Nat.le_refl _⟩
    | int i => exact ⟨by simp only [pd, PyData.canLay0], by simp only [pd, PyData.depth]; exact Nat.le_refl _⟩
    | str h => exact ⟨by simp only [pd, PyData.canLay0]; exact h, by simp only [pd, PyData.depth]; exact Nat.le_refl _⟩
  | succ n ih =>
    intro x h
    cases h with
    | non => exact ⟨by simp only [pd, PyData.canLay0], by simp only [pd, PyData.depth]; exact Nat.zero_le _⟩
    | int i => exact ⟨by simp only [pd, PyData.canLay0], by simp only [pd, PyData.depth]; exact Nat.zero_le _⟩
    | str h => exact ⟨by simp only [pd, PyData.canLay0]; exact h, by simp only [pd, PyData.depth]; exact Nat.zero_le _⟩
    | tup h =>
      obtain ⟨a, b⟩ := all n (fun x hx => ih hx) _ h
      exact ⟨by simp only [pd, PyData.canLay0]; exact a, by simp only [pd, PyData.depth]; omega⟩
    | fl h =>
      obtain ⟨a, b⟩ := all n (fun x hx => ih hx) _ h
      exact ⟨by simp only [pd, PyData.canLay0]; exact a, by simp only [pd, PyData.depth]; omega⟩
theorem Pl.shaped {n : Nat} {x : DV} (h : Pl n x) (hn : n ≤ 64) : SeqAt.shaped (pd x) = true := by
  obtain ⟨a, b⟩ := h.lay
  unfold SeqAt.shaped
  rw [a, decide_eq_true (Nat.le_trans b hn)]; rfl
theorem Pl.eqv : ∀ {n : Nat} {x : DV}, Pl n x → ∀ {m : Nat} {y : DV}, Pl m y → (PyData.eqv (pd x) (pd y) = true ↔ x = y) := by
  intro n
  have all : ∀ m k, (∀ x, Pl m x → ∀ y, Pl k y → (PyData.eqv (pd x) (pd y) = true ↔ x = y)) → ∀ xs ys : List DV, (∀ x ∈ xs, Pl m x) → (∀ y ∈ ys, Pl k y) → (PyData.eqvAll (pds xs) (pds ys) = true ↔ xs = ys) := by
    intro m k hm xs
    induction xs with
    | nil =>
      intro ys _ _
      cases ys with
      | nil => simp [pds, PyData.eqvAll]
      | cons y r => simp [pds, PyData.eqvAll]
    | cons x r ih =>
      intro ys h1 h2
      cases ys with
      | nil => simp [pds, PyData.eqvAll]
      | cons y q =>
        simp only [pds, PyData.eqvAll, Bool.and_eq_true]
        rw [hm x (h1 x List.mem_cons_self) y (h2 y List.mem_cons_self), ih q (fun z hz => h1 z (List.mem_cons_of_mem _ hz)) (fun z hz => h2 z (List.mem_cons_of_mem _ hz))]
        simp
  induction n with
  | zero =>
    intro x h m y g
    cases h <;> cases g <;> simp [pd, PyData.eqv]
  | succ n ih =>
    intro x h m y g
    cases h with
    | non => cases g <;> simp [pd, PyData.eqv]
    | int i => cases g <;> simp [pd, PyData.eqv]
    | str h => cases g <;> simp [pd, PyData.eqv]
    | tup h =>
      cases g with
      | tup g =>
        simp only [pd, PyData.eqv]
        rw [all n _ (fun x hx y hy => ih hx hy) _ _ h g]
        simp
      | _ => simp [pd, PyData.eqv]
    | fl h =>
      cases g with
      | fl g =>
        simp only [pd, PyData.eqv]
        rw [all n _ (fun x hx y hy => ih hx hy) _ _ h g]
        simp
      | _ => simp [pd, PyData.eqv]
section
variable {X : Cx} {K : PySem.W.Frag} {G G' H : Hp} {M : Mem} {e a b : Expr} {te ta tb : TE} {de da db : DE} {pos p2 : Pos}
theorem Pl.dp (o : Ok K G H M) : ∀ {n : Nat} {x : DV} {v : V}, Pl n x → VRel K G x v → Dp K H v (pd x) := by
  intro n
  have all : ∀ m, (∀ x v, Pl m x → VRel K G x v → Dp K H v (pd x)) → ∀ (xs : List DV) (vs : List V), (∀ x ∈ xs, Pl m x) → VAll K G xs vs → DpAll K H vs (pds xs) := by
    intro m hm xs
    induction xs with
    | nil => intro vs _ al; cases al; exact .nil
    | cons x r ih =>
      intro vs h al
      cases al with
      | cons r1 al => exact .cons (hm x _ (h x List.mem_cons_self) r1) (ih _ (fun y hy => h y (List.mem_cons_of_mem _ hy)) al)
  induction n with
  | zero =>
    intro x v h r
    cases h <;> cases r
    · exact .non
    · exact .int _
    · exact .str _
  | succ n ih =>
    intro x v h r
    cases h with
    | non => cases r; exact .non
    | int i => cases r; exact .int _
    | str h => cases r; exact .str _
    | tup h => cases r with | tup s al => exact .tup (sqT_mono o.same s) (all n (fun x v hx r => ih hx r) _ _ h al)
    | fl h => cases r with | fl s al => exact .lst (sqL_mono o.same s) (all n (fun x v hx r => ih hx r) _ _ h al)
theorem Pl.all (o : Ok K G H M) {n : Nat} : ∀ {xs : List DV} {vs : List V}, (∀ x ∈ xs, Pl n x) → VAll K G xs vs → DpAll K H vs (pds xs)
  | _, _, _, .nil => .nil
  | _, _, h, .cons r al => .cons ((h _ List.mem_cons_self).dp o r) (Pl.all o (fun y hy => h y (List.mem_cons_of_mem _ hy)) al)
/-- a list under way, as it stands -/
def stn (M : Mem) (x : DV) : DV := match lstOf M x with
  | some xs => .fl xs
  | none => x
theorem stn_dp (o : Ok K G H M) {n : Nat} {x : DV} {v : V} (h : Pl n (stn M x)) (r : VRel K G x v) : Dp K H v (pd (stn M x)) := by
  unfold stn at h ⊢
  cases e : lstOf M x with
  | none => rw [e] at h; exact h.dp o r
  | some xs =>
    rw [e] at h
    obtain ⟨a, vs, rfl, sq, al⟩ := lst_sq o r e
    cases h with
    | fl h => exact .lst sq (Pl.all o h al)
/-- == of plain data -/
def dEqZ : DR2 := fun x y M P => ∃ n m, n ≤ 64 ∧ m ≤ 64 ∧ Pl n (stn M x) ∧ Pl m (stn M y) ∧ (stn M x = stn M y → P (.bl true) M) ∧ (stn M x ≠ stn M y → P (.bl false) M)
def dNeZ : DR2 := fun x y M P => ∃ n m, n ≤ 64 ∧ m ≤ 64 ∧ Pl n (stn M x) ∧ Pl m (stn M y) ∧ (stn M x = stn M y → P (.bl false) M) ∧ (stn M x ≠ stn M y → P (.bl true) M)
theorem ro_eqZ : ROp K (rEqD K) dEqZ := by
  intro x y M P ⟨n, m, hn, hm, h1, h2, p1, p2⟩ G v u H o r1 r2 Q k
  refine ⟨_, _, stn_dp o h1 r1, stn_dp o h2 r2, h1.shaped hn, h2.shaped hm, ?_⟩
  by_cases e : stn M x = stn M y
  · rw [(h1.eqv h2).mpr e]
    exact k _ M _ G H (p1 e) o (Same.refl _) (.bl _)
  · rw [Bool.eq_false_iff.mpr fun q => e ((h1.eqv h2).mp q)]
    exact k _ M _ G H (p2 e) o (Same.refl _) (.bl _)
theorem ro_neZ : ROp K (rNeD K) dNeZ := by
  intro x y M P ⟨n, m, hn, hm, h1, h2, p1, p2⟩ G v u H o r1 r2 Q k
  refine ⟨_, _, stn_dp o h1 r1, stn_dp o h2 r2, h1.shaped hn, h2.shaped hm, ?_⟩
  by_cases e : stn M x = stn M y
  · rw [(h1.eqv h2).mpr e]
    exact k _ M _ G H (p1 e) o (Same.refl _) (.bl _)
  · rw [Bool.eq_false_iff.mpr fun q => e ((h1.eqv h2).mp q)]
    exact k _ M _ G H (p2 e) o (Same.refl _) (.bl _)
/-- == of anything that these rules know -/
def dEqU : DR2 := fun x y M P => dEqS x y M P ∨ dEqZ x y M P
def dNeU : DR2 := fun x y M P => dNeS x y M P ∨ dNeZ x y M P
theorem op_eqU (hu : X.A.units + 64 < cLine) : OpR X (compareOp .Eq) (fun x y H Q => rEq x y H Q ∨ rEqD X.K x y H Q) := OpR.or op_eq (op_eqD hu)
theorem op_neU (hu : X.A.units + 64 < cLine) : OpR X (compareOp .NotEq) (fun x y H Q => rNe x y H Q ∨ rNeD X.K x y H Q) := OpR.or op_ne (op_neD hu)
theorem ro_eqU : ROp K (fun x y H Q => rEq x y H Q ∨ rEqD K x y H Q) dEqU := ROp.or ro_eqS ro_eqZ
theorem ro_neU : ROp K (fun x y H Q => rNe x y H Q ∨ rNeD K x y H Q) dNeU := ROp.or ro_neS ro_neZ
/-- in -/
def dInZ : DR2 := fun x y M P => ∃ ys n m, n ≤ 64 ∧ m ≤ 63 ∧ Pl n x ∧ lstOf M y = some ys ∧ (∀ z ∈ ys, Pl m z) ∧ (x ∈ ys → P (.bl true) M) ∧ (x ∉ ys → P (.bl false) M)
def dNotInZ : DR2 := fun x y M P => ∃ ys n m, n ≤ 64 ∧ m ≤ 63 ∧ Pl n x ∧ lstOf M y = some ys ∧ (∀ z ∈ ys, Pl m z) ∧ (x ∈ ys → P (.bl false) M) ∧ (x ∉ ys → P (.bl true) M)
theorem pl_any {n m : Nat} {x : DV} (h : Pl n x) : ∀ {ys : List DV}, (∀ z ∈ ys, Pl m z) → (((pds ys).any fun z => PyData.eqv z (pd x)) = true ↔ x ∈ ys) := by
  intro ys
  induction ys with
  | nil => intro _; simp [pds]
  | cons y r ih =>
    intro g
    simp only [pds, List.any_cons, Bool.or_eq_true]
    rw [(g y List.mem_cons_self).eqv h, ih fun z hz => g z (List.mem_cons_of_mem _ hz), List.mem_cons]
    exact ⟨fun q => q.imp Eq.symm id, fun q => q.imp Eq.symm id⟩
theorem ro_inZ : ROp K (rInD K) dInZ := by
  intro x y M P ⟨ys, n, m, hn, hm, h1, hy, h2, p1, p2⟩ G v u H o r1 r2 Q k
  obtain ⟨a, vs, rfl, sq, al⟩ := lst_sq o r2 hy
  have hf : Pl (m + 1) (.fl ys) := .fl h2
  refine ⟨_, _, h1.dp o r1, .lst sq (Pl.all o h2 al), h1.shaped hn, by have := hf.shaped (by omega); simpa only [pd] using this, ?_⟩
  by_cases e : x ∈ ys
  · rw [(pl_any h1 h2).mpr e]
    exact k _ M _ G H (p1 e) o (Same.refl _) (.bl _)
  · rw [Bool.eq_false_iff.mpr fun q => e ((pl_any h1 h2).mp q)]
    exact k _ M _ G H (p2 e) o (Same.refl _) (.bl _)
theorem ro_notInZ : ROp K (rNotInD K) dNotInZ := by
  intro x y M P ⟨ys, n, m, hn, hm, h1, hy, h2, p1, p2⟩ G v u H o r1 r2 Q k
  obtain ⟨a, vs, rfl, sq, al⟩ := lst_sq o r2 hy
  have hf : Pl (m + 1) (.fl ys) := .fl h2
  refine ⟨_, _, h1.dp o r1, .lst sq (Pl.all o h2 al), h1.shaped hn, by have := hf.shaped (by omega); simpa only [pd] using this, ?_⟩
  by_cases e : x ∈ ys
  · rw [(pl_any h1 h2).mpr e]
    exact k _ M _ G H (p1 e) o (Same.refl _) (.bl _)
  · rw [Bool.eq_false_iff.mpr fun q => e ((pl_any h1 h2).mp q)]
    exact k _ M _ G H (p2 e) o (Same.refl _) (.bl _)
end
end DL
/-! DZ3 -/
set_option Elab.async false
set_option linter.all false
set_option autoImplicit false
set_option maxRecDepth 100000
set_option maxHeartbeats 4000000
namespace DL
open PySem L2 PyProof.Rows
section
variable {X : Cx} {K : PySem.W.Frag} {G G' H : Hp} {M : Mem} {e a b : Expr} {te ta tb : TE} {de da db : DE} {pos p2 : Pos}
/-! ### a list beside an empty one -/
def rEqNil (K : PySem.W.Frag) : R2 := fun x y H Q => ∃ l m xs, x = .ref l ∧ y = .ref m ∧ SqL K H l xs ∧ SqL K H m [] ∧ Q (.bl xs.isEmpty) H
theorem op_eqNil (hu : X.A.units < cLine) : OpR X (compareOp .Eq) (rEqNil X.K) := by
  intro pins s σ H x y v u Q I rx ry ⟨l, m, xs, ex, ey, h1, h2, q⟩
  subst ex; subst ey
  cases rx; cases ry
  obtain ⟨its, r1, p1, _⟩ := I.list h1
  obtain ⟨its2, r2, p2, _⟩ := I.list h2
  cases r2
  have fin : EP X pins σ Q (.bool xs.isEmpty) s := ⟨.bl xs.isEmpty, H, I, rfl, q⟩
  cases r1 with
  | nil => exact SeqAt.RcAt.lists (e := fun _ => true) p1.isList p2.isList rfl hu (fun j h _ => absurd h (Nat.not_lt_zero j)) _ _ _ _ fin
  | cons r t => exact SeqAt.RcAt.lists_lengths p1.isList p2.isList (by simp) hu _ _ _ _ fin
def dEqNil : DR2 := fun x y M P => ∃ xs, lstOf M x = some xs ∧ lstOf M y = some [] ∧ P (.bl xs.isEmpty) M
theorem ro_eqNil : ROp K (rEqNil K) dEqNil := by
  intro x y M P ⟨xs, h1, h2, p⟩ G v u H o r1 r2 Q k
  obtain ⟨l, vs, rfl, s1, a1⟩ := lst_sq o r1 h1
  obtain ⟨m, us, rfl, s2, a2⟩ := lst_sq o r2 h2
  cases a2
  exact ⟨l, m, vs, rfl, rfl, s1, s2, by rw [a1.isEmpty]; exact k _ M _ G H p o (Same.refl _) (.bl _)⟩
/-! ### in a tuple of texts, of ints -/
theorem inV_strs (s : Str) : ∀ ss : List Str, inV (.str s) (ss.map V.str) = decide (s ∈ ss)
  | [] => rfl
  | z :: r => by
    have ih := inV_strs s r
    unfold inV at ih ⊢
    rw [List.map_cons, List.any_cons, ih]
    by_cases h : z = s
    · subst h; simp [eqV]
    · have h' : ¬ s = z := fun e => h e.symm
      simp [eqV, h, h']
theorem inV_ints (s : Int) : ∀ ss : List Int, inV (.int s) (ss.map V.int) = decide (s ∈ ss)
  | [] => rfl
  | z :: r => by
    have ih := inV_ints s r
    unfold inV at ih ⊢
    rw [List.map_cons, List.any_cons, ih]
    by_cases h : z = s
    · subst h; simp [eqV]
    · have h' : ¬ s = z := fun e => h e.symm
      simp [eqV, h, h']
theorem flat_strs : ∀ ss : List Str, (ss.map V.str).all flatV = true
  | [] => rfl
  | _ :: r => by rw [List.map_cons, List.all_cons, flat_strs r]; rfl
theorem flat_ints : ∀ ss : List Int, (ss.map V.int).all flatV = true
  | [] => rfl
  | _ :: r => by rw [List.map_cons, List.all_cons, flat_ints r]; rfl
def dInF : DR2 := fun x y M P => (∃ s ys ss, x = .str s ∧ seqOf M y = some ys ∧ strsOf ys = some ss ∧ P (.bl (decide (s ∈ ss))) M) ∨ ∃ s ys ss, x = .int s ∧ seqOf M y = some ys ∧ intsOf ys = some ss ∧ P (.bl (decide (s ∈ ss))) M
def dNotInF : DR2 := fun x y M P => (∃ s ys ss, x = .str s ∧ seqOf M y = some ys ∧ strsOf ys = some ss ∧ P (.bl (!decide (s ∈ ss))) M) ∨ ∃ s ys ss, x = .int s ∧ seqOf M y = some ys ∧ intsOf ys = some ss ∧ P (.bl (!decide (s ∈ ss))) M
theorem ro_inF : ROp K (rIn K false) dInF := by
  intro x y M P p G v u H o r1 r2 Q k
  rcases p with ⟨s, ys, ss, ex, hy, hs, p⟩ | ⟨s, ys, ss, ex, hy, hs, p⟩
  · subst ex; cases r1
    obtain ⟨q, vs, rfl, sq, al⟩ := seq_sq o r2 hy
    rw [strs_rel al hs] at sq
    exact ⟨q, _, rfl, sq, rfl, flat_strs ss, by rw [inV_strs]; exact k _ M _ G H p o (Same.refl _) (.bl _)⟩
  · subst ex; cases r1
    obtain ⟨q, vs, rfl, sq, al⟩ := seq_sq o r2 hy
    rw [ints_rel al hs] at sq
    exact ⟨q, _, rfl, sq, rfl, flat_ints ss, by rw [inV_ints]; exact k _ M _ G H p o (Same.refl _) (.bl _)⟩
theorem ro_notInF : ROp K (rIn K true) dNotInF := by
  intro x y M P p G v u H o r1 r2 Q k
  rcases p with ⟨s, ys, ss, ex, hy, hs, p⟩ | ⟨s, ys, ss, ex, hy, hs, p⟩
  · subst ex; cases r1
    obtain ⟨q, vs, rfl, sq, al⟩ := seq_sq o r2 hy
    rw [strs_rel al hs] at sq
    exact ⟨q, _, rfl, sq, rfl, flat_strs ss, by rw [inV_strs]; exact k _ M _ G H p o (Same.refl _) (.bl _)⟩
  · subst ex; cases r1
    obtain ⟨q, vs, rfl, sq, al⟩ := seq_sq o r2 hy
    rw [ints_rel al hs] at sq
    exact ⟨q, _, rfl, sq, rfl, flat_ints ss, by rw [inV_ints]; exact k _ M _ G H p o (Same.refl _) (.bl _)⟩
theorem i_inF {s : Str} {y : DV} {ys : List DV} {ss : List Str} {P : PV} (h : seqOf M y = some ys) (hs : strsOf ys = some ss) (p : P (.bl (decide (s ∈ ss))) M) : dInF (.str s) y M P := .inl ⟨s, ys, ss, rfl, h, hs, p⟩
theorem i_notInF {s : Str} {y : DV} {ys : List DV} {ss : List Str} {P : PV} (h : seqOf M y = some ys) (hs : strsOf ys = some ss) (p : P (.bl (!decide (s ∈ ss))) M) : dNotInF (.str s) y M P := .inl ⟨s, ys, ss, rfl, h, hs, p⟩
/-! ### y = [..], told by value -/
theorem re_fz (h : RE K te de) : RE K te (dFz de) := fun S M P p G σ H o s Q k => h S M _ p G σ H o s Q (rt_kont k)
theorem qs_setLcZ {y : Str} {py : Pos} {elt tg iter : Expr} {ifs : List Expr} {scope : Scope} {own : List (Str × Nat)} {spos : Pos} {wi : TI} {di : DI} {g : TG} {dg : DG} {tt : TT} {dt : DT} (i : Nat) (hc : X.calm = true) (hN : X.N.Nodup) (hi : QI X tg iter wi di) (ok : BlkOk X.N X.env.scope scope own)
    (hw : WG g (own.map (·.2)))
    (hg : ∀ (s : Shared) (H : Hp) (C : Addr) (cl : List (Str × Addr)) (fp : List Addr), QG (X.blk s H scope (compEnvC scope cl C X.env) fp) tg g dg)
    (ht : ∀ (s : Shared) (H : Hp) (C : Addr) (cl : List (Str × Addr)) (fp : List Addr), QTs (X.blk s H scope (compEnvC scope cl C X.env) fp) ifs tt dt)
    (he : ∀ (s : Shared) (H : Hp) (C : Addr) (cl : List (Str × Addr)) (fp : List Addr), QE (X.blk s H scope (compEnvC scope cl C X.env) fp) elt te de)
    (hy : X.N[i]? = some y := by rfl) (hyl : X.env.scope.names.lookup y = some .local := by rfl)
    (hsw : swapsWith (.ListComp elt [⟨tg, iter, ifs, 0⟩] scope pos) (some (.Name y py)) spos.line X.env = pure true := by exact sw_true rfl rfl rfl (by decide +kernel))
    (hs : ∀ x, foldedSetIterable iter X.env x = pure x := by intro _; rfl) :
    QS X (.Assign [.Name y py] (.ListComp elt [⟨tg, iter, ifs, 0⟩] scope pos) spos) (tAsg (tLc wi g tt te (own.map (·.2))) (gName i)) (dAsg (dFz (dLc di dg dt de (own.map (·.2)))) (dgName i)) :=
  ⟨ps_setLc hc hN hy hyl hsw hi.p ok (fun a b c d e => (hg a b c d e).p) (fun a b c d e => (ht a b c d e).p) (fun a b c d e => (he a b c d e).p) hs,
    rs_asg (re_fz (re_lc hi.r (hg X.s_0 (fun _ => none) 0 [] []).r hw (ht X.s_0 (fun _ => none) 0 [] []).r (he X.s_0 (fun _ => none) 0 [] []).r)) rg_name⟩
end
end DL
/-! DZ4 -/
set_option Elab.async false
set_option linter.all false
set_option autoImplicit false
set_option maxRecDepth 100000
set_option maxHeartbeats 4000000
namespace DL
open PySem L2 PyProof.Rows
/-! ### steps -/
section
variable {M : Mem} {P : PV} {x y : DV} {xs ys : List DV}
theorem i_len {p : Prop} (h : Nat.ble xs.length 100000 = true) (k : p) : xs.length ≤ 100000 ∧ p := ⟨Nat.le_of_ble_eq_true h, k⟩
theorem i_addZ {n m : Int} (p : P (.int (n + m)) M) : dAddZ (.int n) (.int m) M P := p
theorem i_addZS {n m : Str} (l : n.length + m.length ≤ 100000) (p : P (.str (n ++ m)) M) : dAddZ (.str n) (.str m) M P := ⟨l, p⟩
theorem i_addZT (l : xs.length + ys.length ≤ 100000) (p : P (.tup (xs ++ ys)) M) : dAddZ (.tup xs) (.tup ys) M P := ⟨l, p⟩
theorem i_addZF (l : xs.length + ys.length ≤ 100000) (p : P (.fl (xs ++ ys)) M) : dAddZ (.fl xs) (.fl ys) M P := ⟨xs, ys, rfl, rfl, l, p⟩
theorem i_addZL {p : Addr} (e : M p = some (.lst xs)) (l : xs.length + ys.length ≤ 100000) (k : P (.fl (xs ++ ys)) M) : dAddZ (.loc p) (.fl ys) M P := ⟨xs, ys, lst_loc e, rfl, l, k⟩
theorem i_eqU {c : Bool} (h : scalD x y = some c) (p : P (.bl c) M) : dEqU x y M P := .inl ⟨c, h, p⟩
theorem i_neU {c : Bool} (h : scalD x y = some c) (p : P (.bl (!c)) M) : dNeU x y M P := .inl ⟨c, h, p⟩
theorem i_eqZ {n m : Nat} (h1 : Pl n (stn M x)) (h2 : Pl m (stn M y)) (hn : n ≤ 64) (hm : m ≤ 64) (p1 : stn M x = stn M y → P (.bl true) M) (p2 : stn M x ≠ stn M y → P (.bl false) M) : dEqU x y M P := .inr ⟨n, m, hn, hm, h1, h2, p1, p2⟩
theorem i_neZ {n m : Nat} (h1 : Pl n (stn M x)) (h2 : Pl m (stn M y)) (hn : n ≤ 64) (hm : m ≤ 64) (p1 : stn M x = stn M y → P (.bl false) M) (p2 : stn M x ≠ stn M y → P (.bl true) M) : dNeU x y M P := .inr ⟨n, m, hn, hm, h1, h2, p1, p2⟩
theorem i_neNilF {q : DV} (e2 : lstOf M q = some []) (h : P (.bl (!xs.isEmpty)) M) : dNeNil (.fl xs) q M P := ⟨xs, rfl, e2, h⟩
theorem i_neNilL {q : DV} {p : Addr} (e1 : M p = some (.lst xs)) (e2 : lstOf M q = some []) (h : P (.bl (!xs.isEmpty)) M) : dNeNil (.loc p) q M P := ⟨xs, lst_loc e1, e2, h⟩
theorem i_eqNilF {q : DV} (e2 : lstOf M q = some []) (h : P (.bl xs.isEmpty) M) : dEqNil (.fl xs) q M P := ⟨xs, rfl, e2, h⟩
theorem i_eqNilL {q : DV} {p : Addr} (e1 : M p = some (.lst xs)) (e2 : lstOf M q = some []) (h : P (.bl xs.isEmpty) M) : dEqNil (.loc p) q M P := ⟨xs, lst_loc e1, e2, h⟩
theorem up_comm {M : Mem} {p q : Addr} {a b : MC} (h : p ≠ q) : (M.up p a).up q b = (M.up q b).up p a := by
  funext r
  unfold Mem.up
  by_cases h1 : r = q
  · by_cases h2 : r = p
    · exact absurd (h2.symm.trans h1) h
    · rw [if_pos h1, if_neg h2, if_pos h1]
  · rw [if_neg h1]
    split <;> simp [h1]
/-- a cell below is written -/
theorem up_under {M : Mem} {p q : Addr} {a b c : MC} (h : p ≠ q) : ((M.up p a).up q b).up p c = (M.up p c).up q b := by
  rw [up_comm h, up_up, up_comm h.symm]
theorem up_fresh {M : Mem} {p q : Addr} {a : MC} (h : (M.up p a) q = none) : q ≠ p ∧ M q = none := up_none h
theorem ext_del {M : Mem} {p : Addr} {a : MC} (h : M p = none) : Ext M (M.up p a) := Ext.new h
/-- a walk over a list told by value, over a text's signs, a tuple -/
theorem stn_fl : stn M (.fl xs) = .fl xs := rfl
theorem stn_tup : stn M (.tup xs) = .tup xs := rfl
theorem stn_str {s : Str} : stn M (.str s) = .str s := rfl
theorem stn_int {s : Int} : stn M (.int s) = .int s := rfl
theorem stn_loc {p : Addr} (e : M p = some (.lst xs)) : stn M (.loc p) = .fl xs := by unfold stn; rw [lst_loc e]
/-! ### kinds as plain data -/
theorem strOk_sg {c : Nat} (h : c ≤ 122) : PyData.strOk (sg c) = true := by
  show (#[c] : Array Nat).all (· < 0x110000) = true
  simp; omega
theorem strOk_fm (f : Fm) : PyData.strOk f.s = true := by cases f <;> decide +kernel
theorem kd_pl {k : Kd} : ∀ {n : Nat}, k.good → k.depth ≤ n → Pl n k.dv := by
  induction k with
  | pl c =>
    intro n g d
    cases n with
    | zero => exact absurd d (by have := (Kd.pl c).depth_pos; omega)
    | succ n =>
      refine .tup fun x hx => ?_
      simp only [List.mem_cons, List.not_mem_nil, or_false] at hx
      rcases hx with rfl | rfl
      · exact .str (by decide +kernel)
      · exact .str (strOk_sg g.2)
  | tw f a b ha hb =>
    intro n g d
    have d' : 1 + max a.depth b.depth ≤ n := d
    cases n with
    | zero => omega
    | succ n =>
      refine .tup fun x hx => ?_
      simp only [List.mem_cons, List.not_mem_nil, or_false] at hx
      rcases hx with rfl | rfl | rfl
      · exact .str (strOk_fm f)
      · exact ha g.1 (by omega)
      · exact hb g.2 (by omega)
end
/-! ### lists under way: the last cell laid, the one below -/
section
variable {M : Mem} {P : PV} {x y : DV} {xs ys : List DV} {p q : Addr} {c : MC}
theorem up_get2 {a b : MC} (h : p ≠ q) : ((M.up p a).up q b) p = some a := by rw [up_ne h, up_same]
theorem ext1 {a : MC} (hp : M p = none) : Ext M (M.up p a) := Ext.new hp
theorem ext2 {a b : MC} (hp : M p = none) (hq : M q = none) : Ext M ((M.up p a).up q b) := ((Ext.refl M).mut hp).mut hq
theorem i_lsT {k : Prop} (h : k) : (∃ ys, lstOf (M.up p (.lst xs)) (.loc p) = some ys) ∧ k := ⟨⟨_, lst_loc up_same⟩, h⟩
theorem i_lsU {k : Prop} (n : p ≠ q) (h : k) : (∃ ys, lstOf ((M.up p (.lst xs)).up q c) (.loc p) = some ys) ∧ k := ⟨⟨_, lst_loc (up_get2 n)⟩, h⟩
def popAt (x : DV) (M : Mem) (P : PV) : Prop := ∃ p xs y, x = .loc p ∧ M p = some (.lst xs) ∧ xs[xs.length - 1]? = some y ∧ P y (M.up p (.lst xs.dropLast))
def appAt (x y : DV) (M : Mem) (P : PV) : Prop := ∃ p xs, x = .loc p ∧ M p = some (.lst xs) ∧ xs.length < 100000 ∧ P .non (M.up p (.lst (xs ++ [y])))
theorem i_popZ {d : DE} {S : Sl} (h : d S M fun x M1 => popAt x M1 P) : dPop d S M P := h
theorem i_appZ {d da : DE} {S : Sl} (h : d S M fun x M1 => (∃ ys, lstOf M1 x = some ys) ∧ da S M1 fun y M2 => appAt x y M2 P) : dAppend d da S M P := h
theorem i_appT (l : xs.length < 100000) (h : P .non (M.up p (.lst (xs ++ [y])))) : appAt (.loc p) y (M.up p (.lst xs)) P :=
  ⟨p, xs, rfl, up_same, l, by rw [up_up]; exact h⟩
theorem i_appM {α : Type} {f : α → DV} {l : List α} {a : α} (z : l.length < 100000) (h : P .non (M.up p (.lst ((l ++ [a]).map f)))) : appAt (.loc p) (f a) (M.up p (.lst (l.map f))) P :=
  i_appT (by rw [List.length_map]; exact z) (by rw [List.map_append] at h; exact h)
theorem i_appU (n : p ≠ q) (l : xs.length < 100000) (h : P .non ((M.up p (.lst (xs ++ [y]))).up q c)) : appAt (.loc p) y ((M.up p (.lst xs)).up q c) P :=
  ⟨p, xs, rfl, up_get2 n, l, by rw [up_under n]; exact h⟩
theorem i_appUM {α : Type} {f : α → DV} {l : List α} {a : α} (n : p ≠ q) (z : l.length < 100000) (h : P .non ((M.up p (.lst ((l ++ [a]).map f))).up q c)) : appAt (.loc p) (f a) ((M.up p (.lst (l.map f))).up q c) P :=
  i_appU n (by rw [List.length_map]; exact z) (by rw [List.map_append] at h; exact h)
theorem i_popT (h : P y (M.up p (.lst xs))) : popAt (.loc p) (M.up p (.lst (xs ++ [y]))) P :=
  ⟨p, _, y, rfl, up_same, by simp, by rw [up_up, List.dropLast_concat]; exact h⟩
theorem i_popM {α : Type} {f : α → DV} {l : List α} {a : α} (h : P (f a) (M.up p (.lst (l.map f)))) : popAt (.loc p) (M.up p (.lst ((l ++ [a]).map f))) P := by
  rw [List.map_append]; exact i_popT h
theorem i_popU (n : p ≠ q) (h : P y ((M.up p (.lst xs)).up q c)) : popAt (.loc p) ((M.up p (.lst (xs ++ [y]))).up q c) P :=
  ⟨p, _, y, rfl, up_get2 n, by simp, by rw [up_under n, List.dropLast_concat]; exact h⟩
theorem i_truT {B : Bool → Prop} (h : B (!xs.isEmpty)) : dTru (.loc p) (M.up p (.lst xs)) B := i_trul up_same h
theorem i_truU {B : Bool → Prop} (n : p ≠ q) (h : B (!xs.isEmpty)) : dTru (.loc p) ((M.up p (.lst xs)).up q c) B := i_trul (up_get2 n) h
theorem i_lenT' (h : P (.int (xs.length : Nat)) (M.up p (.lst xs))) : dLen [.loc p] (M.up p (.lst xs)) P := i_lenL up_same h
theorem i_lenU (n : p ≠ q) (h : P (.int (xs.length : Nat)) ((M.up p (.lst xs)).up q c)) : dLen [.loc p] ((M.up p (.lst xs)).up q c) P := i_lenL (up_get2 n) h
theorem i_ixLT {n : Int} {z : DV} (h : atI xs n = some z) (k : P z (M.up p (.lst xs))) : dIx (.loc p) (.int n) (M.up p (.lst xs)) P := i_ixL up_same h k
theorem i_ixLU {n : Int} {z : DV} (e : p ≠ q) (h : atI xs n = some z) (k : P z ((M.up p (.lst xs)).up q c)) : dIx (.loc p) (.int n) ((M.up p (.lst xs)).up q c) P := i_ixL (up_get2 e) h k
theorem rt_top (hp : M p = none) (h : P (.fl xs) M) : Rt P (.loc p) (M.up p (.lst xs)) := rt_lst (Ext.new hp) up_same hp h
theorem rt_und (hp : M p = none) (hq : M q = none) (n : p ≠ q) (h : P (.fl xs) M) : Rt P (.loc p) ((M.up p (.lst xs)).up q c) := rt_lst (ext2 hp hq) (up_get2 n) hp h
end
/-! ### a def with a source: a list of five at p -/
/-- what the source holds: c at most draws were made without great numbers -/
def SrC (s : MC) (c : Nat) : Prop := ∃ (gs : List Int) (i cur num cnt : Int), s = .lst [.fl (gs.map DV.int), .int i, .int cur, .int num, .int cnt] ∧ (∀ x ∈ gs, 0 ≤ x) ∧
  0 ≤ i ∧ i ≤ (gs.length : Int) ∧ gs.length ≤ 63 ∧ 0 ≤ cur ∧ 0 ≤ num ∧ num < 1000000000000000000 ∧ 0 ≤ cnt ∧ cnt ≤ (c : Int)
theorem SrC.le {s : MC} {c d : Nat} (h : SrC s c) (l : c ≤ d) : SrC s d := by
  obtain ⟨gs, i, cur, num, cnt, h1, h2, h3, h4, h5, h6, h7, h8, h9, h10⟩ := h
  exact ⟨gs, i, cur, num, cnt, h1, h2, h3, h4, h5, h6, h7, h8, h9, by omega⟩
end DL
/-! DZ5 -/
set_option Elab.async false
set_option linter.all false
set_option autoImplicit false
set_option maxRecDepth 100000
set_option maxHeartbeats 4000000
namespace DL
open PySem L2 PyProof.Rows
/-! ### loops by what is done -/
section
variable {α : Type} {D : DEnds} {dg : DG} {b : DS} {S : Sl} {M : Mem} {C : Mem → Prop}
/-- the loop's question -/
def forAt (xs : List DV) (C : Mem → Prop) (dg : DG) (b : DS) (D : DEnds) (S : Sl) (M : Mem) : Prop := ∃ I : List DV → Sl → Mem → Prop, I xs S M ∧ (∀ S2 M2, I [] S2 M2 → C M2 ∧ D.nx S2 M2) ∧
  ∀ x r S2 M2, I (x :: r) S2 M2 → C M2 ∧ dg x S2 M2 fun S3 M3 => b { nx := I r, ct := I r, bk := D.nx, rt := D.rt } S3 M3
theorem i_forZ {di : DI} (h : di S M fun xs C M1 => forAt xs C dg b D S M1) : dFor di dg b D S M := h
theorem forL (l : List α) (f : α → DV) (Inv : List α → Sl → Mem → Prop) (hC : ∀ dn S2 M2, Inv dn S2 M2 → C M2) (h0 : Inv [] S M) (hd : ∀ S2 M2, Inv l S2 M2 → D.nx S2 M2)
    (hs : ∀ dn x rm, dn ++ x :: rm = l → ∀ S2 M2, Inv dn S2 M2 → ∀ R : Sl → Mem → Prop, (∀ S3 M3, Inv (dn ++ [x]) S3 M3 → R S3 M3) → dg (f x) S2 M2 fun S3 M3 => b { nx := R, ct := R, bk := D.nx, rt := D.rt } S3 M3) :
    forAt (l.map f) C dg b D S M := by
  refine ⟨fun r S2 M2 => ∃ dn rm : List α, r = rm.map f ∧ dn ++ rm = l ∧ Inv dn S2 M2, ⟨[], l, rfl, rfl, h0⟩, ?_, ?_⟩
  · rintro S2 M2 ⟨dn, rm, er, ed, h⟩
    have : rm = [] := by simpa using er.symm
    subst this
    rw [List.append_nil] at ed
    subst ed
    exact ⟨hC _ _ _ h, hd _ _ h⟩
  · rintro x r S2 M2 ⟨dn, rm, er, ed, h⟩
    refine ⟨hC _ _ _ h, ?_⟩
    cases rm with
    | nil => simp at er
    | cons z rm =>
      simp only [List.map_cons, List.cons.injEq] at er
      obtain ⟨rfl, rfl⟩ := er
      exact hs dn z rm ed S2 M2 h _ fun S3 M3 q => ⟨dn ++ [z], rm, rfl, by rw [← ed]; simp, q⟩
/-- over a range from 0 on -/
theorem forR (n : Nat) (Inv : Nat → Sl → Mem → Prop) (hC : ∀ M2, C M2) (h0 : Inv 0 S M) (hd : ∀ S2 M2, Inv n S2 M2 → D.nx S2 M2)
    (hs : ∀ i, i < n → ∀ S2 M2, Inv i S2 M2 → ∀ R : Sl → Mem → Prop, (∀ S3 M3, Inv (i + 1) S3 M3 → R S3 M3) → dg (.int (i : Nat)) S2 M2 fun S3 M3 => b { nx := R, ct := R, bk := D.nx, rt := D.rt } S3 M3) :
    forAt (rngD 0 n) C dg b D S M := by
  have e : rngD 0 n = (List.range n).map (fun i : Nat => DV.int (i : Int)) := by
    unfold rngD
    refine List.map_congr_left fun i _ => ?_
    simp
  rw [e]
  refine forL (List.range n) _ (fun dn S2 M2 => Inv dn.length S2 M2) (fun _ _ M2 _ => hC M2) h0 (fun S2 M2 q => hd S2 M2 (by simpa using q)) fun dn x rm ed S2 M2 q R hR => ?_
  have hl := congrArg List.length ed
  rw [List.length_append, List.length_cons, List.length_range] at hl
  have hx : x = dn.length := by
    have h1 : (List.range n)[dn.length]? = some x := by rw [← ed]; simp
    rw [List.getElem?_range (by omega)] at h1
    exact (Option.some.inj h1).symm
  subst hx
  exact hs _ (by omega) S2 M2 q R fun S3 M3 z => hR S3 M3 (by simpa using z)
/-- a while by a measure -/
def whlAt (c : DT) (b : DS) (D : DEnds) (S : Sl) (M : Mem) : Prop := ∃ W : Nat → Sl → Mem → Prop, (∃ m, W m S M) ∧ ∀ m S M, W m S M →
  c S M fun k M1 => if k = true then b { D with nx := fun S' M' => ∃ m', m' < m ∧ W m' S' M', ct := fun S' M' => ∃ m', m' < m ∧ W m' S' M', bk := D.nx } S M1 else D.nx S M1
theorem i_whlZ {c : DT} (h : whlAt c b D S M) : dWhile c b D S M := h
theorem whlM {c : DT} (W : Nat → Sl → Mem → Prop) (m : Nat) (h0 : W m S M)
    (hs : ∀ m S M, W m S M → ∀ R : Sl → Mem → Prop, (∀ m' S' M', m' < m → W m' S' M' → R S' M') → c S M fun k M1 => if k = true then b { D with nx := R, ct := R, bk := D.nx } S M1 else D.nx S M1) : whlAt c b D S M :=
  ⟨W, ⟨m, h0⟩, fun m S M h => hs m S M h _ fun m' S' M' l q => ⟨m', l, q⟩⟩
/-- comprehension's question -/
def lcAt (xs : List DV) (C : Mem → Prop) (dg : DG) (dt : DT) (d : DE) (vs : List Nat) (S : Sl) (M : Mem) (P : PV) : Prop := ∀ D, M D = none → ∃ I : List DV → List DV → Mem → Prop, I xs [] (M.up D (.lst [])) ∧
  (∀ acc M2, I [] acc M2 → C M2 ∧ P (.loc D) M2) ∧
  ∀ x r acc M2, I (x :: r) acc M2 → C M2 ∧ dg x (wipeD S vs) M2 fun S3 M3 => dt S3 M3 fun b M4 => if b = true then d S3 M4 fun y M5 => M5 D = some (.lst acc) ∧ acc.length < 100000 ∧ I r (acc ++ [y]) (M5.up D (.lst (acc ++ [y]))) else I r acc M4
theorem i_lcZ {di : DI} {dt : DT} {d : DE} {vs : List Nat} {P : PV} (h : di S M fun xs C M1 => lcAt xs C dg dt d vs S M1 P) : dLc di dg dt d vs S M P := h
/-- nothing is changed: an item, what is kept, what is made of it -/
theorem lcV {dt : DT} {d : DE} {vs : List Nat} {P : PV} (l : List α) (fx fy : α → DV) (keep : α → Bool) (hl : l.length < 100000) (hC : ∀ M2, Ext M M2 → C M2)
    (fin : P (.fl ((l.filter keep).map fy)) M)
    (step : ∀ x, x ∈ l → ∀ M4 (Q : PV) (R : Mem → Prop), Ext M M4 → (keep x = true → Q (fy x) M4) → (keep x = false → R M4) → dg (fx x) (wipeD S vs) M4 fun S3 M5 => dt S3 M5 fun b M6 => if b = true then d S3 M6 Q else R M6) :
    lcAt (l.map fx) C dg dt d vs S M (Rt P) := lcZ l fx fy keep hl hC step fin
theorem lcVA {dt : DT} {d : DE} {vs : List Nat} {P : PV} (l : List α) (fx fy : α → DV) (hl : l.length < 100000) (hC : ∀ M2, Ext M M2 → C M2)
    (fin : P (.fl (l.map fy)) M)
    (step : ∀ x, x ∈ l → ∀ M4 (Q : PV) (R : Mem → Prop), Ext M M4 → Q (fy x) M4 → dg (fx x) (wipeD S vs) M4 fun S3 M5 => dt S3 M5 fun b M6 => if b = true then d S3 M6 Q else R M6) :
    lcAt (l.map fx) C dg dt d vs S M (Rt P) := lcZA l fx fy hl hC step fin
/-- the cell at p is changed by each item (a source); W: what holds of what is done, of what was made, of the cell -/
theorem lcS {dt : DT} {d : DE} {vs : List Nat} {P : PV} {p : Addr} {s0 : MC} (l : List α) (fx : α → DV) (W : List α → List DV → MC → Prop) (hl : l.length < 100000) (hC : ∀ s D acc, C ((M.up p s).up D acc))
    (h0 : W [] [] s0) (fin : ∀ acc s, W l acc s → P (.fl acc) (M.up p s))
    (step : ∀ dn x rm, dn ++ x :: rm = l → ∀ acc s D, W dn acc s → p ≠ D → M D = none → ∀ (Q : PV) (R : Mem → Prop), (∀ y s', W (dn ++ [x]) (acc ++ [y]) s' → Q y ((M.up p s').up D (.lst acc))) → (∀ s', W (dn ++ [x]) acc s' → R ((M.up p s').up D (.lst acc))) →
      dg (fx x) (wipeD S vs) ((M.up p s).up D (.lst acc)) fun S3 M5 => dt S3 M5 fun b M6 => if b = true then d S3 M6 Q else R M6) :
    lcAt (l.map fx) C dg dt d vs S (M.up p s0) (Rt P) := by
  intro D hD
  obtain ⟨hDp, hDM⟩ := up_none hD
  have hpD := Ne.symm hDp
  refine ⟨fun r acc M2 => ∃ (dn rm : List α) (s : MC), r = rm.map fx ∧ dn ++ rm = l ∧ acc.length ≤ dn.length ∧ M2 = (M.up p s).up D (.lst acc) ∧ W dn acc s, ⟨[], l, s0, rfl, rfl, Nat.le_refl _, rfl, h0⟩, ?_, ?_⟩
  · rintro acc M2 ⟨dn, rm, s, er, ed, hle, rfl, h⟩
    have : rm = [] := by simpa using er.symm
    subst this
    rw [List.append_nil] at ed
    subst ed
    refine ⟨hC _ _ _, rt_lst (M0 := M.up p s) ?_ up_same ?_ (fin acc s h)⟩
    · exact Ext.new (by rw [up_ne hDp]; exact hDM)
    · rw [up_ne hDp]; exact hDM
  · rintro x r acc M2 ⟨dn, rm, s, er, ed, hle, rfl, h⟩
    refine ⟨hC _ _ _, ?_⟩
    cases rm with
    | nil => simp at er
    | cons z rm =>
      simp only [List.map_cons, List.cons.injEq] at er
      obtain ⟨rfl, rfl⟩ := er
      have hlen := congrArg List.length ed
      simp only [List.length_append, List.length_cons] at hlen
      refine step dn z rm ed acc s D h hpD hDM _ _ (fun y s' q => ⟨up_same, by omega, dn ++ [z], rm, s', rfl, by rw [← ed]; simp, by simp; omega, by rw [up_up], q⟩) fun s' q => ⟨dn ++ [z], rm, s', rfl, by rw [← ed]; simp, by simp; omega, rfl, q⟩
end
end DL
/-! DZ6 -/
set_option Elab.async false
set_option linter.all false
set_option autoImplicit false
set_option maxRecDepth 100000
set_option maxHeartbeats 4000000
namespace DL
open PySem L2 PyProof.Rows
/-! ### extend by a list told by value -/
theorem ext_any (l : Addr) (items : Array Value) (n : Nat) (b : Addr) (items2 : Array Value) (n2 : Nat) (s2 : Array (Option Value)) (hc0 : ¬(!items.isEmpty && Builtin.List.listTooLong (items.size + items2.size)) = true) (hc1 : items.size ≤ sizeLine) (hs2 : items.size + items2.size ≤ sizeLine + 1) :
    Meets (Builtin.«list.extend» ⟨[.ref l, .ref b], []⟩) (fun _ R s => s.heap.get? l = some { cls := .type "list", dict := none, data := .seq items n, slots := #[] } ∧ s.heap.get? b = some { cls := .type "list", dict := none, data := .seq items2 n2, slots := s2 } ∧
      R (.ok (.ret Value.none)) { s with heap := s.heap.update l (Obj.mapSeq fun x => x ++ items2), toks := s.toks }) :=
  Meets.of_wp fun prg wd ar rr sh hyp => by
    obtain ⟨hp, g, d, tk, os⟩ := sh
    obtain ⟨one, two, hyp⟩ := hyp
    have f1 := AutoSeq1.idx_int
    have f2 := AutoSeq1.sub_tuple_tuple
    have f3 := AutoSeq1.sub_list_list
    have f4 := AutoSeq1.sub_tuple_list
    have f5 := AutoSeq1.sub_list_tuple
    have hz2 : (items ++ items2).size ≤ sizeLine + 1 := by rw [Array.size_append]; exact hs2
    wp_walk using (wpAny_updateSeq one rfl (hz := hc1) (_hz' := hz2)), AutoSeq1.wpAny_loadPart' one, AutoSeq1.wpAny_loadPart' two
    exact ⟨_, rfl, hyp⟩
def rExtF (K : PySem.W.Frag) : V → List V → Hp → VK → Prop := fun x vs H Q => ∃ l b xs zs, x = .ref l ∧ vs = [.ref b] ∧ H l = some (.lst xs) ∧ SqL K H b zs ∧ xs.length + zs.length ≤ sizeLine ∧ Q .non (upd H l (.lst (xs ++ zs)))
section
variable {X : Cx} {K : PySem.W.Frag} {G G' H : Hp} {M : Mem} {o a : Expr} {to ta : TE} {do_ da : DE} {pos apos : Pos}
theorem mt_extF : MtM X "list.extend" (rExtF X.K) := by
  intro pins s σ H x vs v us Q I rx rv h
  obtain ⟨l, b, xs, zs, rfl, rfl, hH, hB, hz, q⟩ := h
  cases rx
  obtain ⟨u, rfl, ru⟩ := rv.one
  cases ru
  obtain ⟨z, its, n, r, hl, e⟩ := I.lstM hH
  obtain ⟨its2, r2, pb, hl2⟩ := I.list hB
  obtain ⟨o2, n2, e2, c2, d2, q2⟩ := pb
  obtain ⟨x2, y2, z2, w2⟩ := o2
  dsimp only at c2 d2 q2
  subst c2; subst d2; subst q2
  have k1 := r.length
  have k2 := r2.length
  have hsz : its.toArray.size + its2.toArray.size ≤ sizeLine := by rw [List.size_toArray, List.size_toArray]; omega
  have hlong : ¬ (!its.toArray.isEmpty && Builtin.List.listTooLong (its.toArray.size + its2.toArray.size)) = true := by
    rw [notLongL hsz, Bool.and_false]
    exact Bool.false_ne_true
  refine call_meets F.slot_list_extend ⟨_, e, rfl⟩ F.entry_list_extend (F.args_list_extend_2 _ _) (ext_any l its.toArray n b its2.toArray n2 w2 hlong (by rw [List.size_toArray]; omega) (by omega)) ⟨e, e2, ?_⟩
  refine ⟨.non, _, I.lset (its' := its ++ its2) hH e (by simp) (r.append r2) ?_, rfl, q⟩
  rw [List.length_append]
  omega
def extAt (x y : DV) (M : Mem) (P : PV) : Prop := ∃ p xs ys, x = .loc p ∧ M p = some (.lst xs) ∧ lstOf M y = some ys ∧ xs.length + ys.length ≤ 100000 ∧ P .non (M.up p (.lst (xs ++ ys)))
def dExtZ (do_ da : DE) : DE := fun S M P => do_ S M fun x M1 => (∃ ys, lstOf M1 x = some ys) ∧ da S M1 fun y M2 => extAt x y M2 P
theorem re_extZ (ho : RE K to do_) (ha : RE K ta da) : RE K (tBM K "list" (rExtF K) to (tCons ta tNil)) (dExtZ do_ da) := fun S M P p G σ H ok s Q k =>
  ho S M _ p G σ H ok s _ fun x M1 v G1 H1 ⟨⟨ys, hy⟩, p1⟩ o1 e1 r1 => by
    obtain ⟨b, vs, rfl, sq, _⟩ := lst_sq o1 r1 hy
    refine ⟨.inl ⟨rfl, vs, sq⟩, ?_⟩
    refine ha S M1 _ p1 G1 σ H1 o1 (s.mono e1) _ fun y M2 z G2 H2 ⟨p, xs, zs, ex, h, h2, hl, p2⟩ o2 e2 r2 => ?_
    subst ex
    have eb : b = p := by cases r1; rfl
    subst eb
    obtain ⟨vs, i1, a1, g⟩ := cell_lst o2 h
    obtain ⟨q, ws, rfl, i2, a2⟩ := lst_sq o2 r2 h2
    exact ⟨b, q, vs, ws, rfl, rfl, i1, i2, by rw [← a1.length, ← a2.length]; exact le_line hl, k _ _ _ G2 _ p2 (o2.putL g (a1.append a2)) (e1.trans e2) .non⟩
theorem qe_extZ (ho : QE X o to do_) (ha : QE X a ta da) (hbase : attributeBase o "extend" X.env (eval o X.env) = eval o X.env := by rfl) (hline : (apos.endLine == pos.line) = true := by rfl)
    (hfew : ((backTo pos (starEach [a] X.env)).all (fun x => !x.1) && (backToKw pos (keywordEach [] X.env)).all (fun x => x.1.isSome)
      && decide (([a] : List Expr).length + ([] : List Keyword).length + (if ([] : List Keyword).isEmpty then 0 else 1) < 30)) = true := by rfl)
    (hs : starEach [a] X.env = (false, eval a X.env) :: starEach [] X.env := by rfl) (hplain : (backTo pos (starEach [] X.env)).any (·.1) = false := by rfl) :
    QE X (.Call (.Attribute o "extend" apos) [a] [] pos) (tBM X.K "list" (rExtF X.K) to (tCons ta tNil)) (dExtZ do_ da) :=
  ⟨pe_bm PySem.F.plainAttrs_list PySem.F.slot_list_extend PySem.F.type_list_extend mt_extF ho.p (pa_cons ha.p pa_nil hs) hbase hfew hline hs hplain, re_extZ ho.r ha.r⟩
theorem i_extZ {S : Sl} {P : PV} (h : do_ S M fun x M1 => (∃ ys, lstOf M1 x = some ys) ∧ da S M1 fun y M2 => extAt x y M2 P) : dExtZ do_ da S M P := h
theorem i_extT {P : PV} {p : Addr} {xs ys : List DV} {y : DV} (e : lstOf (M.up p (.lst xs)) y = some ys) (l : xs.length + ys.length ≤ 100000) (h : P .non (M.up p (.lst (xs ++ ys)))) : extAt (.loc p) y (M.up p (.lst xs)) P :=
  ⟨p, xs, ys, rfl, up_same, e, l, by rw [up_up]; exact h⟩
theorem i_extU {P : PV} {p q : Addr} {xs ys : List DV} {y : DV} {c : MC} (n : p ≠ q) (e : lstOf ((M.up p (.lst xs)).up q c) y = some ys) (l : xs.length + ys.length ≤ 100000) (h : P .non ((M.up p (.lst (xs ++ ys))).up q c)) : extAt (.loc p) y ((M.up p (.lst xs)).up q c) P :=
  ⟨p, xs, ys, rfl, up_get2 n, e, l, by rw [up_under n]; exact h⟩
end
theorem i_nt {A B : Prop} (h : B) : if (!true) = true then A else B := by rw [if_neg (by decide)]; exact h
theorem i_nf {A B : Prop} (h : A) : if (!false) = true then A else B := by rw [if_pos (by decide)]; exact h
/-! ### text.index(text), found -/
section
variable {X : Cx} {K : PySem.W.Frag} {o a : Expr} {to ta : TE} {do_ da : DE} {pos apos : Pos}
def dSIndex (do_ da : DE) : DE := fun S M P => do_ S M fun x M1 => ∃ z, x = .str z ∧ da S M1 fun y M2 => ∃ u i rest, y = .str u ∧ Builtin.Str.occurrences z u 0 z.length 1 = i :: rest ∧ P (.int (i : Nat)) M2
theorem re_sindex (ho : RE K to do_) (ha : RE K ta da) : RE K (tM1 (fun x xs H Q => ∃ a b i rest, x = .str a ∧ xs = [.str b] ∧ Builtin.Str.occurrences a b 0 a.length 1 = i :: rest ∧ Q (.int (i : Nat)) H) to ta) (dSIndex do_ da) := fun S M P p G σ H ok s Q k =>
  ho S M _ p G σ H ok s _ fun x M1 v G1 H1 ⟨z, ex, p1⟩ o1 e1 r1 => by
    subst ex; cases r1
    refine ⟨⟨z, rfl⟩, ha S M1 _ p1 G1 σ H1 o1 (s.mono e1) _ fun y M2 u G2 H2 ⟨w, i, rest, ey, hi, p2⟩ o2 e2 r2 => ?_⟩
    subst ey; cases r2
    exact ⟨z, w, i, rest, rfl, rfl, hi, k _ M2 _ G2 H2 p2 o2 (e1.trans e2) (.int _)⟩
theorem qe_sindex (ho : QE X o to do_) (ha : QE X a ta da) (hs : starEach [a] X.env = [(false, eval a X.env)] := by rfl) (hbase : attributeBase o "index" X.env (eval o X.env) = eval o X.env := by rfl) (hline : (apos.endLine == pos.line) = true := by rfl) :
    QE X (.Call (.Attribute o "index" apos) [a] [] pos) (tM1 (fun x xs H Q => ∃ a b i rest, x = .str a ∧ xs = [.str b] ∧ Builtin.Str.occurrences a b 0 a.length 1 = i :: rest ∧ Q (.int (i : Nat)) H) to ta) (dSIndex do_ da) := ⟨pe_m1 PySem.F.slot_str_index PySem.F.type_str_index mt_sindex ho.p ha.p hs hbase hline, re_sindex ho.r ha.r⟩
theorem i_sindex {S : Sl} {M : Mem} {P : PV} (h : do_ S M fun x M1 => ∃ z, x = .str z ∧ da S M1 fun y M2 => ∃ u i rest, y = .str u ∧ Builtin.Str.occurrences z u 0 z.length 1 = i :: rest ∧ P (.int (i : Nat)) M2) : dSIndex do_ da S M P := h
end
end DL
/-! DZ7 -/
set_option Elab.async false
set_option linter.all false
set_option autoImplicit false
set_option maxRecDepth 100000
set_option maxHeartbeats 4000000
namespace DL
open PySem L2 RT PyProof.Rows
/-! ### a comprehension of two clauses -/
/-- the second clause's loop, for one turn of the first: K what comes behind it -/
def inAt (D : Addr) (Kc : List DV → Mem → Prop) (ys : List DV) (C : Mem → Prop) (dg : DG) (dt : DT) (de : DE) (vs : List Nat) (S : Sl) (acc : List DV) (M : Mem) : Prop := ∃ I : List DV → List DV → Mem → Prop, I ys acc M ∧ (∀ acc M2, I [] acc M2 → C M2 ∧ Kc acc M2) ∧
  ∀ y r acc M2, I (y :: r) acc M2 → C M2 ∧ dg y (wipeD S vs) M2 fun S3 M3 => dt S3 M3 fun b M4 => if b = true then de S3 M4 fun z M5 => M5 D = some (.lst acc) ∧ acc.length < 100000 ∧ I r (acc ++ [z]) (M5.up D (.lst (acc ++ [z]))) else I r acc M4
def lc2At (xs : List DV) (C : Mem → Prop) (dg : DG) (dt : DT) (di1 : DI) (dg1 : DG) (dt1 : DT) (de : DE) (vs vs1 : List Nat) (S : Sl) (M : Mem) (P : PV) : Prop := ∀ D, M D = none → ∃ I : List DV → List DV → Mem → Prop, I xs [] (M.up D (.lst [])) ∧ (∀ acc M2, I [] acc M2 → C M2 ∧ P (.loc D) M2) ∧
  ∀ x r acc M2, I (x :: r) acc M2 → C M2 ∧ dg x (wipeD S vs) M2 fun S3 M3 => dt S3 M3 fun b M4 => if b = true then di1 S3 M4 fun ys C1 M5 => inAt D (I r) ys C1 dg1 dt1 de vs1 S3 acc M5 else I r acc M4
def dLc2 (di : DI) (dg : DG) (dt : DT) (di1 : DI) (dg1 : DG) (dt1 : DT) (de : DE) (vs vs1 : List Nat) : DE := fun S M P => di S M fun xs C M1 => lc2At xs C dg dt di1 dg1 dt1 de vs vs1 S M1 P
theorem i_lc2Z {di : DI} {dg : DG} {dt : DT} {di1 : DI} {dg1 : DG} {dt1 : DT} {de : DE} {vs vs1 : List Nat} {S : Sl} {M : Mem} {P : PV} (h : di S M fun xs C M1 => lc2At xs C dg dt di1 dg1 dt1 de vs vs1 S M1 P) : dLc2 di dg dt di1 dg1 dt1 de vs vs1 S M P := h
section
variable {K : PySem.W.Frag} {G H : Hp} {X : Cx}
/-- a loop over a walk, by what holds at each turn -/
theorem turn_it {J : It} {n : Nat} {Gd : Hp → Prop} {Y : Nat → Hp → V → Hp → Prop} (w : Walk J n Gd Y) {H1 : Hp} {Qd : Hp → Prop} {body : V → Hp → (Hp → Prop) → Prop} (Pv : Nat → Hp → Prop) (h0 : Pv 0 H1) (hG : ∀ i H, i ≤ n → Pv i H → Gd H)
    (hs : ∀ i x H H', i < n → Pv i H → Y i H x H' → body x H' (Pv (i + 1))) (hd : ∀ H, Pv n H → Qd H) :
    ∃ W : Nat → Nat → Hp → Prop, (∃ m, W 0 m H1) ∧ ∀ i m H, W i m H → (J.stop i H ∧ Qd H) ∨ (J.go i H ∧ ∃ Nx : Hp → Prop, (∀ H', Nx H' → ∃ m', m' < m ∧ W (i + 1) m' H') ∧ ∀ x H', J.yld i H x H' → body x H' Nx) := by
  refine ⟨fun i m H => m + i = n ∧ Pv i H, ⟨n, rfl, h0⟩, ?_⟩
  rintro i m H ⟨e, q⟩
  have good := hG i H (by omega) q
  rcases Nat.eq_zero_or_pos m with e0 | e0
  · have ei : i = n := by omega
    subst ei
    exact .inl ⟨w.stops H good, hd H q⟩
  · have lt : i < n := by omega
    exact .inr ⟨w.goes i H lt good, Pv (i + 1), fun H' q' => ⟨m - 1, by omega, by omega, q'⟩, fun x H' y => hs i x H H' lt q (w.yields i H x H' lt good y)⟩
theorem re_lc2 {wi wi1 : TI} {di di1 : DI} {g g1 : TG} {dg dg1 : DG} {tt tt1 : TT} {dt dt1 : DT} {te : TE} {de : DE} {vs vs1 : List Nat} (hi : RI K wi di) (hg : RG K g dg) (hw : WG g vs) (ht : RT K tt dt) (hi1 : RI K wi1 di1) (hg1 : RG K g1 dg1) (hw1 : WG g1 vs1) (ht1 : RT K tt1 dt1) (he : RE K te de) :
    RE K (tLc2 wi g tt wi1 g1 tt1 te vs vs1) (dLc2 di dg dt di1 dg1 dt1 de vs vs1) := by
  intro S M P p G σ H o s Q k
  refine hi S M _ p G σ H o s _ fun xs C M1 G1 H1 J p1 o1 e1 ⟨Gd, Y, w, hG, hY⟩ => fun D hD => ?_
  obtain ⟨m0, g0⟩ := o1.free hD
  obtain ⟨I, q0, i0, i1⟩ := p1 D m0
  have inC : ∀ l acc M2, I l acc M2 → C M2 := fun l acc M2 h => by
    cases l with
    | nil => exact (i0 acc M2 h).1
    | cons x r => exact (i1 x r acc M2 h).1
  have sw := (s.mono e1).wipe vs
  refine turn_it w (body := fun x H' Nx => g x (L2.wipe σ vs) H' fun σ2 H2 => L2.wipe σ2 vs = L2.wipe σ vs ∧ tt σ2 H2 fun b H3 =>
    if b = true then wi1 σ2 H3 fun J1 H4 => ∃ W1 : Nat → Nat → Hp → Prop, (∃ m, W1 0 m H4) ∧ ∀ j k H, W1 j k H →
      (J1.stop j H ∧ Nx H) ∨ (J1.go j H ∧ ∃ Nx1 : Hp → Prop, (∀ H', Nx1 H' → ∃ k', k' < k ∧ W1 (j + 1) k' H') ∧ ∀ x H', J1.yld j H x H' → g1 x (L2.wipe σ2 vs1) H' fun σ3 H5 => L2.wipe σ3 vs1 = L2.wipe σ2 vs1 ∧ tt1 σ3 H5 fun b H6 =>
        if b = true then te σ3 H6 fun y H7 => ∃ acc, H7 D = some (.lst acc) ∧ acc.length < sizeLine ∧ Nx1 (upd H7 D (.lst (acc ++ [y]))) else Nx1 H6)
    else Nx H3)
    (fun i H => ∃ G2 M2 acc, Same G1 G2 ∧ Ok K G2 H M2 ∧ I (xs.drop i) acc M2) ⟨G1, _, [], Same.refl _, o1.putL g0 .nil, q0⟩
    (fun i H hi ⟨G2, M2, acc, e2, o2, p2⟩ => hG G2 H M2 e2 o2 (inC _ _ _ p2)) ?_ ?_
  rotate_left
  · rintro H ⟨G2, M2, acc, e2, o2, p2⟩
    rw [List.drop_length] at p2
    exact k (.loc D) M2 (.ref D) G2 H (i0 _ _ p2).2 o2 (e1.trans e2) (.loc D)
  rintro i v H H3 hlt ⟨G2, M2, acc, e2, o2, p2⟩ y
  obtain ⟨G3, x, o3, e3, hx, r3⟩ := hY i v G2 H M2 H3 hlt e2 o2 (inC _ _ _ p2) y
  have hd : xs.drop i = x :: xs.drop (i + 1) := by
    rw [List.drop_eq_getElem_cons hlt]
    rw [List.getElem?_eq_getElem hlt] at hx
    rw [Option.some.inj hx]
  rw [hd] at p2
  refine hw v σ H3 _ (hg x _ M2 _ (i1 _ _ _ _ p2).2 G3 v _ H3 o3 (sw.mono (e2.trans e3)) r3 _ fun S4 M4 σ4 G4 H4 p4 o4 e4 s4 => ?_)
  refine ht S4 M4 _ p4 G4 σ4 H4 o4 s4 _ fun b M5 G5 H5 p5 o5 e5 => ?_
  have E5 := ((e2.trans e3).trans e4).trans e5
  cases b with
  | false => exact ⟨G5, M5, acc, E5, o5, p5⟩
  | true =>
    refine hi1 S4 M5 _ p5 G5 σ4 H5 o5 (s4.mono e5) _ fun ys C1 M6 G6 H6 J1 p6 o6 e6 ⟨Gd1, Y1, w1, hG1, hY1⟩ => ?_
    obtain ⟨I1, z0, j0, j1⟩ := p6
    have inC1 : ∀ l acc M2, I1 l acc M2 → C1 M2 := fun l acc M2 h => by
      cases l with
      | nil => exact (j0 acc M2 h).1
      | cons x r => exact (j1 x r acc M2 h).1
    have s6 := s4.mono (e5.trans e6)
    have sw1 := s6.wipe vs1
    refine turn_it w1 (body := fun x H' Nx1 => g1 x (L2.wipe σ4 vs1) H' fun σ3 H5 => L2.wipe σ3 vs1 = L2.wipe σ4 vs1 ∧ tt1 σ3 H5 fun b H6 =>
        if b = true then te σ3 H6 fun y H7 => ∃ acc, H7 D = some (.lst acc) ∧ acc.length < sizeLine ∧ Nx1 (upd H7 D (.lst (acc ++ [y]))) else Nx1 H6)
      (fun j H => ∃ G2 M2 acc, Same G6 G2 ∧ Ok K G2 H M2 ∧ I1 (ys.drop j) acc M2) ⟨G6, M6, acc, Same.refl _, o6, z0⟩
      (fun j H hj ⟨G2, M2, acc, e2, o2, p2⟩ => hG1 G2 H M2 e2 o2 (inC1 _ _ _ p2)) ?_ ?_
    rotate_left
    · rintro H ⟨G7, M7, acc7, e7, o7, p7⟩
      rw [List.drop_length] at p7
      exact ⟨G7, M7, acc7, (E5.trans e6).trans e7, o7, (j0 _ _ p7).2⟩
    rintro j u H H8 hlt1 ⟨G7, M7, acc7, e7, o7, p7⟩ y8
    obtain ⟨G8, x8, o8, e8, hx8, r8⟩ := hY1 j u G7 H M7 H8 hlt1 e7 o7 (inC1 _ _ _ p7) y8
    have hd1 : ys.drop j = x8 :: ys.drop (j + 1) := by
      rw [List.drop_eq_getElem_cons hlt1]
      rw [List.getElem?_eq_getElem hlt1] at hx8
      rw [Option.some.inj hx8]
    rw [hd1] at p7
    refine hw1 u σ4 H8 _ (hg1 x8 _ M7 _ (j1 _ _ _ _ p7).2 G8 u _ H8 o8 (sw1.mono (e7.trans e8)) r8 _ fun S9 M9 σ9 G9 H9 p9 o9 e9 s9 => ?_)
    refine ht1 S9 M9 _ p9 G9 σ9 H9 o9 s9 _ fun b M10 G10 H10 p10 o10 e10 => ?_
    have E10 := ((e7.trans e8).trans e9).trans e10
    cases b with
    | false => exact ⟨G10, M10, acc7, E10, o10, p10⟩
    | true =>
      refine he S9 M10 _ p10 G10 σ9 H10 o10 (s9.mono e10) _ fun z M11 t G11 H11 ⟨hm, hl, p11⟩ o11 e11 r11 => ?_
      obtain ⟨vs', ec, ac, gc⟩ := cell_lst o11 hm
      exact ⟨vs', ec, by rw [← ac.length]; exact lt_line hl, G11, _, _, E10.trans e11, o11.putL gc (ac.append (.one r11)), p11⟩
theorem qe_lc2 {elt tg iter tg1 iter1 : Expr} {ifs ifs1 : List Expr} {scope : Scope} {own : List (Str × Nat)} {pos : Pos} {wi wi1 : TI} {di di1 : DI} {g g1 : TG} {dg dg1 : DG} {tt tt1 : TT} {dt dt1 : DT} {te : TE} {de : DE} (vs1 : List Nat) (hc : X.calm = true) (hN : X.N.Nodup) (hi : QI X tg iter wi di) (ok : BlkOk X.N X.env.scope scope own) (hv : ∀ i ∈ vs1, i ∈ own.map (·.2))
    (hw : WG g (own.map (·.2))) (hw1 : WG g1 vs1)
    (hg : ∀ (s : Shared) (H : Hp) (C : Addr) (cl : List (Str × Addr)) (fp : List Addr), QG (X.blk s H scope (compEnvC scope cl C X.env) fp) tg g dg)
    (ht : ∀ (s : Shared) (H : Hp) (C : Addr) (cl : List (Str × Addr)) (fp : List Addr), QTs (X.blk s H scope (compEnvC scope cl C X.env) fp) ifs tt dt)
    (hi1 : ∀ (s : Shared) (H : Hp) (C : Addr) (cl : List (Str × Addr)) (fp : List Addr), QI (X.blk s H scope (compEnvC scope cl C X.env) fp) tg1 iter1 wi1 di1)
    (hg1 : ∀ (s : Shared) (H : Hp) (C : Addr) (cl : List (Str × Addr)) (fp : List Addr), QG (X.blk s H scope (compEnvC scope cl C X.env) fp) tg1 g1 dg1)
    (ht1 : ∀ (s : Shared) (H : Hp) (C : Addr) (cl : List (Str × Addr)) (fp : List Addr), QTs (X.blk s H scope (compEnvC scope cl C X.env) fp) ifs1 tt1 dt1)
    (he : ∀ (s : Shared) (H : Hp) (C : Addr) (cl : List (Str × Addr)) (fp : List Addr), QE (X.blk s H scope (compEnvC scope cl C X.env) fp) elt te de)
    (hs : ∀ x, foldedSetIterable iter X.env x = pure x := by intro _; rfl) (hs1 : ∀ env x, foldedSetIterable iter1 env x = pure x := by intro _ _; rfl) :
    QE X (.ListComp elt [⟨tg, iter, ifs, 0⟩, ⟨tg1, iter1, ifs1, 0⟩] scope pos) (tLc2 wi g tt wi1 g1 tt1 te (own.map (·.2)) vs1) (dLc2 di dg dt di1 dg1 dt1 de (own.map (·.2)) vs1) :=
  ⟨pe_lc2 hc hN hi.p ok hv (fun a b c d e => (hg a b c d e).p) (fun a b c d e => (ht a b c d e).p) (fun a b c d e => (hi1 a b c d e).p) (fun a b c d e => (hg1 a b c d e).p) (fun a b c d e => (ht1 a b c d e).p) (fun a b c d e => (he a b c d e).p) hs hs1,
    re_lc2 hi.r (hg X.s_0 (fun _ => none) 0 [] []).r hw (ht X.s_0 (fun _ => none) 0 [] []).r (hi1 X.s_0 (fun _ => none) 0 [] []).r (hg1 X.s_0 (fun _ => none) 0 [] []).r hw1 (ht1 X.s_0 (fun _ => none) 0 [] []).r (he X.s_0 (fun _ => none) 0 [] []).r⟩
theorem qs_setLc2Z {y : Str} {py : Pos} {elt tg iter tg1 iter1 : Expr} {ifs ifs1 : List Expr} {scope : Scope} {own : List (Str × Nat)} {pos spos : Pos} {wi wi1 : TI} {di di1 : DI} {g g1 : TG} {dg dg1 : DG} {tt tt1 : TT} {dt dt1 : DT} {te : TE} {de : DE} (i : Nat) (vs1 : List Nat) (hc : X.calm = true) (hN : X.N.Nodup) (hi : QI X tg iter wi di) (ok : BlkOk X.N X.env.scope scope own) (hv : ∀ i ∈ vs1, i ∈ own.map (·.2))
    (hw : WG g (own.map (·.2))) (hw1 : WG g1 vs1)
    (hg : ∀ (s : Shared) (H : Hp) (C : Addr) (cl : List (Str × Addr)) (fp : List Addr), QG (X.blk s H scope (compEnvC scope cl C X.env) fp) tg g dg)
    (ht : ∀ (s : Shared) (H : Hp) (C : Addr) (cl : List (Str × Addr)) (fp : List Addr), QTs (X.blk s H scope (compEnvC scope cl C X.env) fp) ifs tt dt)
    (hi1 : ∀ (s : Shared) (H : Hp) (C : Addr) (cl : List (Str × Addr)) (fp : List Addr), QI (X.blk s H scope (compEnvC scope cl C X.env) fp) tg1 iter1 wi1 di1)
    (hg1 : ∀ (s : Shared) (H : Hp) (C : Addr) (cl : List (Str × Addr)) (fp : List Addr), QG (X.blk s H scope (compEnvC scope cl C X.env) fp) tg1 g1 dg1)
    (ht1 : ∀ (s : Shared) (H : Hp) (C : Addr) (cl : List (Str × Addr)) (fp : List Addr), QTs (X.blk s H scope (compEnvC scope cl C X.env) fp) ifs1 tt1 dt1)
    (he : ∀ (s : Shared) (H : Hp) (C : Addr) (cl : List (Str × Addr)) (fp : List Addr), QE (X.blk s H scope (compEnvC scope cl C X.env) fp) elt te de)
    (hy : X.N[i]? = some y := by rfl) (hyl : X.env.scope.names.lookup y = some .local := by rfl)
    (hsw : swapsWith (.ListComp elt [⟨tg, iter, ifs, 0⟩, ⟨tg1, iter1, ifs1, 0⟩] scope pos) (some (.Name y py)) spos.line X.env = pure true := by exact sw_true rfl rfl rfl (by decide +kernel))
    (hs : ∀ x, foldedSetIterable iter X.env x = pure x := by intro _; rfl) (hs1 : ∀ env x, foldedSetIterable iter1 env x = pure x := by intro _ _; rfl) :
    QS X (.Assign [.Name y py] (.ListComp elt [⟨tg, iter, ifs, 0⟩, ⟨tg1, iter1, ifs1, 0⟩] scope pos) spos) (tAsg (tLc2 wi g tt wi1 g1 tt1 te (own.map (·.2)) vs1) (gName i)) (dAsg (dFz (dLc2 di dg dt di1 dg1 dt1 de (own.map (·.2)) vs1)) (dgName i)) :=
  ⟨ps_setLc2 hc hN hy hyl hsw hi.p ok hv (fun a b c d e => (hg a b c d e).p) (fun a b c d e => (ht a b c d e).p) (fun a b c d e => (hi1 a b c d e).p) (fun a b c d e => (hg1 a b c d e).p) (fun a b c d e => (ht1 a b c d e).p) (fun a b c d e => (he a b c d e).p) hs hs1,
    rs_asg (re_fz (re_lc2 hi.r (hg X.s_0 (fun _ => none) 0 [] []).r hw (ht X.s_0 (fun _ => none) 0 [] []).r (hi1 X.s_0 (fun _ => none) 0 [] []).r (hg1 X.s_0 (fun _ => none) 0 [] []).r hw1 (ht1 X.s_0 (fun _ => none) 0 [] []).r (he X.s_0 (fun _ => none) 0 [] []).r)) rg_name⟩
end
/-! by what is done: nothing is changed -/
section
variable {α β : Type} {M : Mem} {S : Sl}
theorem inV {D : Addr} {Kc : List DV → Mem → Prop} {C : Mem → Prop} {dg : DG} {dt : DT} {de : DE} {vs : List Nat} {acc0 : List DV} (l : List β) (fy out : β → DV) (keep : β → Bool) (hD : M D = none) (hl : acc0.length + l.length < 100000) (hC : ∀ M2, Ext M M2 → C M2)
    (fin : Kc (acc0 ++ (l.filter keep).map out) (M.up D (.lst (acc0 ++ (l.filter keep).map out))))
    (step : ∀ y, y ∈ l → ∀ M4 (Q : PV) (R : Mem → Prop), Ext M M4 → (keep y = true → Q (out y) M4) → (keep y = false → R M4) → dg (fy y) (wipeD S vs) M4 fun S3 M5 => dt S3 M5 fun b M6 => if b = true then de S3 M6 Q else R M6) :
    inAt D Kc (l.map fy) C dg dt de vs S acc0 (M.up D (.lst acc0)) := by
  refine ⟨fun r acc M2 => ∃ dn rm : List β, r = rm.map fy ∧ dn ++ rm = l ∧ acc = acc0 ++ (dn.filter keep).map out ∧ M2 = M.up D (.lst acc), ⟨[], l, rfl, rfl, by simp, rfl⟩, ?_, ?_⟩
  · rintro acc M2 ⟨dn, rm, er, ed, rfl, rfl⟩
    have : rm = [] := by simpa using er.symm
    subst this
    rw [List.append_nil] at ed
    subst ed
    exact ⟨hC _ (Ext.new hD), fin⟩
  · rintro x r acc M2 ⟨dn, rm, er, ed, rfl, rfl⟩
    refine ⟨hC _ (Ext.new hD), ?_⟩
    cases rm with
    | nil => simp at er
    | cons z rm =>
      simp only [List.map_cons, List.cons.injEq] at er
      obtain ⟨rfl, rfl⟩ := er
      have hlen := congrArg List.length ed
      simp only [List.length_append, List.length_cons] at hlen
      have hfl := List.length_filter_le keep dn
      refine step z (by rw [← ed]; simp) _ _ _ (Ext.new hD) (fun hk => ?_) (fun hk => ?_)
      · refine ⟨up_same, by rw [List.length_append, List.length_map]; omega, dn ++ [z], rm, rfl, by rw [← ed]; simp, ?_, by rw [up_up]⟩
        rw [List.filter_append]; simp [hk]
      · exact ⟨dn ++ [z], rm, rfl, by rw [← ed]; simp, by rw [List.filter_append]; simp [hk], rfl⟩
theorem inVA {D : Addr} {Kc : List DV → Mem → Prop} {C : Mem → Prop} {dg : DG} {dt : DT} {de : DE} {vs : List Nat} {acc0 : List DV} (l : List β) (fy out : β → DV) (hD : M D = none) (hl : acc0.length + l.length < 100000) (hC : ∀ M2, Ext M M2 → C M2)
    (fin : Kc (acc0 ++ l.map out) (M.up D (.lst (acc0 ++ l.map out))))
    (step : ∀ y, y ∈ l → ∀ M4 (Q : PV) (R : Mem → Prop), Ext M M4 → Q (out y) M4 → dg (fy y) (wipeD S vs) M4 fun S3 M5 => dt S3 M5 fun b M6 => if b = true then de S3 M6 Q else R M6) :
    inAt D Kc (l.map fy) C dg dt de vs S acc0 (M.up D (.lst acc0)) :=
  inV l fy out (fun _ => true) hD hl hC (by rw [List.filter_eq_self.mpr (fun _ _ => rfl)]; exact fin) fun y hy M4 Q R e h1 _ => step y hy M4 Q R e (h1 rfl)
theorem lc2V {C : Mem → Prop} {dg dg1 : DG} {dt dt1 : DT} {di1 : DI} {de : DE} {vs vs1 : List Nat} {P : PV} (l : List α) (fx : α → DV) (res : α → List DV) (hl : (l.flatMap res).length < 100000) (hC : ∀ M2, Ext M M2 → C M2)
    (fin : P (.fl (l.flatMap res)) M)
    (step : ∀ x, x ∈ l → ∀ D acc, M D = none → acc.length + (res x).length < 100000 → ∀ Kc : List DV → Mem → Prop, Kc (acc ++ res x) (M.up D (.lst (acc ++ res x))) →
      dg (fx x) (wipeD S vs) (M.up D (.lst acc)) fun S3 M3 => dt S3 M3 fun b M4 => if b = true then di1 S3 M4 fun ys C1 M5 => inAt D Kc ys C1 dg1 dt1 de vs1 S3 acc M5 else Kc acc M4) :
    lc2At (l.map fx) C dg dt di1 dg1 dt1 de vs vs1 S M (Rt P) := by
  intro D hD
  refine ⟨fun r acc M2 => ∃ dn rm : List α, r = rm.map fx ∧ dn ++ rm = l ∧ acc = dn.flatMap res ∧ M2 = M.up D (.lst acc), ⟨[], l, rfl, rfl, rfl, rfl⟩, ?_, ?_⟩
  · rintro acc M2 ⟨dn, rm, er, ed, rfl, rfl⟩
    have : rm = [] := by simpa using er.symm
    subst this
    rw [List.append_nil] at ed
    subst ed
    exact ⟨hC _ (Ext.new hD), rt_top hD fin⟩
  · rintro x r acc M2 ⟨dn, rm, er, ed, rfl, rfl⟩
    refine ⟨hC _ (Ext.new hD), ?_⟩
    cases rm with
    | nil => simp at er
    | cons z rm =>
      simp only [List.map_cons, List.cons.injEq] at er
      obtain ⟨rfl, rfl⟩ := er
      have hlen : (dn.flatMap res).length + ((res z).length + (rm.flatMap res).length) = (l.flatMap res).length := by rw [← ed]; simp
      exact step z (by rw [← ed]; simp) D _ hD (by omega) _ ⟨dn ++ [z], rm, rfl, by rw [← ed]; simp, by simp, rfl⟩
theorem lc2N {C : Mem → Prop} {dg dg1 : DG} {dt dt1 : DT} {di1 : DI} {de : DE} {vs vs1 : List Nat} {P : PV} (l : List α) (fx : α → DV) (res : α → List DV) (hl : (l.flatMap res).length < 100000) (hC : ∀ M2, Ext M M2 → C M2)
    (fin : ∀ D, M D = none → P (.loc D) (M.up D (.lst (l.flatMap res))))
    (step : ∀ x, x ∈ l → ∀ D acc, M D = none → acc.length + (res x).length < 100000 → ∀ Kc : List DV → Mem → Prop, Kc (acc ++ res x) (M.up D (.lst (acc ++ res x))) →
      dg (fx x) (wipeD S vs) (M.up D (.lst acc)) fun S3 M3 => dt S3 M3 fun b M4 => if b = true then di1 S3 M4 fun ys C1 M5 => inAt D Kc ys C1 dg1 dt1 de vs1 S3 acc M5 else Kc acc M4) :
    lc2At (l.map fx) C dg dt di1 dg1 dt1 de vs vs1 S M P := by
  intro D hD
  refine ⟨fun r acc M2 => ∃ dn rm : List α, r = rm.map fx ∧ dn ++ rm = l ∧ acc = dn.flatMap res ∧ M2 = M.up D (.lst acc), ⟨[], l, rfl, rfl, rfl, rfl⟩, ?_, ?_⟩
  · rintro acc M2 ⟨dn, rm, er, ed, rfl, rfl⟩
    have : rm = [] := by simpa using er.symm
    subst this
    rw [List.append_nil] at ed
    subst ed
    exact ⟨hC _ (Ext.new hD), fin D hD⟩
  · rintro x r acc M2 ⟨dn, rm, er, ed, rfl, rfl⟩
    refine ⟨hC _ (Ext.new hD), ?_⟩
    cases rm with
    | nil => simp at er
    | cons z rm =>
      simp only [List.map_cons, List.cons.injEq] at er
      obtain ⟨rfl, rfl⟩ := er
      have hlen : (dn.flatMap res).length + ((res z).length + (rm.flatMap res).length) = (l.flatMap res).length := by rw [← ed]; simp
      exact step z (by rw [← ed]; simp) D _ hD (by omega) _ ⟨dn ++ [z], rm, rfl, by rw [← ed]; simp, by simp, rfl⟩
end
/-! ### enumerate, reversed -/
section
variable {K : PySem.W.Frag} {G H : Hp} {M : Mem} {X : Cx} {e : Expr} {te : TE} {de : DE} {t : TA} {d : DA} {p pos : Pos}
def enumD (i : Nat) : List DV → List DV
  | [] => []
  | x :: r => .tup [.int (i : Nat), x] :: enumD (i + 1) r
theorem enum_len : ∀ (i : Nat) (xs : List DV), (enumD i xs).length = xs.length
  | _, [] => rfl
  | i, x :: r => by simp [enumD, enum_len (i + 1) r]
theorem enum_get : ∀ (i : Nat) (xs : List DV) (j : Nat) (x : DV), xs[j]? = some x → (enumD i xs)[j]? = some (.tup [.int ((i + j : Nat) : Int), x])
  | _, [], j, _, h => by simp at h
  | i, y :: r, 0, x, h => by simp at h; subst h; rfl
  | i, y :: r, j + 1, x, h => by
    have := enum_get (i + 1) r j x (by simpa using h)
    simp only [enumD, List.getElem?_cons_succ]
    rw [this]
    have e : i + 1 + j = i + (j + 1) := by omega
    rw [e]
def dEnum (d : DA) : DI := fun S M P => d S M fun zs M1 => ∃ x xs, zs = [x] ∧ lstOf M1 x = some xs ∧ P (enumD 0 xs) (isStand x xs) M1
theorem stand_list {x : DV} {v : V} {xs : List DV} {G1 : Hp} {M1 : Mem} {H1 : Hp} (o1 : Ok K G1 H1 M1) (r : VRel K G1 x v) (h : lstOf M1 x = some xs) : ∃ a, v = .ref a ∧ (∃ us, SqL K H1 a us ∧ us.length = xs.length) ∧ ∀ G2 H2 M2, Same G1 G2 → Ok K G2 H2 M2 → isStand x xs M2 → ∃ us, SqL K H2 a us ∧ VAll K G2 xs us := by
  cases r with
  | fl sq al =>
    cases h
    exact ⟨_, rfl, ⟨_, sqL_mono o1.same sq, al.length.symm⟩, fun G2 H2 M2 e o _ => ⟨_, sqL_mono (e.trans o.same) sq, al.mono e⟩⟩
  | loc q =>
    obtain ⟨a, vs, ev, sq, al⟩ := lst_sq o1 (.loc q) h
    cases ev
    refine ⟨_, rfl, ⟨_, sq, al.length.symm⟩, fun G2 H2 M2 e o c => ?_⟩
    obtain ⟨us, h1, h2, _⟩ := cell_lst o c
    exact ⟨us, .inl (.inl h1), h2⟩
  | _ => cases h
theorem walkD_enum {a : Addr} {xs : List DV} {C : Mem → Prop} {G1 : Hp} (h1 : ∀ G2 H2 M2, Same G1 G2 → Ok K G2 H2 M2 → C M2 → ∃ us, SqL K H2 a us ∧ VAll K G2 xs us) : WalkD K G1 (Ite K a) (enumD 0 xs) C := by
  refine ⟨fun H2 => ∃ us, SqL K H2 a us ∧ us.length = xs.length, fun i H2 v H3 => ∃ T x, v = .ref T ∧ H2 T = none ∧ H3 = upd H2 T (.tup [.int (i : Nat), x]) ∧ ∀ us, SqL K H2 a us → us[i]? = some x, ⟨fun i H2 hi ⟨us, q1, l1⟩ => ?_, fun H2 ⟨us, q1, l1⟩ => ⟨us, q1, by rw [enum_len]; omega⟩, fun i H2 v H3 _ _ y => y⟩, fun G2 H2 M2 e o c => ?_, fun i v G2 H2 M2 H3 hi e o c y => ?_⟩
  · rw [enum_len] at hi
    exact ⟨us, us[i]'(by omega), q1, by simp⟩
  · obtain ⟨us, q1, a1⟩ := h1 G2 H2 M2 e o c
    exact ⟨us, q1, a1.length.symm⟩
  · obtain ⟨us, q1, a1⟩ := h1 G2 H2 M2 e o c
    obtain ⟨T, x, hv, hT, hH, y1⟩ := y
    subst hv; subst hH
    obtain ⟨o3, e3⟩ := o.lay (.tup [.int (i : Nat), x]) hT
    obtain ⟨z, hz, rz⟩ := a1.getV (y1 us q1)
    have := enum_get 0 xs i z hz
    rw [Nat.zero_add] at this
    exact ⟨_, .tup [.int (i : Nat), z], o3, e3, this, .tup (.inl (.inl upd_same)) (.cons (.int _) (.cons (rz.mono e3) .nil))⟩
theorem qi_enum {elts : List Expr} {kk : Nat} {tpos : Pos} (hg : Gl X "enumerate") (hm : X.mg "enumerate" = none) (ha : QA X [e] t d) (hs : starEach [e] X.env = [(false, eval e X.env)] := by rfl) :
    QI X (.Tuple elts kk tpos) (.Call (.Name "enumerate" p) [e] [] pos) (iEnum X.K t) (dEnum d) :=
  ⟨pi_enum hg hm ha.p hs, fun S M P q G σ H o s R k => ha.r S M _ q G σ H o s _ fun zs M1 vs G1 H1 ⟨x, xs, ez, hx, p1⟩ o1 e1 r1 => by
    subst ez
    obtain ⟨v, rfl, r⟩ := vall1 r1
    obtain ⟨a, rfl, ⟨us, q1, _⟩, w1⟩ := stand_list o1 r hx
    exact ⟨a, us, rfl, q1, k _ _ M1 G1 H1 _ p1 o1 e1 (walkD_enum w1)⟩⟩
def dRev (d : DE) : DI := fun S M P => d S M fun x M1 => ∃ xs, seqOf M1 x = some xs ∧ P xs.reverse (isStand x xs) M1
theorem walkD_rev {a : Addr} {xs : List DV} {C : Mem → Prop} {G1 : Hp} (h1 : ∀ G2 H2 M2, Same G1 G2 → Ok K G2 H2 M2 → C M2 → ∃ us, SqL K H2 a us ∧ VAll K G2 xs us) : WalkD K G1 (Itv K a xs.length) xs.reverse C := by
  refine ⟨fun H2 => ∃ us, SqL K H2 a us ∧ us.length = xs.length, fun i H2 v H3 => H3 = H2 ∧ ∀ us, SqL K H2 a us → us[xs.length - 1 - i]? = some v, ⟨fun i H2 hi ⟨us, q1, l1⟩ => ?_, fun H2 ⟨us, q1, l1⟩ => ?_, fun i H2 v H3 _ _ y => y⟩, fun G2 H2 M2 e o c => ?_, fun i v G2 H2 M2 H3 hi e o c y => ?_⟩
  · rw [List.length_reverse] at hi
    exact ⟨hi, us, us[xs.length - 1 - i]'(by omega), q1, by simp⟩
  · rw [List.length_reverse]; exact Nat.le_refl _
  · obtain ⟨us, q1, a1⟩ := h1 G2 H2 M2 e o c
    exact ⟨us, q1, a1.length.symm⟩
  · obtain ⟨us, q1, a1⟩ := h1 G2 H2 M2 e o c
    obtain ⟨rfl, y1⟩ := y
    rw [List.length_reverse] at hi
    obtain ⟨z, hz, rz⟩ := a1.getV (y1 us q1)
    exact ⟨G2, z, o, Same.refl _, by rw [List.getElem?_reverse hi]; exact hz, rz⟩
theorem walkD_revT {a : Addr} {xs : List DV} {us : List V} {C : Mem → Prop} {G1 : Hp} (sq : SqT K G1 a us) (al : VAll K G1 xs us) : WalkD K G1 (ItvT K a xs.length) xs.reverse C := by
  refine ⟨fun H2 => SqT K H2 a us, fun i H2 v H3 => H3 = H2 ∧ ∀ us, SqT K H2 a us → us[xs.length - 1 - i]? = some v, ⟨fun i H2 hi q1 => ?_, fun H2 q1 => ?_, fun i H2 v H3 _ _ y => y⟩, fun G2 H2 M2 e o c => sqT_mono (e.trans o.same) sq, fun i v G2 H2 M2 H3 hi e o c y => ?_⟩
  · rw [List.length_reverse] at hi
    have := al.length
    exact ⟨hi, us, us[xs.length - 1 - i]'(by omega), q1, by simp⟩
  · rw [List.length_reverse]; exact Nat.le_refl _
  · obtain ⟨rfl, y1⟩ := y
    rw [List.length_reverse] at hi
    obtain ⟨z, hz, rz⟩ := (al.mono e).getV (y1 us (sqT_mono (e.trans o.same) sq))
    exact ⟨G2, z, o, Same.refl _, by rw [List.getElem?_reverse hi]; exact hz, rz⟩
theorem qi_rev {tg : Expr} (hg : Gl X "reversed") (hm : X.mg "reversed" = none) (he : QE X e te de) (hs : starEach [e] X.env = (false, eval e X.env) :: starEach [] X.env := by rfl) : QI X tg (.Call (.Name "reversed" p) [e] [] pos) (iRevA X.K te) (dRev de) :=
  ⟨pi_revA hg hm he.p hs, fun S M P q G σ H o s R k => he.r S M _ q G σ H o s _ fun x M1 v G1 H1 ⟨xs, hx, p1⟩ o1 e1 r1 => by
    cases hb : isTupD x with
    | true =>
      cases r1 with
      | tup sq al =>
        cases hx
        refine ⟨_, _, rfl, .inr ⟨sqT_mono o1.same sq, ?_⟩⟩
        rw [← al.length]
        exact k _ _ M1 G1 H1 _ p1 o1 e1 (walkD_revT sq al)
      | _ => cases hb
    | false =>
      have hx' : lstOf M1 x = some xs := by cases x <;> first | exact hx | cases hb
      obtain ⟨a, rfl, ⟨us, q1, l1⟩, w1⟩ := stand_list o1 r1 hx'
      refine ⟨a, us, rfl, .inl ⟨q1, ?_⟩⟩
      rw [l1]
      exact k _ _ M1 G1 H1 _ p1 o1 e1 (walkD_rev w1)⟩
theorem i_enum {S : Sl} {P : List DV → (Mem → Prop) → Mem → Prop} (h : d S M fun zs M1 => ∃ x xs, zs = [x] ∧ lstOf M1 x = some xs ∧ P (enumD 0 xs) (isStand x xs) M1) : dEnum d S M P := h
theorem i_rev {S : Sl} {P : List DV → (Mem → Prop) → Mem → Prop} (h : de S M fun x M1 => ∃ xs, seqOf M1 x = some xs ∧ P xs.reverse (isStand x xs) M1) : dRev de S M P := h
/-! ### is of bools, of None -/
def rIsV : R2 := fun x y H Q => (∃ b, y = .bl b) ∧ ((∃ i, x = .int i) ∨ (∃ s, x = .str s) ∨ x = .non) ∧ Q (.bl false) H
theorem op_isV : OpR X (compareOp .Is) rIsV := by
  intro pins s σ H x y v u Q I rx ry h
  obtain ⟨⟨b, rfl⟩, hx, q⟩ := h
  cases (show u = Value.bool b from ry)
  rcases hx with ⟨i, rfl⟩ | ⟨z, rfl⟩ | rfl
  · obtain ⟨t, rfl⟩ := rx
    exact wpAny_is_other rfl (fun z => by cases z) ⟨.bl false, H, I, rfl, q⟩
  · obtain ⟨t, rfl⟩ := rx
    exact wpAny_is_other rfl (fun z => by cases z) ⟨.bl false, H, I, rfl, q⟩
  · cases (show v = Value.none from rx)
    exact wpAny_is_other rfl (fun z => by cases z) ⟨.bl false, H, I, rfl, q⟩
def rIsZ : R2 := fun x y H Q => (rIsN' x y H Q ∨ rIsB x y H Q) ∨ rIsV x y H Q
theorem op_isZ : OpR X (compareOp .Is) rIsZ := OpR.or (OpR.or op_isN op_isBl) op_isV
def dIsZ : DR2 := fun x y M P => match y with
  | .non => P (.bl (isN x)) M
  | .bl b => match x with
    | .bl a => P (.bl (decide (a = b))) M
    | .int _ => P (.bl false) M
    | .str _ => P (.bl false) M
    | .non => P (.bl false) M
    | _ => False
  | _ => False
theorem ro_isZ : ROp K rIsZ dIsZ := by
  intro x y M P p G v u H o r1 r2 Q k
  cases r2 with
  | non => exact .inl (.inl (ro_isN x .non M P ⟨rfl, p⟩ G v .non H o r1 .non Q k))
  | bl b =>
    cases r1 with
    | bl a => exact .inl (.inr ⟨a, b, rfl, rfl, k _ M _ G H p o (Same.refl _) (.bl _)⟩)
    | int i => exact .inr ⟨⟨b, rfl⟩, .inl ⟨i, rfl⟩, k _ M _ G H p o (Same.refl _) (.bl _)⟩
    | str i => exact .inr ⟨⟨b, rfl⟩, .inr (.inl ⟨i, rfl⟩), k _ M _ G H p o (Same.refl _) (.bl _)⟩
    | non => exact .inr ⟨⟨b, rfl⟩, .inr (.inr rfl), k _ M _ G H p o (Same.refl _) (.bl _)⟩
    | _ => exact p.elim
  | _ => exact p.elim
theorem i_isZB {a b : Bool} {P : PV} (h : P (.bl (decide (a = b))) M) : dIsZ (.bl a) (.bl b) M P := h
theorem i_isZI {i : Int} {b : Bool} {P : PV} (h : P (.bl false) M) : dIsZ (.int i) (.bl b) M P := h
theorem i_isZS {i : Str} {b : Bool} {P : PV} (h : P (.bl false) M) : dIsZ (.str i) (.bl b) M P := h
theorem i_isZN {b : Bool} {P : PV} (h : P (.bl false) M) : dIsZ .non (.bl b) M P := h
/-! ### defs with defaults -/
def dCallD (fs : FS) (Pe : PX) (dd : List DV) (d : DA) : DE := fun S M P => d S M fun xs M1 => fs (xs ++ dd) M1 P Pe
theorem re_callD {fs : FS} {Pe : PX} {E : XK} {dd : List DV} {ds : List V} (rd : ∀ G, VAll K G dd ds) (kx : ∀ G, KontX K G Pe E) (h : RA K t d) : RE K (tCall (lift K fs) ds E t) (dCallD fs Pe dd d) := fun S M P p G σ H o s Q k =>
  h S M _ p G σ H o s _ fun xs M1 vs G1 H1 p1 o1 e1 r1 => ⟨G1, M1, xs ++ dd, P, Pe, o1, r1.append (rd G1), p1, k.mono e1, kx G1⟩
theorem qe_callD {es : List Expr} {x : Str} {k : Nat} {f : Addr} {fd : FuncData} {ps : List Str} {fs : FS} {dd : List DV} {dsV : List V} (F : FnOk X.prog X.w X.K X.mg X.base CX0 k f fd ps (lift X.K fs)) (hr : Room k X.A) (hg : Gl X x) (hm : X.mg x = some (.ref f)) (hk : PySem.W.keepIn X.K (.ref f) = true) (hb : ∃ ds, Vals dsV ds ∧ Binds X.K fd ps ds)
    (rd : ∀ G, VAll X.K G dd dsV) (ha : QA X (e :: es) t d) (hdb : (x == ("__debug__" : Str)) = false := by decide) (he : starEach (e :: es) X.env = (false, eval e X.env) :: starEach es X.env := by rfl) (hpl : (backTo pos (starEach es X.env)).any (·.1) = false := by rfl) :
    QE X (.Call (.Name x p) (e :: es) [] pos) (tCall (lift X.K fs) dsV E0 t) (dCallD fs PX0 dd d) := by
  obtain ⟨ds, rv, hb⟩ := hb
  exact ⟨pe_call F hr hg hm hk hb rv pass0 ha.p hdb he hpl, re_callD rd kx0 ha.r⟩
theorem i_callD {S : Sl} {P : PV} {fs : FS} {Pe : PX} {dd : List DV} (h : d S M fun xs M1 => fs (xs ++ dd) M1 P Pe) : dCallD fs Pe dd d S M P := h
end
section
variable {P : Program} {w : World} {K : PySem.W.Frag} {mg : Str → Option Value} {base : Heap}
theorem okZD {x qual : Str} {params : Arguments} {body : List Stmt} {scope : Scope} {dvs : List V} {f : Addr} {fd : FuncData} {N ps : List Str} {k : Nat} {fs : FS} (F : FunD K x qual params body scope dvs [] f fd) (S : FnScope N ps scope) (len : ∀ xs M P Pe, fs xs M P Pe → xs.length = ps.length)
    (hbody : ∀ (cdv : Value) (A : Around) (outer : List Env) (s : Shared) (H : Hp) (E : XK), Room k (A.deeper (envOfC qual scope s.heap.objs.size f cdv)) →
      ∃ t d, QSs (cxOf CX0 P w K mg base N qual scope f cdv A outer s H E) body t d ∧ ∀ xs M P Pe, fs xs M P Pe → d { nx := fun _ M' => Rt P .non M', rt := Rt P } (startD N xs) M) :
    FnOk P w K mg base CX0 (k + 1) f fd ps (lift K fs) := by
  refine F.ok S (fun vs H Q E h => ?_) (fun cdv A outer s H vs Q E hr h => ?_)
  · obtain ⟨G, M, xs, P, Pe, o, a, h, _⟩ := h
    rw [← a.length]; exact len xs M P Pe h
  · obtain ⟨G, M, xs, P, Pe, o, a, h, kv, kx⟩ := h
    obtain ⟨t, d, q, r⟩ := hbody cdv A outer s H E hr
    refine ⟨t, q.p, ?_⟩
    have kv := rt_kont kv
    exact q.r _ _ M (r xs M P Pe h) G _ H o (slOk_start a) _ ⟨fun S' M' σ' G' H' p o' e s' => kv .non M' .non G' H' p o' e .non, kv, fun _ _ _ _ _ p => p.elim, fun _ _ _ _ _ p => p.elim⟩
end
/-! ### x += n of ints, abs -/
section
variable {K : PySem.W.Frag} {G H : Hp} {M : Mem} {X : Cx} {e : Expr} {te : TE} {de : DE} {pos pos' : Pos}
def dAugA (i : Nat) (de : DE) : DS := fun D S M => ∃ n : Int, S[i]? = some (some (.int n)) ∧ de S M fun y M1 => ∃ m : Int, y = .int m ∧ D.nx (S.set i (some (.int (n + m)))) M1
def dAugS (i : Nat) (de : DE) : DS := fun D S M => ∃ n : Int, S[i]? = some (some (.int n)) ∧ de S M fun y M1 => ∃ m : Int, y = .int m ∧ D.nx (S.set i (some (.int (n - m)))) M1
theorem qs_augA {x : Str} (i : Nat) (hN : X.N.Nodup) (he : QE X e te de) (hi : X.N[i]? = some x := by rfl) (hx : Loc X.env.scope x := by first | exact Or.inl rfl | exact Or.inr rfl) (hf : X.fn x = true ∨ X.env.scope.names.lookup x = some .local := by first | exact .inl rfl | exact .inr rfl | assumption) : QS X (.AugAssign (.Name x pos') .Add e pos) (tAug i te (ipI fun i j => i + j)) (dAugA i de) :=
  ⟨ps_aug hN hi hx he.p ip_add hf, fun D S M ⟨n, h, p⟩ G σ H o s D' k => by
    obtain ⟨v, hv, rv⟩ := s.2 i _ h
    cases rv
    exact ⟨_, hv, he.r S M _ p G σ H o s _ fun y M1 u G1 H1 ⟨m, ey, q⟩ o1 e1 r1 => by
      subst ey; cases r1
      exact ⟨n, m, rfl, rfl, k.nx _ M1 _ G1 H1 q o1 e1 ((s.mono e1).set (.int _) i)⟩⟩⟩
theorem qs_augS {x : Str} (i : Nat) (hN : X.N.Nodup) (he : QE X e te de) (hi : X.N[i]? = some x := by rfl) (hx : Loc X.env.scope x := by first | exact Or.inl rfl | exact Or.inr rfl) (hf : X.fn x = true ∨ X.env.scope.names.lookup x = some .local := by first | exact .inl rfl | exact .inr rfl | assumption) : QS X (.AugAssign (.Name x pos') .Sub e pos) (tAug i te (ipI fun i j => i - j)) (dAugS i de) :=
  ⟨ps_aug hN hi hx he.p ip_sub hf, fun D S M ⟨n, h, p⟩ G σ H o s D' k => by
    obtain ⟨v, hv, rv⟩ := s.2 i _ h
    cases rv
    exact ⟨_, hv, he.r S M _ p G σ H o s _ fun y M1 u G1 H1 ⟨m, ey, q⟩ o1 e1 r1 => by
      subst ey; cases r1
      exact ⟨n, m, rfl, rfl, k.nx _ M1 _ G1 H1 q o1 e1 ((s.mono e1).set (.int _) i)⟩⟩⟩
theorem i_augA {D : DEnds} {S : Sl} {i : Nat} {n : Int} (h : S[i]? = some (some (.int n))) (k : de S M fun y M1 => ∃ m : Int, y = .int m ∧ D.nx (S.set i (some (.int (n + m)))) M1) : dAugA i de D S M := ⟨n, h, k⟩
theorem i_augS {D : DEnds} {S : Sl} {i : Nat} {n : Int} (h : S[i]? = some (some (.int n))) (k : de S M fun y M1 => ∃ m : Int, y = .int m ∧ D.nx (S.set i (some (.int (n - m)))) M1) : dAugS i de D S M := ⟨n, h, k⟩
theorem i_aug2 {m : Int} {Q : Int → Prop} (h : Q m) : ∃ k : Int, DV.int m = .int k ∧ Q k := ⟨m, rfl, h⟩
def dAbs : DC := fun xs M P => ∃ i, xs = [.int i] ∧ P (.int (if i < 0 then -i else i)) M
theorem rc_abs : RC K (fun xs H Q => ∃ i, xs = [.int i] ∧ Q (.int (if i < 0 then -i else i)) H) dAbs := by
  intro xs M P ⟨i, e, p⟩ G vs H o a Q k
  subst e
  obtain ⟨v, rfl, r⟩ := vall1 a
  cases r
  exact ⟨i, rfl, k _ M _ G H p o (Same.refl _) (.int _)⟩
theorem i_abs {n : Int} {P : PV} (h : P (.int (if n < 0 then -n else n)) M) : dAbs [.int n] M P := ⟨n, rfl, h⟩
end
/-! ### targets of the first of two clauses; a walked thing within a block -/
theorem wipe_comm1 (σ : L2.St) (vs : List Nat) (i : Nat) : (L2.wipe σ vs).set i none = L2.wipe (σ.set i none) vs := by
  induction vs with
  | nil => rfl
  | cons v vs ih =>
    show ((L2.wipe σ vs).set v none).set i none = (L2.wipe (σ.set i none) vs).set v none
    rw [← ih]
    apply List.ext_getElem? ; intro j
    simp only [List.getElem?_set, List.length_set]
    by_cases h1 : i = j <;> by_cases h2 : v = j <;> simp [h1, h2]
theorem wipe_app (σ : L2.St) : ∀ vs ws : List Nat, L2.wipe σ (vs ++ ws) = L2.wipe (L2.wipe σ ws) vs
  | [], _ => rfl
  | v :: vs, ws => by
    show (L2.wipe σ (vs ++ ws)).set v none = (L2.wipe (L2.wipe σ ws) vs).set v none
    rw [wipe_app σ vs ws]
theorem wipe_wipe (σ : L2.St) (ws : List Nat) : ∀ vs : List Nat, L2.wipe (L2.wipe σ vs) ws = L2.wipe (L2.wipe σ ws) vs
  | [] => rfl
  | v :: vs => by
    show L2.wipe ((L2.wipe σ vs).set v none) ws = (L2.wipe (L2.wipe σ ws) vs).set v none
    rw [← wipe_comm1, wipe_wipe σ ws vs]
theorem wipe_set (x : Option V) (i : Nat) : ∀ (vs : List Nat) (σ : L2.St), i ∈ vs → L2.wipe (σ.set i x) vs = L2.wipe σ vs
  | [], _, h => by cases h
  | v :: vs, σ, h => by
    show (L2.wipe (σ.set i x) vs).set v none = (L2.wipe σ vs).set v none
    rcases List.mem_cons.mp h with e | h
    · subst e
      rw [wipe_comm1, wipe_comm1, set_set']
    · rw [wipe_set x i vs σ h]
theorem wipe_idem (ws : List Nat) : ∀ (vs : List Nat) (σ : L2.St), (∀ i ∈ vs, i ∈ ws) → L2.wipe (L2.wipe σ vs) ws = L2.wipe σ ws
  | [], _, _ => rfl
  | v :: vs, σ, h => by
    show L2.wipe ((L2.wipe σ vs).set v none) ws = L2.wipe σ ws
    rw [wipe_set none v ws _ (h v (by simp)), wipe_idem ws vs σ fun i hi => h i (by simp [hi])]
theorem wg_nameIn {i : Nat} {vs : List Nat} (h : i ∈ vs) : WG (gName i) vs := fun v σ H Q q => by
  refine ⟨?_, q⟩
  show L2.wipe ((L2.wipe σ vs).set i (some v)) vs = L2.wipe σ vs
  rw [wipe_set _ i vs _ h, wipe_idem vs vs σ fun _ h => h]
theorem wg_tup2In {K : PySem.W.Frag} {i j : Nat} {vs : List Nat} (hi : i ∈ vs) (hj : j ∈ vs) : WG (gTup K 2 (gCons (gName i) (gCons (gName j) gNil))) vs := fun v σ H Q ⟨a, xs, e1, e2, e3, x, r, e4, y, r2, e5, e6, q⟩ => by
  refine ⟨a, xs, e1, e2, e3, x, r, e4, y, r2, e5, e6, ?_, q⟩
  show L2.wipe (((L2.wipe σ vs).set i (some x)).set j (some y)) vs = L2.wipe σ vs
  rw [wipe_set _ j vs _ hj, wipe_set _ i vs _ hi, wipe_idem vs vs σ fun _ h => h]
theorem in_blkI {X : Cx} {tg e : Expr} {te te' : TI} {de : DI} (h : QI X tg e te' de) (q : te' = te) : QI X tg e te de := q ▸ h
theorem binds_full {K : PySem.W.Frag} {fd : FuncData} {ps : List Str} (h : ∃ ds, Vals [] ds ∧ Binds K fd ps ds) : Binds K fd ps [] := by
  obtain ⟨ds, hv, h⟩ := h
  cases hv
  exact h
end DL
/-! DM1 -/
set_option Elab.async false
set_option linter.all false
set_option maxRecDepth 100000
set_option maxHeartbeats 4000000
namespace DL
open PySem L2 PyProof.Rows
theorem ext_up {M M1 : Mem} {p : Addr} {c : MC} (e : Ext M M1) (h : M1 p = none) : Ext M (M1.up p c) := e.trans (Ext.new h)
theorem ext_ne {M : Mem} {p q : Addr} {c : MC} (e : M p = some c) (h : M q = none) : q ≠ p := Ne.symm (mem_ne e h)
theorem rng_get {n i : Nat} (h : i < n) : (rngD 0 n)[i]? = some (.int (i : Int)) := by simp [rngD, h]
theorem rng_len (n : Nat) : (rngD 0 n).length = n := by simp [rngD]
/-- what is left of a walked range -/
theorem rng_left {n : Nat} {dn r : List DV} {x : DV} (h : dn ++ x :: r = rngD 0 n) : x = .int (dn.length : Int) ∧ dn.length < n := by
  have hl := congrArg List.length h
  rw [rng_len, List.length_append, List.length_cons] at hl
  have hg : (dn ++ x :: r)[dn.length]? = some x := by simp
  rw [h, rng_get (by omega)] at hg
  exact ⟨(Option.some.inj hg).symm, by omega⟩
theorem asc_unique : ∀ (a b : List Nat), a.Pairwise (· < ·) → b.Pairwise (· < ·) → (∀ x, x ∈ a ↔ x ∈ b) → a = b
  | [], [], _, _, _ => rfl
  | [], y :: s, _, _, h => absurd ((h y).2 List.mem_cons_self) (by simp)
  | x :: r, [], _, _, h => absurd ((h x).1 List.mem_cons_self) (by simp)
  | x :: r, y :: s, ha, hb, h => by
    obtain ⟨a1, a2⟩ := List.pairwise_cons.mp ha
    obtain ⟨b1, b2⟩ := List.pairwise_cons.mp hb
    have e : x = y := by
      rcases List.mem_cons.mp ((h x).1 List.mem_cons_self) with e | q
      · exact e
      · rcases List.mem_cons.mp ((h y).2 List.mem_cons_self) with e | q2
        · exact e.symm
        · have := a1 y q2
          have := b1 x q
          omega
    subst e
    have := asc_unique r s a2 b2 fun z => by
      constructor
      · intro q
        rcases List.mem_cons.mp ((h z).1 (List.mem_cons_of_mem _ q)) with e | q2
        · have := a1 z q; omega
        · exact q2
      · intro q
        rcases List.mem_cons.mp ((h z).2 (List.mem_cons_of_mem _ q)) with e | q2
        · have := b1 z q; omega
        · exact q2
    rw [this]
/-- the letters of a list, each once, ascending -/
def sset (l : List Nat) : List Nat := (List.range 200).filter fun c => decide (c ∈ l)
theorem sset_mem {l : List Nat} (h : ∀ c ∈ l, c < 200) (c : Nat) : c ∈ sset l ↔ c ∈ l := by
  simp only [sset, List.mem_filter, List.mem_range, decide_eq_true_eq]
  exact ⟨fun q => q.2, fun q => ⟨h c q, q⟩⟩
theorem sset_asc (l : List Nat) : (sset l).Pairwise (· < ·) := List.Pairwise.filter _ List.pairwise_lt_range
theorem sg_inj {a b : Nat} (h : sg a = sg b) : a = b := by
  have e : [a] = [b] := congrArg (fun z : Str => z.cps.toList) h
  simpa using e
theorem rising_sg : ∀ (a : Nat) (l : List Nat), risingS (sg a) (l.map sg) = true → (sg a :: l.map sg).Nodup → (a :: l).Pairwise (· < ·)
  | a, [], _, _ => List.pairwise_singleton _ _
  | a, b :: r, h, n => by
    have h' : (!Spec.ltCps (sg b).cps.toList (sg a).cps.toList && risingS (sg b) (r.map sg)) = true := h
    rw [Bool.and_eq_true] at h'
    obtain ⟨n1, n2⟩ := List.nodup_cons.mp n
    have ih := rising_sg b r h'.2 n2
    have e : Spec.ltCps (sg b).cps.toList (sg a).cps.toList = (decide (b < a) || ((b == a) && false)) := rfl
    rw [e] at h'
    have h1 := h'.1
    have ne : a ≠ b := fun q => n1 (by rw [q]; exact List.mem_cons_self)
    have lt : a < b := by
      simp at h1
      omega
    refine List.pairwise_cons.mpr ⟨fun z q => ?_, ih⟩
    rcases List.mem_cons.mp q with q | q
    · omega
    · have := (List.pairwise_cons.mp ih).1 z q
      omega
theorem sset_unique {ts : List Str} {l : List Nat} (hl : ∀ c ∈ l, c < 200) (n : ts.Nodup) (s : sortedS ts = true) (m : ∀ z, z ∈ ts ↔ z ∈ l.map sg) : ts = (sset l).map sg := by
  obtain ⟨cs, rfl⟩ : ∃ cs : List Nat, ts = cs.map sg := by
    have : ∀ us : List Str, (∀ z ∈ us, z ∈ l.map sg) → ∃ cs : List Nat, us = cs.map sg := by
      intro us
      induction us with
      | nil => intro _; exact ⟨[], rfl⟩
      | cons z r ih =>
        intro h
        obtain ⟨c, _, rfl⟩ := List.mem_map.mp (h z List.mem_cons_self)
        obtain ⟨cs, rfl⟩ := ih fun y q => h y (List.mem_cons_of_mem _ q)
        exact ⟨c :: cs, rfl⟩
    exact this ts fun z q => (m z).1 q
  have asc : cs.Pairwise (· < ·) := by
    cases cs with
    | nil => exact List.Pairwise.nil
    | cons a r => exact rising_sg a r s n
  rw [asc_unique cs (sset l) asc (sset_asc l) fun c => ?_]
  rw [sset_mem hl c]
  have q := m (sg c)
  simp only [List.mem_map] at q
  constructor
  · intro h
    obtain ⟨d, hd, e⟩ := q.1 ⟨c, h, rfl⟩
    rw [← sg_inj e]; exact hd
  · intro h
    obtain ⟨d, hd, e⟩ := q.2 ⟨c, h, rfl⟩
    rw [← sg_inj e]; exact hd
theorem sset_len (l : List Nat) : (sset l).length ≤ 200 := by
  have := List.length_filter_le (fun c => decide (c ∈ l)) (List.range 200)
  rw [List.length_range] at this
  exact this
theorem sg_beq (a b : Nat) : (sg a == sg b) = decide (a = b) := by
  by_cases h : a = b
  · subst h; simp
  · rw [decide_eq_false h]
    exact beq_eq_false_iff_ne.mpr fun e => h (by
      have e2 : [a] = [b] := congrArg (fun z : Str => z.cps.toList) e
      simpa using e2)
theorem map_sset (l : List Nat) : (l.map sg).map DV.str = l.map fun c => DV.str (sg c) := by rw [List.map_map]; rfl
theorem i_join2 {D : DEnds} {S : Sl} {M : Mem} {k : Bool} {a b : DS} (W : Sl → Mem → Prop) (fin : ∀ S M, W S M → D.nx S M) (h : ∀ R : Sl → Mem → Prop, (∀ S M, W S M → R S M) → if k = true then a { D with nx := R } S M else b { D with nx := R } S M) : if k = true then a D S M else b D S M := h D.nx fin
theorem i_min2 {a b : Int} {P : PV} {M : Mem} (h : ∀ m : Int, m ≤ a → m ≤ b → (m = a ∨ m = b) → P (.int m) M) : dMin2 [.int a, .int b] M P := by
  show P (.int (if b < a then b else a)) M
  by_cases q : b < a
  · rw [if_pos q]; exact h b (by omega) (by omega) (.inr rfl)
  · rw [if_neg q]; exact h a (by omega) (by omega) (.inl rfl)


theorem i_iterQ {M : Mem} {x : DV} {xs : List DV} {Q : List DV → (Mem → Prop) → Mem → Prop} (e : lstOf M x = some xs) (h : Q xs (isStand x xs) M) : dIterV x M Q := by
  cases x with
  | str s => cases e
  | fl ys => exact ⟨xs, e, h⟩
  | loc p => exact ⟨xs, e, h⟩
  | _ => cases e
theorem stand_of {M : Mem} {x : DV} {xs : List DV} (e : lstOf M x = some xs) : isStand x xs M := by
  cases x with
  | loc p =>
    show M p = some (.lst xs)
    have e' : (match M p with | some (.lst xs) => some xs | _ => none) = some xs := e
    cases q : M p with
    | none => rw [q] at e'; cases e'
    | some c =>
      rw [q] at e'
      cases c with
      | lst ys => cases e'; rfl
      | dct k => cases e'
  | _ => trivial
theorem stand_up {M : Mem} {x : DV} {xs : List DV} {f : Addr} {c : MC} (e : lstOf M x = some xs) (hf : M f = none) : isStand x xs (M.up f c) := by
  have h := stand_of e
  cases x with
  | loc p =>
    have h' : M p = some (.lst xs) := h
    show (M.up f c) p = some (.lst xs)
    rw [up_ne (mem_ne h' hf)]; exact h'
  | _ => trivial
theorem lst_up {M : Mem} {x : DV} {xs : List DV} {f : Addr} {c : MC} (e : lstOf M x = some xs) (hf : M f = none) : lstOf (M.up f c) x = some xs := by
  have h := stand_of e
  cases x with
  | loc p =>
    have h' : M p = some (.lst xs) := h
    exact lst_loc (by rw [up_ne (mem_ne h' hf)]; exact h')
  | fl ys => exact e
  | _ => cases e
def RowOk (ks : List Kd) : Prop := ks ≠ [] ∧ ks.length ≤ 50 ∧ ∀ k ∈ ks, k.good ∧ k.size ≤ 1000 ∧ k.depth ≤ 20
theorem i_truQ {M : Mem} {x : DV} {xs : List DV} {B : Bool → Prop} (e : lstOf M x = some xs) (h : B (!xs.isEmpty)) : dTru x M B := by
  cases x with
  | fl ys => cases e; exact h
  | loc p =>
    have e' : (match M p with | some (.lst xs) => some xs | _ => none) = some xs := e
    cases q : M p with
    | none => rw [q] at e'; cases e'
    | some c =>
      rw [q] at e'
      cases c with
      | lst ys => cases e'; exact i_trul q h
      | dct k => cases e'
  | _ => cases e

/-- what is still to come of a stack, its last one first -/
def stackParts (l : List Kd) : List Kd := l.reverse.flatMap Kd.parts
theorem stackParts_add (l : List Kd) (k : Kd) : stackParts (l ++ [k]) = k.parts ++ stackParts l := by simp [stackParts]
theorem stackParts_len (l : List Kd) : l.length ≤ (stackParts l).length := by
  induction l with
  | nil => exact Nat.zero_le _
  | cons y r ih =>
    have := y.size_pos
    have := y.parts_len
    simp [stackParts, List.flatMap_append] at ih ⊢
    omega

/-! ### dicts by letters -/
def kS (c : Nat) : Key := Sum.inr (sg c)
theorem kS_inj {a b : Nat} : kS a = kS b ↔ a = b := by
  constructor
  · intro h
    exact sg_inj (Sum.inr.inj h)
  · intro h; rw [h]
theorem few_letters {cs : List Nat} (n : cs.Nodup) (h : ∀ c ∈ cs, 97 ≤ c ∧ c ≤ 122) : cs.length ≤ 26 := by
  have p : cs.Perm ((List.range' 97 26).filter fun c => decide (c ∈ cs)) := by
    refine (List.perm_ext_iff_of_nodup n (List.Pairwise.filter _ List.nodup_range')).mpr fun c => ?_
    simp only [List.mem_filter, List.mem_range'_1, decide_eq_true_eq]
    exact ⟨fun q => ⟨by have := h c q; omega, q⟩, fun q => q.2⟩
  rw [p.length_eq]
  exact Nat.le_trans (List.length_filter_le _ _) (by simp)
def tabV (cs : List Nat) (g : Nat → DV) : List (Key × DV) := cs.map fun c => (kS c, g c)
theorem dval_tabV (g : Nat → DV) (c : Nat) : ∀ cs : List Nat, dval (tabV cs g) (kS c) = if c ∈ cs then some (g c) else none
  | [] => rfl
  | d :: r => by
    have ih := dval_tabV g c r
    by_cases h : d = c
    · subst h
      simp [dval, tabV, List.find?_cons]
    · have e : dval (tabV (d :: r) g) (kS c) = dval (tabV r g) (kS c) := by
        have : ¬ kS d = kS c := fun q => h (kS_inj.mp q)
        simp [dval, tabV, List.find?_cons, this]
      rw [e, ih]
      have : (c ∈ d :: r) ↔ c ∈ r := by
        rw [List.mem_cons]
        exact ⟨fun q => q.elim (fun e => absurd e.symm h) id, .inr⟩
      by_cases hc : c ∈ r
      · rw [if_pos hc, if_pos (this.mpr hc)]
      · rw [if_neg hc, if_neg fun q => hc (this.mp q)]
theorem any_tabV (g : Nat → DV) (c : Nat) (cs : List Nat) : ((tabV cs g).any fun kv => decide (kv.1 = kS c)) = decide (c ∈ cs) := by
  induction cs with
  | nil => rfl
  | cons d r ih =>
    have e : ((tabV (d :: r) g).any fun kv => decide (kv.1 = kS c)) = (decide (kS d = kS c) || (tabV r g).any fun kv => decide (kv.1 = kS c)) := rfl
    rw [e, ih]
    by_cases h : d = c
    · subst h; simp
    · have h2 : ¬ kS d = kS c := fun q => h (kS_inj.mp q)
      have h3 : ¬ c = d := fun q => h q.symm
      simp [h2, h3]
theorem dput_tabV (g : Nat → DV) (c : Nat) (v : DV) (cs : List Nat) : dput (tabV cs g) (kS c) v = tabV (if c ∈ cs then cs else cs ++ [c]) (fun d => if d = c then v else g d) := by
  unfold dput
  rw [any_tabV]
  by_cases h : c ∈ cs
  · rw [if_pos (decide_eq_true h), if_pos h]
    unfold tabV
    rw [List.map_map]
    refine List.map_congr_left fun d _ => ?_
    show (if kS d = kS c then (kS d, v) else (kS d, g d)) = (kS d, (if d = c then v else g d))
    by_cases e : d = c
    · subst e; simp
    · have : ¬ kS d = kS c := fun q => e (kS_inj.mp q)
      rw [if_neg this, if_neg e]
  · rw [if_neg (by rw [decide_eq_false h]; exact Bool.false_ne_true), if_neg h]
    unfold tabV
    rw [List.map_append]
    have : cs.map (fun d => (kS d, g d)) = cs.map (fun d => (kS d, (if d = c then v else g d))) := List.map_congr_left fun d hd => by
      rw [if_neg fun e => h (by rw [← e]; exact hd)]
    rw [this]
    simp
theorem sset_congr {l r : List Nat} (h : ∀ c, c ∈ l ↔ c ∈ r) : sset l = sset r := by
  unfold sset
  refine List.filter_congr fun c _ => ?_
  simp [h c]

def Fm.s1 : Fm → Int
  | .bh => 1
  | .ah => -1
  | .wi => 1
def Fm.s2 : Fm → Int
  | .bh => -1
  | .ah => 1
  | .wi => 1
/-- the letters with their signs, as they are told -/
def Kd.sgn : Kd → Int → List (Nat × Int)
  | .pl c, s => [(c, s)]
  | .tw f a b, s => if s = -1 then b.sgn (s * f.s2) ++ a.sgn (s * f.s1) else a.sgn (s * f.s1) ++ b.sgn (s * f.s2)
def sgD (x : Nat × Int) : DV := .tup [.str (sg x.1), .int x.2]
def stsD (x : Kd × Int) : DV := .tup [x.1.dv, .int x.2]
def Unit1 (s : Int) : Prop := s = 1 ∨ s = -1
theorem unit_mul {s : Int} (h : Unit1 s) (f : Fm) : Unit1 (s * f.s1) ∧ Unit1 (s * f.s2) := by
  rcases h with rfl | rfl <;> cases f <;> (unfold Unit1; decide)
theorem Kd.sgn_len (k : Kd) : ∀ s, (k.sgn s).length = k.size := by
  induction k with
  | pl c => intro s; rfl
  | tw f a b ha hb =>
    intro s
    simp only [Kd.sgn, Kd.size]
    split <;> simp [ha, hb]
    omega
def stackSg (l : List (Kd × Int)) : List (Nat × Int) := l.reverse.flatMap fun x => x.1.sgn x.2
theorem stackSg_add (l : List (Kd × Int)) (k : Kd × Int) : stackSg (l ++ [k]) = k.1.sgn k.2 ++ stackSg l := by simp [stackSg]
def sumS (l : List (Kd × Int)) : Nat := (l.map fun k => 2 * k.1.size - 1).sum
theorem sumS_add (l r : List (Kd × Int)) : sumS (l ++ r) = sumS l + sumS r := by simp [sumS]
theorem sumS_len (l : List (Kd × Int)) : l.length ≤ sumS l := by
  induction l with
  | nil => exact Nat.le_refl _
  | cons x r ih =>
    have := x.1.size_pos
    simp only [sumS, List.map_cons, List.sum_cons, List.length_cons] at ih ⊢
    omega
def rowSg (ks : List Kd) : List (Nat × Int) := ks.flatMap fun k => k.sgn 1
theorem rowSg_len : ∀ (ks : List Kd), (∀ k ∈ ks, k.size ≤ 1000) → (rowSg ks).length ≤ 1000 * ks.length
  | [], _ => Nat.le_refl _
  | k :: r, h => by
    have a := rowSg_len r fun x hx => h x (List.mem_cons_of_mem _ hx)
    have b := h k List.mem_cons_self
    have c := k.sgn_len 1
    have e : rowSg (k :: r) = k.sgn 1 ++ rowSg r := by simp [rowSg]
    rw [e, List.length_append, List.length_cons]
    omega
theorem rowSg_add (ks : List Kd) (k : Kd) : rowSg (ks ++ [k]) = rowSg ks ++ k.sgn 1 := by simp [rowSg]
theorem sgn_good (k : Kd) (h : k.good) : ∀ s x, x ∈ k.sgn s → x.1 < 200 := by
  induction k with
  | pl c => intro s x hx; simp only [Kd.sgn, List.mem_singleton] at hx; subst hx; have : 97 ≤ c ∧ c ≤ 122 := h; show c < 200; omega
  | tw f a b ha hb =>
    intro s x hx
    have : x ∈ a.sgn (s * f.s1) ∨ x ∈ b.sgn (s * f.s2) := by
      simp only [Kd.sgn] at hx
      split at hx
      · exact (List.mem_append.mp hx).symm
      · exact List.mem_append.mp hx
    rcases this with q | q
    · exact ha h.1 _ x q
    · exact hb h.2 _ x q

def wordStep (st : List (Nat × Int)) (x : Nat × Int) : List (Nat × Int) := if st.getLast? = some (x.1, -x.2) then st.dropLast else st ++ [x]
def wordOf (l : List (Nat × Int)) : List (Nat × Int) := l.foldl wordStep []
theorem wordOf_add (l : List (Nat × Int)) (x : Nat × Int) : wordOf (l ++ [x]) = wordStep (wordOf l) x := by simp [wordOf]
theorem wordStep_len (st : List (Nat × Int)) (x : Nat × Int) : (wordStep st x).length ≤ st.length + 1 := by
  unfold wordStep
  split <;> simp
  omega
theorem wordOf_len (l : List (Nat × Int)) : (wordOf l).length ≤ l.length := by
  have : ∀ (l st : List (Nat × Int)), (l.foldl wordStep st).length ≤ st.length + l.length := by
    intro l
    induction l with
    | nil => intro st; exact Nat.le_refl _
    | cons x r ih =>
      intro st
      have := ih (wordStep st x)
      have := wordStep_len st x
      simp only [List.foldl_cons, List.length_cons]
      omega
  simpa [wordOf] using this l []
theorem wordStep_mem {st : List (Nat × Int)} {x y : Nat × Int} (h : y ∈ wordStep st x) : y ∈ st ∨ y = x := by
  unfold wordStep at h
  split at h
  · exact .inl (List.dropLast_sublist st |>.subset h)
  · rcases List.mem_append.mp h with q | q
    · exact .inl q
    · exact .inr (List.mem_singleton.mp q)
theorem wordOf_mem : ∀ (l : List (Nat × Int)) (y : Nat × Int), y ∈ wordOf l → y ∈ l := by
  have : ∀ (l st : List (Nat × Int)) (y : Nat × Int), y ∈ l.foldl wordStep st → y ∈ st ∨ y ∈ l := by
    intro l
    induction l with
    | nil => intro st y h; exact .inl h
    | cons x r ih =>
      intro st y h
      rcases ih _ y h with q | q
      · rcases wordStep_mem q with q | q
        · exact .inl q
        · exact .inr (by rw [q]; exact List.mem_cons_self)
      · exact .inr (List.mem_cons_of_mem _ q)
  intro l y h
  rcases this l [] y h with q | q
  · cases q
  · exact q
theorem sg_ok {c : Nat} (h : c < 200) : PyData.strOk (sg c) = true := by
  show (#[c].all fun x => decide (x < 0x110000)) = true
  simp
  omega
theorem atI_last {α : Type} (xs : List α) (y : α) : atI (xs ++ [y]) (-1) = some y := by
  unfold atI ixN
  have e : (-1 + ((xs.length : Int) + 1)).toNat = xs.length := by omega
  simp
  rw [if_pos (by omega), e]
  simp
theorem sgD_pl {c : Nat} {s : Int} (h : c < 200) : Pl 1 (.tup [.str (sg c), .int s]) := by
  refine .tup fun x hx => ?_
  simp only [List.mem_cons, List.not_mem_nil, or_false] at hx
  rcases hx with rfl | rfl
  · exact .str (sg_ok h)
  · exact .int _

/-- how often a letter counts -/
def cnt : List (Nat × Int) → Nat → Int
  | [], _ => 0
  | x :: r, c => (if x.1 = c then x.2 else 0) + cnt r c
theorem cnt_append (l r : List (Nat × Int)) (c : Nat) : cnt (l ++ r) c = cnt l c + cnt r c := by
  induction l with
  | nil => simp [cnt]
  | cons x l ih => simp only [List.cons_append, cnt, ih]; omega
theorem cnt_none {l : List (Nat × Int)} {c : Nat} (h : ∀ x ∈ l, x.1 ≠ c) : cnt l c = 0 := by
  induction l with
  | nil => rfl
  | cons x l ih =>
    simp only [cnt]
    rw [if_neg (h x List.mem_cons_self), ih fun y hy => h y (List.mem_cons_of_mem _ hy)]
    rfl
def balOf (l : List (Nat × Int)) : List (Nat × Int) := ((List.range 200).filter fun c => decide (cnt l c ≠ 0)).map fun c => (c, cnt l c)
def tab (cs : List Nat) (g : Nat → Int) : List (Key × DV) := cs.map fun c => (kS c, DV.int (g c))
theorem dval_tab (g : Nat → Int) (c : Nat) : ∀ cs : List Nat, dval (tab cs g) (kS c) = if c ∈ cs then some (.int (g c)) else none
  | [] => rfl
  | d :: r => by
    have ih := dval_tab g c r
    by_cases h : d = c
    · subst h
      simp [dval, tab, List.find?_cons]
    · have e : dval (tab (d :: r) g) (kS c) = dval (tab r g) (kS c) := by
        have : ¬ kS d = kS c := fun q => h (kS_inj.mp q)
        simp [dval, tab, List.find?_cons, this]
      rw [e, ih]
      have : (c ∈ d :: r) ↔ c ∈ r := by
        rw [List.mem_cons]
        exact ⟨fun q => q.elim (fun e => absurd e.symm h) id, .inr⟩
      by_cases hc : c ∈ r
      · rw [if_pos hc, if_pos (this.mpr hc)]
      · rw [if_neg hc, if_neg fun q => hc (this.mp q)]
theorem any_tab (g : Nat → Int) (c : Nat) (cs : List Nat) : ((tab cs g).any fun kv => decide (kv.1 = kS c)) = decide (c ∈ cs) := by
  induction cs with
  | nil => rfl
  | cons d r ih =>
    have e : ((tab (d :: r) g).any fun kv => decide (kv.1 = kS c)) = (decide (kS d = kS c) || (tab r g).any fun kv => decide (kv.1 = kS c)) := rfl
    rw [e, ih]
    by_cases h : d = c
    · subst h; simp
    · have h2 : ¬ kS d = kS c := fun q => h (kS_inj.mp q)
      have h3 : ¬ c = d := fun q => h q.symm
      simp [h2, h3]
theorem dput_tab (g : Nat → Int) (c : Nat) (v : Int) (cs : List Nat) : dput (tab cs g) (kS c) (.int v) = tab (if c ∈ cs then cs else cs ++ [c]) (fun d => if d = c then v else g d) := by
  unfold dput
  rw [any_tab]
  by_cases h : c ∈ cs
  · rw [if_pos (decide_eq_true h), if_pos h]
    unfold tab
    rw [List.map_map]
    refine List.map_congr_left fun d _ => ?_
    show (if kS d = kS c then (kS d, DV.int v) else (kS d, DV.int (g d))) = (kS d, DV.int (if d = c then v else g d))
    by_cases e : d = c
    · subst e; simp
    · have : ¬ kS d = kS c := fun q => e (kS_inj.mp q)
      rw [if_neg this, if_neg e]
  · rw [if_neg (by rw [decide_eq_false h]; exact Bool.false_ne_true), if_neg h]
    unfold tab
    rw [List.map_append]
    have : cs.map (fun d => (kS d, DV.int (g d))) = cs.map (fun d => (kS d, DV.int (if d = c then v else g d))) := List.map_congr_left fun d hd => by
      rw [if_neg fun e => h (by rw [← e]; exact hd)]
    rw [this]
    simp
theorem bal_sset {cs : List Nat} {l : List (Nat × Int)} (hl : ∀ x ∈ l, x.1 ∈ cs) : ((sset cs).filter fun c => decide (cnt l c ≠ 0)).map (fun c => (c, cnt l c)) = balOf l := by
  unfold balOf sset
  rw [List.filter_filter]
  congr 1
  refine List.filter_congr fun c _ => ?_
  by_cases h : cnt l c = 0
  · simp [h]
  · have : c ∈ cs := by
      rcases Classical.em (c ∈ cs) with q | q
      · exact q
      · exact absurd (cnt_none fun x hx e => q (by rw [← e]; exact hl x hx)) h
    simp [h, this]
theorem sgn_let (k : Kd) (h : k.good) : ∀ s x, x ∈ k.sgn s → 97 ≤ x.1 ∧ x.1 ≤ 122 := by
  induction k with
  | pl c => intro s x hx; simp only [Kd.sgn, List.mem_singleton] at hx; subst hx; exact h
  | tw f a b ha hb =>
    intro s x hx
    have : x ∈ a.sgn (s * f.s1) ∨ x ∈ b.sgn (s * f.s2) := by
      simp only [Kd.sgn] at hx
      split at hx
      · exact (List.mem_append.mp hx).symm
      · exact List.mem_append.mp hx
    rcases this with q | q
    · exact ha h.1 _ x q
    · exact hb h.2 _ x q

/-! ### words: what cancels, turned round -/
def inv (x : Nat × Int) : Nat × Int := (x.1, -x.2)
theorem inv_inv (x : Nat × Int) : inv (inv x) = x := by
  obtain ⟨a, b⟩ := x
  show (a, - -b) = (a, b)
  rw [Int.neg_neg]
/-- nothing side by side cancels -/
def Rdc (l : List (Nat × Int)) : Prop := ∀ u a b v, l = u ++ a :: b :: v → b ≠ inv a
theorem step_eq (st : List (Nat × Int)) (x : Nat × Int) : wordStep st x = if st.getLast? = some (inv x) then st.dropLast else st ++ [x] := rfl
theorem rdc_nil : Rdc [] := fun u a b v h => by simp at h
theorem rdc_pre {l r : List (Nat × Int)} (h : Rdc (l ++ r)) : Rdc l := fun u a b v e => h u a b (v ++ r) (by rw [e]; simp)
theorem rdc_last {l : List (Nat × Int)} {a x : Nat × Int} (h : Rdc (l ++ [a, x])) : x ≠ inv a := h l a x [] rfl
theorem rdc_snoc {l : List (Nat × Int)} {x : Nat × Int} (h : Rdc l) (hx : l.getLast? ≠ some (inv x)) : Rdc (l ++ [x]) := by
  intro u a b v e
  rcases List.eq_nil_or_concat v with rfl | ⟨v, z, rfl⟩
  · have e' : l ++ [x] = (u ++ [a]) ++ [b] := by rw [e]; simp
    obtain ⟨e1, e2⟩ := List.append_inj' e' rfl
    have e3 : x = b := by simpa using e2
    subst e3
    intro q
    refine hx ?_
    rw [e1, q, inv_inv]; simp
  · have e' : l ++ [x] = (u ++ a :: b :: v) ++ [z] := by rw [e, List.concat_eq_append]; simp
    obtain ⟨e1, _⟩ := List.append_inj' e' rfl
    exact h u a b v e1
theorem rdc_step {l : List (Nat × Int)} {x : Nat × Int} (h : Rdc l) : Rdc (wordStep l x) := by
  rw [step_eq]
  split
  · rcases List.eq_nil_or_concat l with rfl | ⟨l, z, rfl⟩
    · exact rdc_nil
    · rw [List.concat_eq_append] at h ⊢
      rw [List.dropLast_concat]
      exact rdc_pre h
  · rename_i q
    exact rdc_snoc h q
theorem step_back {l : List (Nat × Int)} {x : Nat × Int} (h : Rdc l) : wordStep (wordStep l x) (inv x) = l := by
  by_cases q : l.getLast? = some (inv x)
  · rcases List.eq_nil_or_concat l with rfl | ⟨l, z, rfl⟩
    · simp at q
    · rw [List.concat_eq_append] at h q ⊢
      have ez : z = inv x := by simpa using q
      subst ez
      have e1 : wordStep (l ++ [inv x]) x = l := by rw [step_eq, if_pos q, List.dropLast_concat]
      rw [e1, step_eq, inv_inv]
      rw [if_neg]
      intro q2
      rcases List.eq_nil_or_concat l with rfl | ⟨l, y, rfl⟩
      · simp at q2
      · rw [List.concat_eq_append] at h q2
        have ey : y = x := by simpa using q2
        subst ey
        have h' : Rdc (l ++ [y, inv y]) := by simpa using h
        exact rdc_last h' rfl
  · have e1 : wordStep l x = l ++ [x] := by rw [step_eq, if_neg q]
    rw [e1, step_eq, inv_inv, if_pos (by simp), List.dropLast_concat]
theorem step_forth {l : List (Nat × Int)} {x : Nat × Int} (h : Rdc l) : wordStep (wordStep l (inv x)) x = l := by
  have := step_back (x := inv x) h
  rw [inv_inv] at this
  exact this
theorem rdc_fold {l : List (Nat × Int)} : ∀ {st : List (Nat × Int)}, Rdc st → Rdc (l.foldl wordStep st) := by
  induction l with
  | nil => intro st h; exact h
  | cons x r ih => intro st h; exact ih (rdc_step h)
theorem rdc_word (l : List (Nat × Int)) : Rdc (wordOf l) := rdc_fold rdc_nil
theorem rdc_rev {l : List (Nat × Int)} (h : Rdc l) : Rdc l.reverse := by
  intro u a b v e
  have e2 : l = v.reverse ++ b :: a :: u.reverse := by
    have := congrArg List.reverse e
    rw [List.reverse_reverse] at this
    rw [this]; simp
  intro q
  refine h v.reverse b a u.reverse e2 ?_
  rw [q, inv_inv]
theorem word_rdc : ∀ n : Nat, ∀ l : List (Nat × Int), l.length = n → Rdc l → wordOf l = l
  | 0, l, e, _ => by
    have : l = [] := List.length_eq_zero_iff.mp e
    subst this; rfl
  | n + 1, l, e, h => by
    rcases List.eq_nil_or_concat l with rfl | ⟨l, x, rfl⟩
    · simp at e
    · rw [List.concat_eq_append] at h e ⊢
      rw [wordOf_add, word_rdc n l (by simpa using e) (rdc_pre h), step_eq, if_neg]
      intro q
      rcases List.eq_nil_or_concat l with rfl | ⟨l, y, rfl⟩
      · simp at q
      · rw [List.concat_eq_append] at h q
        have ey : y = inv x := by simpa using q
        subst ey
        have h' : Rdc (l ++ [inv x, x]) := by simpa using h
        exact rdc_last h' (inv_inv x).symm
/-- the letters one behind the other, turned round, do what is left of them, turned round, does -/
theorem fold_rev : ∀ n : Nat, ∀ l : List (Nat × Int), l.length = n → ∀ st, Rdc st → l.reverse.foldl wordStep st = (wordOf l).reverse.foldl wordStep st
  | 0, l, e, st, _ => by
    have : l = [] := List.length_eq_zero_iff.mp e
    subst this; rfl
  | n + 1, l, e, st, h => by
    rcases List.eq_nil_or_concat l with rfl | ⟨l, x, rfl⟩
    · simp at e
    · rw [List.concat_eq_append] at e ⊢
      rw [List.reverse_append, List.reverse_singleton, List.singleton_append, List.foldl_cons, wordOf_add, fold_rev n l (by simpa using e) _ (rdc_step h), step_eq (wordOf l) x]
      by_cases q : (wordOf l).getLast? = some (inv x)
      · rw [if_pos q]
        rcases List.eq_nil_or_concat (wordOf l) with hw | ⟨w, y, hw⟩
        · rw [hw] at q; simp at q
        · rw [List.concat_eq_append] at hw
          rw [hw] at q ⊢
          have ey : y = inv x := by simpa using q
          subst ey
          rw [List.reverse_append, List.reverse_singleton, List.singleton_append, List.foldl_cons, step_back h, List.dropLast_concat]
      · rw [if_neg q, List.reverse_append, List.reverse_singleton, List.singleton_append, List.foldl_cons]
theorem word_rev (l : List (Nat × Int)) : wordOf l.reverse = (wordOf l).reverse := by
  have e : wordOf l.reverse = l.reverse.foldl wordStep [] := rfl
  rw [e, fold_rev _ l rfl [] rdc_nil]
  exact word_rdc _ _ rfl (rdc_rev (rdc_word l))
theorem cnt_rev (l : List (Nat × Int)) (c : Nat) : cnt l.reverse c = cnt l c := by
  induction l with
  | nil => rfl
  | cons x r ih =>
    rw [List.reverse_cons, cnt_append, ih]
    simp only [cnt]
    omega
theorem bal_rev (l : List (Nat × Int)) : balOf l.reverse = balOf l := by
  unfold balOf
  have e : cnt l.reverse = cnt l := funext fun c => cnt_rev l c
  rw [e]

/-! ### lines of letters with signs -/
theorem unit_neg {s : Int} (h : Unit1 s) : Unit1 (-s) := by
  rcases h with rfl | rfl
  · exact .inr rfl
  · exact .inl rfl
theorem sgn_unit (k : Kd) : ∀ s, Unit1 s → ∀ x ∈ k.sgn s, Unit1 x.2 := by
  induction k with
  | pl c => intro s hs x hx; simp only [Kd.sgn, List.mem_singleton] at hx; subst hx; exact hs
  | tw f a b ha hb =>
    intro s hs x hx
    obtain ⟨u1, u2⟩ := unit_mul hs f
    have : x ∈ a.sgn (s * f.s1) ∨ x ∈ b.sgn (s * f.s2) := by
      simp only [Kd.sgn] at hx
      split at hx
      · exact (List.mem_append.mp hx).symm
      · exact List.mem_append.mp hx
    rcases this with q | q
    · exact ha _ u1 x q
    · exact hb _ u2 x q
theorem sgn_all (k : Kd) (h : k.good) {s : Int} (hs : Unit1 s) : AllSg (k.sgn s) := fun x hx => by
  have h1 := sgn_let k h s x hx
  exact ⟨h1.1, h1.2, sgn_unit k s hs x hx⟩
theorem sgn_neg (k : Kd) : ∀ s, Unit1 s → (k.sgn s).reverse.map inv = k.sgn (-s) := by
  induction k with
  | pl c => intro s _; rfl
  | tw f a b ha hb =>
    intro s hs
    obtain ⟨u1, u2⟩ := unit_mul hs f
    have h1 := ha _ u1
    have h2 := hb _ u2
    have e1 : -s * f.s1 = -(s * f.s1) := Int.neg_mul ..
    have e2 : -s * f.s2 = -(s * f.s2) := Int.neg_mul ..
    rcases hs with rfl | rfl
    · have a1 : (Kd.tw f a b).sgn 1 = a.sgn (1 * f.s1) ++ b.sgn (1 * f.s2) := by simp only [Kd.sgn]; rw [if_neg (by decide)]
      have a2 : (Kd.tw f a b).sgn (-1) = b.sgn (-1 * f.s2) ++ a.sgn (-1 * f.s1) := by simp only [Kd.sgn]; rw [if_pos trivial]
      rw [a1, a2, e1, e2, ← h1, ← h2]; simp
    · have a1 : (Kd.tw f a b).sgn (-1) = b.sgn (-1 * f.s2) ++ a.sgn (-1 * f.s1) := by simp only [Kd.sgn]; rw [if_pos trivial]
      have a2 : (Kd.tw f a b).sgn (- -1) = a.sgn (- -1 * f.s1) ++ b.sgn (- -1 * f.s2) := by simp only [Kd.sgn]; rw [if_neg (by decide)]
      rw [a1, a2, e1, e2, ← h1, ← h2]; simp
theorem allsg_app {l r : List (Nat × Int)} (h : AllSg l) (h2 : AllSg r) : AllSg (l ++ r) := fun x hx => by
  rcases List.mem_append.mp hx with q | q
  · exact h x q
  · exact h2 x q
theorem inv_ok {x : Nat × Int} (h : SgOk x) : SgOk (inv x) := sgok_neg h
theorem allsg_inv {l : List (Nat × Int)} (h : AllSg l) : AllSg (l.reverse.map inv) := fun x hx => by
  obtain ⟨y, hy, rfl⟩ := List.mem_map.mp hx
  exact inv_ok (h y (List.mem_reverse.mp hy))
theorem row_all {ks : List Kd} (h : ∀ k ∈ ks, k.good) : AllSg (rowSg ks) := fun x hx => by
  obtain ⟨k, hk, hx⟩ := List.mem_flatMap.mp hx
  exact sgn_all k (h k hk) (.inl rfl) x hx
/-! taking out, sign by sign -/
theorem del_word (x : Nat × Int) : ∀ n, ∀ l st : List (Nat × Int), l.length ≤ n → Rdc st → (delP x l).foldl wordStep st = l.foldl wordStep st := by
  intro n
  induction n with
  | zero =>
    intro l st hl _
    have : l = [] := List.length_eq_zero_iff.mp (by omega)
    subst this; rfl
  | succ n ih =>
    intro l st hl hs
    match l, hl with
    | [], _ => rfl
    | [a], _ => rfl
    | a :: b :: r, hl =>
      simp only [List.length_cons] at hl
      by_cases q : a = x ∧ b = (x.1, -x.2)
      · have e : delP x (a :: b :: r) = delP x r := by simp only [delP]; rw [if_pos q]
        obtain ⟨q1, q2⟩ := q
        subst q1
        have q3 : b = inv a := q2
        subst q3
        rw [e, ih r st (by omega) hs]
        simp only [List.foldl_cons]
        rw [step_back hs]
      · have e : delP x (a :: b :: r) = a :: delP x (b :: r) := by simp only [delP]; rw [if_neg q]
        rw [e]
        simp only [List.foldl_cons]
        have := ih (b :: r) (wordStep st a) (by simp; omega) (rdc_step hs)
        rw [this]; rfl
theorem del_wordOf (x : Nat × Int) (l : List (Nat × Int)) : wordOf (delP x l) = wordOf l := del_word x l.length l [] (Nat.le_refl _) rdc_nil
def NoAdj (x : Nat × Int) (l : List (Nat × Int)) : Prop := ∀ u v, l ≠ u ++ x :: inv x :: v
theorem del_same (x : Nat × Int) : ∀ n, ∀ l : List (Nat × Int), l.length ≤ n → (delP x l = l ↔ NoAdj x l) := by
  intro n
  induction n with
  | zero =>
    intro l hl
    have : l = [] := List.length_eq_zero_iff.mp (by omega)
    subst this
    exact ⟨fun _ u v h => by simp at h, fun _ => rfl⟩
  | succ n ih =>
    intro l hl
    match l, hl with
    | [], _ => exact ⟨fun _ u v h => by simp at h, fun _ => rfl⟩
    | [a], _ =>
      refine ⟨fun _ u v h => ?_, fun _ => rfl⟩
      have := congrArg List.length h
      simp at this
      omega
    | a :: b :: r, hl =>
      simp only [List.length_cons] at hl
      have hd := (delP_len x r.length r (Nat.le_refl _)).2.1
      by_cases q : a = x ∧ b = (x.1, -x.2)
      · have e : delP x (a :: b :: r) = delP x r := by simp only [delP]; rw [if_pos q]
        rw [e]
        constructor
        · intro h
          have := congrArg List.length h
          simp only [List.length_cons] at this
          omega
        · intro h
          exact absurd (by rw [q.1, q.2]; rfl) (h [] r)
      · have e : delP x (a :: b :: r) = a :: delP x (b :: r) := by simp only [delP]; rw [if_neg q]
        rw [e]
        have ih' := ih (b :: r) (by simp; omega)
        constructor
        · intro h
          have h' : delP x (b :: r) = b :: r := by simpa using h
          have hn := ih'.mp h'
          intro u v hu
          cases u with
          | nil =>
            simp only [List.nil_append, List.cons.injEq] at hu
            exact q ⟨hu.1, hu.2.1⟩
          | cons z u =>
            simp only [List.cons_append, List.cons.injEq] at hu
            exact hn u v hu.2
        · intro h
          have hn : NoAdj x (b :: r) := fun u v hu => h (a :: u) v (by rw [hu]; rfl)
          rw [ih'.mpr hn]
theorem rdc_noadj {l : List (Nat × Int)} (h : Rdc l) (x : Nat × Int) : NoAdj x l := fun u v e => h u x (inv x) v e rfl
theorem noadj_rdc {l : List (Nat × Int)} (ha : AllSg l) (h : ∀ c, (∃ x ∈ l, x.1 = c) → NoAdj (c, 1) l ∧ NoAdj (c, -1) l) : Rdc l := by
  intro u a b v e hb
  have hm : a ∈ l := by rw [e]; simp
  obtain ⟨h1, h2⟩ := h a.1 ⟨a, hm, rfl⟩
  obtain ⟨c, s⟩ := a
  subst hb
  rcases (ha _ hm).2.2 with hs | hs
  · have hs : s = 1 := hs
    subst hs
    exact h1 u v e
  · have hs : s = -1 := hs
    subst hs
    exact h2 u v e
def stp (l : List (Nat × Int)) (c : Nat) : List (Nat × Int) := delP (c, -1) (delP (c, 1) l)
theorem del_all {x : Nat × Int} {l : List (Nat × Int)} (h : AllSg l) : AllSg (delP x l) := fun z hz => h z ((delP_len x l.length l (Nat.le_refl _)).2.2 z hz)
theorem stp_all {l : List (Nat × Int)} {c : Nat} (h : AllSg l) : AllSg (stp l c) := del_all (del_all h)
theorem stp_mem {l : List (Nat × Int)} {c : Nat} : ∀ z ∈ stp l c, z ∈ l := fun z hz => (delP_len (c, 1) l.length l (Nat.le_refl _)).2.2 z ((delP_len (c, -1) (delP (c, 1) l).length _ (Nat.le_refl _)).2.2 z hz)
theorem stp_word {l : List (Nat × Int)} {c : Nat} : wordOf (stp l c) = wordOf l := by unfold stp; rw [del_wordOf, del_wordOf]
theorem stp_len {l : List (Nat × Int)} {c : Nat} : (stp l c = l ∧ NoAdj (c, 1) l ∧ NoAdj (c, -1) l) ∨ (stp l c).length + 2 ≤ l.length := by
  obtain ⟨a1, a2, _⟩ := delP_len (c, 1) l.length l (Nat.le_refl _)
  obtain ⟨b1, b2, _⟩ := delP_len (c, -1) (delP (c, 1) l).length (delP (c, 1) l) (Nat.le_refl _)
  unfold stp
  rcases a1 with a1 | a1
  · rw [a1] at b1 b2 ⊢
    rcases b1 with b1 | b1
    · exact .inl ⟨b1, (del_same (c, 1) l.length l (Nat.le_refl _)).mp a1, (del_same (c, -1) l.length l (Nat.le_refl _)).mp b1⟩
    · exact .inr b1
  · right; omega
theorem stp_rdc {l : List (Nat × Int)} {c : Nat} (h : Rdc l) : stp l c = l := by
  unfold stp
  rw [(del_same (c, 1) l.length l (Nat.le_refl _)).mpr (rdc_noadj h _), (del_same (c, -1) l.length l (Nat.le_refl _)).mpr (rdc_noadj h _)]
theorem rdc_short {l : List (Nat × Int)} (h : l.length ≤ 1) : Rdc l := fun u a b v e => by
  have := congrArg List.length e
  simp at this; omega
/-- small letters less great ones -/
theorem cnt_count {l : List (Nat × Int)} (h : AllSg l) {c : Nat} (hc : 97 ≤ c ∧ c ≤ 122) : ((l.map cde).count c : Int) - ((l.map cde).count (c - 32) : Int) = cnt l c := by
  induction l with
  | nil => rfl
  | cons x r ih =>
    have ih' := ih fun z hz => h z (List.mem_cons_of_mem _ hz)
    obtain ⟨d, s⟩ := x
    obtain ⟨h0, h1, h2⟩ := h (d, s) (by simp)
    have h0 : 97 ≤ d := h0
    have h1 : d ≤ 122 := h1
    simp only [List.map_cons, List.count_cons, cnt]
    rcases h2 with h2 | h2
    · have h2 : s = 1 := h2
      subst h2
      rw [cde_pos]
      have n2 : (d == c - 32) = false := beq_eq_false_iff_ne.mpr (by omega)
      by_cases q : d = c
      · subst q; rw [n2]; simp; omega
      · have n1 : (d == c) = false := beq_eq_false_iff_ne.mpr q
        rw [n1, n2, if_neg q]; simp; omega
    · have h2 : s = -1 := h2
      subst h2
      rw [cde_neg]
      have n2 : (d - 32 == c) = false := beq_eq_false_iff_ne.mpr (by omega)
      by_cases q : d = c
      · subst q; rw [n2]; simp; omega
      · have n1 : (d - 32 == c - 32) = false := beq_eq_false_iff_ne.mpr (by omega)
        rw [n1, n2, if_neg q]; simp; omega

theorem row1eq (k : Kd) : rowSg [k] = k.sgn 1 := by simp [rowSg]
theorem row1ok {k : Kd} (g : k.good) (z : k.size ≤ 1000) (d : k.depth ≤ 20) : RowOk [k] := ⟨by simp, by simp, fun x hx => by rw [List.mem_singleton.mp hx]; exact ⟨g, z, d⟩⟩
theorem sgs_inj : ∀ {l r : List (Nat × Int)}, l.map sgD = r.map sgD → l = r
  | [], [], _ => rfl
  | [], _ :: _, h => by simp at h
  | _ :: _, [], h => by simp at h
  | x :: l, y :: r, h => by
    simp only [List.map_cons, List.cons.injEq] at h
    have h1 := h.1
    simp only [sgD, DV.tup.injEq, List.cons.injEq, DV.str.injEq, DV.int.injEq, and_true] at h1
    rw [sgs_inj h.2, Prod.ext (sg_inj h1.1) h1.2]
theorem word_pl {k : Kd} (g : k.good) : Pl 2 (.fl ((wordOf (k.sgn 1)).map sgD)) := by
  refine .fl fun x hx => ?_
  obtain ⟨y, hy, rfl⟩ := List.mem_map.mp hx
  exact sgD_pl (sgn_good k g 1 y (wordOf_mem _ y hy))

/-- data at most so deep -/
inductive Dt : Nat → DV → Prop
  | non {n : Nat} : Dt (n + 1) .non
  | bl {n : Nat} (b : Bool) : Dt (n + 1) (.bl b)
  | int {n : Nat} (i : Int) : Dt (n + 1) (.int i)
  | str {n : Nat} (s : Str) : Dt (n + 1) (.str s)
  | tup {n : Nat} {xs : List DV} (h : ∀ x ∈ xs, Dt n x) : Dt (n + 1) (.tup xs)
  | fl {n : Nat} {xs : List DV} (h : ∀ x ∈ xs, Dt n x) : Dt (n + 1) (.fl xs)
theorem Dt.stn {n : Nat} {x : DV} {M : Mem} (h : Dt n x) : stn M x = x := by
  cases h <;> rfl
theorem stn_inv {M : Mem} {x : DV} {n : Nat} (h : Dt n (stn M x)) : (∃ xs, lstOf M x = some xs ∧ stn M x = .fl xs) ∨ (stn M x = x ∧ lstOf M x = none) := by
  unfold stn at h ⊢
  cases e : lstOf M x with
  | none => exact .inr ⟨rfl, rfl⟩
  | some xs => exact .inl ⟨xs, rfl, rfl⟩
theorem ka1 : kitAnyB "tuple" ["list", "tuple"] = some true := by decide +kernel
theorem ka2 : kitAnyB "list" ["list", "tuple"] = some true := by decide +kernel
theorem ka3 : kitAnyB "str" ["list", "tuple"] = some false := by decide +kernel
theorem ka4 : kitAnyB "bool" ["list", "tuple"] = some false := by decide +kernel
theorem ka5 : kitAnyB "int" ["list", "tuple"] = some false := by decide +kernel
theorem kb1 : kitB "list" "list" = some true := by decide +kernel
theorem kb2 : kitB "tuple" "list" = some false := by decide +kernel
theorem kb3 : kitB "str" "str" = some true := by decide +kernel
theorem kb4 : kitB "bool" "str" = some false := by decide +kernel
theorem kb5 : kitB "int" "str" = some false := by decide +kernel
theorem kb6 : kitB "int" "bool" = some false := by decide +kernel
theorem kb7 : kitB "bool" "bool" = some true := by decide +kernel
theorem kb8 : kitB "int" "int" = some true := by decide +kernel
theorem kb9 : kitB "bool" "int" = some true := by decide +kernel
theorem lst_ty {M : Mem} {x : DV} {xs : List DV} (h : lstOf M x = some xs) : tyD M x = some "list" ∧ seqOf M x = some xs ∧ isN x = false ∧ isTupD x = false ∧ isStand x xs M := by
  cases x with
  | fl ys => cases h; exact ⟨rfl, rfl, rfl, rfl, trivial⟩
  | loc p =>
    have h' : (match M p with | some (.lst xs) => some xs | _ => none) = some xs := h
    cases q : M p with
    | none => rw [q] at h'; cases h'
    | some c =>
      rw [q] at h'
      cases c with
      | lst ys =>
        cases h'
        refine ⟨?_, lst_loc q, rfl, rfl, q⟩
        show (match M p with | some (.lst _) => some "list" | some (.dct _) => some "dict" | none => none) = some "list"
        rw [q]
      | dct k => cases h'
  | _ => cases h
theorem i_isi {x : DV} {n m : String} {b : Bool} {M : Mem} {P : PV} (h1 : tyD M x = some m) (h2 : kitB m n = some b) (p : P (.bl b) M) : dIsi [x, .ty n] M P := ⟨x, n, m, b, rfl, h1, h2, p⟩
theorem i_lenQ {x : DV} {xs : List DV} {M : Mem} {P : PV} (e : seqOf M x = some xs) (h : P (.int (xs.length : Nat)) M) : dLen [x] M P := by
  cases x with
  | str s => cases e
  | _ => exact ⟨_, rfl, xs, e, h⟩

/-- a text of a few letters -/
def LetsOk (l : List Nat) : Prop := 1 ≤ l.length ∧ l.length ≤ 20 ∧ ∀ c ∈ l, 97 ≤ c ∧ c ≤ 122
theorem abc_pool {P : PV} {M : Mem} {r : Int} (h0 : 0 ≤ r) (h1 : r < 26) (h : ∀ c, 97 ≤ c → c ≤ 122 → P (.str (sg c)) M) : dIx (.str "abcdefghijklmnopqrstuvwxyz") (.int r) M P := by
  obtain ⟨c, hc, l1, l2⟩ := abc_at h0 h1
  rw [abc_txt]
  exact i_ixS (by decide) hc (h c l1 l2)

def fmD (f : Fm) : DV := .str f.s
theorem fms_at {fms : List Fm} {r : Int} (h0 : 0 ≤ r) (h1 : r < (fms.length : Int)) : ∃ f, f ∈ fms ∧ atI (fms.map fmD) r = some (.str f.s) := by
  obtain ⟨m, rfl⟩ : ∃ m : Nat, r = (m : Int) := ⟨r.toNat, by omega⟩
  have hm : m < fms.length := by omega
  exact ⟨fms[m], List.getElem_mem hm, atI_nat (by rw [List.getElem?_map, List.getElem?_eq_getElem hm]; rfl)⟩
theorem lets_at {l : List Nat} {r : Int} (h0 : 0 ≤ r) (h1 : r < (l.length : Int)) : ∃ c, c ∈ l ∧ atI l r = some c := by
  obtain ⟨m, rfl⟩ : ∃ m : Nat, r = (m : Int) := ⟨r.toNat, by omega⟩
  have hm : m < l.length := by omega
  exact ⟨l[m], List.getElem_mem hm, atI_nat (List.getElem?_eq_getElem hm)⟩
theorem i_ixLets {l : List Nat} {r : Int} {P : PV} {M : Mem} (hl : LetsOk l) (h0 : 0 ≤ r) (h1 : r < (l.length : Int)) (h : ∀ c, 97 ≤ c → c ≤ 122 → P (.str (sg c)) M) : dIx (.str (txtOf l)) (.int r) M P := by
  obtain ⟨c, hc, e⟩ := lets_at h0 h1
  obtain ⟨_, l2, l3⟩ := hl
  exact i_ixS (by omega) e (h c (l3 c hc).1 (l3 c hc).2)

/-- each letter with how deep it stands -/
def Kd.places : Kd → Nat → List (Nat × Nat)
  | .pl c, d => [(c, d)]
  | .tw _ a b, d => a.places (d + 1) ++ b.places (d + 1)
theorem Kd.places_fst (k : Kd) : ∀ d, (k.places d).map Prod.fst = k.lets := by
  induction k with
  | pl c => intro d; rfl
  | tw f a b ha hb => intro d; simp [Kd.places, Kd.lets, ha, hb]
theorem Kd.places_len (k : Kd) : ∀ d, (k.places d).length = k.size := by
  induction k with
  | pl c => intro d; rfl
  | tw f a b ha hb => intro d; simp [Kd.places, Kd.size, ha, hb]
theorem Kd.places_le (k : Kd) : ∀ d x, x ∈ k.places d → d ≤ x.2 ∧ x.2 + 1 ≤ d + k.depth := by
  induction k with
  | pl c => intro d x h; simp only [Kd.places, List.mem_singleton] at h; subst h; exact ⟨Nat.le_refl _, Nat.le_refl _⟩
  | tw f a b ha hb =>
    intro d x h
    have e : (Kd.tw f a b).depth = 1 + max a.depth b.depth := rfl
    simp only [Kd.places, List.mem_append] at h
    rcases h with h | h
    · have := ha _ _ h; omega
    · have := hb _ _ h; omega
theorem Kd.places_at (k : Kd) : ∀ d, ∃ x ∈ k.places d, x.2 + 1 = d + k.depth := by
  induction k with
  | pl c => intro d; exact ⟨(c, d), by simp [Kd.places], rfl⟩
  | tw f a b ha hb =>
    intro d
    have e : (Kd.tw f a b).depth = 1 + max a.depth b.depth := rfl
    rcases Nat.le_total a.depth b.depth with h | h
    · obtain ⟨x, hx, ex⟩ := hb (d + 1)
      exact ⟨x, by simp [Kd.places, hx], by omega⟩
    · obtain ⟨x, hx, ex⟩ := ha (d + 1)
      exact ⟨x, by simp [Kd.places, hx], by omega⟩
def plcD (x : Nat × Nat) : DV := .tup [.str (sg x.1), .int (x.2 : Nat)]
def stkD (x : Kd × Nat) : DV := .tup [x.1.dv, .int (x.2 : Nat)]
def stackPl (l : List (Kd × Nat)) : List (Nat × Nat) := l.reverse.flatMap fun x => x.1.places x.2
theorem stackPl_add (l : List (Kd × Nat)) (k : Kd × Nat) : stackPl (l ++ [k]) = k.1.places k.2 ++ stackPl l := by simp [stackPl]
def sumP (l : List (Kd × Nat)) : Nat := (l.map fun k => 2 * k.1.size - 1).sum
theorem sumP_add (l r : List (Kd × Nat)) : sumP (l ++ r) = sumP l + sumP r := by simp [sumP]
theorem sumP_len (l : List (Kd × Nat)) : l.length ≤ sumP l := by
  induction l with
  | nil => exact Nat.le_refl _
  | cons x r ih =>
    have := x.1.size_pos
    simp only [sumP, List.map_cons, List.sum_cons, List.length_cons] at ih ⊢
    omega

theorem rngN (n : Nat) : rngD 0 n = (List.range n).map (fun i : Nat => DV.int (i : Int)) := by
  unfold rngD
  exact List.map_congr_left fun i _ => by simp
end DL
/-! DM2 -/
set_option Elab.async false
set_option linter.all false
set_option maxRecDepth 100000
set_option maxHeartbeats 4000000
namespace DL
open PySem L2 PyProof.Rows
/-! ### words alike from each start -/
def Fe (l r : List (Nat × Int)) : Prop := ∀ st, Rdc st → l.foldl wordStep st = r.foldl wordStep st
theorem Fe.refl (l : List (Nat × Int)) : Fe l l := fun _ _ => rfl
theorem Fe.symm {l r : List (Nat × Int)} (h : Fe l r) : Fe r l := fun st q => (h st q).symm
theorem Fe.trans {l m r : List (Nat × Int)} (h : Fe l m) (g : Fe m r) : Fe l r := fun st q => (h st q).trans (g st q)
theorem Fe.app {a b c d : List (Nat × Int)} (h : Fe a b) (g : Fe c d) : Fe (a ++ c) (b ++ d) := fun st q => by
  rw [List.foldl_append, List.foldl_append, h st q]
  exact g _ (rdc_fold q)
theorem Fe.word {l r : List (Nat × Int)} (h : Fe l r) : wordOf l = wordOf r := h [] rdc_nil
theorem fe_pair (x : Nat × Int) : Fe [x, inv x] [] := fun st q => by
  show wordStep (wordStep st x) (inv x) = st
  exact step_back q
theorem fe_pair' (x : Nat × Int) : Fe [inv x, x] [] := fun st q => by
  show wordStep (wordStep st (inv x)) x = st
  exact step_forth q
theorem fe_out (u v : List (Nat × Int)) (x : Nat × Int) : Fe (u ++ x :: inv x :: v) (u ++ v) := by
  have : Fe (u ++ ([x, inv x] ++ v)) (u ++ ([] ++ v)) := (Fe.refl u).app ((fe_pair x).app (Fe.refl v))
  exact this
theorem fe_step (st : List (Nat × Int)) (h : Rdc st) (x : Nat × Int) : Fe (wordStep st x) (st ++ [x]) := by
  rw [step_eq]
  by_cases q : st.getLast? = some (inv x)
  · rw [if_pos q]
    rcases List.eq_nil_or_concat st with e | ⟨w, y, e⟩
    · rw [e] at q; simp at q
    · rw [List.concat_eq_append] at e
      subst e
      have ey : y = inv x := by simpa using q
      subst ey
      rw [List.dropLast_concat]
      have := (Fe.refl w).app (fe_pair' x)
      rw [List.append_nil] at this
      have e2 : w ++ [inv x] ++ [x] = w ++ [inv x, x] := by simp
      rw [e2]
      exact this.symm
  · rw [if_neg q]; exact Fe.refl _
theorem fe_word : ∀ (n : Nat) (l : List (Nat × Int)), l.length = n → Fe (wordOf l) l := by
  intro n
  induction n with
  | zero => intro l h; rw [List.length_eq_zero_iff.mp h]; exact Fe.refl _
  | succ n ih =>
    intro l h
    rcases List.eq_nil_or_concat l with rfl | ⟨w, y, rfl⟩
    · simp at h
    · rw [List.concat_eq_append] at *
      rw [wordOf_add]
      have hw : w.length = n := by simpa using h
      exact (fe_step _ (rdc_word w) y).trans ((ih w hw).app (Fe.refl [y]))
theorem word_halves (l r : List (Nat × Int)) : wordOf (wordOf l ++ wordOf r) = wordOf (l ++ r) := ((fe_word _ l rfl).app (fe_word _ r rfl)).word
theorem cnt_snoc (l : List (Nat × Int)) (x : Nat × Int) (c : Nat) : cnt (l ++ [x]) c = cnt l c + if x.1 = c then x.2 else 0 := by
  rw [cnt_append]
  simp only [cnt]
  omega
theorem cnt_step (st : List (Nat × Int)) (x : Nat × Int) (c : Nat) : cnt (wordStep st x) c = cnt st c + if x.1 = c then x.2 else 0 := by
  rw [step_eq]
  by_cases q : st.getLast? = some (inv x)
  · rw [if_pos q]
    rcases List.eq_nil_or_concat st with e | ⟨w, y, e⟩
    · rw [e] at q; simp at q
    · rw [List.concat_eq_append] at e
      subst e
      have ey : y = inv x := by simpa using q
      subst ey
      rw [List.dropLast_concat, cnt_snoc]
      show cnt w c = cnt w c + (if x.1 = c then -x.2 else 0) + _
      split <;> omega
  · rw [if_neg q, cnt_snoc]
theorem cnt_word : ∀ (n : Nat) (l : List (Nat × Int)), l.length = n → ∀ c, cnt (wordOf l) c = cnt l c := by
  intro n
  induction n with
  | zero => intro l h c; rw [List.length_eq_zero_iff.mp h]; rfl
  | succ n ih =>
    intro l h c
    rcases List.eq_nil_or_concat l with rfl | ⟨w, y, rfl⟩
    · simp at h
    · rw [List.concat_eq_append] at *
      rw [wordOf_add, cnt_step, cnt_snoc, ih w (by simpa using h)]
theorem bal_word {l r : List (Nat × Int)} (h : wordOf l = wordOf r) : balOf l = balOf r := by
  unfold balOf
  have e : cnt l = cnt r := funext fun c => by rw [← cnt_word _ l rfl, h, cnt_word _ r rfl]
  rw [e]
theorem fe_cancel (l : List (Nat × Int)) : Fe (l ++ l.reverse.map inv) [] := by
  induction l with
  | nil => exact Fe.refl _
  | cons x l ih =>
    have e : (x :: l) ++ (x :: l).reverse.map inv = [x] ++ ((l ++ l.reverse.map inv) ++ [inv x]) := by simp
    rw [e]
    have h1 := (Fe.refl [x]).app (ih.app (Fe.refl [inv x]))
    exact h1.trans (fe_pair x)
theorem fe_cancel' (l : List (Nat × Int)) : Fe (l.reverse.map inv ++ l) [] := by
  have := fe_cancel (l.reverse.map inv)
  have e : (l.reverse.map inv).reverse.map inv = l := by
    rw [← List.map_reverse, List.reverse_reverse, List.map_map]
    have : (inv ∘ inv) = id := funext inv_inv
    rw [this, List.map_id]
  rw [e] at this
  exact this
theorem sgn_minus (k : Kd) : k.sgn (-1) = (k.sgn 1).reverse.map inv := (sgn_neg k 1 (.inl rfl)).symm
theorem fe_kd (k : Kd) : Fe (k.sgn 1 ++ k.sgn (-1)) [] := by rw [sgn_minus]; exact fe_cancel _
theorem fe_kd' (k : Kd) : Fe (k.sgn (-1) ++ k.sgn 1) [] := by rw [sgn_minus]; exact fe_cancel' _
theorem row_app (l r : List Kd) : rowSg (l ++ r) = rowSg l ++ rowSg r := by simp [rowSg]

theorem sgn_wi1 (a b : Kd) : (Kd.tw .wi a b).sgn 1 = a.sgn 1 ++ b.sgn 1 := rfl
theorem sgn_bh1 (a b : Kd) : (Kd.tw .bh a b).sgn 1 = a.sgn 1 ++ b.sgn (-1) := rfl
theorem sgn_ah1 (a b : Kd) : (Kd.tw .ah a b).sgn 1 = a.sgn (-1) ++ b.sgn 1 := rfl
theorem sgn_wi2 (a b : Kd) : (Kd.tw .wi a b).sgn (-1) = b.sgn (-1) ++ a.sgn (-1) := rfl
theorem sgn_bh2 (a b : Kd) : (Kd.tw .bh a b).sgn (-1) = b.sgn 1 ++ a.sgn (-1) := rfl
theorem sgn_ah2 (a b : Kd) : (Kd.tw .ah a b).sgn (-1) = b.sgn (-1) ++ a.sgn 1 := rfl
theorem Fe.of_eq {l r : List (Nat × Int)} (h : l = r) : Fe l r := by rw [h]; exact Fe.refl r
theorem sgn_m1 {k l : Kd} (h : Fe (k.sgn 1) (l.sgn 1)) : Fe (k.sgn (-1)) (l.sgn (-1)) := by
  -- both are the inverse of alike words
  have a : Fe (k.sgn (-1)) (k.sgn (-1) ++ (l.sgn 1 ++ l.sgn (-1))) := by
    have := (Fe.refl (k.sgn (-1))).app (fe_kd l).symm
    rw [List.append_nil] at this
    exact this
  have b : Fe (k.sgn (-1) ++ (l.sgn 1 ++ l.sgn (-1))) (k.sgn (-1) ++ (k.sgn 1 ++ l.sgn (-1))) := (Fe.refl _).app (h.symm.app (Fe.refl _))
  have c : Fe (k.sgn (-1) ++ (k.sgn 1 ++ l.sgn (-1))) (l.sgn (-1)) := by
    rw [← List.append_assoc]
    exact (fe_kd' k).app (Fe.refl _)
  exact (a.trans b).trans c
theorem fe_tw {f : Fm} {a b c d : Kd} (h1 : Fe (a.sgn 1) (c.sgn 1)) (h2 : Fe (b.sgn 1) (d.sgn 1)) : Fe ((Kd.tw f a b).sgn 1) ((Kd.tw f c d).sgn 1) := by
  cases f with
  | wi => exact h1.app h2
  | bh => exact h1.app (sgn_m1 h2)
  | ah => exact (sgn_m1 h1).app h2
theorem lin_inj : ∀ {l r : List (Nat × Int)}, AllSg l → AllSg r → lin l = lin r → l = r := by
  intro l r hl hr h
  have h1 : l.map cde = r.map cde := by
    have := congrArg (fun z : Str => z.cps.toList) h
    simpa [lin, txtOf] using this
  clear h
  induction l generalizing r with
  | nil =>
    cases r with
    | nil => rfl
    | cons y r => simp at h1
  | cons x l ih =>
    cases r with
    | nil => simp at h1
    | cons y r =>
      simp only [List.map_cons, List.cons.injEq] at h1
      rw [cde_inj (hl x List.mem_cons_self) (hr y List.mem_cons_self) h1.1, ih (fun z hz => hl z (List.mem_cons_of_mem _ hz)) (fun z hz => hr z (List.mem_cons_of_mem _ hz)) h1.2]
theorem lin_beq {l r : List (Nat × Int)} (hl : AllSg l) (hr : AllSg r) : (lin l == lin r) = decide (l = r) := by
  by_cases h : l = r
  · subst h; simp
  · rw [decide_eq_false h]
    exact beq_eq_false_iff_ne.mpr fun e => h (lin_inj hl hr e)
/-- within the bounds of a kind -/
def KdB (k : Kd) : Prop := k.good ∧ k.size ≤ 7 ∧ k.depth ≤ 5
theorem KdB.all {k : Kd} (h : KdB k) : AllSg (k.sgn 1) := sgn_all k h.1 (.inl rfl)
theorem KdB.word {k : Kd} (h : KdB k) : AllSg (wordOf (k.sgn 1)) := fun x hx => h.all x (wordOf_mem _ x hx)
theorem KdB.len {k : Kd} (h : KdB k) : (wordOf (k.sgn 1)).length ≤ 7 := by
  have := wordOf_len (k.sgn 1)
  rw [k.sgn_len] at this
  exact Nat.le_trans this h.2.1
theorem lets_take {l : List Nat} (h : LetsOk l) {n : Nat} (h1 : 1 ≤ n) : LetsOk (l.take n) := by
  obtain ⟨a, b, c⟩ := h
  refine ⟨by rw [List.length_take]; omega, by rw [List.length_take]; omega, fun x hx => c x (List.mem_of_mem_take hx)⟩
theorem cutT_to (l : List Nat) (n : Nat) : cutT (txtOf l) none (some (n : Int)) = txtOf (l.take n) := by
  unfold cutT cutS
  rw [HT.sIx_none, HT.sIx_nat, txt_len]
  have e : (txtOf l).cps.toList = l := by simp [txtOf]
  rw [e, List.drop_zero, Nat.sub_zero]
  rcases Nat.le_total n l.length with h | h
  · rw [Nat.min_eq_left h]; rfl
  · rw [Nat.min_eq_right h, List.take_of_length_le h, List.take_of_length_le (Nat.le_refl _)]; rfl
theorem txt_app (l r : List Nat) : txtOf l ++ txtOf r = txtOf (l ++ r) := by
  apply congrArg Str.mk
  apply Array.toList_inj.mp
  simp [txtOf]
theorem dt_words (l : List (Nat × Int)) : Dt 3 (.fl (l.map sgD)) := by
  refine .fl fun x hx => ?_
  obtain ⟨y, hy, rfl⟩ := List.mem_map.mp hx
  refine .tup fun z hz => ?_
  simp only [List.mem_cons, List.not_mem_nil, or_false] at hz
  rcases hz with rfl | rfl
  · exact .str _
  · exact .int _
end DL
/-! DM3 -/
set_option Elab.async false
set_option linter.all false
set_option autoImplicit false
set_option maxRecDepth 100000
set_option maxHeartbeats 4000000
namespace DL
open PySem L2 RT PyProof.Rows
/-! readings: a word, a give, two side by side -/
def Kd.one : Kd → Prop
  | .pl _ => True
  | .tw f a b => f ≠ .wi ∧ a.one ∧ b.one
/-- good, and without a "with" -/
def Kd.ok (k : Kd) : Prop := k.good ∧ k.one
inductive Rd where
  | w
  | gb (k : Kd) (t : Rd)
  | ga (k : Kd) (t : Rd)
  | bh (a b : Rd)
  | ah (a b : Rd)
  deriving DecidableEq
def Rd.dv : Rd → DV
  | .w => .tup [.str "word"]
  | .gb k t => .tup [.str "givebehind", k.dv, t.dv]
  | .ga k t => .tup [.str "giveahead", k.dv, t.dv]
  | .bh a b => .tup [.str "behind", a.dv, b.dv]
  | .ah a b => .tup [.str "ahead", a.dv, b.dv]
def Rd.cnt : Rd → Nat
  | .w => 1
  | .gb _ t => 1 + t.cnt
  | .ga _ t => 1 + t.cnt
  | .bh a b => 1 + a.cnt + b.cnt
  | .ah a b => 1 + a.cnt + b.cnt
def Rd.depth : Rd → Nat
  | .w => 1
  | .gb _ t => 1 + t.depth
  | .ga _ t => 1 + t.depth
  | .bh a b => 1 + max a.depth b.depth
  | .ah a b => 1 + max a.depth b.depth
def Rd.wide : Rd → Nat
  | .w => 1
  | .gb _ t => t.wide - 1
  | .ga _ t => t.wide - 1
  | .bh a b => a.wide + b.wide
  | .ah a b => a.wide + b.wide
def Rd.put : Rd → Nat → Rd → Rd
  | .w, _, m => m
  | .gb k t, s, m => .gb k (t.put s m)
  | .ga k t, s, m => .ga k (t.put (s + 1) m)
  | .bh a b, s, m => if s < a.wide then .bh (a.put s m) b else .bh a (b.put (s - a.wide) m)
  | .ah a b, s, m => if s < a.wide then .ah (a.put s m) b else .ah a (b.put (s - a.wide) m)
/-- all kinds that are given -/
def Rd.all (p : Kd → Prop) : Rd → Prop
  | .w => True
  | .gb k t => p k ∧ t.all p
  | .ga k t => p k ∧ t.all p
  | .bh a b => a.all p ∧ b.all p
  | .ah a b => a.all p ∧ b.all p
theorem Rd.depth_pos (t : Rd) : 1 ≤ t.depth := by cases t <;> simp [Rd.depth]
theorem Rd.cnt_pos (t : Rd) : 1 ≤ t.cnt := by cases t <;> simp only [Rd.cnt] <;> omega
theorem Rd.depth_cnt (t : Rd) : t.depth ≤ t.cnt := by
  induction t with
  | w => exact Nat.le_refl _
  | gb k t ih => simp only [Rd.depth, Rd.cnt]; omega
  | ga k t ih => simp only [Rd.depth, Rd.cnt]; omega
  | bh a b iha ihb => simp only [Rd.depth, Rd.cnt]; omega
  | ah a b iha ihb => simp only [Rd.depth, Rd.cnt]; omega
/-- the reading of the row shows the kind -/
inductive Sh : List Kd → Rd → Kd → Prop
  | w (k : Kd) : Sh [k] .w k
  | gb {l : List Kd} {k x : Kd} {t : Rd} : l ≠ [] → Sh (l ++ [k]) t x → Sh l (.gb k t) (.tw .bh x k)
  | ga {l : List Kd} {k x : Kd} {t : Rd} : l ≠ [] → Sh (k :: l) t x → Sh l (.ga k t) (.tw .ah k x)
  | bh {l r : List Kd} {a b : Rd} {x y : Kd} : Sh l a (.tw .bh x y) → Sh r b y → Sh (l ++ r) (.bh a b) x
  | ah {l r : List Kd} {a b : Rd} {x y : Kd} : Sh l a y → Sh r b (.tw .ah y x) → Sh (l ++ r) (.ah a b) x
theorem Sh.ne {l : List Kd} {t : Rd} {x : Kd} (h : Sh l t x) : l ≠ [] := by
  induction h with
  | w k => simp
  | gb h _ _ => exact h
  | ga h _ _ => exact h
  | bh h1 h2 i1 i2 => simp [i1]
  | ah h1 h2 i1 i2 => simp [i1]
theorem Sh.wide {l : List Kd} {t : Rd} {x : Kd} (h : Sh l t x) : l.length = t.wide := by
  induction h with
  | w k => rfl
  | gb h _ ih => rw [List.length_append, List.length_singleton] at ih; simp only [Rd.wide]; omega
  | ga h _ ih => rw [List.length_cons] at ih; simp only [Rd.wide]; omega
  | bh h1 h2 i1 i2 => rw [List.length_append, i1, i2]; rfl
  | ah h1 h2 i1 i2 => rw [List.length_append, i1, i2]; rfl
theorem Sh.pos {l : List Kd} {t : Rd} {x : Kd} (h : Sh l t x) : 1 ≤ l.length := by
  cases l with
  | nil => exact absurd rfl h.ne
  | cons a r => simp
theorem Sh.put {l : List Kd} {t : Rd} {x : Kd} (h : Sh l t x) : ∀ {u v : List Kd} {k : Kd} {s : Nat} {lm : List Kd} {m : Rd}, l = u ++ k :: v → u.length = s → Sh lm m k → Sh (u ++ (lm ++ v)) (t.put s m) x := by
  induction h with
  | w k =>
    intro u v k' s lm m e _ hm
    cases u with
    | nil =>
      simp only [List.nil_append, List.cons.injEq] at e
      obtain ⟨rfl, rfl⟩ := e
      rw [List.nil_append, List.append_nil]; exact hm
    | cons a u => simp at e
  | gb hne h ih =>
    rename_i l k x t
    intro u v k' s lm m e es hm
    refine .gb ?_ ?_
    · have := hm.ne
      simp [this]
    · have := ih (u := u) (v := v ++ [k]) (k := k') (s := s) (lm := lm) (m := m) (by rw [e]; simp) es hm
      simpa using this
  | ga hne h ih =>
    rename_i l k x t
    intro u v k' s lm m e es hm
    refine .ga ?_ ?_
    · have := hm.ne
      simp [this]
    · exact ih (u := k :: u) (v := v) (k := k') (s := s + 1) (lm := lm) (m := m) (by rw [e]; rfl) (by simp [es]) hm
  | bh h1 h2 i1 i2 =>
    rename_i l r a b x y
    intro u v k' s lm m e es hm
    have hw := h1.wide
    simp only [Rd.put]
    rcases List.append_eq_append_iff.mp e with ⟨w, e1, e2⟩ | ⟨w, e1, e2⟩
    · rw [if_neg (by rw [← hw, ← es, e1, List.length_append]; omega)]
      have := i2 (u := w) (v := v) (k := k') (s := s - a.wide) (lm := lm) (m := m) e2 (by rw [← hw, ← es, e1, List.length_append]; omega) hm
      rw [e1, List.append_assoc]
      exact .bh h1 this
    · cases w with
      | nil =>
        rw [List.append_nil] at e1
        subst e1
        rw [if_neg (by omega)]
        have := i2 (u := []) (v := v) (k := k') (s := s - a.wide) (lm := lm) (m := m) (by simpa using e2.symm) (by simp; omega) hm
        exact .bh h1 this
      | cons z w =>
        simp only [List.cons_append, List.cons.injEq] at e2
        obtain ⟨rfl, rfl⟩ := e2
        rw [if_pos (by rw [← hw, e1, List.length_append, List.length_cons]; omega)]
        have := i1 (u := u) (v := w) (k := k') (s := s) (lm := lm) (m := m) e1 es hm
        have q := Sh.bh this h2
        simpa using q
  | ah h1 h2 i1 i2 =>
    rename_i l r a b x y
    intro u v k' s lm m e es hm
    have hw := h1.wide
    simp only [Rd.put]
    rcases List.append_eq_append_iff.mp e with ⟨w, e1, e2⟩ | ⟨w, e1, e2⟩
    · rw [if_neg (by rw [← hw, ← es, e1, List.length_append]; omega)]
      have := i2 (u := w) (v := v) (k := k') (s := s - a.wide) (lm := lm) (m := m) e2 (by rw [← hw, ← es, e1, List.length_append]; omega) hm
      rw [e1, List.append_assoc]
      exact .ah h1 this
    · cases w with
      | nil =>
        rw [List.append_nil] at e1
        subst e1
        rw [if_neg (by omega)]
        have := i2 (u := []) (v := v) (k := k') (s := s - a.wide) (lm := lm) (m := m) (by simpa using e2.symm) (by simp; omega) hm
        exact .ah h1 this
      | cons z w =>
        simp only [List.cons_append, List.cons.injEq] at e2
        obtain ⟨rfl, rfl⟩ := e2
        rw [if_pos (by rw [← hw, e1, List.length_append, List.length_cons]; omega)]
        have := i1 (u := u) (v := w) (k := k') (s := s) (lm := lm) (m := m) e1 es hm
        have q := Sh.ah this h2
        simpa using q
theorem Rd.put_all {p : Kd → Prop} {m : Rd} (hm : m.all p) : ∀ {t : Rd} {s : Nat}, t.all p → (t.put s m).all p
  | .w, s, _ => hm
  | .gb k t, s, h => ⟨h.1, put_all hm h.2⟩
  | .ga k t, s, h => ⟨h.1, put_all hm h.2⟩
  | .bh a b, s, h => by
    simp only [Rd.put]; split
    · exact ⟨put_all hm h.1, h.2⟩
    · exact ⟨h.1, put_all hm h.2⟩
  | .ah a b, s, h => by
    simp only [Rd.put]; split
    · exact ⟨put_all hm h.1, h.2⟩
    · exact ⟨h.1, put_all hm h.2⟩
theorem Rd.put_cnt {m : Rd} : ∀ {t : Rd} {s : Nat}, (t.put s m).cnt ≤ t.cnt + m.cnt
  | .w, s => by simp only [Rd.put, Rd.cnt]; omega
  | .gb k t, s => by have := put_cnt (m := m) (t := t) (s := s); simp only [Rd.put, Rd.cnt]; omega
  | .ga k t, s => by have := put_cnt (m := m) (t := t) (s := s + 1); simp only [Rd.put, Rd.cnt]; omega
  | .bh a b, s => by
    have h1 := put_cnt (m := m) (t := a) (s := s)
    have h2 := put_cnt (m := m) (t := b) (s := s - a.wide)
    simp only [Rd.put]; split <;> simp only [Rd.cnt] <;> omega
  | .ah a b, s => by
    have h1 := put_cnt (m := m) (t := a) (s := s)
    have h2 := put_cnt (m := m) (t := b) (s := s - a.wide)
    simp only [Rd.put]; split <;> simp only [Rd.cnt] <;> omega
theorem Rd.all_mono {p q : Kd → Prop} (h : ∀ k, p k → q k) : ∀ {t : Rd}, t.all p → t.all q
  | .w, _ => trivial
  | .gb k t, z => ⟨h _ z.1, all_mono h z.2⟩
  | .ga k t, z => ⟨h _ z.1, all_mono h z.2⟩
  | .bh a b, z => ⟨all_mono h z.1, all_mono h z.2⟩
  | .ah a b, z => ⟨all_mono h z.1, all_mono h z.2⟩
/-- the open way of a word or a reading of a kind -/
def eta (t : Rd) : Kd → Rd
  | .tw .bh _ b => .gb b (.bh t .w)
  | .tw .ah a _ => .ga a (.ah .w t)
  | _ => t
theorem Sh.eta {l : List Kd} {t : Rd} {x : Kd} (h : Sh l t x) : Sh l (eta t x) x := by
  cases x with
  | pl c => exact h
  | tw f a b =>
    cases f with
    | bh => exact .gb h.ne (.bh h (.w b))
    | ah => exact .ga h.ne (.ah (l := [a]) (.w a) h)
    | wi => exact h
theorem eta_cnt (t : Rd) (x : Kd) : (eta t x).cnt ≤ t.cnt + 3 := by
  cases x with
  | pl c => simp [eta]
  | tw f a b => cases f <;> simp only [eta, Rd.cnt] <;> omega
/-- what a law's row keeps: seven kinds with the shown one, fourteen letters -/
def sizes (l : List Kd) : Nat := (l.map Kd.size).sum
def Wn (l : List Kd) : Prop := l.length ≤ 7 ∧ sizes l ≤ 14 ∧ ∀ k ∈ l, k.size ≤ 7 ∧ k.depth ≤ 5
instance (l : List Kd) : Decidable (Wn l) := by unfold Wn; exact inferInstance
theorem sizes_app (l r : List Kd) : sizes (l ++ r) = sizes l + sizes r := by simp [sizes]
theorem sizes_cons (k : Kd) (r : List Kd) : sizes (k :: r) = k.size + sizes r := by simp [sizes]
theorem sizes_mem {l : List Kd} {k : Kd} (h : k ∈ l) : k.size ≤ sizes l := by
  induction l with
  | nil => cases h
  | cons a r ih =>
    rw [sizes_cons]
    rcases List.mem_cons.mp h with e | q
    · subst e; omega
    · have := ih q; omega
theorem sizes_len (l : List Kd) : l.length ≤ sizes l := by
  induction l with
  | nil => exact Nat.le_refl _
  | cons a r ih => rw [sizes_cons, List.length_cons]; have := a.size_pos; omega
theorem Kd.depth_size (k : Kd) : k.depth ≤ k.size := by
  induction k with
  | pl c => exact Nat.le_refl _
  | tw f a b ha hb =>
    have := a.size_pos; have := b.size_pos
    show 1 + max a.depth b.depth ≤ a.size + b.size
    omega
/-! the script's numbers by their bits -/
def fsLawB : FS := fun xs M P _ => ∃ ns : List Int, xs = [.fl (ns.map DV.int)] ∧ ns.length ≤ 63 ∧ (∀ z ∈ ns, Builtin.Int.intBits z ≤ 1048576) ∧ ∀ M', P (.bl true) M'
theorem law_spB {K : PySem.W.Frag} {H : Hp} {a : Addr} {ns : List Int} (hl : ns.length ≤ 63) (hb : ∀ z ∈ ns, Builtin.Int.intBits z ≤ 1048576) (hS : SqL K H a (ns.map V.int)) : lift K fsLawB [.ref a] H (fun v _ => v = .bl true) fun _ _ _ => False :=
  ⟨H, fun _ => none, [.fl (ns.map DV.int)], fun x _ => x = .bl true, PX0, ⟨Same.refl _, fun _ _ e => nomatch e⟩, .cons (.fl hS (ints_all ns)) .nil, ⟨ns, rfl, hl, hb, fun _ => rfl⟩,
    fun x M v G' H' e o s r => by subst e; cases r; rfl, fun _ _ _ _ _ _ _ p => p.elim⟩
section
variable {X : Cx} {a b : Expr} {ta tb : TE} {da db : DE} {pos : Pos}
/-- ** of any size within 2 ^ 27 bits -/
def CPowX (i j : Int) : Prop := 0 ≤ j ∧ (Builtin.Int.intBits i : Int) * j ≤ 2 ^ 27
theorem op_powX : OpR X (binaryOp .Pow) (rI CPowX fun i j => .int (i ^ j.toNat)) := opI fun _ _ _ _ _ _ _ hc q => pow_int hc.1 hc.2 q
abbrev dPowX : DR2 := dIC CPowX fun i j => .int (i ^ j.toNat)
abbrev dMulX : DR2 := dIC CMulX fun i j => .int (i * j)
theorem qe_powX (ha : QE X a ta da) (hb : QE X b tb db) : QE X (.BinOp a .Pow b pos) (tOp (rI CPowX fun i j => .int (i ^ j.toNat)) ta tb) (dOp dPowX da db) := qe_op op_powX (ro_IC fun _ _ _ => .int _) ha hb
theorem qe_mulX (ha : QE X a ta da) (hb : QE X b tb db) : QE X (.BinOp a .Mult b pos) (tOp (rI CMulX fun i j => .int (i * j)) ta tb) (dOp dMulX da db) := qe_op op_mulX (ro_IC fun _ _ _ => .int _) ha hb
theorem powx_ok {i : Int} {j a : Nat} (h : i.natAbs < 2 ^ a) (hj : a * j ≤ 134217728) : CPowX i (j : Int) := by
  have x := PyProof.Rows.intBits_le h
  refine ⟨Int.natCast_nonneg _, ?_⟩
  have e : (2 : Int) ^ 27 = 134217728 := by decide
  rw [e, ← Int.natCast_mul]
  have := Nat.mul_le_mul_right j x
  omega
theorem mulx_bits {i j : Int} {a : Nat} (h : Builtin.Int.intBits i ≤ a) (hb : j.natAbs < 2 ^ 64) (ha : a ≤ 10000000) : CMulX i j := by
  have y := PyProof.Rows.intBits_le hb
  unfold CMulX
  omega
end
/-! the draws -/
def LetR (l : List Nat) : Prop := 1 ≤ l.length ∧ l.length ≤ 26 ∧ ∀ c ∈ l, 97 ≤ c ∧ c ≤ 122
def SrR (rest : List DV) (s : MC) (c : Nat) : Prop := ∃ big num cnt : Int, s = .lst (.int big :: .int num :: .int cnt :: rest) ∧ 0 ≤ big ∧ 0 ≤ num ∧ num < 1000000000000000000000000103 ∧ 0 ≤ cnt ∧ cnt ≤ (c : Int)
theorem SrR.le {rest : List DV} {s : MC} {c d : Nat} (h : SrR rest s c) (e : c ≤ d) : SrR rest s d := by
  obtain ⟨big, num, cnt, h1, h2, h3, h4, h5, h6⟩ := h
  exact ⟨big, num, cnt, h1, h2, h3, h4, h5, by omega⟩
/-- a pool with its letters -/
def SrP (s : MC) (c : Nat) : Prop := ∃ l, LetR l ∧ SrR [.str (txtOf l)] s c
theorem SrP.le {s : MC} {c d : Nat} (h : SrP s c) (e : c ≤ d) : SrP s d := by
  obtain ⟨l, h1, h2⟩ := h
  exact ⟨l, h1, h2.le e⟩
theorem cut_init (l : List DV) (a : DV) : cutD (l ++ [a]) none (some (-1)) = l := by
  unfold cutD
  rw [List.length_append, List.length_singleton]
  have e1 : HT.sIx (l.length + 1) 0 none = 0 := rfl
  have e2 : HT.sIx (l.length + 1) (l.length + 1) (some (-1)) = l.length := by
    show (if (-1 : Int) < 0 then ((-1 : Int) + ((l.length + 1 : Nat) : Int)).toNat else min (-1 : Int).toNat (l.length + 1)) = l.length
    rw [if_pos (by decide)]; omega
  rw [e1, e2, List.drop_zero]
  simp
theorem cut_tail (a : DV) (l : List DV) : cutD (a :: l) (some 1) none = l := by
  have := cut_from (a :: l) 1
  exact this
theorem cut_to_map (l : List Kd) (n : Nat) : cutD (l.map Kd.dv) none (some (n : Int)) = (l.take n).map Kd.dv := by rw [cut_to, List.map_take]
theorem cut_from_map (l : List Kd) (n : Nat) : cutD (l.map Kd.dv) (some (n : Int)) none = (l.drop n).map Kd.dv := by rw [cut_from, List.map_drop]
/-- what holds of the kinds of the row and of those that are given -/
theorem Sh.good {l : List Kd} {t : Rd} {x : Kd} (h : Sh l t x) : (∀ k ∈ l, k.good) → t.all Kd.good → x.good := by
  induction h with
  | w k => intro h _; exact h k (by simp)
  | gb hn h ih =>
    intro hl ht
    refine ⟨ih (fun k hk => ?_) ht.2, ht.1⟩
    rcases List.mem_append.mp hk with q | q
    · exact hl k q
    · rw [List.mem_singleton.mp q]; exact ht.1
  | ga hn h ih =>
    intro hl ht
    refine ⟨ht.1, ih (fun k hk => ?_) ht.2⟩
    rcases List.mem_cons.mp hk with q | q
    · rw [q]; exact ht.1
    · exact hl k q
  | bh h1 h2 i1 i2 =>
    intro hl ht
    exact (i1 (fun k hk => hl k (by simp [hk])) ht.1).1
  | ah h1 h2 i1 i2 =>
    intro hl ht
    exact (i2 (fun k hk => hl k (by simp [hk])) ht.2).2
theorem Sh.one {l : List Kd} {t : Rd} {x : Kd} (h : Sh l t x) : (∀ k ∈ l, k.one) → t.all Kd.one → x.one := by
  induction h with
  | w k => intro h _; exact h k (by simp)
  | gb hn h ih =>
    intro hl ht
    refine ⟨by decide, ih (fun k hk => ?_) ht.2, ht.1⟩
    rcases List.mem_append.mp hk with q | q
    · exact hl k q
    · rw [List.mem_singleton.mp q]; exact ht.1
  | ga hn h ih =>
    intro hl ht
    refine ⟨by decide, ht.1, ih (fun k hk => ?_) ht.2⟩
    rcases List.mem_cons.mp hk with q | q
    · rw [q]; exact ht.1
    · exact hl k q
  | bh h1 h2 i1 i2 =>
    intro hl ht
    exact (i1 (fun k hk => hl k (by simp [hk])) ht.1).2.1
  | ah h1 h2 i1 i2 =>
    intro hl ht
    exact (i2 (fun k hk => hl k (by simp [hk])) ht.2).2.2
theorem Sh.deep {D : Nat} {l : List Kd} {t : Rd} {x : Kd} (h : Sh l t x) : (∀ k ∈ l, k.depth ≤ D) → t.all (fun k => k.depth ≤ D) → x.depth + 1 ≤ D + t.depth := by
  induction h with
  | w k => intro h _; have := h k (by simp); simp only [Rd.depth]; omega
  | gb hn h ih =>
    rename_i l k x t
    intro hl ht
    have := ih (fun k hk => by
      rcases List.mem_append.mp hk with q | q
      · exact hl k q
      · rw [List.mem_singleton.mp q]; exact ht.1) ht.2
    have h1 := ht.1
    have := t.depth_pos
    simp only [Rd.depth, Kd.depth]; omega
  | ga hn h ih =>
    rename_i l k x t
    intro hl ht
    have := ih (fun k hk => by
      rcases List.mem_cons.mp hk with q | q
      · rw [q]; exact ht.1
      · exact hl k q) ht.2
    have h1 := ht.1
    have := t.depth_pos
    simp only [Rd.depth, Kd.depth]; omega
  | bh h1 h2 i1 i2 =>
    intro hl ht
    have := i1 (fun k hk => hl k (by simp [hk])) ht.1
    simp only [Kd.depth] at this
    simp only [Rd.depth]; omega
  | ah h1 h2 i1 i2 =>
    intro hl ht
    have := i2 (fun k hk => hl k (by simp [hk])) ht.2
    simp only [Kd.depth] at this
    simp only [Rd.depth]; omega
/-- a reading under way, its kinds of at most N letters -/
structure Mk (N C L : Nat) (l : List Kd) (t : Rd) (x : Kd) : Prop where
  sh : Sh l t x
  ok : ∀ k ∈ l, k.ok ∧ k.size ≤ N
  xk : x.ok ∧ x.size ≤ N
  tk : t.all fun k => k.ok ∧ k.size ≤ 7
  cn : t.cnt ≤ C
  ln : l.length ≤ L
def tripD (l : List Kd) (t : Rd) (x : Kd) : DV := .tup [.fl (l.map Kd.dv), t.dv, x.dv]
theorem i_negC {S : Sl} {M : Mem} {P : PV} {n : Int} (h : P (.int (-n)) M) : dNeg (dC (.int n)) S M P := ⟨n, rfl, h⟩
theorem i_addZQ {x y : DV} {xs ys : List DV} {M : Mem} {P : PV} (h1 : lstOf M x = some xs) (h2 : lstOf M y = some ys) (l : xs.length + ys.length ≤ 100000) (p : P (.fl (xs ++ ys)) M) : dAddZ x y M P := by
  cases x with
  | fl zs => exact ⟨xs, ys, h1, h2, l, p⟩
  | loc q => exact ⟨xs, ys, h1, h2, l, p⟩
  | _ => cases h1
theorem stand_ext {M M2 : Mem} {x : DV} {xs : List DV} (h : lstOf M x = some xs) (e : Ext M M2) : isStand x xs M2 := by
  have q := stand_of h
  cases x with
  | loc p => exact e p _ q
  | _ => trivial
theorem enumD_zip : ∀ (ks : List Kd) (i : Nat), enumD i (ks.map Kd.dv) = (ks.zipIdx i).map fun z => DV.tup [.int (z.2 : Int), z.1.dv]
  | [], _ => rfl
  | k :: r, i => by rw [List.map_cons, List.zipIdx_cons, List.map_cons, enumD, enumD_zip r (i + 1)]
/-- to each letter the place of its kind -/
def own (i : Nat) (ks : List Kd) : List Nat := (ks.zipIdx i).flatMap fun z => List.replicate z.1.size z.2
theorem own_dv (i : Nat) (ks : List Kd) : ((ks.zipIdx i).flatMap fun z => List.replicate z.1.size (DV.int (z.2 : Int))) = (own i ks).map fun n : Nat => DV.int (n : Int) := by
  unfold own
  rw [List.map_flatMap]
  simp only [List.map_replicate]
theorem own_cons (i : Nat) (k : Kd) (r : List Kd) : own i (k :: r) = List.replicate k.size i ++ own (i + 1) r := by
  unfold own
  rw [List.zipIdx_cons, List.flatMap_cons]
theorem own_app : ∀ (l r : List Kd) (i : Nat), own i (l ++ r) = own i l ++ own (i + l.length) r
  | [], r, i => by simp [own]
  | k :: l, r, i => by
    rw [List.cons_append, own_cons, own_cons, own_app l r (i + 1), List.append_assoc, List.length_cons]
    have e : i + 1 + l.length = i + (l.length + 1) := by omega
    rw [e]
theorem own_len : ∀ (l : List Kd) (i : Nat), (own i l).length = sizes l
  | [], _ => rfl
  | k :: l, i => by rw [own_cons, List.length_append, List.length_replicate, own_len l, sizes_cons]
/-- the letters as they stand in the line -/
def Kd.std (k : Kd) : List Nat := (k.sgn 1).map Prod.fst
theorem std_neg (k : Kd) : (k.sgn (-1)).map Prod.fst = k.std.reverse := by
  have h := sgn_neg k 1 (.inl rfl)
  have e : (-(1 : Int)) = -1 := rfl
  rw [e] at h
  rw [← h, List.map_map, List.map_reverse, Kd.std]
  congr 1
theorem std_len (k : Kd) : k.std.length = k.size := by rw [Kd.std, List.length_map, k.sgn_len]
theorem std_bh (a b : Kd) : (Kd.tw .bh a b).std = a.std ++ b.std.reverse := by
  rw [Kd.std, sgn_bh1, List.map_append, std_neg]; rfl
theorem std_ah (a b : Kd) : (Kd.tw .ah a b).std = a.std.reverse ++ b.std := by
  rw [Kd.std, sgn_ah1, List.map_append, std_neg]; rfl
def rowStd (ks : List Kd) : List Nat := ks.flatMap Kd.std
theorem rowStd_len : ∀ ks : List Kd, (rowStd ks).length = sizes ks
  | [] => rfl
  | k :: r => by
    have := rowStd_len r
    unfold rowStd at this ⊢
    rw [List.flatMap_cons, List.length_append, this, std_len, sizes_cons]
def lineOf (ks : List Kd) (x : Kd) : List Nat := rowStd ks ++ x.std.reverse
theorem lineOf_len (ks : List Kd) (x : Kd) : (lineOf ks x).length = sizes (ks ++ [x]) := by
  rw [lineOf, List.length_append, rowStd_len, List.length_reverse, std_len, sizes_app, sizes_cons]; rfl
theorem row_std (ks : List Kd) : (rowSg ks).map Prod.fst = rowStd ks := by
  unfold rowSg rowStd
  rw [List.map_flatMap]; rfl
theorem join_txts : ∀ l : List (List Nat), Str.join ⟨#[]⟩ (l.map txtOf) = txtOf l.flatten
  | [] => rfl
  | [k] => by simp [Str.join]
  | k :: m :: r => by
    show txtOf k ++ ⟨#[]⟩ ++ Str.join ⟨#[]⟩ ((m :: r).map txtOf) = _
    rw [join_txts (m :: r)]
    apply congrArg Str.mk
    apply Array.toList_inj.mp
    simp [Str.cps_append, txtOf]
theorem txt_joins {z : Str} (e : z.cps.toList = []) (l : List (List Nat)) : Txt.join z (l.map txtOf) = txtOf l.flatten := by
  have ez : z = ⟨#[]⟩ := by
    obtain ⟨a⟩ := z
    exact congrArg Str.mk (Array.toList_inj.mp e)
  subst ez
  rw [← join_txts l]
  show Builtin.Str.glued _ _ = _
  rw [StrLaws.glued_eq_join]
theorem sum_txt : ∀ l : List (List Nat), ((l.map txtOf).map (·.length)).sum = l.flatten.length
  | [] => rfl
  | k :: r => by
    rw [List.map_cons, List.map_cons, List.sum_cons, sum_txt r, List.flatten_cons, List.length_append, txt_len]
theorem i_joinTs {M : Mem} {P : PV} {z : Str} {l : List (List Nat)} (e : z.cps.toList = []) (hl : l.flatten.length ≤ 100000) (h : P (.str (txtOf l.flatten)) M) {y : DV} (hy : seqOf M y = some (l.map fun c => DV.str (txtOf c))) : ∃ ys ss, seqOf M y = some ys ∧ strsOf ys = some ss ∧ (ss.map (·.length)).sum + ss.length * z.length ≤ 16777216 ∧ P (.str (Txt.join z ss)) M :=
  ⟨_, l.map txtOf, hy, by have := strsOf_map (l.map txtOf); rw [List.map_map] at this; exact this, by
    have : z.length = 0 := by show z.cps.size = 0; rw [← Array.length_toList, e]; rfl
    rw [sum_txt, this, Nat.mul_zero]; omega, by rw [txt_joins e]; exact h⟩
/-! turned about -/
theorem cutT_from (l : List Nat) (n : Nat) : cutT (txtOf l) (some (n : Int)) none = txtOf (l.drop n) := by
  unfold cutT cutS
  rw [HT.sIx_none, HT.sIx_nat, txt_len]
  have e : (txtOf l).cps.toList = l := by simp [txtOf]
  rw [e]
  rcases Nat.le_total n l.length with h | h
  · rw [Nat.min_eq_left h, List.take_of_length_le (by rw [List.length_drop]; omega)]; rfl
  · rw [Nat.min_eq_right h, List.drop_of_length_le h, List.drop_of_length_le (Nat.le_refl _), List.take_nil]; rfl
/-! list.pop(0) -/
section
variable {K : PySem.W.Frag} {X : Cx} {pos : Pos}
def dPop0 (do_ da : DE) : DE := fun S M P => do_ S M fun x M1 => (∃ ys, lstOf M1 x = some ys) ∧ da S M1 fun i M2 => ∃ p y xs, x = .loc p ∧ M2 p = some (.lst (y :: xs)) ∧ i = .int 0 ∧ P y (M2.up p (.lst xs))
theorem re_pop0 {to ta : TE} {do_ da : DE} (ho : RE K to do_) (ha : RE K ta da) : RE K (tBM K "list" rPopAt to (tCons ta tNil)) (dPop0 do_ da) := fun S M P p G σ H o s Q k =>
  ho S M _ p G σ H o s _ fun x M1 u G1 H1 ⟨⟨ys, hy⟩, p1⟩ o1 e1 r1 => by
    obtain ⟨a, vs, rfl, sq, _⟩ := lst_sq o1 r1 hy
    refine ⟨.inl ⟨rfl, vs, sq⟩, ?_⟩
    refine ha S M1 _ p1 G1 σ H1 o1 (s.mono e1) _ fun i M2 z G2 H2 ⟨q, y, xs, ex, h, ei, p2⟩ o2 e2 r2 => ?_
    subst ex; subst ei
    have ea : a = q := by cases r1; rfl
    subst ea
    cases r2
    obtain ⟨vs, e3, al, g⟩ := cell_lst o2 h
    cases al with
    | cons r al =>
      rename_i w ws
      refine ⟨a, w :: ws, 0, 0, w, rfl, rfl, e3, by decide, by decide, ?_, rfl, k _ _ _ G2 _ p2 (o2.putL g al) (e1.trans e2) r⟩
      exact (ixN_seq (n := (w :: ws).length) (i := 0) (j := 0) (by simp [ixN])).1
theorem qe_pop0 {o a : Expr} {to ta : TE} {do_ da : DE} {apos : Pos} (ho : QE X o to do_) (ha : QE X a ta da) (hbase : attributeBase o "pop" X.env (eval o X.env) = eval o X.env := by rfl) (hline : (apos.endLine == pos.line) = true := by rfl)
    (hfew : ((backTo pos (starEach [a] X.env)).all (fun x => !x.1) && (backToKw pos (keywordEach [] X.env)).all (fun x => x.1.isSome)
      && decide (([a] : List Expr).length + ([] : List Keyword).length + (if ([] : List Keyword).isEmpty then 0 else 1) < 30)) = true := by rfl)
    (hs : starEach [a] X.env = (false, eval a X.env) :: starEach [] X.env := by rfl) (hplain : (backTo pos (starEach [] X.env)).any (·.1) = false := by rfl) :
    QE X (.Call (.Attribute o "pop" apos) [a] [] pos) (tBM X.K "list" rPopAt to (tCons ta tNil)) (dPop0 do_ da) :=
  ⟨pe_bm PySem.F.plainAttrs_list PySem.F.slot_list_pop PySem.F.type_list_pop mt_popAt ho.p (pa_cons ha.p pa_nil hs) hbase hfew hline hs hplain, re_pop0 ho.r ha.r⟩
end
theorem i_pop0 {S : Sl} {M : Mem} {P : PV} {do_ da : DE} (h : do_ S M fun x M1 => (∃ ys, lstOf M1 x = some ys) ∧ da S M1 fun i M2 => ∃ p y xs, x = .loc p ∧ M2 p = some (.lst (y :: xs)) ∧ i = .int 0 ∧ P y (M2.up p (.lst xs))) : dPop0 do_ da S M P := h
end DL
/-! DM4 -/
set_option Elab.async false
set_option linter.all false
set_option autoImplicit false
set_option maxRecDepth 100000
set_option maxHeartbeats 4000000
namespace DL
open PySem L2 RT PyProof.Rows
/-! a def handed on as a value: .loc of its place; a call by a name that holds one of several -/
def dCallR (i : Nat) (R : Addr → FS → Prop) (d : DA) : DE := fun S M P => ∃ f fs, S[i]? = some (some (.loc f)) ∧ R f fs ∧ d S M fun xs M1 => fs xs M1 P PX0
def tCallR (K : PySem.W.Frag) (i : Nat) (R : Addr → FS → Prop) (t : TA) : TE := fun σ H Q => ∃ f fs, σ[i]? = some (some (.ref f)) ∧ R f fs ∧ t σ H fun vs H1 => lift K fs vs H1 Q E0
section
variable {K : PySem.W.Frag} {X : Cx} {e : Expr} {es : List Expr} {t : TA} {d : DA} {pos p : Pos} {x : Str} {k i : Nat} {R : Addr → FS → Prop}
theorem re_callR (h : RA K t d) : RE K (tCallR K i R t) (dCallR i R d) := fun S M P ⟨f, fs, hs, hr, p⟩ G σ H o s Q k => by
  obtain ⟨v, hv, rv⟩ := s.2 i _ hs
  cases rv
  exact ⟨f, fs, hv, hr, h S M _ p G σ H o s _ fun xs M1 vs G1 H1 p1 o1 e1 r1 => ⟨G1, M1, xs, P, PX0, o1, r1, p1, k.mono e1, kx0 G1⟩⟩
/-- a def's promise goes with its place -/
def Kept (X : Cx) (k : Nat) (f : Addr) (fs : FS) : Prop := ∃ (fd : FuncData) (ps : List Str), FnOk X.prog X.w X.K X.mg X.base CX0 k f fd ps (lift X.K fs) ∧ PySem.W.keepIn X.K (.ref f) = true ∧ Binds X.K fd ps []
theorem qe_callR (i : Nat) (A : ∀ f fs, R f fs → Kept X k f fs) (hr : Room k X.A) (ha : QA X (e :: es) t d) (hN : X.N[i]? = some x := by rfl) (hv : Vis X.env.scope x := by first | exact .inl rfl | exact .inr (.inl rfl) | exact .inr (.inr rfl))
    (hdb : (x == ("__debug__" : Str)) = false := by decide) (hcd : (x == ("__classdict__" : Str)) = false := by decide)
    (he : starEach (e :: es) X.env = (false, eval e X.env) :: starEach es X.env := by rfl) (hpl : (backTo pos (starEach es X.env)).any (·.1) = false := by rfl) : QE X (.Call (.Name x p) (e :: es) [] pos) (tCallR X.K i R t) (dCallR i R d) := by
  refine ⟨⟨fun pins s σ H Q I h => ?_⟩, re_callR ha.r⟩
  obtain ⟨f, fs, hs, hR, ht⟩ := h
  obtain ⟨fd, ps, F, hk, hb⟩ := A f fs hR
  refine (pe_callL (i := i) (f := f) (sp := lift X.K fs) (dvs := []) (E := E0) F hr hN hv hk hb .nil pass0 ha.p hdb hcd he hpl).run pins s σ H Q I ⟨hs, ?_⟩
  have e0 : (fun (vs : List V) (H1 : Hp) => lift X.K fs (vs ++ []) H1 Q E0) = fun vs H1 => lift X.K fs vs H1 Q E0 := by
    funext vs H1
    rw [List.append_nil]
  rw [e0]
  exact ht
/-- a def's name as a value -/
theorem qe_glob {f : Addr} (hg : Gl X x) (hm : X.mg x = some (.ref f)) (hd : (x == ("__debug__" : Str)) = false := by decide) : QE X (.Name x pos) (tC (.ref f)) (dC (.loc f)) :=
  ⟨pe_glob hg hm rfl hd, fun S M P p G σ H o s Q k => k (.loc f) M (.ref f) G H p o (Same.refl _) (.loc f)⟩
end
theorem i_callR {S : Sl} {M : Mem} {P : PV} {i : Nat} {R : Addr → FS → Prop} {d : DA} {f : Addr} {fs : FS} (hs : S[i]? = some (some (.loc f))) (hR : R f fs) (h : d S M fun xs M1 => fs xs M1 P PX0) : dCallR i R d S M P := ⟨f, fs, hs, hR, h⟩
/-! trees of parts, told by which indexes lead inward -/
structure Tree (T : Type) where
  dv : T → DV
  kids : T → List (Nat × T)
  cnt : T → Nat
  cnt_eq : ∀ t, cnt t = 1 + ((kids t).map fun z => cnt z.2).sum
  few : ∀ t, (kids t).length ≤ 10
  ix : ∀ t z, z ∈ kids t → ∀ (M : Mem) (P : PV), P (dv z.2) M → dIx (dv t) (.int (z.1 : Int)) M P
namespace Tree
variable {T : Type} (tr : Tree T)
def sum (l : List T) : Nat := (l.map tr.cnt).sum
theorem cnt_pos (t : T) : 1 ≤ tr.cnt t := by rw [tr.cnt_eq]; omega
theorem sum_app (l r : List T) : tr.sum (l ++ r) = tr.sum l + tr.sum r := by simp [sum]
theorem sum_kids (t : T) : tr.sum ((tr.kids t).map Prod.snd) + 1 = tr.cnt t := by
  rw [tr.cnt_eq, sum, List.map_map]
  have : (tr.cnt ∘ Prod.snd : Nat × T → Nat) = fun z => tr.cnt z.2 := rfl
  rw [this]; omega
theorem sum_len (l : List T) : l.length ≤ tr.sum l := by
  induction l with
  | nil => exact Nat.le_refl _
  | cons a r ih =>
    have := tr.cnt_pos a
    simp only [sum, List.map_cons, List.sum_cons, List.length_cons] at ih ⊢
    omega
/-- the parts, a part ahead of those within it, each with the number of that around it and its place there -/
def outs : Nat → List (T × Int × Nat) → Nat → List (T × Int × Nat)
  | 0, _, _ => []
  | _ + 1, [], _ => []
  | f + 1, (t, a, i) :: r, n => (t, a, i) :: outs f (((tr.kids t).map fun z => (z.2, (n : Int), z.1)) ++ r) (n + 1)
def osum (l : List (T × Int × Nat)) : Nat := tr.sum (l.map Prod.fst)
theorem osum_push (t : T) (n : Int) (r : List (T × Int × Nat)) : tr.osum (((tr.kids t).map fun z => (z.2, n, z.1)) ++ r) + 1 = tr.cnt t + tr.osum r := by
  unfold osum
  rw [List.map_append, tr.sum_app, List.map_map]
  have : (Prod.fst ∘ fun z : Nat × T => (z.2, n, z.1)) = Prod.snd := rfl
  rw [this]
  have := tr.sum_kids t
  omega
theorem osum_cons (x : T × Int × Nat) (r : List (T × Int × Nat)) : tr.osum (x :: r) = tr.cnt x.1 + tr.osum r := by
  simp [osum, sum]
theorem outs_len : ∀ (f : Nat) (l : List (T × Int × Nat)) (n : Nat), tr.osum l ≤ f → (tr.outs f l n).length = tr.osum l
  | 0, [], _, _ => rfl
  | 0, x :: r, _, h => by
    have := tr.cnt_pos x.1
    rw [osum_cons] at h; omega
  | f + 1, [], _, _ => rfl
  | f + 1, (t, a, i) :: r, n, h => by
    have h : tr.cnt t + tr.osum r ≤ f + 1 := by rw [osum_cons] at h; exact h
    have q := tr.osum_push t (n : Int) r
    rw [outs, List.length_cons, outs_len f _ (n + 1) (by omega), osum_cons]
    show _ = tr.cnt t + tr.osum r
    omega
/-- all parts of one -/
def all (t : T) : List (T × Int × Nat) := tr.outs (tr.cnt t) [(t, -1, 0)] 0
def outD (x : T × Int × Nat) : DV := .tup [tr.dv x.1, .int x.2.1, .int (x.2.2 : Int)]
/-- the other order: a part behind those within it -/
def ins : Nat → List T → List T
  | 0, _ => []
  | _ + 1, [] => []
  | f + 1, t :: r => t :: ins f (((tr.kids t).map Prod.snd).reverse ++ r)
theorem ins_len : ∀ (f : Nat) (l : List T), tr.sum l ≤ f → (tr.ins f l).length = tr.sum l
  | 0, [], _ => rfl
  | 0, x :: r, h => by
    have := tr.cnt_pos x
    simp only [sum, List.map_cons, List.sum_cons] at h; omega
  | f + 1, [], _ => rfl
  | f + 1, t :: r, h => by
    have e : tr.sum (t :: r) = tr.cnt t + tr.sum r := by simp [sum]
    have q := tr.sum_kids t
    have q2 : tr.sum (((tr.kids t).map Prod.snd).reverse) = tr.sum ((tr.kids t).map Prod.snd) := by simp [sum, List.sum_reverse]
    rw [e] at h ⊢
    rw [ins, List.length_cons, ins_len f _ (by rw [sum_app]; omega), sum_app]
    omega
def inside (t : T) : List T := (tr.ins (tr.cnt t) [t]).reverse
end Tree
/-- readings as trees -/
def Rd.kids : Rd → List (Nat × Rd)
  | .w => []
  | .gb _ t => [(2, t)]
  | .ga _ t => [(2, t)]
  | .bh a b => [(1, a), (2, b)]
  | .ah a b => [(1, a), (2, b)]
def rdTree : Tree Rd where
  dv := Rd.dv
  kids := Rd.kids
  cnt := Rd.cnt
  cnt_eq := fun t => by cases t <;> simp [Rd.kids, Rd.cnt] <;> omega
  few := fun t => by cases t <;> simp [Rd.kids]
  ix := fun t z h M P p => by
    cases t <;> simp only [Rd.kids, List.mem_cons, List.not_mem_nil, or_false] at h
    · subst h; exact i_ixT rfl p
    · subst h; exact i_ixT rfl p
    · rcases h with rfl | rfl
      · exact i_ixT rfl p
      · exact i_ixT rfl p
    · rcases h with rfl | rfl
      · exact i_ixT rfl p
      · exact i_ixT rfl p
/-! d.get(k, x) of a dict of the module -/
def tKGet (K : PySem.W.Frag) (w : World) (dd : Addr) (td ty tx : TE) : TE := fun σ H Q => td σ H fun x H1 => x = .ref dd ∧ ty σ H1 fun y H2 => tx σ H2 fun z H3 => ∃ k, y = .str k ∧ ((∃ v, KDct K w dd k v ∧ Q v H3) ∨ (PySem.W.nsIn K dd k = some none ∧ Q z H3))
section
variable {X : Cx} {o e f : Expr} {td ty tx : TE} {apos cpos : Pos} {dd : Addr} {es : Array DictEntry} {n : Nat}
theorem pe_kget2 (D : KDict X.K X.w dd es n) (ho : PE X o td) (he : PE X e ty) (hf : PE X f tx) (m : M2 X o "get" apos e f cpos) : PE X (.Call (.Attribute o "get" apos) [e, f] [] cpos) (tKGet X.K X.w dd td ty tx) := by
  refine ⟨fun pins s σ H Q I h => ?_⟩
  refine wpAny_Call_method m.base m.few m.line PySem.F.plainAttrs_dict PySem.F.slot_dict_get PySem.F.type_dict_get (thn (ho.run pins s σ H _ I h) fun u s1 ⟨x, H1, I1, rx, ex, q1⟩ => ?_)
  subst ex
  obtain rfl : u = Value.ref dd := rx
  have hm1 := PySem.W.mapOf_K (prog := X.prog) (w := X.w) I1.kIn D.at_ D.lit
  refine ⟨hm1.typeIs, fun b q => by cases q; exact ⟨_, I1.kIn _ _ D.at_, rfl⟩, ?_⟩
  rw [m.trees]
  refine Calls.callWith_builtin rfl (Calls.evalArgs_plain (Calls.spliced_cons (thn (he.run pins s1 σ H1 _ I1 q1) fun iv s2 ⟨y, H2, I2, ry, q2⟩ =>
    Calls.spliced_cons (thn (hf.run pins s2 σ H2 _ I2 q2) fun fv s3 ⟨z, H3, I3, rz, k, ey, q3⟩ => Calls.spliced_nil ?_))))
  subst ey
  obtain ⟨t, rfl⟩ := ry
  have hm3 := PySem.W.mapOf_K (prog := X.prog) (w := X.w) I3.kIn D.at_ D.lit
  refine call_meetsIn PySem.F.slot_dict_get hm3.typeIs PySem.F.entry_dict_get (PySem.F.args_dict_get_3 _ _ _) (meets_dict_get_default (strKind X.prog X.w) dd (strKind_is X.prog X.w k t) D.low fv) ⟨_, hm3, ?_⟩
  rcases q3 with ⟨v, ⟨es2, n2, u0, hl, hk, e0, ru⟩, q⟩ | ⟨e0, q⟩
  · rw [PySem.W.find_K D.at_ e0]
    exact ⟨v, H3, I3.tok _, ru, q⟩
  · rw [PySem.W.find_K D.at_ e0]
    exact ⟨z, H3, I3.tok _, rz, q⟩
end
def dKGet (dd : Addr) (fv : Str → Option DV) (fh : Str → Option Bool) (do_ da db : DE) : DE := fun S M P => do_ S M fun x M1 => x = .loc dd ∧ da S M1 fun y M2 => db S M2 fun z M3 => ∃ k, y = .str k ∧ ((∃ u, fv k = some u ∧ P u M3) ∨ (fh k = some false ∧ P z M3))
section
variable {X : Cx} {K : PySem.W.Frag} {w : World} {o e f : Expr} {to te tf : TE} {do_ de df : DE} {apos cpos : Pos} {dd : Addr} {es : Array DictEntry} {n : Nat} {fv : Str → Option DV} {fh : Str → Option Bool}
theorem re_kget (hv : KVal K w dd fv) (hh : KHas K dd fh) (ho : RE K to do_) (he : RE K te de) (hf : RE K tf df) : RE K (tKGet K w dd to te tf) (dKGet dd fv fh do_ de df) := fun S M P p G σ H ok s Q k =>
  ho S M _ p G σ H ok s _ fun x M1 v G1 H1 ⟨ex, p1⟩ o1 e1 r1 => by
    subst ex; cases r1
    refine ⟨rfl, he S M1 _ p1 G1 σ H1 o1 (s.mono e1) _ fun y M2 v2 G2 H2 p2 o2 e2 r2 => hf S M2 _ p2 G2 σ H2 o2 (s.mono (e1.trans e2)) _ fun z M3 v3 G3 H3 ⟨kk, ey, p3⟩ o3 e3 r3 => ?_⟩
    subst ey; cases r2
    refine ⟨kk, rfl, ?_⟩
    rcases p3 with ⟨u, hu, p3⟩ | ⟨hn, p3⟩
    · obtain ⟨v, h1, h2⟩ := hv kk u hu
      exact .inl ⟨v, h1, k u M3 v G3 H3 p3 o3 ((e1.trans e2).trans e3) (h2 G3)⟩
    · obtain ⟨r, h1, h2⟩ := hh kk false hn
      cases r with
      | none => exact .inr ⟨h1, k z M3 v3 G3 H3 p3 o3 ((e1.trans e2).trans e3) r3⟩
      | some r => cases h2
theorem qe_kget2 (D : KDict X.K X.w dd es n) (hv : KVal X.K X.w dd fv) (hh : KHas X.K dd fh) (ho : QE X o to do_) (he : QE X e te de) (hf : QE X f tf df) (m : M2 X o "get" apos e f cpos := by exact ⟨rfl, rfl, rfl, rfl⟩) :
    QE X (.Call (.Attribute o "get" apos) [e, f] [] cpos) (tKGet X.K X.w dd to te tf) (dKGet dd fv fh do_ de df) := ⟨pe_kget2 D ho.p he.p hf.p m, re_kget hv hh ho.r he.r hf.r⟩
end
theorem i_kget {S : Sl} {M : Mem} {P : PV} {dd : Addr} {fv : Str → Option DV} {fh : Str → Option Bool} {do_ da db : DE} (h : do_ S M fun x M1 => x = .loc dd ∧ da S M1 fun y M2 => db S M2 fun z M3 => ∃ k, y = .str k ∧ ((∃ u, fv k = some u ∧ P u M3) ∨ (fh k = some false ∧ P z M3))) : dKGet dd fv fh do_ da db S M P := h
end DL
/-! Pu -/
set_option Elab.async false
set_option linter.all false
set_option maxRecDepth 100000
set_option maxHeartbeats 4000000
namespace DL
open PySem L2 PyProof.Rows
local macro_rules | `(tactic| walk_at "dl") => `(tactic| repeat (first | (with_reducible refine i_pop0 ?_) | (with_reducible refine i_negC ?_) | (with_reducible refine i_lc2Z ?_) | (with_reducible refine i_enum ?_) | (with_reducible refine i_abs ?_) | ((with_reducible refine' i_augA ?h ?_); case h => exact rfl) | ((with_reducible refine' i_augS ?h ?_); case h => exact rfl) | (with_reducible refine i_aug2 ?_) | (with_reducible refine i_nt ?_) | (with_reducible refine i_nf ?_) | (with_reducible refine i_extZ ?_) | (with_reducible refine i_lsT ?_) | (with_reducible refine i_lsU (by assumption) ?_) | ((with_reducible refine' i_appM ?h ?_); (case h => first | omega | (simp only [List.length_map]; omega) | (simp only [List.length_map, List.length_append, List.length_singleton, List.length_cons, List.length_nil]; omega))) | ((with_reducible refine' i_appUM ?e ?h ?_); (case e => assumption); (case h => first | omega | (simp only [List.length_map]; omega) | (simp only [List.length_map, List.length_append, List.length_singleton, List.length_cons, List.length_nil]; omega))) | ((with_reducible refine' i_appT ?h ?_); case h => first | omega | (simp only [List.length_map]; omega) | (simp only [List.length_map, List.length_append, List.length_singleton, List.length_cons, List.length_nil]; omega)) | ((with_reducible refine' i_appU ?e ?h ?_); (case e => assumption); (case h => first | omega | (simp only [List.length_map]; omega) | (simp only [List.length_map, List.length_append, List.length_singleton, List.length_cons, List.length_nil]; omega))) | (with_reducible refine i_popM ?_) | (with_reducible refine i_truT ?_) | (with_reducible refine i_truU (by assumption) ?_) | (with_reducible refine i_lenT' ?_) | (with_reducible refine i_lenU (by assumption) ?_) | (with_reducible refine i_lenF ?_) | (with_reducible refine i_lenT ?_) | (with_reducible refine i_fz ?_) | (with_reducible refine rt_new ?_) | (with_reducible refine i_slcZ ?_) | (with_reducible refine i_addZ ?_) | ((with_reducible refine' i_len ?h ?_); case h => exact rfl) | ((with_reducible refine' i_eqU ?h ?_); case h => exact rfl) | ((with_reducible refine' i_neU ?h ?_); case h => exact rfl) | ((with_reducible refine' i_inF ?h ?g ?_); (case h => exact rfl); (case g => exact rfl)) | (with_reducible refine i_ixK0 ?_) | (with_reducible refine i_ixP1 ?_) | (with_reducible refine i_ixW1 ?_) | (with_reducible refine i_ixW2 ?_) | (with_reducible refine i_intI ?_) | (with_reducible refine i_intB ?_) | (with_reducible refine i_subL ?_) | (with_reducible refine i_forZ ?_) | (with_reducible refine i_whlZ ?_) | (with_reducible refine i_lcZ ?_) | (with_reducible refine i_rng1 ?_) | (with_reducible refine i_rng2 ?_) | (with_reducible refine i_join ?_) | (with_reducible refine i_revS ?_) | (with_reducible refine i_yes ?_) | (with_reducible refine i_noPt ?_) | (with_reducible refine i_pt ?_) | (with_reducible refine i_seq ?_) | (with_reducible refine i_next ?_) | (with_reducible refine i_asg ?_) | (with_reducible refine i_drop ?_) | (with_reducible refine i_ret ?_) | (with_reducible refine i_name ?_) | (with_reducible refine i_c ?_) | (with_reducible refine i_op ?_) | (with_reducible refine i_test ?_) | (with_reducible refine i_bl ?_) | (with_reducible refine i_truth ?_) | (with_reducible refine i_trub ?_) | (with_reducible refine i_and ?_) | (with_reducible refine i_or ?_) | (with_reducible refine i_not ?_) | (with_reducible refine i_andV ?_) | (with_reducible refine i_orV ?_) | (with_reducible refine i_notV ?_) | (with_reducible refine i_blV ?_) | (with_reducible refine i_if ?_) | (with_reducible refine i_ifE ?_) | (with_reducible refine i_tt ?_) | (with_reducible refine i_ff ?_) | (with_reducible refine i_nil ?_) | (with_reducible refine i_cons ?_) | (with_reducible refine i_tup ?_) | (with_reducible refine i_lst ?_) | (with_reducible refine i_CB ?_) | (with_reducible refine i_call ?_) | (with_reducible refine i_callN ?_) | (with_reducible refine i_I0 ?_) | (with_reducible refine i_appZ ?_) | (with_reducible refine i_dnew ?_) | (with_reducible refine i_revT ?_) | (with_reducible refine i_par3 ?_) | (with_reducible refine i_par32 ?_) | (with_reducible refine i_popZ ?_) | (with_reducible refine i_iterL ?_) | (with_reducible refine i_chain ?_) | (with_reducible refine i_leS ?_) | (with_reducible refine i_par ?_) | (with_reducible refine i_par2 ?_) | (with_reducible refine i_gcons ?_) | (with_reducible refine i_gnil ?_) | ((with_reducible refine' i_var ?h ?_); case h => exact rfl) | ((with_reducible refine' i_ixT ?h ?_); case h => exact rfl) | ((with_reducible refine' i_ixF ?h ?_); case h => exact rfl) | ((with_reducible refine' i_eqS ?h ?_); case h => exact rfl) | ((with_reducible refine' i_gtup ?h ?_); case h => exact rfl)))
local macro_rules | `(tactic| walk_at "dk") => `(tactic| repeat (first | (with_reducible refine i_pop0 ?_) | (with_reducible refine i_negC ?_) | (with_reducible refine i_lc2Z ?_) | (with_reducible refine i_enum ?_) | (with_reducible refine i_abs ?_) | ((with_reducible refine' i_augA ?h ?_); case h => exact rfl) | ((with_reducible refine' i_augS ?h ?_); case h => exact rfl) | (with_reducible refine i_aug2 ?_) | (with_reducible refine i_nt ?_) | (with_reducible refine i_nf ?_) | (with_reducible refine i_extZ ?_) | (with_reducible refine i_lsT ?_) | (with_reducible refine i_lsU (by assumption) ?_) | ((with_reducible refine' i_appM ?h ?_); (case h => first | omega | (simp only [List.length_map]; omega) | (simp only [List.length_map, List.length_append, List.length_singleton, List.length_cons, List.length_nil]; omega))) | ((with_reducible refine' i_appUM ?e ?h ?_); (case e => assumption); (case h => first | omega | (simp only [List.length_map]; omega) | (simp only [List.length_map, List.length_append, List.length_singleton, List.length_cons, List.length_nil]; omega))) | ((with_reducible refine' i_appT ?h ?_); case h => first | omega | (simp only [List.length_map]; omega) | (simp only [List.length_map, List.length_append, List.length_singleton, List.length_cons, List.length_nil]; omega)) | ((with_reducible refine' i_appU ?e ?h ?_); (case e => assumption); (case h => first | omega | (simp only [List.length_map]; omega) | (simp only [List.length_map, List.length_append, List.length_singleton, List.length_cons, List.length_nil]; omega))) | (with_reducible refine i_popM ?_) | (with_reducible refine i_truT ?_) | (with_reducible refine i_truU (by assumption) ?_) | (with_reducible refine i_lenT' ?_) | (with_reducible refine i_lenU (by assumption) ?_) | (with_reducible refine i_lenF ?_) | (with_reducible refine i_lenT ?_) | (with_reducible refine i_fz ?_) | (with_reducible refine i_slcZ ?_) | (with_reducible refine i_addZ ?_) | ((with_reducible refine' i_len ?h ?_); case h => exact rfl) | ((with_reducible refine' i_eqU ?h ?_); case h => exact rfl) | ((with_reducible refine' i_neU ?h ?_); case h => exact rfl) | ((with_reducible refine' i_inF ?h ?g ?_); (case h => exact rfl); (case g => exact rfl)) | (with_reducible refine i_ixK0 ?_) | (with_reducible refine i_ixP1 ?_) | (with_reducible refine i_ixW1 ?_) | (with_reducible refine i_ixW2 ?_) | (with_reducible refine i_intI ?_) | (with_reducible refine i_intB ?_) | (with_reducible refine i_subL ?_) | (with_reducible refine i_forZ ?_) | (with_reducible refine i_whlZ ?_) | (with_reducible refine i_lcZ ?_) | (with_reducible refine i_rng1 ?_) | (with_reducible refine i_rng2 ?_) | (with_reducible refine i_join ?_) | (with_reducible refine i_revS ?_) | (with_reducible refine i_yes ?_) | (with_reducible refine i_noPt ?_) | (with_reducible refine i_pt ?_) | (with_reducible refine i_seq ?_) | (with_reducible refine i_next ?_) | (with_reducible refine i_asg ?_) | (with_reducible refine i_drop ?_) | (with_reducible refine i_ret ?_) | (with_reducible refine i_name ?_) | (with_reducible refine i_c ?_) | (with_reducible refine i_op ?_) | (with_reducible refine i_test ?_) | (with_reducible refine i_bl ?_) | (with_reducible refine i_truth ?_) | (with_reducible refine i_trub ?_) | (with_reducible refine i_and ?_) | (with_reducible refine i_or ?_) | (with_reducible refine i_not ?_) | (with_reducible refine i_andV ?_) | (with_reducible refine i_orV ?_) | (with_reducible refine i_notV ?_) | (with_reducible refine i_blV ?_) | (with_reducible refine i_if ?_) | (with_reducible refine i_ifE ?_) | (with_reducible refine i_tt ?_) | (with_reducible refine i_ff ?_) | (with_reducible refine i_nil ?_) | (with_reducible refine i_cons ?_) | (with_reducible refine i_tup ?_) | (with_reducible refine i_lst ?_) | (with_reducible refine i_CB ?_) | (with_reducible refine i_call ?_) | (with_reducible refine i_callN ?_) | (with_reducible refine i_I0 ?_) | (with_reducible refine i_appZ ?_) | (with_reducible refine i_dnew ?_) | (with_reducible refine i_revT ?_) | (with_reducible refine i_par3 ?_) | (with_reducible refine i_par32 ?_) | (with_reducible refine i_popZ ?_) | (with_reducible refine i_iterL ?_) | (with_reducible refine i_chain ?_) | (with_reducible refine i_leS ?_) | (with_reducible refine i_par ?_) | (with_reducible refine i_par2 ?_) | (with_reducible refine i_gcons ?_) | (with_reducible refine i_gnil ?_) | ((with_reducible refine' i_var ?h ?_); case h => exact rfl) | ((with_reducible refine' i_ixT ?h ?_); case h => exact rfl) | ((with_reducible refine' i_ixF ?h ?_); case h => exact rfl) | ((with_reducible refine' i_eqS ?h ?_); case h => exact rfl) | ((with_reducible refine' i_gtup ?h ?_); case h => exact rfl)))
def has_SIGNS : Str → Option Bool := fun z => if z = "plain" then some false else if z = "behind" ∨ z = "ahead" ∨ z = "with" then some true else none
theorem has_pl : has_SIGNS "plain" = some false := by unfold has_SIGNS; rw [if_pos rfl]
theorem has_fm (f : Fm) : has_SIGNS f.s = some true := by cases f <;> (unfold has_SIGNS; rw [if_neg (by decide), if_pos (by decide)])
theorem khas_SIGNS {K : PySem.W.Frag} {g : Addr} {u1 u2 u3 : Value} (q0 : PySem.W.nsIn K g "plain" = some none) (q1 : PySem.W.nsIn K g "behind" = some (some u1)) (q2 : PySem.W.nsIn K g "ahead" = some (some u2)) (q3 : PySem.W.nsIn K g "with" = some (some u3)) : KHas K g has_SIGNS := by
  intro z b h
  unfold has_SIGNS at h
  by_cases h0 : z = "plain"
  · rw [if_pos h0] at h; cases h; subst h0; exact ⟨_, q0, rfl⟩
  · rw [if_neg h0] at h
    by_cases h1 : z = "behind" ∨ z = "ahead" ∨ z = "with"
    · rw [if_pos h1] at h; cases h
      rcases h1 with rfl | rfl | rfl
      · exact ⟨_, q1, rfl⟩
      · exact ⟨_, q2, rfl⟩
      · exact ⟨_, q3, rfl⟩
    · rw [if_neg h1] at h; cases h
def val_SIGNS : Str → Option DV := fun z => if z = "behind" then some (.tup [.int 1, .int (-1)]) else if z = "ahead" then some (.tup [.int (-1), .int 1]) else if z = "with" then some (.tup [.int 1, .int 1]) else none
def val_TURNED : Str → Option DV := fun z => if z = "behind" then some (.str "ahead") else if z = "ahead" then some (.str "behind") else if z = "with" then some (.str "with") else none
/-! ### is_letter -/
abbrev N_is_letter : List Str := ["text"]
/-- of a sign's text: whether it is a letter -/
def fs_is_letter : FS := fun xs M P _ => ∃ c : Nat, xs = [.str (sg c)] ∧ P (.bl (decide (97 ≤ c ∧ c ≤ 122))) M
theorem len_is_letter : ∀ xs M P Pe, fs_is_letter xs M P Pe → xs.length = 1 := by
  rintro xs M P Pe ⟨c, rfl, _⟩; rfl
theorem sg_lt (c d : Nat) : decide ((sg c).cps.toList < (sg d).cps.toList) = decide (c < d) := by
  have e : ((sg c).cps.toList < (sg d).cps.toList) ↔ c < d := by
    show ([c] < [d]) ↔ c < d
    constructor
    · intro h
      cases h with
      | rel h => exact h
      | cons h => cases h
    · intro h; exact List.Lex.rel h
  rw [decide_eq_decide]; exact e
def d_is_letter : DS := (dRet (dAndV (dOp dEqS (dCB dLen (dCons (dVar 0) dNil)) (dC (.int 1))) (dChain dLeS dLeS (dC (.str "a")) (dVar 0) (dC (.str "z")))))
theorem pure_is_letter : ∀ xs M P Pe, fs_is_letter xs M P Pe → d_is_letter { nx := fun _ M' => Rt P .non M', rt := Rt P } (startD N_is_letter xs) M := by
  rintro xs M P Pe ⟨c, rfl, h⟩
  have hl : (sg c).length = 1 := rfl
  unfold d_is_letter
  walk_at "dl"
  refine ⟨.str (sg c), rfl, (by rw [hl]; decide : (sg c).length ≤ 100000), ?_⟩
  walk_at "dl"
  have ea : (Str.ofString "a") = sg 97 := by decide
  have ez : (Str.ofString "z") = sg 122 := by decide
  rw [ea, ez]
  refine i_t rfl ?_
  walk_at "dl"
  rw [sg_lt]
  by_cases h1 : c < 97
  · rw [decide_eq_true h1]
    refine i_f rfl ?_
    have e : decide (97 ≤ c ∧ c ≤ 122) = false := decide_eq_false (by omega)
    rw [e] at h; exact rt_here h
  · rw [decide_eq_false h1]
    refine i_t rfl ?_
    walk_at "dl"
    rw [sg_lt]
    have e : (!decide (122 < c)) = decide (97 ≤ c ∧ c ≤ 122) := by
      by_cases h2 : 122 < c
      · rw [decide_eq_true h2, decide_eq_false (by omega)]; rfl
      · rw [decide_eq_false h2, decide_eq_true (by omega)]; rfl
    rw [e]; exact rt_here h
/-! ### is_kind_part -/
abbrev N_is_kind_part : List Str := ["part"]
def fs_is_kind_part : FS := fun xs M P _ => ∃ k : Kd, xs = [k.dv] ∧ k.good ∧ P (.bl true) M
theorem len_is_kind_part : ∀ xs M P Pe, fs_is_kind_part xs M P Pe → xs.length = 1 := by
  rintro xs M P Pe ⟨c, rfl, _⟩; rfl
def d_is_kind_part (a_SIGNS : Addr) : DS := (dRet (dOrV (dOp (dInKd a_SIGNS has_SIGNS) (dOp dIx (dVar 0) (dC (.int 0))) (dC (.loc a_SIGNS))) (dAndV (dOp dEqS (dOp dIx (dVar 0) (dC (.int 0))) (dC (.str "plain"))) (dCall fs_is_letter PX0 (dCons (dOp dIx (dVar 0) (dC (.int 1))) dNil)))))
theorem pure_is_kind_part (a_SIGNS : Addr) : ∀ xs M P Pe, fs_is_kind_part xs M P Pe → d_is_kind_part a_SIGNS { nx := fun _ M' => Rt P .non M', rt := Rt P } (startD N_is_kind_part xs) M := by
  rintro xs M P Pe ⟨k, rfl, hk, h⟩
  unfold d_is_kind_part
  walk_at "dl"
  cases k with
  | pl c =>
    refine i_inKd has_pl ?_
    walk_at "dl"
    refine i_t rfl ?_
    walk_at "dl"
    refine ⟨c, rfl, ?_⟩
    rw [decide_eq_true (show 97 ≤ c ∧ c ≤ 122 from hk)]; exact rt_here h
  | tw f a b =>
    refine i_inKd (has_fm f) ?_
    walk_at "dl"
    exact rt_here h
/-! ### parts_of_kind -/
abbrev N_parts_of_kind : List Str := ["kind", "found", "left", "part"]
/-- the list of all parts -/
def fs_parts_of_kind : FS := fun xs M P _ => ∃ k : Kd, xs = [k.dv] ∧ k.size ≤ 1000 ∧ P (.fl (k.parts.map Kd.dv)) M
theorem len_parts_of_kind : ∀ xs M P Pe, fs_parts_of_kind xs M P Pe → xs.length = 1 := by
  rintro xs M P Pe ⟨c, rfl, _⟩; rfl
def d_parts_of_kind (a_SIGNS : Addr) : DS := (dSeq (dAsg (dLst dNil) (dgName 1))
  (dSeq (dAsg (dLst (dCons (dVar 0) dNil)) (dgName 2))
  (dSeq (dWhile (dTruth (dVar 2))
  (dSeq (dAsg (dPop (dVar 2)) (dgName 3))
  (dSeq (dDrop (dAppend (dVar 1) (dVar 3)))
  (dIfS (dTest (dOp (dInKd a_SIGNS has_SIGNS) (dOp dIx (dVar 3) (dC (.int 0))) (dC (.loc a_SIGNS))))
  (dSeq (dDrop (dAppend (dVar 2) (dOp dIx (dVar 3) (dC (.int 2)))))
  (dDrop (dAppend (dVar 2) (dOp dIx (dVar 3) (dC (.int 1))))))
  dNext))))
  (dRet (dVar 1)))))
theorem pure_parts_of_kind (a_SIGNS : Addr) : ∀ xs M P Pe, fs_parts_of_kind xs M P Pe → d_parts_of_kind a_SIGNS { nx := fun _ M' => Rt P .non M', rt := Rt P } (startD N_parts_of_kind xs) M := by
  rintro xs M P Pe ⟨k, rfl, hk, h⟩
  unfold d_parts_of_kind
  walk_at "dl"
  intro p hp
  walk_at "dl"
  intro q hq
  obtain ⟨hqp, hq⟩ := up_none hq
  have hpq := Ne.symm hqp
  walk_at "dl"
  refine ⟨fun m S M1 => ∃ (v : Option DV) (f l : List Kd), S = [some k.dv, some (.loc p), some (.loc q), v] ∧ M1 = (M.up p (.lst (f.map Kd.dv))).up q (.lst (l.map Kd.dv)) ∧ f ++ stackParts l = k.parts ∧ m = (stackParts l).length,
    ⟨_, none, [], [k], rfl, rfl, by simp [stackParts], rfl⟩, ?_⟩
  rintro m S M1 ⟨v, f, l, rfl, rfl, h3, rfl⟩
  have hlen := congrArg List.length h3
  have hpl := k.parts_len
  rw [List.length_append] at hlen
  walk_at "dl"
  rcases List.eq_nil_or_concat l with rfl | ⟨l, x, rfl⟩
  · refine i_f rfl ?_
    walk_at "dl"
    refine rt_und hp hq hpq ?_
    have e : f = k.parts := by simpa [stackParts] using h3
    rw [e]; exact h
  · rw [List.concat_eq_append] at *
    refine i_t (by simp) ?_
    rw [stackParts_add] at h3 hlen ⊢
    walk_at "dl"
    cases x with
    | pl c =>
      walk_at "dl"
      refine i_inKd has_pl ?_
      walk_at "dl"
      exact ⟨_, by simp [Kd.parts], _, f ++ [.pl c], l, rfl, rfl, by rw [← h3]; simp [Kd.parts], rfl⟩
    | tw g a b =>
      walk_at "dl"
      refine i_inKd (has_fm g) ?_
      have hl := stackParts_len l
      have hb := b.size_pos
      have hb2 := b.parts_len
      rw [List.length_append] at hlen
      walk_at "dl"
      refine ⟨_, ?_, _, f ++ [.tw g a b], l ++ [b, a], rfl, by simp, by rw [← h3]; simp [Kd.parts, stackParts], rfl⟩
      simp only [Kd.parts, stackParts, List.length_append, List.length_cons, List.reverse_append, List.flatMap_append, List.reverse_cons, List.reverse_nil, List.nil_append, List.flatMap_cons, List.flatMap_nil, List.singleton_append, List.append_nil]
      omega
/-! ### letters_within -/
abbrev N_letters_within : List Str := ["kind", "part"]
def isPl : Kd → Bool
  | .pl _ => true
  | _ => false
def plOut : Kd → DV
  | .pl c => .str (sg c)
  | _ => .non
theorem pl_lets (k : Kd) : (k.parts.filter isPl).map plOut = k.lets.map fun c => DV.str (sg c) := by
  induction k with
  | pl c => rfl
  | tw f a b ha hb =>
    have e : (Kd.tw f a b).parts.filter isPl = a.parts.filter isPl ++ b.parts.filter isPl := by
      show (Kd.tw f a b :: (a.parts ++ b.parts)).filter isPl = _
      rw [List.filter_cons_of_neg (by simp [isPl]), List.filter_append]
    rw [e, List.map_append, ha, hb, Kd.lets, List.map_append]
def fs_letters_within : FS := fun xs M P _ => ∃ k : Kd, xs = [k.dv] ∧ k.size ≤ 1000 ∧ P (.fl (k.lets.map fun c => DV.str (sg c))) M
theorem len_letters_within : ∀ xs M P Pe, fs_letters_within xs M P Pe → xs.length = 1 := by
  rintro xs M P Pe ⟨c, rfl, _⟩; rfl
def d_letters_within : DS := (dRet (dFz (dLc (dIter (dCall fs_parts_of_kind PX0 (dCons (dVar 0) dNil))) (dgName 1) (dTest (dOp dEqS (dOp dIx (dVar 1) (dC (.int 0))) (dC (.str "plain")))) (dOp dIx (dVar 1) (dC (.int 1))) [1])))
theorem pure_letters_within : ∀ xs M P Pe, fs_letters_within xs M P Pe → d_letters_within { nx := fun _ M' => Rt P .non M', rt := Rt P } (startD N_letters_within xs) M := by
  rintro xs M P Pe ⟨k, rfl, hk, h⟩
  have hpl := k.parts_len
  unfold d_letters_within
  walk_at "dl"
  refine ⟨k, rfl, hk, ?_⟩
  refine i_iterF ?_
  refine lcV k.parts _ plOut isPl (by omega) (fun _ _ => trivial) ?_ (fun x hx M4 Q R e hQ hR => ?_)
  · rw [pl_lets]
    exact rt_here h
  · walk_at "dl"
    cases x with
    | pl c =>
      refine i_t rfl ?_
      walk_at "dl"
      exact hQ rfl
    | tw f a b =>
      refine i_f (fm_ne f) ?_
      exact hR rfl
/-! ### has_with -/
abbrev N_has_with : List Str := ["kind", "part"]
def fs_has_with : FS := fun xs M P _ => ∃ k : Kd, xs = [k.dv] ∧ k.size ≤ 1000 ∧ P (.bl k.hasW) M
theorem len_has_with : ∀ xs M P Pe, fs_has_with xs M P Pe → xs.length = 1 := by
  rintro xs M P Pe ⟨c, rfl, _⟩; rfl
def isW (k : Kd) : Bool := k.head == ("with" : Str)
theorem fm_w (f : Fm) : (f.s == ("with" : Str)) = decide (f = .wi) := by cases f <;> decide
theorem any_isW (k : Kd) : (k.parts.map isW).any id = k.hasW := by
  induction k with
  | pl c => rfl
  | tw f a b ha hb =>
    simp only [Kd.parts, List.map_cons, List.map_append, List.any_cons, List.any_append, ha, hb, Kd.hasW]
    have : isW (.tw f a b) = decide (f = .wi) := fm_w f
    rw [id, this]
def d_has_with : DS := (dRet (dCB dAny (dCons (dFz (dLc (dIter (dCall fs_parts_of_kind PX0 (dCons (dVar 0) dNil))) (dgName 1) dYes (dOp dEqS (dOp dIx (dVar 1) (dC (.int 0))) (dC (.str "with"))) [1])) dNil)))
theorem pure_has_with : ∀ xs M P Pe, fs_has_with xs M P Pe → d_has_with { nx := fun _ M' => Rt P .non M', rt := Rt P } (startD N_has_with xs) M := by
  rintro xs M P Pe ⟨k, rfl, hk, h⟩
  have hpl := k.parts_len
  unfold d_has_with
  walk_at "dl"
  refine ⟨k, rfl, hk, ?_⟩
  refine i_iterF ?_
  refine lcVA k.parts _ (fun x => DV.bl (isW x)) (by omega) (fun _ _ => trivial) ?_ (fun x hx M4 Q R e hQ => ?_)
  · walk_at "dl"
    have hb : blsOf (k.parts.map fun x => DV.bl (isW x)) = some (k.parts.map isW) := by
      have := blsOf_map (k.parts.map isW)
      rw [List.map_map] at this
      exact this
    refine ⟨_, _, _, rfl, rfl, hb, ?_⟩
    rw [any_isW]
    exact rt_here h
  · walk_at "dl"
    exact hQ
/-! ### turn_kind -/
abbrev N_turn_kind : List Str := ["kind"]
def Fm.turn : Fm → Fm
  | .bh => .ah
  | .ah => .bh
  | .wi => .wi
def Kd.turn : Kd → Kd
  | .pl c => .pl c
  | .tw f a b => .tw f.turn b.turn a.turn
theorem val_turn (f : Fm) : val_TURNED f.s = some (.str f.turn.s) := by
  cases f
  · exact if_pos rfl
  · exact (if_neg (by decide)).trans (if_pos rfl)
  · exact (if_neg (by decide)).trans ((if_neg (by decide)).trans (if_pos rfl))
def fs_turn_kind (n : Nat) : FS := fun xs M P _ => ∃ k : Kd, xs = [k.dv] ∧ k.depth ≤ n ∧ P k.turn.dv M
theorem len_turn_kind (n : Nat) : ∀ xs M P Pe, fs_turn_kind n xs M P Pe → xs.length = 1 := by
  rintro xs M P Pe ⟨c, rfl, _⟩; rfl
theorem no_turn_kind : ∀ xs M P Pe, ¬ fs_turn_kind 0 xs M P Pe := by
  rintro xs M P Pe ⟨k, _, h, _⟩
  have := k.depth_pos
  omega
def d_turn_kind (n : Nat) (a_TURNED : Addr) : DS := (dSeq (dIfS (dTest (dOp dEqS (dOp dIx (dVar 0) (dC (.int 0))) (dC (.str "plain"))))
  (dRet (dVar 0))
  dNext)
  (dRet (dTup (dCons (dOp (dIxKd a_TURNED val_TURNED) (dC (.loc a_TURNED)) (dOp dIx (dVar 0) (dC (.int 0)))) (dCons (dCall (fs_turn_kind n) PX0 (dCons (dOp dIx (dVar 0) (dC (.int 2))) dNil)) (dCons (dCall (fs_turn_kind n) PX0 (dCons (dOp dIx (dVar 0) (dC (.int 1))) dNil)) dNil))))))
theorem pure_turn_kind (n : Nat) (a_TURNED : Addr) : ∀ xs M P Pe, fs_turn_kind (n + 1) xs M P Pe → d_turn_kind n a_TURNED { nx := fun _ M' => Rt P .non M', rt := Rt P } (startD N_turn_kind xs) M := by
  rintro xs M P Pe ⟨k, rfl, hk, h⟩
  have h := rt_here h
  unfold d_turn_kind
  walk_at "dl"
  cases k with
  | pl c =>
    refine i_t rfl ?_
    walk_at "dl"
    exact h
  | tw f a b =>
    refine i_f (fm_ne f) ?_
    have hk' : 1 + max a.depth b.depth ≤ n + 1 := hk
    walk_at "dl"
    refine i_ixKd (val_turn f) ?_
    walk_at "dl"
    refine ⟨b, rfl, by omega, ?_⟩
    walk_at "dl"
    refine ⟨a, rfl, by omega, ?_⟩
    walk_at "dl"
    exact h
/-! ### signed_letters -/
abbrev N_signed_letters : List Str := ["kind", "start", "found", "left", "part", "sign", "first_sign", "second_sign", "pair"]
theorem val_signs (f : Fm) : val_SIGNS f.s = some (.tup [.int f.s1, .int f.s2]) := by
  cases f
  · exact if_pos rfl
  · exact (if_neg (by decide)).trans (if_pos rfl)
  · exact (if_neg (by decide)).trans ((if_neg (by decide)).trans (if_pos rfl))
def fs_signed_letters : FS := fun xs M P _ => ∃ (k : Kd) (s0 : Int), xs = [k.dv, .int s0] ∧ Unit1 s0 ∧ k.size ≤ 1000 ∧ P (.fl ((k.sgn s0).map sgD)) M
theorem len_signed_letters : ∀ xs M P Pe, fs_signed_letters xs M P Pe → xs.length = 2 := by
  rintro xs M P Pe ⟨c, s, rfl, _⟩; rfl
def d_signed_letters (a_SIGNS : Addr) : DS := (dSeq (dAsg (dLst dNil) (dgName 2))
  (dSeq (dAsg (dLst (dCons (dTup (dCons (dVar 0) (dCons (dVar 1) dNil))) dNil)) (dgName 3))
  (dSeq (dWhile (dTruth (dVar 3))
  (dSeq (dAsg (dPop (dVar 3)) (dgTup 2 (dgCons (dgName 4) (dgCons (dgName 5) dgNil))))
  (dIfS (dTest (dOp dEqS (dOp dIx (dVar 4) (dC (.int 0))) (dC (.str "plain"))))
  (dDrop (dAppend (dVar 2) (dTup (dCons (dOp dIx (dVar 4) (dC (.int 1))) (dCons (dVar 5) dNil)))))
  (dSeq (dAsg (dOp (dIxKd a_SIGNS val_SIGNS) (dC (.loc a_SIGNS)) (dOp dIx (dVar 4) (dC (.int 0)))) (dgTup 2 (dgCons (dgName 6) (dgCons (dgName 7) dgNil))))
  (dSeq (dAsg (dFz (dLst (dCons (dTup (dCons (dOp dIx (dVar 4) (dC (.int 1))) (dCons (dOp dMul (dVar 5) (dVar 6)) dNil))) (dCons (dTup (dCons (dOp dIx (dVar 4) (dC (.int 2))) (dCons (dOp dMul (dVar 5) (dVar 7)) dNil))) dNil)))) (dgName 8))
  (dDrop (dExtZ (dVar 3) (dIf (dTest (dOp dEqU (dVar 5) (dNeg (dC (.int 1))))) (dVar 8) (dFz (dRevL (dVar 8)))))))))))
  (dRet (dVar 2)))))
theorem pure_signed_letters (a_SIGNS : Addr) : ∀ xs M P Pe, fs_signed_letters xs M P Pe → d_signed_letters a_SIGNS { nx := fun _ M' => Rt P .non M', rt := Rt P } (startD N_signed_letters xs) M := by
  rintro xs M P Pe ⟨k, s0, rfl, hs0, hk, h⟩
  unfold d_signed_letters
  walk_at "dl"
  intro p hp
  walk_at "dl"
  intro q hq
  obtain ⟨hqp, hq⟩ := up_none hq
  have hpq := Ne.symm hqp
  walk_at "dl"
  refine whlM (fun m S M1 => ∃ (v3 v4 v5 v6 v7 : Option DV) (f : List (Nat × Int)) (l : List (Kd × Int)), S = [some k.dv, some (.int s0), some (.loc p), some (.loc q), v3, v4, v5, v6, v7] ∧ M1 = (M.up p (.lst (f.map sgD))).up q (.lst (l.map stsD)) ∧ f ++ stackSg l = k.sgn s0 ∧ m = sumS l ∧ m ≤ 1999 ∧ (∀ x ∈ l, Unit1 x.2)) _
    ⟨none, none, none, none, none, [], [(k, s0)], rfl, rfl, by simp [stackSg], rfl, by simp [sumS]; omega, by simpa using hs0⟩ ?_
  rintro m S M1 ⟨v3, v4, v5, v6, v7, f, l, rfl, rfl, h3, rfl, h4, h5⟩ R hR
  have hln := sumS_len l
  have hlen := congrArg List.length h3
  rw [List.length_append, k.sgn_len] at hlen
  walk_at "dl"
  rcases List.eq_nil_or_concat l with rfl | ⟨l, x, rfl⟩
  · refine i_f rfl ?_
    walk_at "dl"
    refine rt_und hp hq hpq ?_
    have e : f = k.sgn s0 := by simpa [stackSg] using h3
    rw [e]; exact h
  · rw [List.concat_eq_append] at *
    refine i_t (by simp) ?_
    rw [stackSg_add] at h3 hlen
    rw [sumS_add] at h4 hln hR
    have hx1 : sumS [x] = 2 * x.1.size - 1 := by simp [sumS]
    rw [hx1] at h4 hln hR
    have hll := sumS_len l
    obtain ⟨x, s⟩ := x
    have us : Unit1 s := h5 (x, s) (by simp)
    have hus : ∀ y ∈ l, Unit1 y.2 := fun y hy => h5 y (List.mem_append_left _ hy)
    walk_at "dl"
    refine i_gtup (xs := [x.dv, .int s]) rfl ?_
    walk_at "dl"
    cases x with
    | pl c =>
      refine i_t rfl ?_
      walk_at "dl"
      have ef : f.map sgD ++ [.tup [.str (sg c), .int s]] = (f ++ [(c, s)]).map sgD := by simp [sgD]
      rw [ef]
      refine hR (sumS l) _ _ (by show sumS l < sumS l + (2 * 1 - 1); omega) ⟨_, _, _, _, _, f ++ [(c, s)], l, rfl, rfl, by rw [← h3]; simp [Kd.sgn], rfl, by omega, hus⟩
    | tw g a b =>
      have ha := a.size_pos
      have hb := b.size_pos
      have hxs : (Kd.tw g a b).size = a.size + b.size := rfl
      have hxs2 : ((Kd.tw g a b, s) : Kd × Int).fst.size = a.size + b.size := rfl
      obtain ⟨u1, u2⟩ := unit_mul us g
      have m1 : s.natAbs < 2 ^ 10 := by rcases us with rfl | rfl <;> decide
      have m2 : g.s1.natAbs < 2 ^ 10 := by cases g <;> decide
      have m3 : g.s2.natAbs < 2 ^ 10 := by cases g <;> decide
      refine i_f (fm_ne g) ?_
      walk_at "dl"
      refine i_ixKd (val_signs g) ?_
      walk_at "dl"
      refine i_IC (wide_mul (a := 10) (b := 10) m1 m2 (by decide) (by decide) (by decide)) ?_
      walk_at "dl"
      refine i_IC (wide_mul (a := 10) (b := 10) m1 m3 (by decide) (by decide) (by decide)) ?_
      walk_at "dl"
      try refine ⟨1, rfl, ?_⟩
      walk_at "dl"
      have fin : ∀ l2 : List (Kd × Int), sumS l2 = (2 * a.size - 1) + (2 * b.size - 1) → stackSg l2 = (Kd.tw g a b).sgn s → (∀ z ∈ l2, Unit1 z.2) → R [some k.dv, some (.int s0), some (.loc p), some (.loc q), some (Kd.tw g a b).dv, some (.int s), some (.int g.s1), some (.int g.s2), some (.fl [stsD (a, s * g.s1), stsD (b, s * g.s2)])] ((M.up p (.lst (f.map sgD))).up q (.lst ((l ++ l2).map stsD))) := fun l2 q1 q2 q3 => by
        refine hR (sumS (l ++ l2)) _ _ (by rw [sumS_add, q1]; omega) ⟨_, _, _, _, _, f, l ++ l2, rfl, rfl, ?_, rfl, by rw [sumS_add, q1]; omega, fun z hz => ?_⟩
        · rw [← h3, ← q2]; simp [stackSg]
        · rcases List.mem_append.mp hz with hz | hz
          · exact hus z hz
          · exact q3 z hz
      refine i_tf (fun hs => ?_) (fun hs => ?_)
      · have hs' : s = -1 := by simpa using hs
        walk_at "dl"
        refine i_extT rfl (by rw [List.length_map]; simp; omega) ?_
        have := fin [(a, s * g.s1), (b, s * g.s2)] (by simp [sumS]) (by
          have es : (Kd.tw g a b).sgn s = b.sgn (s * g.s2) ++ a.sgn (s * g.s1) := if_pos hs'
          rw [es]; simp [stackSg]) (by
          intro z hz
          simp only [List.mem_cons, List.not_mem_nil, or_false] at hz
          rcases hz with rfl | rfl
          · exact u1
          · exact u2)
        rw [List.map_append] at this
        exact this
      · have hs' : ¬ s = -1 := by simpa using hs
        walk_at "dl"
        refine ⟨_, rfl, ?_⟩
        walk_at "dl"
        refine i_extT rfl (by rw [List.length_map]; simp; omega) ?_
        have := fin [(b, s * g.s2), (a, s * g.s1)] (by simp [sumS]; omega) (by
          have es : (Kd.tw g a b).sgn s = a.sgn (s * g.s1) ++ b.sgn (s * g.s2) := if_neg hs'
          rw [es]; simp [stackSg]) (by
          intro z hz
          simp only [List.mem_cons, List.not_mem_nil, or_false] at hz
          rcases hz with rfl | rfl
          · exact u2
          · exact u1)
        rw [List.map_append] at this
        exact this
/-! ### check_kinds -/
abbrev N_check_kinds : List Str := ["kinds", "kind", "part"]
def fs_check_kinds : FS := fun xs M P _ => ∃ (x : DV) (ks : List Kd), xs = [x] ∧ lstOf M x = some (ks.map Kd.dv) ∧ (∀ k ∈ ks, k.good ∧ k.size ≤ 1000) ∧ P .non M
theorem len_check_kinds : ∀ xs M P Pe, fs_check_kinds xs M P Pe → xs.length = 1 := by
  rintro xs M P Pe ⟨c, _, rfl, _⟩; rfl
def d_check_kinds : DS := (dFor (dIter (dVar 0)) (dgName 1)
  (dFor (dIter (dCall fs_parts_of_kind PX0 (dCons (dVar 1) dNil))) (dgName 2)
  (dIfS (dNotT (dTruth (dCall fs_is_kind_part PX0 (dCons (dVar 2) dNil))))
  dNever
  dNext)))
theorem pure_check_kinds : ∀ xs M P Pe, fs_check_kinds xs M P Pe → d_check_kinds { nx := fun _ M' => Rt P .non M', rt := Rt P } (startD N_check_kinds xs) M := by
  rintro xs M P Pe ⟨x0, ks, rfl, hp, hk, h⟩
  unfold d_check_kinds dFor
  walk_at "dl"
  refine i_iterQ hp ?_
  refine ⟨fun r S2 M2 => ∃ (a b : Option DV) (rs : List Kd), r = rs.map Kd.dv ∧ (∀ k ∈ rs, k.good ∧ k.size ≤ 1000) ∧ S2 = [some x0, a, b] ∧ M2 = M,
    ⟨none, none, ks, rfl, hk, rfl, rfl⟩, ?_, ?_⟩
  · rintro S2 M2 ⟨a, b, rs, _, _, _, rfl⟩
    exact ⟨stand_of hp, rt_here h⟩
  rintro x r S2 M2 ⟨a, b, rs, er, hr, rfl, rfl⟩
  refine ⟨stand_of hp, ?_⟩
  cases rs with
  | nil => simp at er
  | cons k rs =>
    simp only [List.map_cons, List.cons.injEq] at er
    obtain ⟨rfl, rfl⟩ := er
    obtain ⟨hg, hs⟩ := hr k List.mem_cons_self
    walk_at "dl"
    refine ⟨k, rfl, hs, ?_⟩
    refine i_iterF ?_
    refine ⟨fun r S4 M4 => ∃ (b : Option DV) (ps : List Kd), r = ps.map Kd.dv ∧ (∀ k ∈ ps, k.good) ∧ S4 = [some x0, some k.dv, b] ∧ M4 = M2,
      ⟨b, k.parts, rfl, k.parts_good hg, rfl, rfl⟩, fun S4 M4 ⟨b, ps, _, _, hS, e4⟩ => ⟨trivial, some k.dv, b, rs, rfl, fun k hk => hr k (List.mem_cons_of_mem _ hk), hS, e4⟩, ?_⟩
    rintro y r4 S4 M4 ⟨b, ps, er, hps, rfl, rfl⟩
    refine ⟨trivial, ?_⟩
    cases ps with
    | nil => simp at er
    | cons z ps =>
      simp only [List.map_cons, List.cons.injEq] at er
      obtain ⟨rfl, rfl⟩ := er
      walk_at "dl"
      refine ⟨z, rfl, hps z List.mem_cons_self, ?_⟩
      refine i_trub ?_
      refine i_ff ?_
      walk_at "dl"
      exact ⟨some z.dv, ps, rfl, fun k hk => hps k (List.mem_cons_of_mem _ hk), rfl, rfl⟩
/-! ### check_not_empty -/
abbrev N_check_not_empty : List Str := ["row"]
def fs_check_not_empty : FS := fun xs M P _ => ∃ (x : DV) (ys : List DV), xs = [x] ∧ lstOf M x = some ys ∧ ys ≠ [] ∧ P .non M
theorem len_check_not_empty : ∀ xs M P Pe, fs_check_not_empty xs M P Pe → xs.length = 1 := by
  rintro xs M P Pe ⟨p, ys, rfl, _⟩; rfl
def d_check_not_empty : DS := (dIfS (dNotT (dTruth (dVar 0)))
  dNever
  dNext)
theorem pure_check_not_empty : ∀ xs M P Pe, fs_check_not_empty xs M P Pe → d_check_not_empty { nx := fun _ M' => Rt P .non M', rt := Rt P } (startD N_check_not_empty xs) M := by
  rintro xs M P Pe ⟨p, ys, rfl, hp, hn, h⟩
  unfold d_check_not_empty
  walk_at "dl"
  refine i_truQ hp ?_
  cases ys with
  | nil => exact absurd rfl hn
  | cons y r =>
    refine i_f rfl ?_
    walk_at "dl"
    exact rt_here h
/-! ### check_row -/
abbrev N_check_row : List Str := ["row", "others"]
def fs_check_row : FS := fun xs M P _ => ∃ (x y : DV) (ks ls : List Kd), xs = [x, y] ∧ lstOf M x = some (ks.map Kd.dv) ∧ lstOf M y = some (ls.map Kd.dv) ∧ ks ≠ [] ∧ ks.length ≤ 1000 ∧ ls.length ≤ 1000 ∧ (∀ k ∈ ks ++ ls, k.good ∧ k.size ≤ 1000) ∧ P .non M
theorem len_check_row : ∀ xs M P Pe, fs_check_row xs M P Pe → xs.length = 2 := by
  rintro xs M P Pe ⟨c, _, _, _, rfl, _⟩; rfl
def d_check_row : DS := (dSeq (dDrop (dCall fs_check_kinds PX0 (dCons (dOp dAddZ (dVar 0) (dVar 1)) dNil)))
  (dDrop (dCall fs_check_not_empty PX0 (dCons (dVar 0) dNil))))
theorem pure_check_row : ∀ xs M P Pe, fs_check_row xs M P Pe → d_check_row { nx := fun _ M' => Rt P .non M', rt := Rt P } (startD N_check_row xs) M := by
  rintro xs M P Pe ⟨x, y, ks, ls, rfl, hx, hy, hn, hkl, hll, hg, h⟩
  unfold d_check_row
  walk_at "dl"
  refine i_addZQ hx hy (by rw [List.length_map, List.length_map]; omega) ?_
  walk_at "dl"
  refine ⟨_, ks ++ ls, rfl, by rw [List.map_append]; rfl, hg, ?_⟩
  walk_at "dl"
  refine ⟨x, _, rfl, hx, by simpa using hn, ?_⟩
  exact rt_here h
/-! ### check_single -/
abbrev N_check_single : List Str := ["kinds", "kind"]
theorem Kd.one_hasW {k : Kd} (h : k.one) : k.hasW = false := by
  induction k with
  | pl c => rfl
  | tw f a b ha hb =>
    simp only [Kd.hasW, ha h.2.1, hb h.2.2, decide_eq_false h.1]; rfl
def fs_check_single : FS := fun xs M P _ => ∃ (x : DV) (ks : List Kd), xs = [x] ∧ lstOf M x = some (ks.map Kd.dv) ∧ (∀ k ∈ ks, k.one ∧ k.size ≤ 1000) ∧ P .non M
theorem len_check_single : ∀ xs M P Pe, fs_check_single xs M P Pe → xs.length = 1 := by
  rintro xs M P Pe ⟨c, _, rfl, _⟩; rfl
def d_check_single : DS := (dFor (dIter (dVar 0)) (dgName 1)
  (dIfS (dTruth (dCall fs_has_with PX0 (dCons (dVar 1) dNil)))
  dNever
  dNext))
theorem pure_check_single : ∀ xs M P Pe, fs_check_single xs M P Pe → d_check_single { nx := fun _ M' => Rt P .non M', rt := Rt P } (startD N_check_single xs) M := by
  rintro xs M P Pe ⟨x0, ks, rfl, hp, hk, h⟩
  unfold d_check_single
  walk_at "dl"
  refine i_iterQ hp ?_
  refine forL ks _ (fun _ S2 M2 => ∃ a : Option DV, S2 = [some x0, a] ∧ M2 = M) (by
    rintro _ S2 M2 ⟨a, rfl, rfl⟩
    exact stand_of hp) ⟨none, rfl, rfl⟩ ?_ ?_
  · rintro S2 M2 ⟨a, rfl, rfl⟩
    exact rt_here h
  · rintro dn k rm ed S2 M2 ⟨a, rfl, rfl⟩ R hR
    obtain ⟨k1, k2⟩ := hk k (by rw [← ed]; simp)
    walk_at "dl"
    refine ⟨k, rfl, k2, ?_⟩
    rw [k.one_hasW k1]
    walk_at "dl"
    exact hR _ _ ⟨_, rfl, rfl⟩
/-! ### check_single_row -/
abbrev N_check_single_row : List Str := ["row", "others"]
def fs_check_single_row : FS := fun xs M P _ => ∃ (x y : DV) (ks ls : List Kd), xs = [x, y] ∧ lstOf M x = some (ks.map Kd.dv) ∧ lstOf M y = some (ls.map Kd.dv) ∧ ks ≠ [] ∧ ks.length ≤ 1000 ∧ ls.length ≤ 1000 ∧ (∀ k ∈ ks ++ ls, k.ok ∧ k.size ≤ 1000) ∧ P .non M
theorem len_check_single_row : ∀ xs M P Pe, fs_check_single_row xs M P Pe → xs.length = 2 := by
  rintro xs M P Pe ⟨c, _, _, _, rfl, _⟩; rfl
def d_check_single_row : DS := (dSeq (dDrop (dCall fs_check_row PX0 (dCons (dVar 0) (dCons (dVar 1) dNil))))
  (dDrop (dCall fs_check_single PX0 (dCons (dOp dAddZ (dVar 0) (dVar 1)) dNil))))
theorem pure_check_single_row : ∀ xs M P Pe, fs_check_single_row xs M P Pe → d_check_single_row { nx := fun _ M' => Rt P .non M', rt := Rt P } (startD N_check_single_row xs) M := by
  rintro xs M P Pe ⟨x, y, ks, ls, rfl, hx, hy, hn, hkl, hll, hg, h⟩
  unfold d_check_single_row
  walk_at "dl"
  refine ⟨x, y, ks, ls, rfl, hx, hy, hn, hkl, hll, fun k hk => ⟨(hg k hk).1.1, (hg k hk).2⟩, ?_⟩
  walk_at "dl"
  refine i_addZQ hx hy (by rw [List.length_map, List.length_map]; omega) ?_
  walk_at "dl"
  refine ⟨_, ks ++ ls, rfl, by rw [List.map_append]; rfl, fun k hk => ⟨(hg k hk).1.2, (hg k hk).2⟩, ?_⟩
  exact rt_here h
/-! ### letters_in_line -/
abbrev N_letters_in_line : List Str := ["row", "kind", "standing", "part", "letter", "_"]
def stDV (c : Nat) : DV := .str (sg c)
def fs_letters_in_line : FS := fun xs M P _ => ∃ (x : DV) (ks : List Kd) (k : Kd), xs = [x, k.dv] ∧ lstOf M x = some (ks.map Kd.dv) ∧ sizes (ks ++ [k]) ≤ 1000 ∧ P (.fl ((lineOf ks k).map stDV)) M
theorem len_letters_in_line : ∀ xs M P Pe, fs_letters_in_line xs M P Pe → xs.length = 2 := by
  rintro xs M P Pe ⟨c, _, _, rfl, _⟩; rfl
def d_letters_in_line : DS := (dSeq (dAsg (dFz (dLc2 (dIter (dVar 0)) (dgName 3) dYes (dIter (dCall fs_signed_letters PX0 (dCons (dVar 3) (dCons (dC (.int 1)) dNil)))) (dgTup 2 (dgCons (dgName 4) (dgCons (dgName 5) dgNil))) dYes (dVar 4) [3, 4, 5] [4, 5])) (dgName 2))
  (dRet (dOp dAddZ (dVar 2) (dFz (dLc (dIter (dCall fs_signed_letters PX0 (dCons (dVar 1) (dCons (dNeg (dC (.int 1))) dNil)))) (dgTup 2 (dgCons (dgName 4) (dgCons (dgName 5) dgNil))) dYes (dVar 4) [4, 5])))))
theorem pure_letters_in_line : ∀ xs M P Pe, fs_letters_in_line xs M P Pe → d_letters_in_line { nx := fun _ M' => Rt P .non M', rt := Rt P } (startD N_letters_in_line xs) M := by
  rintro xs M P Pe ⟨x, ks, k, rfl, hx, hz, h⟩
  have hk : ∀ z ∈ ks ++ [k], z.size ≤ 1000 := fun z q => Nat.le_trans (sizes_mem q) hz
  have hz1 : sizes ks ≤ 1000 := by rw [sizes_app] at hz; omega
  have hzk : k.size ≤ 1000 := hk k (by simp)
  unfold d_letters_in_line
  walk_at "dl"
  refine i_iterQ hx ?_
  have hl : (ks.flatMap fun z => z.std.map stDV).length = sizes ks := by
    rw [← List.map_flatMap, List.length_map]; exact rowStd_len ks
  refine lc2V ks _ (fun z => z.std.map stDV) (by omega) (fun M2 e => stand_ext hx e) ?_ (fun z hz D acc hD hacc Kc hKc => ?_)
  · walk_at "dl"
    have hl2 : ((k.sgn (-1)).map fun z => stDV z.1).length = k.size := by rw [List.length_map, k.sgn_len]
    refine ⟨k, -1, rfl, .inr rfl, hzk, ?_⟩
    walk_at "dl"
    refine i_iterF ?_
    refine lcVA (k.sgn (-1)) _ (fun z => stDV z.1) (by rw [k.sgn_len]; omega) (fun _ _ => trivial) ?_ (fun z hz M4 Q R e hQ => ?_)
    · refine i_addZF (by rw [hl, hl2]; omega) ?_
      walk_at "dl"
      have e : (ks.flatMap fun z => z.std.map stDV) ++ (k.sgn (-1)).map (fun z => stDV z.1) = (lineOf ks k).map stDV := by
        have e2 : ((k.sgn (-1)).map fun z => stDV z.1) = ((k.sgn (-1)).map Prod.fst).map stDV := by rw [List.map_map]; rfl
        rw [e2, std_neg, lineOf, List.map_append, rowStd, List.map_flatMap]
      rw [e]
      exact rt_here h
    · walk_at "dl"
      refine i_gtup (xs := [.str (sg z.1), .int z.2]) rfl ?_
      walk_at "dl"
      exact hQ
  · walk_at "dl"
    refine ⟨z, 1, rfl, .inl rfl, hk z (by simp [hz]), ?_⟩
    refine i_iterF ?_
    have e : z.std.map stDV = (z.sgn 1).map fun y => stDV y.1 := by rw [Kd.std, List.map_map]; rfl
    rw [e] at hKc hacc
    rw [List.length_map] at hacc
    refine inVA (z.sgn 1) sgD (fun y => stDV y.1) hD hacc (fun _ _ => trivial) hKc (fun y hy M4 Q R e hQ => ?_)
    walk_at "dl"
    refine i_gtup (xs := [.str (sg y.1), .int y.2]) rfl ?_
    walk_at "dl"
    exact hQ
/-! ### line_owners -/
abbrev N_line_owners : List Str := ["row", "kind", "place", "one", "_"]
def inDV (n : Nat) : DV := .int (n : Int)
/-- a new list of the places -/
def fs_line_owners : FS := fun xs M P _ => ∃ (x : DV) (ks : List Kd) (k : Kd), xs = [x, k.dv] ∧ lstOf M x = some (ks.map Kd.dv) ∧ sizes (ks ++ [k]) ≤ 1000 ∧ ∀ p, M p = none → P (.loc p) (M.up p (.lst ((own 0 (ks ++ [k])).map inDV)))
theorem len_line_owners : ∀ xs M P Pe, fs_line_owners xs M P Pe → xs.length = 2 := by
  rintro xs M P Pe ⟨c, _, _, rfl, _⟩; rfl
def d_line_owners : DS := (dRet (dLc2 (dEnum (dCons (dOp dAddZ (dVar 0) (dFz (dLst (dCons (dVar 1) dNil)))) dNil)) (dgTup 2 (dgCons (dgName 2) (dgCons (dgName 3) dgNil))) dYes (dIter (dCall fs_letters_within PX0 (dCons (dVar 3) dNil))) (dgName 4) dYes (dVar 2) [2, 3, 4] [4]))
theorem pure_line_owners : ∀ xs M P Pe, fs_line_owners xs M P Pe → d_line_owners { nx := fun _ M' => Rt P .non M', rt := Rt P } (startD N_line_owners xs) M := by
  rintro xs M P Pe ⟨x, ks, k, rfl, hx, hz, h⟩
  have hlen := sizes_len (ks ++ [k])
  rw [List.length_append, List.length_singleton] at hlen
  unfold d_line_owners
  walk_at "dl"
  refine i_addZQ hx rfl (by rw [List.length_map]; simp; omega) ?_
  walk_at "dl"
  have e : ks.map Kd.dv ++ [k.dv] = (ks ++ [k]).map Kd.dv := by rw [List.map_append]; rfl
  rw [e]
  refine ⟨_, _, rfl, rfl, ?_⟩
  rw [enumD_zip]
  have hl : (((ks ++ [k]).zipIdx 0).flatMap fun z => List.replicate z.1.size (DV.int (z.2 : Int))).length = sizes (ks ++ [k]) := by
    rw [own_dv, List.length_map, own_len]
  refine lc2N ((ks ++ [k]).zipIdx 0) _ (fun z => List.replicate z.1.size (DV.int (z.2 : Int))) (by omega) (fun _ _ => trivial) (fun D hD => ?_) (fun z hz2 D acc hD hacc Kc hKc => ?_)
  · rw [own_dv]
    exact rt_here (h D hD)
  · have hzk : z.1.size ≤ 1000 := Nat.le_trans (sizes_mem (List.fst_mem_of_mem_zipIdx hz2)) hz
    walk_at "dl"
    refine ⟨z.1, rfl, hzk, ?_⟩
    refine i_iterF ?_
    have e2 : List.replicate z.1.size (DV.int (z.2 : Int)) = z.1.lets.map fun _ => DV.int (z.2 : Int) := by
      rw [List.map_const', z.1.lets_len]
    rw [e2] at hKc hacc
    rw [List.length_map] at hacc
    refine inVA z.1.lets _ (fun _ => DV.int (z.2 : Int)) hD hacc (fun _ _ => trivial) hKc (fun y hy M4 Q R e hQ => ?_)
    walk_at "dl"
    exact hQ
/-! ### line -/
abbrev N_line : List Str := ["row", "kind"]
def fs_line : FS := fun xs M P _ => ∃ (x : DV) (ks : List Kd) (k : Kd), xs = [x, k.dv] ∧ lstOf M x = some (ks.map Kd.dv) ∧ ks ≠ [] ∧ sizes (ks ++ [k]) ≤ 1000 ∧ (∀ z ∈ ks ++ [k], z.ok) ∧ P (.str (txtOf (lineOf ks k))) M
theorem len_line : ∀ xs M P Pe, fs_line xs M P Pe → xs.length = 2 := by
  rintro xs M P Pe ⟨c, _, _, rfl, _⟩; rfl
def d_line : DS := (dSeq (dDrop (dCall fs_check_single_row PX0 (dCons (dVar 0) (dCons (dFz (dLst (dCons (dVar 1) dNil))) dNil))))
  (dRet (dJoin (dC (.str "")) (dCall fs_letters_in_line PX0 (dCons (dVar 0) (dCons (dVar 1) dNil))))))
theorem pure_line : ∀ xs M P Pe, fs_line xs M P Pe → d_line { nx := fun _ M' => Rt P .non M', rt := Rt P } (startD N_line xs) M := by
  rintro xs M P Pe ⟨x, ks, k, rfl, hx, hn, hz, hg, h⟩
  have hlen := sizes_len (ks ++ [k])
  rw [List.length_append, List.length_singleton] at hlen
  unfold d_line
  walk_at "dl"
  refine ⟨x, _, ks, [k], rfl, hx, rfl, hn, by omega, by simp, fun z hz' => ⟨hg z hz', Nat.le_trans (sizes_mem hz') hz⟩, ?_⟩
  walk_at "dl"
  refine ⟨_, rfl, ?_⟩
  walk_at "dl"
  refine ⟨x, ks, k, rfl, hx, hz, ?_⟩
  refine i_joinT (l := lineOf ks k) rfl (by rw [lineOf_len]; omega) ?_ rfl
  exact rt_here h
/-! ### owners -/
abbrev N_owners : List Str := ["row", "kind"]
def fs_owners : FS := fun xs M P _ => ∃ (x : DV) (ks : List Kd) (k : Kd), xs = [x, k.dv] ∧ lstOf M x = some (ks.map Kd.dv) ∧ ks ≠ [] ∧ sizes (ks ++ [k]) ≤ 1000 ∧ (∀ z ∈ ks ++ [k], z.ok) ∧ ∀ p, M p = none → P (.loc p) (M.up p (.lst ((own 0 (ks ++ [k])).map inDV)))
theorem len_owners : ∀ xs M P Pe, fs_owners xs M P Pe → xs.length = 2 := by
  rintro xs M P Pe ⟨c, _, _, rfl, _⟩; rfl
def d_owners : DS := (dSeq (dDrop (dCall fs_check_single_row PX0 (dCons (dVar 0) (dCons (dFz (dLst (dCons (dVar 1) dNil))) dNil))))
  (dRet (dCall fs_line_owners PX0 (dCons (dVar 0) (dCons (dVar 1) dNil)))))
theorem pure_owners : ∀ xs M P Pe, fs_owners xs M P Pe → d_owners { nx := fun _ M' => Rt P .non M', rt := Rt P } (startD N_owners xs) M := by
  rintro xs M P Pe ⟨x, ks, k, rfl, hx, hn, hz, hg, h⟩
  have hlen := sizes_len (ks ++ [k])
  rw [List.length_append, List.length_singleton] at hlen
  unfold d_owners
  walk_at "dl"
  refine ⟨x, _, ks, [k], rfl, hx, rfl, hn, by omega, by simp, fun z hz' => ⟨hg z hz', Nat.le_trans (sizes_mem hz') hz⟩, ?_⟩
  walk_at "dl"
  refine ⟨x, ks, k, rfl, hx, hz, fun p hp => ?_⟩
  walk_at "dl"
  exact rt_here (h p hp)
/-! ### turned -/
abbrev N_turned : List Str := ["kind"]
def fs_turned : FS := fun xs M P _ => ∃ k : Kd, xs = [k.dv] ∧ k.good ∧ k.size ≤ 1000 ∧ k.depth ≤ 20 ∧ P k.turn.dv M
theorem len_turned : ∀ xs M P Pe, fs_turned xs M P Pe → xs.length = 1 := by
  rintro xs M P Pe ⟨c, rfl, _⟩; rfl
def d_turned : DS := (dSeq (dDrop (dCall fs_check_kinds PX0 (dCons (dFz (dLst (dCons (dVar 0) dNil))) dNil)))
  (dRet (dCall (fs_turn_kind 20) PX0 (dCons (dVar 0) dNil))))
theorem pure_turned : ∀ xs M P Pe, fs_turned xs M P Pe → d_turned { nx := fun _ M' => Rt P .non M', rt := Rt P } (startD N_turned xs) M := by
  rintro xs M P Pe ⟨k, rfl, hg, hs, hd, h⟩
  unfold d_turned
  walk_at "dl"
  refine ⟨_, [k], rfl, rfl, fun z hz => by rw [List.mem_singleton.mp hz]; exact ⟨hg, hs⟩, ?_⟩
  walk_at "dl"
  refine ⟨k, rfl, hd, ?_⟩
  exact rt_here h
/-! ### turned_row -/
abbrev N_turned_row : List Str := ["row", "kind"]
def fs_turned_row : FS := fun xs M P _ => ∃ (x : DV) (ks : List Kd), xs = [x] ∧ lstOf M x = some (ks.map Kd.dv) ∧ RowOk ks ∧ P (.fl ((ks.reverse.map Kd.turn).map Kd.dv)) M
theorem len_turned_row : ∀ xs M P Pe, fs_turned_row xs M P Pe → xs.length = 1 := by
  rintro xs M P Pe ⟨p, ys, rfl, _⟩; rfl
def d_turned_row : DS := (dSeq (dDrop (dCall fs_check_kinds PX0 (dCons (dVar 0) dNil)))
  (dSeq (dDrop (dCall fs_check_not_empty PX0 (dCons (dVar 0) dNil)))
  (dRet (dFz (dLc (dIter (dFz (dRevL (dVar 0)))) (dgName 1) dYes (dCall (fs_turn_kind 20) PX0 (dCons (dVar 1) dNil)) [1])))))
theorem pure_turned_row : ∀ xs M P Pe, fs_turned_row xs M P Pe → d_turned_row { nx := fun _ M' => Rt P .non M', rt := Rt P } (startD N_turned_row xs) M := by
  rintro xs M P Pe ⟨x, ks, rfl, hx, ⟨hn, hl, hk⟩, h⟩
  unfold d_turned_row
  walk_at "dl"
  refine ⟨x, ks, rfl, hx, fun k q => ⟨(hk k q).1, (hk k q).2.1⟩, ?_⟩
  walk_at "dl"
  refine ⟨x, _, rfl, hx, by simpa using hn, ?_⟩
  walk_at "dl"
  refine ⟨_, hx, ?_⟩
  walk_at "dl"
  rw [← List.map_reverse]
  refine i_iterF ?_
  refine lcVA ks.reverse _ (fun k => k.turn.dv) (by rw [List.length_reverse]; omega) (fun _ _ => trivial) ?_ (fun z hz M4 Q R e hQ => ?_)
  · rw [List.map_map] at h
    exact rt_here h
  · walk_at "dl"
    refine ⟨z, rfl, (hk z (List.mem_reverse.mp hz)).2.2, ?_⟩
    exact hQ
/-! ### _law_pick -/
abbrev N__law_pick : List Str := ["pool", "many", "figure", "blend"]
/-- one draw below n -/
def fs__law_pick : FS := fun xs M P _ => ∃ (p : Addr) (c : Nat) (n : Int) (s : MC) (rest : List DV), xs = [.loc p, .int n] ∧ M p = some s ∧ SrR rest s c ∧ c ≤ 1000000 ∧ 0 < n ∧ n < 1000000 ∧ ∀ r s', 0 ≤ r → r < n → SrR rest s' (c + 1) → P (.int r) (M.up p s')
theorem len__law_pick : ∀ xs M P Pe, fs__law_pick xs M P Pe → xs.length = 2 := by
  rintro xs M P Pe ⟨p, c, n, s, rest, rfl, _⟩; rfl
theorem pickR_top {M : Mem} {p : Addr} {c : Nat} {n : Int} {s : MC} {rest : List DV} {P : PV} (hs : SrR rest s c) (hc : c ≤ 1000000) (h0 : 0 < n) (h1 : n < 1000000) (h : ∀ r s', 0 ≤ r → r < n → SrR rest s' (c + 1) → P (.int r) (M.up p s')) : fs__law_pick [.loc p, .int n] (M.up p s) P PX0 :=
  ⟨p, c, n, s, rest, rfl, up_same, hs, hc, h0, h1, fun r s' r0 r1 q => by rw [up_up]; exact h r s' r0 r1 q⟩
theorem pick_top {M : Mem} {p : Addr} {c : Nat} {n : Int} {s : MC} {P : PV} (hs : SrP s c) (hc : c ≤ 1000000) (h0 : 0 < n) (h1 : n < 1000000) (h : ∀ r s', 0 ≤ r → r < n → SrP s' (c + 1) → P (.int r) (M.up p s')) : fs__law_pick [.loc p, .int n] (M.up p s) P PX0 := by
  obtain ⟨l, hl, hs⟩ := hs
  exact pickR_top hs hc h0 h1 fun r s' r0 r1 q => h r s' r0 r1 ⟨l, hl, q⟩
/-- with a list under way on top -/
theorem pick_und {M : Mem} {p D : Addr} {c : Nat} {n : Int} {s : MC} {l : MC} {P : PV} (hpD : p ≠ D) (hs : SrP s c) (hc : c ≤ 1000000) (h0 : 0 < n) (h1 : n < 1000000) (h : ∀ r s', 0 ≤ r → r < n → SrP s' (c + 1) → P (.int r) ((M.up p s').up D l)) : fs__law_pick [.loc p, .int n] ((M.up p s).up D l) P PX0 := by
  obtain ⟨z, hz, hs⟩ := hs
  exact ⟨p, c, n, s, _, rfl, up_get2 hpD, hs, hc, h0, h1, fun r s' r0 r1 q => by rw [up_under hpD]; exact h r s' r0 r1 ⟨z, hz, q⟩⟩
theorem at0 {a : DV} {r : List DV} : atI (a :: r) 0 = some a := atI_nat (j := 0) rfl
theorem at1 {a b : DV} {r : List DV} : atI (a :: b :: r) 1 = some b := atI_nat (j := 1) rfl
theorem at2 {a b c : DV} {r : List DV} : atI (a :: b :: c :: r) 2 = some c := atI_nat (j := 2) rfl
theorem at3 {a b c d : DV} {r : List DV} : atI (a :: b :: c :: d :: r) 3 = some d := atI_nat (j := 3) rfl
theorem ix0 {a : DV} {r : List DV} : ixN (a :: r).length 0 = some 0 := by
  simp [ixN]
theorem ix2 {a b c : DV} {r : List DV} : ixN (a :: b :: c :: r).length 2 = some 2 := by
  simp [ixN]; omega
def d__law_pick : DS := (dSeq (dIfS (dTest (dOp (dI0 fun i j => .bl (decide (j < i))) (dOp dIx (dVar 0) (dC (.int 0))) (dC (.int 0))))
  (dSeq (dAsg (dOp dMod (dCB dInt (dCons (dOp dIx (dVar 0) (dC (.int 0))) dNil)) (dVar 1)) (dgName 2))
  (dSeq (dAsg (dOp dFdiv (dCB dInt (dCons (dOp dIx (dVar 0) (dC (.int 0))) dNil)) (dVar 1)) (dgSubL (dVar 0) (dC (.int 0))))
  (dRet (dVar 2))))
  dNext)
  (dSeq (dAsg (dOp dAddZ (dOp dIx (dVar 0) (dC (.int 2))) (dC (.int 1))) (dgSubL (dVar 0) (dC (.int 2))))
  (dSeq (dAsg (dOp dMod (dCB dInt (dCons (dOp dAddZ (dOp dPowX (dOp dAddZ (dOp dIx (dVar 0) (dC (.int 1))) (dOp dMulX (dC (.int 32452843)) (dOp dIx (dVar 0) (dC (.int 2))))) (dC (.int 2))) (dOp dMulX (dC (.int 49979687)) (dOp dIx (dVar 0) (dC (.int 2))))) dNil)) (dOp dAddZ (dOp dPowX (dC (.int 10)) (dC (.int 29))) (dC (.int 319)))) (dgName 3))
  (dSeq (dAsg (dOp dMod (dCB dInt (dCons (dOp dAddZ (dOp dPowX (dVar 3) (dC (.int 3))) (dOp dMulX (dC (.int 67867967)) (dVar 3))) dNil)) (dOp dAddZ (dOp dPowX (dC (.int 10)) (dC (.int 31))) (dC (.int 33)))) (dgName 3))
  (dRet (dOp dMod (dCB dInt (dCons (dOp dFdiv (dVar 3) (dC (.int 1000003))) dNil)) (dVar 1)))))))
theorem pure__law_pick : ∀ xs M P Pe, fs__law_pick xs M P Pe → d__law_pick { nx := fun _ M' => Rt P .non M', rt := Rt P } (startD N__law_pick xs) M := by
  rintro xs M P Pe ⟨p, c, n, s, rest, rfl, hp, hs, hc, hn0, hn1, h⟩
  obtain ⟨big, num, cnt, rfl, hb0, hn2, hn3, ht0, ht1⟩ := hs
  have hdiv : n.natAbs.log2 < 9000 := by
    have q : n.natAbs < 2 ^ 20 := by omega
    exact (wide_div (i := 0) hn0 q (by decide) (by decide)).2
  unfold d__law_pick
  walk_at "dl"
  refine i_ixL hp at0 ?_
  walk_at "dl"
  by_cases hb : 0 < big
  · rw [decide_eq_true hb]
    refine i_tt ?_
    walk_at "dl"
    refine i_ixL hp at0 ?_
    walk_at "dl"
    refine i_IC hn0 ?_
    walk_at "dl"
    refine i_ixL hp at0 ?_
    walk_at "dl"
    refine i_IC ⟨hn0, hdiv⟩ ?_
    walk_at "dl"
    refine ⟨p, _, 0, 0, rfl, rfl, hp, ix0, ?_⟩
    walk_at "dl"
    refine rt_here ?_
    exact h _ _ (Int.emod_nonneg _ (by omega)) (Int.emod_lt_of_pos _ hn0) ⟨big / n, num, cnt, rfl, Int.ediv_nonneg hb0 (by omega), hn2, hn3, ht0, by omega⟩
  · rw [decide_eq_false hb]
    refine i_ff ?_
    walk_at "dl"
    refine i_ixL hp at2 ?_
    walk_at "dl"
    refine ⟨p, _, 2, 2, rfl, rfl, hp, ix2, ?_⟩
    have hs2 : SrR rest (.lst ((DV.int big :: .int num :: .int cnt :: rest).set 2 (.int (cnt + 1)))) (c + 1) := ⟨big, num, cnt + 1, rfl, hb0, hn2, hn3, by omega, by omega⟩
    have hp2 : (M.up p (.lst ((DV.int big :: .int num :: .int cnt :: rest).set 2 (.int (cnt + 1))))) p = some (.lst (DV.int big :: .int num :: .int (cnt + 1) :: rest)) := up_same
    walk_at "dl"
    refine i_ixL hp2 at1 ?_
    walk_at "dl"
    refine i_ixL hp2 at2 ?_
    refine i_IC (mulx_ok (a := 64) (b := 64) (by decide) (by omega) (by decide)) ?_
    walk_at "dl"
    refine i_IC (powx_ok (a := 100) (j := 2) (by omega) (by decide)) ?_
    walk_at "dl"
    refine i_ixL hp2 at2 ?_
    refine i_IC (mulx_ok (a := 64) (b := 64) (by decide) (by omega) (by decide)) ?_
    walk_at "dl"
    refine i_IC (powx_ok (a := 64) (j := 29) (by decide) (by decide)) ?_
    walk_at "dl"
    refine i_IC (by show (0 : Int) < 10 ^ 29 + 319; decide) ?_
    generalize hz : (num + 32452843 * (cnt + 1)) ^ (2 : Int).toNat + 49979687 * (cnt + 1) = z
    have e1 : (10 : Int) ^ (29 : Int).toNat + 319 = 100000000000000000000000000319 := by decide
    rw [e1]
    have hz0 : 0 ≤ z % 100000000000000000000000000319 := Int.emod_nonneg _ (by decide)
    have hz1 : z % 100000000000000000000000000319 < 100000000000000000000000000319 := Int.emod_lt_of_pos _ (by decide)
    generalize z % 100000000000000000000000000319 = y at hz0 hz1 ⊢
    walk_at "dl"
    refine i_IC (powx_ok (a := 100) (j := 3) (by omega) (by decide)) ?_
    walk_at "dl"
    refine i_IC (mulx_ok (a := 64) (b := 100) (by decide) (by omega) (by decide)) ?_
    walk_at "dl"
    refine i_IC (powx_ok (a := 64) (j := 31) (by decide) (by decide)) ?_
    walk_at "dl"
    refine i_IC (by show (0 : Int) < 10 ^ 31 + 33; decide) ?_
    walk_at "dl"
    refine i_IC (wide_div (b := 30) (by decide) (by decide) (by decide) (by decide)) ?_
    walk_at "dl"
    refine i_IC hn0 ?_
    walk_at "dl"
    exact rt_here (h _ _ (Int.emod_nonneg _ (by omega)) (Int.emod_lt_of_pos _ hn0) hs2)
/-! ### _law_pool -/
abbrev N__law_pool : List Str := ["script", "spot", "cell", "pool", "signs"]
def fs__law_pool : FS := fun xs M P _ => ∃ (ns : List Int) (i : Nat), xs = [.fl (ns.map DV.int), .int (i : Int)] ∧ ns.length ≤ 63 ∧ i < 100 ∧ (∀ z ∈ ns, Builtin.Int.intBits z ≤ 1048576) ∧ ∀ p s, M p = none → SrP s 1 → P (.loc p) (M.up p s)
theorem len__law_pool : ∀ xs M P Pe, fs__law_pool xs M P Pe → xs.length = 2 := by
  rintro xs M P Pe ⟨c, i, rfl, _⟩; rfl
theorem six_txt {r : Int} (h0 : 0 ≤ r) (h1 : r < 6) : ∃ l, LetR l ∧ atI [DV.str "ab", .str "a", .str "abs", .str "abs", .str "xyz", .str "abcdefghijklmnopqrstuvwxyz"] r = some (.str (txtOf l)) := by
  obtain rfl | rfl | rfl | rfl | rfl | rfl : r = 0 ∨ r = 1 ∨ r = 2 ∨ r = 3 ∨ r = 4 ∨ r = 5 := by omega
  · exact ⟨[97, 98], ⟨by decide, by decide, by decide⟩, rfl⟩
  · exact ⟨[97], ⟨by decide, by decide, by decide⟩, rfl⟩
  · exact ⟨[97, 98, 115], ⟨by decide, by decide, by decide⟩, rfl⟩
  · exact ⟨[97, 98, 115], ⟨by decide, by decide, by decide⟩, rfl⟩
  · exact ⟨[120, 121, 122], ⟨by decide, by decide, by decide⟩, rfl⟩
  · exact ⟨[97, 98, 99, 100, 101, 102, 103, 104, 105, 106, 107, 108, 109, 110, 111, 112, 113, 114, 115, 116, 117, 118, 119, 120, 121, 122], ⟨by decide, by decide, by decide⟩, rfl⟩
theorem i_max2P {a b : Int} {P : PV} {M : Mem} (h : ∀ m : Int, a ≤ m → b ≤ m → (m = a ∨ m = b) → P (.int m) M) : dMax2 [.int a, .int b] M P := by
  show P (.int (if b > a then b else a)) M
  by_cases q : b > a
  · rw [if_pos q]; exact h b (by omega) (Int.le_refl _) (.inr rfl)
  · rw [if_neg q]; exact h a (Int.le_refl _) (by omega) (.inl rfl)
def d__law_pool : DS := (dSeq (dAsg (dIf (dTest (dOp (dI0 fun i j => .bl (decide (i < j))) (dVar 1) (dCB dLen (dCons (dVar 0) dNil)))) (dCB dInt (dCons (dOp dIx (dVar 0) (dVar 1)) dNil)) (dOp dAddZ (dOp dAddZ (dOp dMulX (dC (.int 6151)) (dVar 1)) (dOp dMulX (dC (.int 389)) (dCB dLen (dCons (dVar 0) dNil)))) (dC (.int 17)))) (dgName 2))
  (dSeq (dAsg (dLst (dCons (dCB dMax2 (dCons (dC (.int 0)) (dCons (dOp dSub (dCB dAbs (dCons (dVar 2) dNil)) (dOp dPowX (dC (.int 10)) (dC (.int 18)))) dNil))) (dCons (dOp dMod (dCB dInt (dCons (dOp dAddZ (dOp dAddZ (dOp dMulX (dVar 2) (dC (.int 7001))) (dOp dMulX (dC (.int 15485863)) (dVar 1))) (dC (.int 29))) dNil)) (dOp dAddZ (dOp dPowX (dC (.int 10)) (dC (.int 27))) (dC (.int 103)))) (dCons (dC (.int 0)) dNil)))) (dgName 3))
  (dSeq (dAsg (dFz (dLst (dCons (dC (.str "ab")) (dCons (dC (.str "a")) (dCons (dC (.str "abs")) (dCons (dC (.str "abs")) (dCons (dC (.str "xyz")) (dCons (dC (.str "abcdefghijklmnopqrstuvwxyz")) dNil)))))))) (dgName 4))
  (dSeq (dDrop (dAppend (dVar 3) (dOp dIx (dVar 4) (dCall fs__law_pick PX0 (dCons (dVar 3) (dCons (dC (.int 6)) dNil))))))
  (dRet (dVar 3))))))
theorem pure__law_pool : ∀ xs M P Pe, fs__law_pool xs M P Pe → d__law_pool { nx := fun _ M' => Rt P .non M', rt := Rt P } (startD N__law_pool xs) M := by
  rintro xs M P Pe ⟨ns, i, rfl, hn, hi, hb, h⟩
  unfold d__law_pool
  refine i_seqI (fun S' M' => ∃ cell : Int, Builtin.Int.intBits cell ≤ 1048576 ∧ S' = [some (.fl (ns.map DV.int)), some (.int (i : Int)), some (.int cell), none, none] ∧ M' = M) ?_ ?_
  · rintro S' M' ⟨cell, hc, rfl, rfl⟩
    walk_at "dl"
    refine i_IC (powx_ok (a := 64) (j := 18) (by decide) (by decide)) ?_
    walk_at "dl"
    refine i_max2P fun m m0 _ _ => ?_
    walk_at "dl"
    refine i_IC (mulx_bits hc (by decide) (by decide)) ?_
    walk_at "dl"
    refine i_IC (mulx_ok (a := 64) (b := 64) (by decide) (by omega) (by decide)) ?_
    walk_at "dl"
    refine i_IC (powx_ok (a := 64) (j := 27) (by decide) (by decide)) ?_
    walk_at "dl"
    have e1 : (10 : Int) ^ (27 : Int).toNat + 103 = 1000000000000000000000000103 := by decide
    rw [e1]
    refine i_IC (by show (0 : Int) < 1000000000000000000000000103; decide) ?_
    have hz0 : 0 ≤ (cell * 7001 + 15485863 * (i : Int) + 29) % 1000000000000000000000000103 := Int.emod_nonneg _ (by decide)
    have hz1 : (cell * 7001 + 15485863 * (i : Int) + 29) % 1000000000000000000000000103 < 1000000000000000000000000103 := Int.emod_lt_of_pos _ (by decide)
    generalize (cell * 7001 + 15485863 * (i : Int) + 29) % 1000000000000000000000000103 = y at hz0 hz1 ⊢
    walk_at "dl"
    intro p hp
    walk_at "dl"
    refine pickR_top (rest := []) (c := 0) ⟨m, y, 0, rfl, m0, hz0, hz1, by decide, by decide⟩ (by decide) (by decide) (by decide) fun r s1 r0 r1 hs1 => ?_
    obtain ⟨l, hl, hat⟩ := six_txt r0 r1
    refine i_ixF hat ?_
    obtain ⟨b2, n2, c2, rfl, q1, q2, q3, q4, q5⟩ := hs1
    walk_at "dk"
    exact rt_here (h p _ hp ⟨l, hl, b2, n2, c2, rfl, q1, q2, q3, q4, q5⟩)
  · intro R hR
    walk_at "dl"
    refine i_tf (fun q => ?_) (fun q => ?_)
    · have q : (i : Int) < ((ns.map DV.int).length : Int) := by simpa using q
      rw [List.length_map] at q
      have hlt : i < ns.length := by omega
      have hat : atI (ns.map DV.int) (i : Int) = some (.int ns[i]) := atI_nat (by rw [List.getElem?_map, List.getElem?_eq_getElem hlt]; rfl)
      walk_at "dl"
      refine i_ixF hat ?_
      walk_at "dl"
      exact hR _ _ ⟨ns[i], hb _ (List.getElem_mem hlt), rfl, rfl⟩
    · walk_at "dl"
      refine i_IC (mulx_ok (a := 64) (b := 64) (by decide) (by omega) (by decide)) ?_
      walk_at "dl"
      refine i_IC (mulx_ok (a := 64) (b := 64) (by decide) (by rw [List.length_map]; omega) (by decide)) ?_
      walk_at "dl"
      rw [List.length_map]
      refine hR _ _ ⟨_, ?_, rfl, rfl⟩
      exact Nat.le_trans (PyProof.Rows.intBits_le (k := 64) (by omega)) (by decide)
/-! ### _law_shape -/
abbrev N__law_shape : List Str := ["pool", "most", "cut", "left", "right"]
def fs__law_shape (n : Nat) : FS := fun xs M P _ => ∃ (M0 : Mem) (p : Addr) (c m : Nat) (s : MC), M = M0.up p s ∧ xs = [.loc p, .int (m : Int)] ∧ 1 ≤ m ∧ m ≤ n ∧ m ≤ 1000 ∧ SrP s c ∧ c + 8 * m ≤ 900000 ∧
  ∀ (k : Kd) s', k.ok → k.size ≤ m → SrP s' (c + (8 * m - 4)) → P k.dv (M0.up p s')
theorem len__law_shape (n : Nat) : ∀ xs M P Pe, fs__law_shape n xs M P Pe → xs.length = 2 := by
  rintro xs M P Pe ⟨M0, p, c, m, s, rfl, rfl, _⟩; rfl
theorem no__law_shape : ∀ xs M P Pe, ¬ fs__law_shape 0 xs M P Pe := by
  rintro xs M P Pe ⟨M0, p, c, m, s, rfl, rfl, h, h2, _⟩
  omega
theorem i_ixLetR {l : List Nat} {r : Int} {P : PV} {M : Mem} (hl : LetR l) (h0 : 0 ≤ r) (h1 : r < (l.length : Int)) (h : ∀ c, 97 ≤ c → c ≤ 122 → P (.str (sg c)) M) : dIx (.str (txtOf l)) (.int r) M P := by
  obtain ⟨c, hc, e⟩ := lets_at h0 h1
  obtain ⟨_, l2, l3⟩ := hl
  exact i_ixS (by omega) e (h c (l3 c hc).1 (l3 c hc).2)
/-- the fourth thing of the pool: its letters -/
theorem srp_let {s : MC} {c : Nat} (h : SrP s c) : ∃ l xs, LetR l ∧ s = .lst xs ∧ atI xs 3 = some (.str (txtOf l)) := by
  obtain ⟨l, hl, b, n, t, rfl, _⟩ := h
  exact ⟨l, _, hl, rfl, at3⟩
def d__law_shape (n : Nat) : DS := (dSeq (dIfS (dOrT (dTest (dOp (dI0 fun i j => .bl (decide (i < j))) (dVar 1) (dC (.int 2)))) (dTest (dOp dEqS (dCall fs__law_pick PX0 (dCons (dVar 0) (dCons (dC (.int 3)) dNil))) (dC (.int 0)))))
  (dRet (dTup (dCons (dC (.str "plain")) (dCons (dOp dIx (dOp dIx (dVar 0) (dC (.int 3))) (dCall fs__law_pick PX0 (dCons (dVar 0) (dCons (dCB dLen (dCons (dOp dIx (dVar 0) (dC (.int 3))) dNil)) dNil)))) dNil))))
  dNext)
  (dSeq (dAsg (dOp dAddZ (dC (.int 1)) (dCall fs__law_pick PX0 (dCons (dVar 0) (dCons (dOp dSub (dVar 1) (dC (.int 1))) dNil)))) (dgName 2))
  (dSeq (dPar 3 4 (dCons (dCall (fs__law_shape n) PX0 (dCons (dVar 0) (dCons (dVar 2) dNil))) (dCons (dCall (fs__law_shape n) PX0 (dCons (dVar 0) (dCons (dOp dSub (dVar 1) (dVar 2)) dNil))) dNil)))
  (dRet (dTup (dCons (dOp dIx (dFz (dLst (dCons (dC (.str "behind")) (dCons (dC (.str "ahead")) dNil)))) (dCall fs__law_pick PX0 (dCons (dVar 0) (dCons (dC (.int 2)) dNil)))) (dCons (dVar 3) (dCons (dVar 4) dNil))))))))
theorem pure__law_shape (n : Nat) : ∀ xs M P Pe, fs__law_shape (n + 1) xs M P Pe → d__law_shape n { nx := fun _ M' => Rt P .non M', rt := Rt P } (startD N__law_shape xs) M := by
  rintro xs M P Pe ⟨M0, p, c, m, s, rfl, rfl, m1, mn, mb, hs, hc, h⟩
  unfold d__law_shape
  walk_at "dl"
  refine i_tf (fun qm => ?_) (fun qm => ?_)
  · walk_at "dl"
    obtain ⟨l, xs, hl, rfl, hat⟩ := srp_let hs
    refine i_ixL up_same hat ?_
    walk_at "dl"
    refine i_ixL up_same hat ?_
    walk_at "dl"
    refine i_lenS (by rw [txt_len]; have := hl.2.1; omega) ?_
    rw [txt_len]
    have l1 := hl.1
    have l2 := hl.2.1
    walk_at "dl"
    refine pick_top hs (by omega) (by omega) (by omega) fun r s1 r0 r1 hs1 => ?_
    refine i_ixLetR hl r0 r1 fun b b0 b1 => ?_
    walk_at "dl"
    exact rt_here (h (.pl b) s1 ⟨⟨b0, b1⟩, trivial⟩ m1 (hs1.le (by omega)))
  · walk_at "dl"
    refine pick_top hs (by omega) (by decide) (by decide) fun r0' s1 a0 a1 hs1 => ?_
    walk_at "dl"
    refine i_tf (fun q => ?_) (fun q => ?_)
    · walk_at "dl"
      obtain ⟨l, xs, hl, rfl, hat⟩ := srp_let hs1
      refine i_ixL up_same hat ?_
      walk_at "dl"
      refine i_ixL up_same hat ?_
      walk_at "dl"
      refine i_lenS (by rw [txt_len]; have := hl.2.1; omega) ?_
      rw [txt_len]
      have l1 := hl.1
      have l2 := hl.2.1
      walk_at "dl"
      refine pick_top hs1 (by omega) (by omega) (by omega) fun r s2 r0 r1 hs2 => ?_
      refine i_ixLetR hl r0 r1 fun b b0 b1 => ?_
      walk_at "dl"
      exact rt_here (h (.pl b) s2 ⟨⟨b0, b1⟩, trivial⟩ m1 (hs2.le (by omega)))
    · have q2 : 2 ≤ m := by simp at qm; omega
      walk_at "dl"
      refine pick_top hs1 (by omega) (by omega) (by omega) fun r s2 r0 r1 hs2 => ?_
      obtain ⟨g, hg⟩ : ∃ g : Nat, 1 + r = (g : Int) := ⟨(1 + r).toNat, by omega⟩
      walk_at "dl"
      rw [hg]
      refine ⟨M0, p, _, g, s2, rfl, rfl, by omega, by omega, by omega, hs2, by omega, fun x s3 x1 x2 hs3 => ?_⟩
      walk_at "dl"
      have e : (m : Int) - (g : Int) = ((m - g : Nat) : Int) := by omega
      rw [e]
      refine ⟨M0, p, _, m - g, s3, rfl, rfl, by omega, by omega, by omega, hs3, by omega, fun y s4 y1 y2 hs4 => ?_⟩
      walk_at "dl"
      refine pick_top hs4 (by omega) (by decide) (by decide) fun r s5 r0 r1 hs5 => ?_
      obtain rfl | rfl : r = 0 ∨ r = 1 := by omega
      · refine i_ixF (z := .str "behind") rfl ?_
        walk_at "dl"
        exact rt_here (h (.tw .bh x y) s5 ⟨⟨x1.1, y1.1⟩, by decide, x1.2, y1.2⟩ (by simp only [Kd.size]; omega) (hs5.le (by omega)))
      · refine i_ixF (z := .str "ahead") rfl ?_
        walk_at "dl"
        exact rt_here (h (.tw .ah x y) s5 ⟨⟨x1.1, y1.1⟩, by decide, x1.2, y1.2⟩ (by simp only [Kd.size]; omega) (hs5.le (by omega)))
/-! ### _law_size -/
abbrev N__law_size : List Str := ["shape"]
def fs__law_size (n : Nat) : FS := fun xs M P _ => ∃ k : Kd, xs = [k.dv] ∧ k.depth ≤ n ∧ P (.int (k.size : Int)) M
theorem len__law_size (n : Nat) : ∀ xs M P Pe, fs__law_size n xs M P Pe → xs.length = 1 := by
  rintro xs M P Pe ⟨x, rfl, _⟩; rfl
theorem no__law_size : ∀ xs M P Pe, ¬ fs__law_size 0 xs M P Pe := by
  rintro xs M P Pe ⟨k, _, h, _⟩
  have := k.depth_pos
  omega
def d__law_size (n : Nat) : DS := (dRet (dIf (dTest (dOp dEqS (dOp dIx (dVar 0) (dC (.int 0))) (dC (.str "plain")))) (dC (.int 1)) (dOp dAddZ (dCall (fs__law_size n) PX0 (dCons (dOp dIx (dVar 0) (dC (.int 1))) dNil)) (dCall (fs__law_size n) PX0 (dCons (dOp dIx (dVar 0) (dC (.int 2))) dNil)))))
theorem pure__law_size (n : Nat) : ∀ xs M P Pe, fs__law_size (n + 1) xs M P Pe → d__law_size n { nx := fun _ M' => Rt P .non M', rt := Rt P } (startD N__law_size xs) M := by
  rintro xs M P Pe ⟨k, rfl, kd, h⟩
  have h := rt_here h
  unfold d__law_size
  walk_at "dl"
  cases k with
  | pl c =>
    refine i_t rfl ?_
    exact h
  | tw f a b =>
    have hd : 1 + max a.depth b.depth ≤ n + 1 := kd
    refine i_f (fm_ne f) ?_
    walk_at "dl"
    refine ⟨a, rfl, by omega, ?_⟩
    walk_at "dl"
    refine ⟨b, rfl, by omega, ?_⟩
    walk_at "dl"
    exact h
/-! ### _law_deep -/
abbrev N__law_deep : List Str := ["shape"]
def fs__law_deep (n : Nat) : FS := fun xs M P _ => ∃ k : Kd, xs = [k.dv] ∧ k.depth ≤ n ∧ P (.int (k.depth : Int)) M
theorem len__law_deep (n : Nat) : ∀ xs M P Pe, fs__law_deep n xs M P Pe → xs.length = 1 := by
  rintro xs M P Pe ⟨x, rfl, _⟩; rfl
theorem no__law_deep : ∀ xs M P Pe, ¬ fs__law_deep 0 xs M P Pe := by
  rintro xs M P Pe ⟨k, _, h, _⟩
  have := k.depth_pos
  omega
theorem i_max2N {a b : Nat} {P : PV} {M : Mem} (h : P (.int ((max a b : Nat) : Int)) M) : dMax2 [.int (a : Int), .int (b : Int)] M P := by
  show P (.int (if (b : Int) > (a : Int) then (b : Int) else (a : Int))) M
  have e : (if (b : Int) > (a : Int) then (b : Int) else (a : Int)) = ((max a b : Nat) : Int) := by split <;> omega
  rw [e]; exact h
def d__law_deep (n : Nat) : DS := (dRet (dIf (dTest (dOp dEqS (dOp dIx (dVar 0) (dC (.int 0))) (dC (.str "plain")))) (dC (.int 1)) (dOp dAddZ (dC (.int 1)) (dCB dMax2 (dCons (dCall (fs__law_deep n) PX0 (dCons (dOp dIx (dVar 0) (dC (.int 1))) dNil)) (dCons (dCall (fs__law_deep n) PX0 (dCons (dOp dIx (dVar 0) (dC (.int 2))) dNil)) dNil))))))
theorem pure__law_deep (n : Nat) : ∀ xs M P Pe, fs__law_deep (n + 1) xs M P Pe → d__law_deep n { nx := fun _ M' => Rt P .non M', rt := Rt P } (startD N__law_deep xs) M := by
  rintro xs M P Pe ⟨k, rfl, kd, h⟩
  have h := rt_here h
  unfold d__law_deep
  walk_at "dl"
  cases k with
  | pl c =>
    refine i_t rfl ?_
    exact h
  | tw f a b =>
    have hd : 1 + max a.depth b.depth ≤ n + 1 := kd
    refine i_f (fm_ne f) ?_
    walk_at "dl"
    refine ⟨a, rfl, by omega, ?_⟩
    walk_at "dl"
    refine ⟨b, rfl, by omega, ?_⟩
    walk_at "dl"
    refine i_max2N ?_
    walk_at "dl"
    have e : (1 : Int) + ((max a.depth b.depth : Nat) : Int) = ((Kd.tw f a b).depth : Int) := by
      show (1 : Int) + _ = ((1 + max a.depth b.depth : Nat) : Int)
      omega
    rw [e]
    exact h
/-! ### _law_within -/
abbrev N__law_within : List Str := ["shapes", "sizes", "shape"]
def fs__law_within : FS := fun xs M P _ => ∃ ks : List Kd, xs = [.fl (ks.map Kd.dv)] ∧ ks ≠ [] ∧ ks.length ≤ 1000 ∧ (∀ k ∈ ks, k.depth ≤ 100) ∧ P (.bl (decide (Wn ks))) M
theorem len__law_within : ∀ xs M P Pe, fs__law_within xs M P Pe → xs.length = 1 := by
  rintro xs M P Pe ⟨x, rfl, _⟩; rfl
theorem ints_of {α : Type} (l : List α) (f : α → Nat) : intsOf (l.map fun k => DV.int (f k : Nat)) = some (l.map fun k => ((f k : Nat) : Int)) := by
  have := intsOf_map (l.map fun k => ((f k : Nat) : Int))
  rw [List.map_map] at this
  exact this
theorem sum_of {α : Type} (l : List α) (f : α → Nat) : (l.map fun k => ((f k : Nat) : Int)).sum = (((l.map f).sum : Nat) : Int) := by
  induction l with
  | nil => rfl
  | cons a r ih => simp only [List.map_cons, List.sum_cons, ih, Int.natCast_add]
def d__law_within : DS := (dSeq (dAsg (dFz (dLc (dIter (dVar 0)) (dgName 2) dYes (dCall (fs__law_size 100) PX0 (dCons (dVar 2) dNil)) [2])) (dgName 1))
  (dSeq (dIfS (dOrT (dTest (dOp (dI0 fun i j => .bl (decide (j < i))) (dCB dLen (dCons (dVar 0) dNil)) (dC (.int 7)))) (dOrT (dTest (dOp (dI0 fun i j => .bl (decide (j < i))) (dCB dSum (dCons (dVar 1) dNil)) (dC (.int 14)))) (dTest (dOp (dI0 fun i j => .bl (decide (j < i))) (dCB dMaxL (dCons (dVar 1) dNil)) (dC (.int 7))))))
  (dRet (dC (.bl false)))
  dNext)
  (dRet (dOp (dI0 fun i j => .bl (decide (i < j))) (dCB dMaxL (dCons (dFz (dLc (dIter (dVar 0)) (dgName 2) dYes (dCall (fs__law_deep 100) PX0 (dCons (dVar 2) dNil)) [2])) dNil)) (dC (.int 6))))))
theorem pure__law_within : ∀ xs M P Pe, fs__law_within xs M P Pe → d__law_within { nx := fun _ M' => Rt P .non M', rt := Rt P } (startD N__law_within xs) M := by
  rintro xs M P Pe ⟨ks, rfl, hne, hl, hd, h⟩
  have h := rt_here h
  unfold d__law_within
  walk_at "dl"
  refine i_iterF ?_
  refine lcVA ks _ (fun k => DV.int (k.size : Nat)) (by omega) (fun _ _ => trivial) ?_ (fun x hx M4 Q R e hQ => ?_)
  · have wn : ∀ b : Bool, (b = true ↔ Wn ks) → decide (Wn ks) = b := fun b e => by
      cases b
      · exact decide_eq_false fun q => by have := e.mpr q; cases this
      · exact decide_eq_true (e.mp rfl)
    walk_at "dl"
    rw [List.length_map]
    refine i_tf (fun q => ?_) (fun q => ?_)
    · walk_at "dl"
      rw [wn false (iff_of_false (by decide) fun z => by have := z.1; simp at q; omega)] at h
      exact h
    · walk_at "dl"
      refine ⟨_, _, _, rfl, rfl, ints_of ks Kd.size, ?_⟩
      rw [sum_of]
      walk_at "dl"
      refine i_tf (fun q2 => ?_) (fun q2 => ?_)
      · walk_at "dl"
        rw [wn false (iff_of_false (by decide) fun z => by have := z.2.1; unfold sizes at this; simp at q2; omega)] at h
        exact h
      · walk_at "dl"
        have hpos : 0 < ks.length := List.length_pos_iff.mpr hne
        refine ⟨_, _, _, rfl, rfl, ints_of ks Kd.size, by rw [List.length_map]; exact hpos, fun m m1 m2 => ?_⟩
        walk_at "dl"
        refine i_tf (fun q3 => ?_) (fun q3 => ?_)
        · walk_at "dl"
          rw [wn false (iff_of_false (by decide) fun z => by
            obtain ⟨k, hk, rfl⟩ := List.mem_map.mp m1
            have := (z.2.2 k hk).1; simp at q3; omega)] at h
          exact h
        · walk_at "dl"
          refine i_iterF ?_
          refine lcVA ks _ (fun k => DV.int (k.depth : Nat)) (by omega) (fun _ _ => trivial) ?_ (fun x hx M4 Q R e hQ => ?_)
          · walk_at "dl"
            refine ⟨_, _, _, rfl, rfl, ints_of ks Kd.depth, by rw [List.length_map]; exact hpos, fun d d1 d2 => ?_⟩
            walk_at "dl"
            rw [wn (decide (d < 6)) ?_] at h
            · exact h
            · simp only [decide_eq_true_eq]
              constructor
              · intro z
                refine ⟨by simp at q; omega, by unfold sizes; simp at q2; omega, fun k hk => ⟨?_, ?_⟩⟩
                · have := m2 _ (List.mem_map.mpr ⟨k, hk, rfl⟩)
                  simp at q3; omega
                · have := d2 _ (List.mem_map.mpr ⟨k, hk, rfl⟩)
                  omega
              · intro z
                obtain ⟨k, hk, rfl⟩ := List.mem_map.mp d1
                have := (z.2.2 k hk).2
                omega
          · walk_at "dl"
            refine ⟨x, rfl, hd x hx, ?_⟩
            exact hQ
  · walk_at "dl"
    refine ⟨x, rfl, hd x hx, ?_⟩
    exact hQ
/-! ### _law_wide -/
abbrev N__law_wide : List Str := ["tree"]
def fs__law_wide (n : Nat) : FS := fun xs M P _ => ∃ (t : Rd) (l : List Kd) (x : Kd), xs = [t.dv] ∧ Sh l t x ∧ t.depth ≤ n ∧ P (.int (l.length : Int)) M
theorem len__law_wide (n : Nat) : ∀ xs M P Pe, fs__law_wide n xs M P Pe → xs.length = 1 := by
  rintro xs M P Pe ⟨x, _, _, rfl, _⟩; rfl
theorem no__law_wide : ∀ xs M P Pe, ¬ fs__law_wide 0 xs M P Pe := by
  rintro xs M P Pe ⟨t, _, _, _, _, h, _⟩
  have := t.depth_pos
  omega
def d__law_wide (n : Nat) : DS := (dSeq (dIfS (dTest (dOp dEqS (dOp dIx (dVar 0) (dC (.int 0))) (dC (.str "word"))))
  (dRet (dC (.int 1)))
  dNext)
  (dSeq (dIfS (dTest (dOp dInF (dOp dIx (dVar 0) (dC (.int 0))) (dTup (dCons (dC (.str "givebehind")) (dCons (dC (.str "giveahead")) dNil)))))
  (dRet (dOp dSub (dCall (fs__law_wide n) PX0 (dCons (dOp dIx (dVar 0) (dC (.int 2))) dNil)) (dC (.int 1))))
  dNext)
  (dRet (dOp dAddZ (dCall (fs__law_wide n) PX0 (dCons (dOp dIx (dVar 0) (dC (.int 1))) dNil)) (dCall (fs__law_wide n) PX0 (dCons (dOp dIx (dVar 0) (dC (.int 2))) dNil))))))
theorem pure__law_wide (n : Nat) : ∀ xs M P Pe, fs__law_wide (n + 1) xs M P Pe → d__law_wide n { nx := fun _ M' => Rt P .non M', rt := Rt P } (startD N__law_wide xs) M := by
  rintro xs M P Pe ⟨t, l, x, rfl, hs, td, h⟩
  have h := rt_here h
  unfold d__law_wide
  cases hs with
  | w k =>
    simp only [Rd.dv]
    walk_at "dl"
    refine i_t rfl ?_
    exact h
  | gb hn hs =>
    simp only [Rd.depth] at td
    simp only [Rd.dv]
    walk_at "dl"
    refine i_f rfl ?_
    walk_at "dl"
    refine i_t rfl ?_
    walk_at "dl"
    refine ⟨_, _, _, rfl, hs, by omega, ?_⟩
    walk_at "dl"
    rw [List.length_append, List.length_singleton]
    have e : ((l.length + 1 : Nat) : Int) - 1 = (l.length : Int) := by omega
    rw [e]
    exact h
  | ga hn hs =>
    simp only [Rd.depth] at td
    simp only [Rd.dv]
    walk_at "dl"
    refine i_f rfl ?_
    walk_at "dl"
    refine i_t rfl ?_
    walk_at "dl"
    refine ⟨_, _, _, rfl, hs, by omega, ?_⟩
    walk_at "dl"
    rw [List.length_cons]
    have e : ((l.length + 1 : Nat) : Int) - 1 = (l.length : Int) := by omega
    rw [e]
    exact h
  | bh h1 h2 =>
    simp only [Rd.depth] at td
    simp only [Rd.dv]
    walk_at "dl"
    refine i_f rfl ?_
    walk_at "dl"
    refine i_f rfl ?_
    walk_at "dl"
    refine ⟨_, _, _, rfl, h1, by omega, ?_⟩
    walk_at "dl"
    refine ⟨_, _, _, rfl, h2, by omega, ?_⟩
    walk_at "dl"
    rw [List.length_append, Int.natCast_add] at h
    exact h
  | ah h1 h2 =>
    simp only [Rd.depth] at td
    simp only [Rd.dv]
    walk_at "dl"
    refine i_f rfl ?_
    walk_at "dl"
    refine i_f rfl ?_
    walk_at "dl"
    refine ⟨_, _, _, rfl, h1, by omega, ?_⟩
    walk_at "dl"
    refine ⟨_, _, _, rfl, h2, by omega, ?_⟩
    walk_at "dl"
    rw [List.length_append, Int.natCast_add] at h
    exact h
/-! ### _law_count -/
abbrev N__law_count : List Str := ["tree"]
def fs__law_count (n : Nat) : FS := fun xs M P _ => ∃ t : Rd, xs = [t.dv] ∧ t.depth ≤ n ∧ P (.int (t.cnt : Int)) M
theorem len__law_count (n : Nat) : ∀ xs M P Pe, fs__law_count n xs M P Pe → xs.length = 1 := by
  rintro xs M P Pe ⟨x, rfl, _⟩; rfl
theorem no__law_count : ∀ xs M P Pe, ¬ fs__law_count 0 xs M P Pe := by
  rintro xs M P Pe ⟨t, _, h, _⟩
  have := t.depth_pos
  omega
def d__law_count (n : Nat) : DS := (dSeq (dIfS (dTest (dOp dEqS (dOp dIx (dVar 0) (dC (.int 0))) (dC (.str "word"))))
  (dRet (dC (.int 1)))
  dNext)
  (dSeq (dIfS (dTest (dOp dInF (dOp dIx (dVar 0) (dC (.int 0))) (dTup (dCons (dC (.str "givebehind")) (dCons (dC (.str "giveahead")) dNil)))))
  (dRet (dOp dAddZ (dC (.int 1)) (dCall (fs__law_count n) PX0 (dCons (dOp dIx (dVar 0) (dC (.int 2))) dNil))))
  dNext)
  (dRet (dOp dAddZ (dOp dAddZ (dC (.int 1)) (dCall (fs__law_count n) PX0 (dCons (dOp dIx (dVar 0) (dC (.int 1))) dNil))) (dCall (fs__law_count n) PX0 (dCons (dOp dIx (dVar 0) (dC (.int 2))) dNil))))))
theorem pure__law_count (n : Nat) : ∀ xs M P Pe, fs__law_count (n + 1) xs M P Pe → d__law_count n { nx := fun _ M' => Rt P .non M', rt := Rt P } (startD N__law_count xs) M := by
  rintro xs M P Pe ⟨t, rfl, td, h⟩
  have h := rt_here h
  unfold d__law_count
  cases t with
  | w =>
    simp only [Rd.dv]
    walk_at "dl"
    refine i_t rfl ?_
    exact h
  | gb k t =>
    simp only [Rd.depth] at td
    simp only [Rd.cnt] at h
    simp only [Rd.dv]
    walk_at "dl"
    refine i_f rfl ?_
    walk_at "dl"
    refine i_t rfl ?_
    walk_at "dl"
    refine ⟨_, rfl, by omega, ?_⟩
    walk_at "dl"
    rw [Int.natCast_add] at h
    exact h
  | ga k t =>
    simp only [Rd.depth] at td
    simp only [Rd.cnt] at h
    simp only [Rd.dv]
    walk_at "dl"
    refine i_f rfl ?_
    walk_at "dl"
    refine i_t rfl ?_
    walk_at "dl"
    refine ⟨_, rfl, by omega, ?_⟩
    walk_at "dl"
    rw [Int.natCast_add] at h
    exact h
  | bh a b =>
    simp only [Rd.depth] at td
    simp only [Rd.cnt] at h
    simp only [Rd.dv]
    walk_at "dl"
    refine i_f rfl ?_
    walk_at "dl"
    refine i_f rfl ?_
    walk_at "dl"
    refine ⟨_, rfl, by omega, ?_⟩
    walk_at "dl"
    refine ⟨_, rfl, by omega, ?_⟩
    walk_at "dl"
    rw [Int.natCast_add, Int.natCast_add] at h
    exact h
  | ah a b =>
    simp only [Rd.depth] at td
    simp only [Rd.cnt] at h
    simp only [Rd.dv]
    walk_at "dl"
    refine i_f rfl ?_
    walk_at "dl"
    refine i_f rfl ?_
    walk_at "dl"
    refine ⟨_, rfl, by omega, ?_⟩
    walk_at "dl"
    refine ⟨_, rfl, by omega, ?_⟩
    walk_at "dl"
    rw [Int.natCast_add, Int.natCast_add] at h
    exact h
/-! ### _law_shown -/
abbrev N__law_shown : List Str := ["lane", "tree", "tight", "found", "inner", "cut", "left", "right"]
def fs__law_shown (n : Nat) : FS := fun xs M P _ => ∃ (t : Rd) (l : List Kd) (x : Kd) (b : Bool) (D : Nat), xs = [.fl (l.map Kd.dv), t.dv, .bl b] ∧ Sh l t x ∧ (∀ k ∈ l, k.good ∧ k.depth ≤ D) ∧ (t.all fun k => k.good ∧ k.depth ≤ D) ∧ t.depth ≤ n ∧ D + t.depth ≤ 60 ∧ l.length + t.depth ≤ 500 ∧ (b = true → P .non M) ∧ ((b = true → Wn (l ++ [x])) → P x.dv M)
theorem len__law_shown (n : Nat) : ∀ xs M P Pe, fs__law_shown n xs M P Pe → xs.length = 3 := by
  rintro xs M P Pe ⟨x, _, _, _, _, rfl, _⟩; rfl
theorem no__law_shown : ∀ xs M P Pe, ¬ fs__law_shown 0 xs M P Pe := by
  rintro xs M P Pe ⟨t, _, _, _, _, _, _, _, _, h, _⟩
  have := t.depth_pos
  omega
def d__law_shown (n : Nat) : DS := (dSeq (dAsg (dC .non) (dgName 3))
  (dSeq (dIfS (dTest (dOp dEqS (dOp dIx (dVar 1) (dC (.int 0))) (dC (.str "word"))))
  (dAsg (dIf (dTest (dOp dEqS (dCB dLen (dCons (dVar 0) dNil)) (dC (.int 1)))) (dOp dIx (dVar 0) (dC (.int 0))) (dC .non)) (dgName 3))
  (dIfS (dTest (dOp dEqS (dOp dIx (dVar 1) (dC (.int 0))) (dC (.str "givebehind"))))
  (dSeq (dAsg (dCall (fs__law_shown n) PX0 (dCons (dOp dAddZ (dVar 0) (dFz (dLst (dCons (dOp dIx (dVar 1) (dC (.int 1))) dNil)))) (dCons (dOp dIx (dVar 1) (dC (.int 2))) (dCons (dVar 2) dNil)))) (dgName 4))
  (dAsg (dIf (dTest (dOp dIsN (dVar 4) (dC .non))) (dC .non) (dTup (dCons (dC (.str "behind")) (dCons (dVar 4) (dCons (dOp dIx (dVar 1) (dC (.int 1))) dNil))))) (dgName 3)))
  (dIfS (dTest (dOp dEqS (dOp dIx (dVar 1) (dC (.int 0))) (dC (.str "giveahead"))))
  (dSeq (dAsg (dCall (fs__law_shown n) PX0 (dCons (dOp dAddZ (dFz (dLst (dCons (dOp dIx (dVar 1) (dC (.int 1))) dNil))) (dVar 0)) (dCons (dOp dIx (dVar 1) (dC (.int 2))) (dCons (dVar 2) dNil)))) (dgName 4))
  (dAsg (dIf (dTest (dOp dIsN (dVar 4) (dC .non))) (dC .non) (dTup (dCons (dC (.str "ahead")) (dCons (dOp dIx (dVar 1) (dC (.int 1))) (dCons (dVar 4) dNil))))) (dgName 3)))
  (dSeq (dAsg (dCall (fs__law_wide 60) PX0 (dCons (dOp dIx (dVar 1) (dC (.int 1))) dNil)) (dgName 5))
  (dSeq (dPar 6 7 (dCons (dCall (fs__law_shown n) PX0 (dCons (dSlcZ (dVar 0) dNoPt (dPt (dVar 5))) (dCons (dOp dIx (dVar 1) (dC (.int 1))) (dCons (dVar 2) dNil)))) (dCons (dCall (fs__law_shown n) PX0 (dCons (dSlcZ (dVar 0) (dPt (dVar 5)) dNoPt) (dCons (dOp dIx (dVar 1) (dC (.int 2))) (dCons (dVar 2) dNil)))) dNil)))
  (dSeq (dIfS (dOrT (dTest (dOp dIsN (dVar 6) (dC .non))) (dTest (dOp dIsN (dVar 7) (dC .non))))
  (dRet (dC .non))
  dNext)
  (dSeq (dIfS (dAndT (dTest (dOp dEqS (dOp dIx (dVar 1) (dC (.int 0))) (dC (.str "behind")))) (dAndT (dTest (dOp dEqS (dOp dIx (dVar 6) (dC (.int 0))) (dC (.str "behind")))) (dTest (dOp dEqU (dOp dIx (dVar 6) (dC (.int 2))) (dVar 7)))))
  (dAsg (dOp dIx (dVar 6) (dC (.int 1))) (dgName 3))
  dNext)
  (dIfS (dAndT (dTest (dOp dEqS (dOp dIx (dVar 1) (dC (.int 0))) (dC (.str "ahead")))) (dAndT (dTest (dOp dEqS (dOp dIx (dVar 7) (dC (.int 0))) (dC (.str "ahead")))) (dTest (dOp dEqU (dOp dIx (dVar 7) (dC (.int 1))) (dVar 6)))))
  (dAsg (dOp dIx (dVar 7) (dC (.int 2))) (dgName 3))
  dNext))))))))
  (dSeq (dIfS (dOrT (dTest (dOp dIsN (dVar 3) (dC .non))) (dAndT (dTruth (dVar 2)) (dNotT (dTruth (dCall fs__law_within PX0 (dCons (dOp dAddZ (dVar 0) (dFz (dLst (dCons (dVar 3) dNil)))) dNil))))))
  (dRet (dC .non))
  dNext)
  (dRet (dVar 3)))))
theorem pure__law_shown (n : Nat) : ∀ xs M P Pe, fs__law_shown (n + 1) xs M P Pe → d__law_shown n { nx := fun _ M' => Rt P .non M', rt := Rt P } (startD N__law_shown xs) M := by
  rintro xs M P Pe ⟨t, l, x, b, D, rfl, hs, hl, ht, td, tD, ll, h1, h2⟩
  have xg : x.good := hs.good (fun k hk => (hl k hk).1) (Rd.all_mono (fun k q => q.1) ht)
  have xd := hs.deep (fun k hk => (hl k hk).2) (Rd.all_mono (fun k q => q.2) ht)
  unfold d__law_shown
  refine i_seqI (fun S' M' => ∃ v4 v5 v6 v7, M' = M ∧ S' = [some (.fl (l.map Kd.dv)), some t.dv, some (.bl b), some .non, v4, v5, v6, v7]) ?_ (fun R hR => by
    walk_at "dl"
    exact hR _ _ ⟨_, _, _, _, rfl, rfl⟩)
  rintro S' M' ⟨v4, v5, v6, v7, rfl, rfl⟩
  refine i_seqI (fun S' M2 => ∃ f v4 v5 v6 v7, M2 = M' ∧ S' = [some (.fl (l.map Kd.dv)), some t.dv, some (.bl b), some f, v4, v5, v6, v7] ∧ (f = .non ∧ b = true ∨ f = x.dv)) ?_ ?_
  · rintro S' M2 ⟨f, v4, v5, v6, v7, rfl, rfl, hf⟩
    rcases hf with ⟨rfl, rfl⟩ | rfl
    · walk_at "dl"
      refine i_isN (c := true) rfl ?_
      walk_at "dl"
      exact rt_here (h1 rfl)
    · walk_at "dl"
      refine i_isN (c := false) (by cases x <;> rfl) ?_
      walk_at "dl"
      cases b with
      | false =>
        walk_at "dl"
        exact rt_here (h2 (fun z => by cases z))
      | true =>
        walk_at "dl"
        refine i_addZF (by simp only [List.length_map, List.length_singleton]; omega) ?_
        walk_at "dl"
        refine ⟨l ++ [x], by simp, by simp, by rw [List.length_append, List.length_singleton]; omega, fun k hk => ?_, ?_⟩
        · rcases List.mem_append.mp hk with q | q
          · have := (hl k q).2; omega
          · rw [List.mem_singleton.mp q]; omega
        walk_at "dl"
        refine i_tf (fun q => ?_) (fun q => ?_)
        · walk_at "dl"
          exact rt_here (h1 rfl)
        · walk_at "dl"
          refine rt_here (h2 fun _ => ?_)
          simpa using q
  · intro R hR
    cases hs with
    | w k =>
      simp only [Rd.dv]
      walk_at "dl"
      refine i_t rfl ?_
      walk_at "dl"
      refine i_t rfl ?_
      walk_at "dl"
      exact hR _ _ ⟨_, _, _, _, _, rfl, rfl, .inr rfl⟩
    | gb hn hs =>
      rename_i k x t
      simp only [Rd.depth] at td tD ll xd
      simp only [Rd.dv]
      walk_at "dl"
      refine i_f rfl ?_
      walk_at "dl"
      refine i_t rfl ?_
      walk_at "dl"
      refine i_addZF (by simp only [List.length_map, List.length_singleton]; omega) ?_
      walk_at "dl"
      refine ⟨t, l ++ [k], x, b, D, by simp, hs, fun z hz => ?_, ht.2, by omega, by omega, by simp only [List.length_append, List.length_singleton, List.length_cons, List.length_nil]; omega, fun e => ?_, fun e => ?_⟩
      · rcases List.mem_append.mp hz with q | q
        · exact hl z q
        · rw [List.mem_singleton.mp q]; exact ht.1
      · walk_at "dl"
        refine i_isN (c := true) rfl ?_
        walk_at "dl"
        exact hR _ _ ⟨_, _, _, _, _, rfl, rfl, .inl ⟨rfl, e⟩⟩
      · walk_at "dl"
        refine i_isN (c := false) (by cases x <;> rfl) ?_
        walk_at "dl"
        exact hR _ _ ⟨_, _, _, _, _, rfl, rfl, .inr rfl⟩
    | ga hn hs =>
      rename_i k x t
      simp only [Rd.depth] at td tD ll xd
      simp only [Rd.dv]
      walk_at "dl"
      refine i_f rfl ?_
      walk_at "dl"
      refine i_f rfl ?_
      walk_at "dl"
      refine i_t rfl ?_
      walk_at "dl"
      refine i_addZF (by simp only [List.length_map, List.length_singleton]; omega) ?_
      walk_at "dl"
      refine ⟨t, k :: l, x, b, D, by simp, hs, fun z hz => ?_, ht.2, by omega, by omega, by simp only [List.length_append, List.length_singleton, List.length_cons, List.length_nil]; omega, fun e => ?_, fun e => ?_⟩
      · rcases List.mem_cons.mp hz with q | q
        · rw [q]; exact ht.1
        · exact hl z q
      · walk_at "dl"
        refine i_isN (c := true) rfl ?_
        walk_at "dl"
        exact hR _ _ ⟨_, _, _, _, _, rfl, rfl, .inl ⟨rfl, e⟩⟩
      · walk_at "dl"
        refine i_isN (c := false) (by cases x <;> rfl) ?_
        walk_at "dl"
        exact hR _ _ ⟨_, _, _, _, _, rfl, rfl, .inr rfl⟩
    | bh hs1 hs2 =>
      rename_i l r a a2 y
      simp only [Rd.depth] at td tD ll xd
      have e1 : cutD ((l ++ r).map Kd.dv) none (some (l.length : Int)) = l.map Kd.dv := by rw [cut_to_map, List.take_left]
      have e2 : cutD ((l ++ r).map Kd.dv) (some (l.length : Int)) none = r.map Kd.dv := by rw [cut_from_map, List.drop_left]
      have hl1 : ∀ k ∈ l, k.good ∧ k.depth ≤ D := fun k hk => hl k (by simp [hk])
      have hl2 : ∀ k ∈ r, k.good ∧ k.depth ≤ D := fun k hk => hl k (by simp [hk])
      rw [List.length_append] at ll
      have yg : (y : Kd).good := hs2.good (fun k hk => (hl2 k hk).1) (Rd.all_mono (fun k q => q.1) ht.2)
      have yd := hs2.deep (fun k hk => (hl2 k hk).2) (Rd.all_mono (fun k q => q.2) ht.2)
      simp only [Rd.dv]
      walk_at "dl"
      refine i_f rfl ?_
      walk_at "dl"
      refine i_f rfl ?_
      walk_at "dl"
      refine i_f rfl ?_
      walk_at "dl"
      refine ⟨a, l, _, rfl, hs1, by omega, ?_⟩
      walk_at "dl"
      refine ⟨_, rfl, ?_⟩
      rw [e1]
      walk_at "dl"
      refine ⟨a, l, _, b, D, rfl, hs1, hl1, ht.1, by omega, by omega, by omega, fun e => ?_, fun e => ?_⟩
      · walk_at "dl"
        refine ⟨_, rfl, ?_⟩
        rw [e2]
        walk_at "dl"
        refine ⟨a2, r, _, b, D, rfl, hs2, hl2, ht.2, by omega, by omega, by omega, fun _ => ?_, fun _ => ?_⟩
        all_goals
          walk_at "dl"
          refine i_isN (c := true) rfl ?_
          walk_at "dl"
          exact rt_here (h1 e)
      · walk_at "dl"
        refine ⟨_, rfl, ?_⟩
        rw [e2]
        walk_at "dl"
        refine ⟨a2, r, _, b, D, rfl, hs2, hl2, ht.2, by omega, by omega, by omega, fun e' => ?_, fun _ => ?_⟩
        · walk_at "dl"
          refine i_isN (c := false) (by first | rfl | (cases y <;> rfl)) ?_
          walk_at "dl"
          refine i_isN (c := true) rfl ?_
          walk_at "dl"
          exact rt_here (h1 e')
        · walk_at "dl"
          refine i_isN (c := false) (by first | rfl | (cases y <;> rfl)) ?_
          walk_at "dl"
          refine i_isN (c := false) (by first | rfl | (cases y <;> rfl)) ?_
          walk_at "dl"
          refine i_t rfl ?_
          walk_at "dl"
          refine i_t rfl ?_
          walk_at "dl"
          have ey : stn M' y.dv = y.dv := by cases y <;> rfl
          have yp : Pl 62 (stn M' y.dv) := by
            rw [ey]
            exact kd_pl yg (by omega)
          refine i_eqZ yp yp (by decide) (by decide) (fun _ => ?_) (fun z => absurd rfl z)
          walk_at "dl"
          refine i_f rfl ?_
          walk_at "dl"
          exact hR _ _ ⟨_, _, _, _, _, rfl, rfl, .inr rfl⟩
    | ah hs1 hs2 =>
      rename_i l r a a2 y
      simp only [Rd.depth] at td tD ll xd
      have e1 : cutD ((l ++ r).map Kd.dv) none (some (l.length : Int)) = l.map Kd.dv := by rw [cut_to_map, List.take_left]
      have e2 : cutD ((l ++ r).map Kd.dv) (some (l.length : Int)) none = r.map Kd.dv := by rw [cut_from_map, List.drop_left]
      have hl1 : ∀ k ∈ l, k.good ∧ k.depth ≤ D := fun k hk => hl k (by simp [hk])
      have hl2 : ∀ k ∈ r, k.good ∧ k.depth ≤ D := fun k hk => hl k (by simp [hk])
      rw [List.length_append] at ll
      have yg : ((.tw .ah y x) : Kd).good := hs2.good (fun k hk => (hl2 k hk).1) (Rd.all_mono (fun k q => q.1) ht.2)
      have yd := hs2.deep (fun k hk => (hl2 k hk).2) (Rd.all_mono (fun k q => q.2) ht.2)
      simp only [Rd.dv]
      walk_at "dl"
      refine i_f rfl ?_
      walk_at "dl"
      refine i_f rfl ?_
      walk_at "dl"
      refine i_f rfl ?_
      walk_at "dl"
      refine ⟨a, l, _, rfl, hs1, by omega, ?_⟩
      walk_at "dl"
      refine ⟨_, rfl, ?_⟩
      rw [e1]
      walk_at "dl"
      refine ⟨a, l, _, b, D, rfl, hs1, hl1, ht.1, by omega, by omega, by omega, fun e => ?_, fun e => ?_⟩
      · walk_at "dl"
        refine ⟨_, rfl, ?_⟩
        rw [e2]
        walk_at "dl"
        refine ⟨a2, r, _, b, D, rfl, hs2, hl2, ht.2, by omega, by omega, by omega, fun _ => ?_, fun _ => ?_⟩
        all_goals
          walk_at "dl"
          refine i_isN (c := true) rfl ?_
          walk_at "dl"
          exact rt_here (h1 e)
      · walk_at "dl"
        refine ⟨_, rfl, ?_⟩
        rw [e2]
        walk_at "dl"
        refine ⟨a2, r, _, b, D, rfl, hs2, hl2, ht.2, by omega, by omega, by omega, fun e' => ?_, fun _ => ?_⟩
        · walk_at "dl"
          refine i_isN (c := false) (by first | rfl | (cases y <;> rfl)) ?_
          walk_at "dl"
          refine i_isN (c := true) rfl ?_
          walk_at "dl"
          exact rt_here (h1 e')
        · walk_at "dl"
          refine i_isN (c := false) (by first | rfl | (cases y <;> rfl)) ?_
          walk_at "dl"
          refine i_isN (c := false) (by first | rfl | (cases y <;> rfl)) ?_
          walk_at "dl"
          refine i_f rfl ?_
          walk_at "dl"
          refine i_t rfl ?_
          walk_at "dl"
          refine i_t rfl ?_
          walk_at "dl"
          have ey : stn M' y.dv = y.dv := by cases y <;> rfl
          have yp : Pl 62 (stn M' y.dv) := by
            rw [ey]
            exact kd_pl yg.1 (by simp only [Kd.depth] at yd; omega)
          refine i_eqZ yp yp (by decide) (by decide) (fun _ => ?_) (fun z => absurd rfl z)
          walk_at "dl"
          exact hR _ _ ⟨_, _, _, _, _, rfl, rfl, .inr rfl⟩
/-! ### _law_put -/
abbrev N__law_put : List Str := ["tree", "spot", "more", "cut"]
def fs__law_put (n : Nat) : FS := fun xs M P _ => ∃ (t m : Rd) (l : List Kd) (x : Kd) (s : Nat), xs = [t.dv, .int (s : Int), m.dv] ∧ Sh l t x ∧ t.depth ≤ n ∧ n ≤ 60 ∧ P (t.put s m).dv M
theorem len__law_put (n : Nat) : ∀ xs M P Pe, fs__law_put n xs M P Pe → xs.length = 3 := by
  rintro xs M P Pe ⟨x, _, _, _, _, rfl, _⟩; rfl
theorem no__law_put : ∀ xs M P Pe, ¬ fs__law_put 0 xs M P Pe := by
  rintro xs M P Pe ⟨t, _, _, _, _, _, _, h, _⟩
  have := t.depth_pos
  omega
def d__law_put (n : Nat) : DS := (dSeq (dIfS (dTest (dOp dEqS (dOp dIx (dVar 0) (dC (.int 0))) (dC (.str "word"))))
  (dRet (dVar 2))
  dNext)
  (dSeq (dIfS (dTest (dOp dEqS (dOp dIx (dVar 0) (dC (.int 0))) (dC (.str "givebehind"))))
  (dRet (dTup (dCons (dOp dIx (dVar 0) (dC (.int 0))) (dCons (dOp dIx (dVar 0) (dC (.int 1))) (dCons (dCall (fs__law_put n) PX0 (dCons (dOp dIx (dVar 0) (dC (.int 2))) (dCons (dVar 1) (dCons (dVar 2) dNil)))) dNil)))))
  dNext)
  (dSeq (dIfS (dTest (dOp dEqS (dOp dIx (dVar 0) (dC (.int 0))) (dC (.str "giveahead"))))
  (dRet (dTup (dCons (dOp dIx (dVar 0) (dC (.int 0))) (dCons (dOp dIx (dVar 0) (dC (.int 1))) (dCons (dCall (fs__law_put n) PX0 (dCons (dOp dIx (dVar 0) (dC (.int 2))) (dCons (dOp dAddZ (dVar 1) (dC (.int 1))) (dCons (dVar 2) dNil)))) dNil)))))
  dNext)
  (dSeq (dAsg (dCall (fs__law_wide 60) PX0 (dCons (dOp dIx (dVar 0) (dC (.int 1))) dNil)) (dgName 3))
  (dSeq (dIfS (dTest (dOp (dI0 fun i j => .bl (decide (i < j))) (dVar 1) (dVar 3)))
  (dRet (dTup (dCons (dOp dIx (dVar 0) (dC (.int 0))) (dCons (dCall (fs__law_put n) PX0 (dCons (dOp dIx (dVar 0) (dC (.int 1))) (dCons (dVar 1) (dCons (dVar 2) dNil)))) (dCons (dOp dIx (dVar 0) (dC (.int 2))) dNil)))))
  dNext)
  (dRet (dTup (dCons (dOp dIx (dVar 0) (dC (.int 0))) (dCons (dOp dIx (dVar 0) (dC (.int 1))) (dCons (dCall (fs__law_put n) PX0 (dCons (dOp dIx (dVar 0) (dC (.int 2))) (dCons (dOp dSub (dVar 1) (dVar 3)) (dCons (dVar 2) dNil)))) dNil))))))))))
theorem pure__law_put (n : Nat) : ∀ xs M P Pe, fs__law_put (n + 1) xs M P Pe → d__law_put n { nx := fun _ M' => Rt P .non M', rt := Rt P } (startD N__law_put xs) M := by
  rintro xs M P Pe ⟨t, m, l, x, s, rfl, hs, td, nd, h⟩
  have h := rt_here h
  unfold d__law_put
  cases hs with
  | w k =>
    simp only [Rd.dv]
    walk_at "dl"
    refine i_t rfl ?_
    walk_at "dl"
    exact h
  | gb hn hs =>
    simp only [Rd.depth] at td
    simp only [Rd.put, Rd.dv] at h
    simp only [Rd.dv]
    walk_at "dl"
    refine i_f rfl ?_
    walk_at "dl"
    refine i_t rfl ?_
    walk_at "dl"
    refine ⟨_, m, _, _, s, rfl, hs, by omega, by omega, ?_⟩
    walk_at "dl"
    exact h
  | ga hn hs =>
    simp only [Rd.depth] at td
    simp only [Rd.put, Rd.dv] at h
    simp only [Rd.dv]
    walk_at "dl"
    refine i_f rfl ?_
    walk_at "dl"
    refine i_f rfl ?_
    walk_at "dl"
    refine i_t rfl ?_
    walk_at "dl"
    refine ⟨_, m, _, _, s + 1, rfl, hs, by omega, by omega, ?_⟩
    walk_at "dl"
    exact h
  | bh h1 h2 =>
    rename_i l r a b y _
    simp only [Rd.depth] at td
    have hw := h1.wide
    simp only [Rd.put] at h
    simp only [Rd.dv]
    walk_at "dl"
    refine i_f rfl ?_
    walk_at "dl"
    refine i_f rfl ?_
    walk_at "dl"
    refine i_f rfl ?_
    walk_at "dl"
    refine ⟨_, _, _, rfl, h1, by omega, ?_⟩
    walk_at "dl"
    refine i_tf (fun q => ?_) (fun q => ?_)
    · have q : s < a.wide := by simp at q; omega
      rw [if_pos q] at h
      walk_at "dl"
      refine ⟨_, m, _, _, s, rfl, h1, by omega, by omega, ?_⟩
      walk_at "dl"
      exact h
    · have q : ¬ s < a.wide := by simp at q; omega
      rw [if_neg q] at h
      walk_at "dl"
      have e : (s : Int) - (l.length : Int) = ((s - a.wide : Nat) : Int) := by omega
      rw [e]
      refine ⟨_, m, _, _, s - a.wide, rfl, h2, by omega, by omega, ?_⟩
      walk_at "dl"
      exact h
  | ah h1 h2 =>
    rename_i l r a b y _
    simp only [Rd.depth] at td
    have hw := h1.wide
    simp only [Rd.put] at h
    simp only [Rd.dv]
    walk_at "dl"
    refine i_f rfl ?_
    walk_at "dl"
    refine i_f rfl ?_
    walk_at "dl"
    refine i_f rfl ?_
    walk_at "dl"
    refine ⟨_, _, _, rfl, h1, by omega, ?_⟩
    walk_at "dl"
    refine i_tf (fun q => ?_) (fun q => ?_)
    · have q : s < a.wide := by simp at q; omega
      rw [if_pos q] at h
      walk_at "dl"
      refine ⟨_, m, _, _, s, rfl, h1, by omega, by omega, ?_⟩
      walk_at "dl"
      exact h
    · have q : ¬ s < a.wide := by simp at q; omega
      rw [if_neg q] at h
      walk_at "dl"
      have e : (s : Int) - (l.length : Int) = ((s - a.wide : Nat) : Int) := by omega
      rw [e]
      refine ⟨_, m, _, _, s - a.wide, rfl, h2, by omega, by omega, ?_⟩
      walk_at "dl"
      exact h
/-! ### _law_eta -/
abbrev N__law_eta : List Str := ["tree", "shape"]
def fs__law_eta : FS := fun xs M P _ => ∃ (t : Rd) (x : Kd), xs = [t.dv, x.dv] ∧ P (eta t x).dv M
theorem len__law_eta : ∀ xs M P Pe, fs__law_eta xs M P Pe → xs.length = 2 := by
  rintro xs M P Pe ⟨x, _, rfl, _⟩; rfl
def d__law_eta : DS := (dSeq (dIfS (dTest (dOp dEqS (dOp dIx (dVar 1) (dC (.int 0))) (dC (.str "behind"))))
  (dRet (dTup (dCons (dC (.str "givebehind")) (dCons (dOp dIx (dVar 1) (dC (.int 2))) (dCons (dTup (dCons (dC (.str "behind")) (dCons (dVar 0) (dCons (dTup (dCons (dC (.str "word")) dNil)) dNil)))) dNil)))))
  dNext)
  (dSeq (dIfS (dTest (dOp dEqS (dOp dIx (dVar 1) (dC (.int 0))) (dC (.str "ahead"))))
  (dRet (dTup (dCons (dC (.str "giveahead")) (dCons (dOp dIx (dVar 1) (dC (.int 1))) (dCons (dTup (dCons (dC (.str "ahead")) (dCons (dTup (dCons (dC (.str "word")) dNil)) (dCons (dVar 0) dNil)))) dNil)))))
  dNext)
  (dRet (dVar 0))))
theorem pure__law_eta : ∀ xs M P Pe, fs__law_eta xs M P Pe → d__law_eta { nx := fun _ M' => Rt P .non M', rt := Rt P } (startD N__law_eta xs) M := by
  rintro xs M P Pe ⟨t, x, rfl, h⟩
  have h := rt_here h
  unfold d__law_eta
  walk_at "dl"
  cases x with
  | pl c =>
    refine i_f rfl ?_
    walk_at "dl"
    refine i_f rfl ?_
    walk_at "dl"
    exact h
  | tw f a b =>
    cases f with
    | bh =>
      refine i_t rfl ?_
      walk_at "dl"
      exact h
    | ah =>
      refine i_f rfl ?_
      walk_at "dl"
      refine i_t rfl ?_
      walk_at "dl"
      exact h
    | wi =>
      refine i_f rfl ?_
      walk_at "dl"
      refine i_f rfl ?_
      walk_at "dl"
      exact h
/-! ### _law_given -/
abbrev N__law_given : List Str := ["way", "lane", "tree", "shape"]
def fs__law_given : FS := fun xs M P _ => ∃ (way : Int) (l : List Kd) (t : Rd) (x : Kd), xs = [.int way, .fl (l.map Kd.dv), t.dv, x.dv] ∧ Mk 7 40 6 l t x ∧ 2 ≤ l.length ∧ ∀ l' t' x', Mk 14 43 8 l' t' x' → P (tripD l' t' x') M
theorem len__law_given : ∀ xs M P Pe, fs__law_given xs M P Pe → xs.length = 4 := by
  rintro xs M P Pe ⟨x, _, _, _, rfl, _⟩; rfl
theorem Mk.le {N C L N' C' L' : Nat} {l : List Kd} {t : Rd} {x : Kd} (h : Mk N C L l t x) (h1 : N ≤ N') (h2 : C ≤ C') (h3 : L ≤ L') : Mk N' C' L' l t x :=
  ⟨h.sh, fun k hk => ⟨(h.ok k hk).1, Nat.le_trans (h.ok k hk).2 h1⟩, ⟨h.xk.1, Nat.le_trans h.xk.2 h1⟩, h.tk, Nat.le_trans h.cn h2, Nat.le_trans h.ln h3⟩
def d__law_given : DS := (dSeq (dIfS (dTest (dOp dEqS (dVar 0) (dC (.int 4))))
  (dRet (dTup (dCons (dSlcZ (dVar 1) dNoPt (dPt (dNeg (dC (.int 1))))) (dCons (dTup (dCons (dC (.str "givebehind")) (dCons (dOp dIx (dVar 1) (dNeg (dC (.int 1)))) (dCons (dVar 2) dNil)))) (dCons (dTup (dCons (dC (.str "behind")) (dCons (dVar 3) (dCons (dOp dIx (dVar 1) (dNeg (dC (.int 1)))) dNil)))) dNil)))))
  dNext)
  (dSeq (dIfS (dTest (dOp dEqS (dVar 0) (dC (.int 5))))
  (dRet (dTup (dCons (dSlcZ (dVar 1) (dPt (dC (.int 1))) dNoPt) (dCons (dTup (dCons (dC (.str "giveahead")) (dCons (dOp dIx (dVar 1) (dC (.int 0))) (dCons (dVar 2) dNil)))) (dCons (dTup (dCons (dC (.str "ahead")) (dCons (dOp dIx (dVar 1) (dC (.int 0))) (dCons (dVar 3) dNil)))) dNil)))))
  dNext)
  (dSeq (dIfS (dTest (dOp dEqS (dVar 0) (dC (.int 6))))
  (dRet (dTup (dCons (dVar 1) (dCons (dTup (dCons (dC (.str "behind")) (dCons (dTup (dCons (dC (.str "givebehind")) (dCons (dOp dIx (dVar 1) (dNeg (dC (.int 1)))) (dCons (dVar 2) dNil)))) (dCons (dTup (dCons (dC (.str "word")) dNil)) dNil)))) (dCons (dVar 3) dNil)))))
  dNext)
  (dRet (dTup (dCons (dVar 1) (dCons (dTup (dCons (dC (.str "ahead")) (dCons (dTup (dCons (dC (.str "word")) dNil)) (dCons (dTup (dCons (dC (.str "giveahead")) (dCons (dOp dIx (dVar 1) (dC (.int 0))) (dCons (dVar 2) dNil)))) dNil)))) (dCons (dVar 3) dNil))))))))
theorem pure__law_given : ∀ xs M P Pe, fs__law_given xs M P Pe → d__law_given { nx := fun _ M' => Rt P .non M', rt := Rt P } (startD N__law_given xs) M := by
  rintro xs M P Pe ⟨way, l, t, x, rfl, hm, h2, h⟩
  have hcn := hm.cn
  have hln := hm.ln
  unfold d__law_given
  walk_at "dl"
  obtain ⟨u, k, rfl⟩ : ∃ u k, l = u ++ [k] := by
    rcases List.eq_nil_or_concat l with rfl | ⟨u, k, rfl⟩
    · simp at h2
    · exact ⟨u, k, List.concat_eq_append⟩
  have hu : u ≠ [] := by
    rintro rfl; simp at h2
  have hk := hm.ok k (by simp)
  have hul : u.length + 1 ≤ 6 := by rw [List.length_append] at hln; exact hln
  have ht' := hm.tk
  have hlast : atI ((u ++ [k]).map Kd.dv) (-1) = some k.dv := by rw [List.map_append]; exact atI_last _ _
  have gb : Mk 14 43 8 u (.gb k t) (.tw .bh x k) := ⟨.gb hu hm.sh, fun z hz => ⟨(hm.ok z (by simp [hz])).1, by have := (hm.ok z (by simp [hz])).2; omega⟩, ⟨⟨⟨hm.xk.1.1, hk.1.1⟩, by decide, hm.xk.1.2, hk.1.2⟩, by have := hm.xk.2; have := hk.2; simp only [Kd.size]; omega⟩, ⟨⟨hk.1, by omega⟩, ht'⟩, by simp only [Rd.cnt]; omega, by omega⟩
  refine i_tf (fun q => ?_) (fun q => ?_)
  · have er : cutD ((u ++ [k]).map Kd.dv) none (some (-1)) = u.map Kd.dv := by rw [List.map_append]; exact cut_init _ _
    walk_at "dl"
    refine ⟨_, rfl, ?_⟩
    rw [er]
    walk_at "dl"
    refine i_ixF hlast ?_
    walk_at "dl"
    refine i_ixF hlast ?_
    walk_at "dl"
    exact rt_here (h _ _ _ gb)
  walk_at "dl"
  obtain ⟨a, v, hav⟩ : ∃ a v, u ++ [k] = a :: v := by
    cases u with
    | nil => exact ⟨k, [], rfl⟩
    | cons a r => exact ⟨a, r ++ [k], rfl⟩
  have hs2 : Sh (a :: v) t x := hav ▸ hm.sh
  have hok2 : ∀ z ∈ a :: v, z.ok ∧ z.size ≤ 7 := hav ▸ hm.ok
  have hvl : v.length + 1 ≤ 6 := by have := congrArg List.length hav; rw [List.length_append, List.length_singleton, List.length_cons] at this; omega
  have hv : v ≠ [] := by
    rintro rfl
    have q := congrArg List.length hav
    rw [List.length_append, List.length_singleton, List.length_singleton] at q
    exact hu (List.length_eq_zero_iff.mp (by omega))
  have hka := hok2 a (by simp)
  have ga : Mk 14 43 8 v (.ga a t) (.tw .ah a x) := ⟨.ga hv hs2, fun z hz => ⟨(hok2 z (by simp [hz])).1, by have := (hok2 z (by simp [hz])).2; omega⟩, ⟨⟨⟨hka.1.1, hm.xk.1.1⟩, by decide, hka.1.2, hm.xk.1.2⟩, by have := hm.xk.2; have := hka.2; simp only [Kd.size]; omega⟩, ⟨⟨hka.1, by omega⟩, ht'⟩, by simp only [Rd.cnt]; omega, by omega⟩
  have hfirst : atI ((u ++ [k]).map Kd.dv) 0 = some a.dv := by rw [hav]; exact at0
  refine i_tf (fun q => ?_) (fun q => ?_)
  · have er : cutD ((u ++ [k]).map Kd.dv) (some 1) none = v.map Kd.dv := by rw [hav]; exact cut_tail _ _
    walk_at "dl"
    refine ⟨_, rfl, ?_⟩
    rw [er]
    walk_at "dl"
    refine i_ixF hfirst ?_
    walk_at "dl"
    refine i_ixF hfirst ?_
    walk_at "dl"
    exact rt_here (h _ _ _ ga)
  walk_at "dl"
  refine i_tf (fun q => ?_) (fun q => ?_)
  · walk_at "dl"
    refine i_ixF hlast ?_
    walk_at "dl"
    exact rt_here (h (u ++ [k]) (.bh (.gb k t) .w) x ⟨.bh gb.sh (.w k), fun z hz => ⟨(hm.ok z hz).1, by have := (hm.ok z hz).2; omega⟩, ⟨hm.xk.1, by have := hm.xk.2; omega⟩, ⟨gb.tk, trivial⟩, by simp only [Rd.cnt]; omega, by omega⟩)
  · walk_at "dl"
    refine i_ixF hfirst ?_
    walk_at "dl"
    exact rt_here (h (u ++ [k]) (.ah .w (.ga a t)) x ⟨by rw [hav]; exact .ah (l := [a]) (.w a) ga.sh, fun z hz => ⟨(hm.ok z hz).1, by have := (hm.ok z hz).2; omega⟩, ⟨hm.xk.1, by have := hm.xk.2; omega⟩, ⟨trivial, ga.tk⟩, by simp only [Rd.cnt]; omega, by omega⟩)
/-! ### _law_grown -/
abbrev N__law_grown : List Str := ["pool", "made", "lane", "tree", "shape", "way", "spot", "word", "extra", "longer"]
def fs__law_grown : FS := fun xs M P _ => ∃ (M0 : Mem) (p : Addr) (c : Nat) (s : MC) (l : List Kd) (t : Rd) (x : Kd), M = M0.up p s ∧ xs = [.loc p, tripD l t x] ∧ Mk 7 40 6 l t x ∧ SrP s c ∧ c ≤ 800000 ∧ ∀ l' t' x' s', Mk 14 44 8 l' t' x' → SrP s' (c + 20) → P (tripD l' t' x') (M0.up p s')
theorem len__law_grown : ∀ xs M P Pe, fs__law_grown xs M P Pe → xs.length = 2 := by
  rintro xs M P Pe ⟨M0, p, c, s, l, t, x, rfl, rfl, _⟩; rfl
theorem kds_at {ks : List Kd} {i : Nat} {k : Kd} (h : ks[i]? = some k) : atI (ks.map Kd.dv) (i : Int) = some k.dv := atI_nat (by rw [List.getElem?_map, h]; rfl)
theorem dsum {a b c : Kd} (h : a.ok) (h2 : b.ok) (f : Fm) (hf : f ≠ .wi) : (Kd.tw f a b).ok := ⟨⟨h.1, h2.1⟩, hf, h.2, h2.2⟩
theorem eta_all {N : Nat} {t : Rd} {x : Kd} (h : x.ok) (hz : x.size ≤ N) (ht : t.all fun k => k.ok ∧ k.size ≤ N) : (eta t x).all fun k => k.ok ∧ k.size ≤ N := by
  cases x with
  | pl c => exact ht
  | tw f a b =>
    have := a.size_pos
    have := b.size_pos
    simp only [Kd.size] at hz
    cases f with
    | bh => exact ⟨⟨⟨h.1.2, h.2.2.2⟩, by omega⟩, ht, trivial⟩
    | ah => exact ⟨⟨⟨h.1.1, h.2.2.1⟩, by omega⟩, trivial, ht⟩
    | wi => exact ht
def d__law_grown : DS := (dSeq (dAsg (dVar 1) (dgTup 3 (dgCons (dgName 2) (dgCons (dgName 3) (dgCons (dgName 4) dgNil)))))
  (dSeq (dPar3 5 6 7 (dCons (dCall fs__law_pick PX0 (dCons (dVar 0) (dCons (dC (.int 12)) dNil))) (dCons (dCall fs__law_pick PX0 (dCons (dVar 0) (dCons (dCB dLen (dCons (dVar 2) dNil)) dNil))) (dCons (dTup (dCons (dC (.str "word")) dNil)) dNil))))
  (dSeq (dAsg (dCall (fs__law_shape 2) PX0 (dCons (dVar 0) (dCons (dOp dAddZ (dC (.int 1)) (dCall fs__law_pick PX0 (dCons (dVar 0) (dCons (dC (.int 2)) dNil)))) dNil))) (dgName 8))
  (dSeq (dIfS (dTest (dOp dEqS (dVar 5) (dC (.int 0))))
  (dRet (dTup (dCons (dOp dAddZ (dFz (dLst (dCons (dTup (dCons (dC (.str "behind")) (dCons (dVar 8) (dCons (dVar 4) dNil)))) dNil))) (dVar 2)) (dCons (dTup (dCons (dC (.str "behind")) (dCons (dVar 7) (dCons (dVar 3) dNil)))) (dCons (dVar 8) dNil)))))
  dNext)
  (dSeq (dIfS (dTest (dOp dEqS (dVar 5) (dC (.int 1))))
  (dRet (dTup (dCons (dOp dAddZ (dVar 2) (dFz (dLst (dCons (dTup (dCons (dC (.str "ahead")) (dCons (dVar 4) (dCons (dVar 8) dNil)))) dNil)))) (dCons (dTup (dCons (dC (.str "ahead")) (dCons (dVar 3) (dCons (dVar 7) dNil)))) (dCons (dVar 8) dNil)))))
  dNext)
  (dSeq (dIfS (dTest (dOp dEqS (dVar 5) (dC (.int 2))))
  (dSeq (dAsg (dOp dAddZ (dOp dAddZ (dSlcZ (dVar 2) dNoPt (dPt (dVar 6))) (dFz (dLst (dCons (dTup (dCons (dC (.str "behind")) (dCons (dOp dIx (dVar 2) (dVar 6)) (dCons (dVar 8) dNil)))) (dCons (dVar 8) dNil))))) (dSlcZ (dVar 2) (dPt (dOp dAddZ (dVar 6) (dC (.int 1)))) dNoPt)) (dgName 9))
  (dRet (dTup (dCons (dVar 9) (dCons (dCall (fs__law_put 41) PX0 (dCons (dVar 3) (dCons (dVar 6) (dCons (dTup (dCons (dC (.str "behind")) (dCons (dVar 7) (dCons (dVar 7) dNil)))) dNil)))) (dCons (dVar 4) dNil))))))
  dNext)
  (dSeq (dIfS (dTest (dOp dEqS (dVar 5) (dC (.int 3))))
  (dSeq (dAsg (dOp dAddZ (dOp dAddZ (dSlcZ (dVar 2) dNoPt (dPt (dVar 6))) (dFz (dLst (dCons (dVar 8) (dCons (dTup (dCons (dC (.str "ahead")) (dCons (dVar 8) (dCons (dOp dIx (dVar 2) (dVar 6)) dNil)))) dNil))))) (dSlcZ (dVar 2) (dPt (dOp dAddZ (dVar 6) (dC (.int 1)))) dNoPt)) (dgName 9))
  (dRet (dTup (dCons (dVar 9) (dCons (dCall (fs__law_put 41) PX0 (dCons (dVar 3) (dCons (dVar 6) (dCons (dTup (dCons (dC (.str "ahead")) (dCons (dVar 7) (dCons (dVar 7) dNil)))) dNil)))) (dCons (dVar 4) dNil))))))
  dNext)
  (dSeq (dIfS (dAndT (dTest (dOp (dI0 fun i j => .bl (decide (i < j))) (dVar 5) (dC (.int 8)))) (dTest (dOp (dI0 fun i j => .bl (decide (j < i))) (dCB dLen (dCons (dVar 2) dNil)) (dC (.int 1)))))
  (dRet (dCall fs__law_given PX0 (dCons (dVar 5) (dCons (dVar 2) (dCons (dVar 3) (dCons (dVar 4) dNil))))))
  dNext)
  (dSeq (dIfS (dTest (dOp dEqS (dVar 5) (dC (.int 8))))
  (dRet (dTup (dCons (dVar 2) (dCons (dCall fs__law_eta PX0 (dCons (dVar 3) (dCons (dVar 4) dNil))) (dCons (dVar 4) dNil)))))
  dNext)
  (dSeq (dIfS (dAndT (dTest (dOp dInF (dVar 5) (dTup (dCons (dC (.int 9)) (dCons (dC (.int 10)) dNil))))) (dTest (dOp dEqS (dOp dIx (dVar 4) (dC (.int 0))) (dC (.str "behind")))))
  (dRet (dTup (dCons (dOp dAddZ (dVar 2) (dFz (dLst (dCons (dOp dIx (dVar 4) (dC (.int 2))) dNil)))) (dCons (dTup (dCons (dC (.str "behind")) (dCons (dVar 3) (dCons (dVar 7) dNil)))) (dCons (dOp dIx (dVar 4) (dC (.int 1))) dNil)))))
  dNext)
  (dSeq (dIfS (dAndT (dTest (dOp dInF (dVar 5) (dTup (dCons (dC (.int 9)) (dCons (dC (.int 10)) dNil))))) (dTest (dOp dEqS (dOp dIx (dVar 4) (dC (.int 0))) (dC (.str "ahead")))))
  (dRet (dTup (dCons (dOp dAddZ (dFz (dLst (dCons (dOp dIx (dVar 4) (dC (.int 1))) dNil))) (dVar 2)) (dCons (dTup (dCons (dC (.str "ahead")) (dCons (dVar 7) (dCons (dVar 3) dNil)))) (dCons (dOp dIx (dVar 4) (dC (.int 2))) dNil)))))
  dNext)
  (dRet (dTup (dCons (dVar 2) (dCons (dCall (fs__law_put 41) PX0 (dCons (dVar 3) (dCons (dVar 6) (dCons (dCall fs__law_eta PX0 (dCons (dVar 7) (dCons (dOp dIx (dVar 2) (dVar 6)) dNil))) dNil)))) (dCons (dVar 4) dNil))))))))))))))))
theorem pure__law_grown : ∀ xs M P Pe, fs__law_grown xs M P Pe → d__law_grown { nx := fun _ M' => Rt P .non M', rt := Rt P } (startD N__law_grown xs) M := by
  rintro xs M P Pe ⟨M0, p, c, s, l, t, x, rfl, rfl, hm, hs, hc, h⟩
  have hcn := hm.cn
  have hln := hm.ln
  have hps := hm.sh.pos
  have hok := hm.ok
  have hx := hm.xk
  have hdc := t.depth_cnt
  have ht' := hm.tk
  have hok' : ∀ k ∈ l, k.ok ∧ k.size ≤ 14 := fun k hk => ⟨(hok k hk).1, by have := (hok k hk).2; omega⟩
  unfold d__law_grown tripD
  walk_at "dl"
  refine pick_top hs (by omega) (by decide) (by decide) fun way s1 w0 w1 hs1 => ?_
  walk_at "dl"
  rw [List.length_map]
  refine pick_top hs1 (by omega) (by omega) (by omega) fun r s2 r0 r1 hs2 => ?_
  obtain ⟨g, rfl⟩ : ∃ g : Nat, r = (g : Int) := ⟨r.toNat, by omega⟩
  have hg : g < l.length := by omega
  obtain ⟨k, hk⟩ : ∃ k, l[g]? = some k := ⟨l[g], List.getElem?_eq_getElem hg⟩
  have hkl : k ∈ l := List.mem_of_getElem? hk
  have hko := hok k hkl
  have esplit : l = l.take g ++ k :: l.drop (g + 1) := by
    rw [List.getElem?_eq_getElem hg] at hk
    rw [← Option.some.inj hk]
    rw [← List.drop_eq_getElem_cons hg, List.take_append_drop]
  have etl : (l.take g).length = g := by rw [List.length_take]; omega
  have et : cutD (l.map Kd.dv) none (some (g : Int)) = (l.take g).map Kd.dv := cut_to_map l g
  have ed : cutD (l.map Kd.dv) (some ((g : Int) + 1)) none = (l.drop (g + 1)).map Kd.dv := cut_from_map l (g + 1)
  have htk : ∀ z ∈ l.take g, z ∈ l := fun z hz => List.mem_of_mem_take hz
  have hdr : ∀ z ∈ l.drop (g + 1), z ∈ l := fun z hz => List.mem_of_mem_drop hz
  have hdl : (l.drop (g + 1)).length = l.length - (g + 1) := List.length_drop
  walk_at "dl"
  refine pick_top hs2 (by omega) (by decide) (by decide) fun r s3 r0 r1 hs3 => ?_
  obtain ⟨m, hm2⟩ : ∃ m : Nat, 1 + r = (m : Int) := ⟨(1 + r).toNat, by omega⟩
  walk_at "dl"
  rw [hm2]
  refine ⟨M0, p, _, m, s3, rfl, rfl, by omega, by omega, by omega, hs3, by omega, fun e s4 e1 e2 hs4 => ?_⟩
  have hs4 : SrP s4 (c + 20) := hs4.le (by omega)
  have ebh : (Kd.tw .bh e x).ok ∧ (Kd.tw .bh e x).size ≤ 14 := ⟨⟨⟨e1.1, hx.1.1⟩, by decide, e1.2, hx.1.2⟩, by simp only [Kd.size]; omega⟩
  have eah : (Kd.tw .ah x e).ok ∧ (Kd.tw .ah x e).size ≤ 14 := ⟨⟨⟨hx.1.1, e1.1⟩, by decide, hx.1.2, e1.2⟩, by simp only [Kd.size]; omega⟩
  walk_at "dl"
  refine i_tf (fun q => ?_) (fun q0 => ?_)
  · walk_at "dl"
    refine i_addZF (by simp only [List.length_map, List.length_cons, List.length_nil]; omega) ?_
    walk_at "dl"
    refine rt_here (h (.tw .bh e x :: l) (.bh .w t) e s4 ⟨.bh (l := [_]) (.w _) hm.sh, fun z hz => ?_, ⟨e1, by omega⟩, ⟨trivial, ht'⟩, by simp only [Rd.cnt]; omega, by rw [List.length_cons]; omega⟩ hs4)
    rcases List.mem_cons.mp hz with q | q
    · rw [q]; exact ebh
    · exact hok' z q
  walk_at "dl"
  refine i_tf (fun q => ?_) (fun q1 => ?_)
  · walk_at "dl"
    refine i_addZF (by simp only [List.length_map, List.length_cons, List.length_nil]; omega) ?_
    walk_at "dl"
    have er : l.map Kd.dv ++ [.tup [.str "ahead", x.dv, e.dv]] = (l ++ [Kd.tw .ah x e]).map Kd.dv := by rw [List.map_append]; rfl
    refine rt_here ?_
    rw [er]
    refine h (l ++ [.tw .ah x e]) (.ah t .w) e s4 ⟨.ah hm.sh (.w _), fun z hz => ?_, ⟨e1, by omega⟩, ⟨ht', trivial⟩, by simp only [Rd.cnt]; omega, by rw [List.length_append, List.length_singleton]; omega⟩ hs4
    rcases List.mem_append.mp hz with q | q
    · exact hok' z q
    · rw [List.mem_singleton.mp q]; exact eah
  walk_at "dl"
  refine i_tf (fun q => ?_) (fun q2 => ?_)
  · walk_at "dl"
    refine ⟨_, rfl, ?_⟩
    rw [et]
    walk_at "dl"
    refine i_ixF (kds_at hk) ?_
    walk_at "dl"
    refine i_addZF (by simp only [List.length_map, List.length_cons, List.length_nil]; omega) ?_
    walk_at "dl"
    refine ⟨_, rfl, ?_⟩
    rw [ed]
    walk_at "dl"
    refine i_addZF (by simp only [List.length_append, List.length_map, List.length_cons, List.length_nil]; omega) ?_
    walk_at "dl"
    refine ⟨t, .bh .w .w, l, x, g, rfl, hm.sh, by omega, by decide, ?_⟩
    walk_at "dl"
    have er : (l.take g).map Kd.dv ++ [.tup [.str "behind", k.dv, e.dv], e.dv] ++ (l.drop (g + 1)).map Kd.dv = (l.take g ++ ([Kd.tw .bh k e, e] ++ l.drop (g + 1))).map Kd.dv := by simp [Kd.dv, Fm.s]
    refine rt_here ?_
    rw [er]
    refine h _ (t.put g (.bh .w .w)) x s4 ⟨hm.sh.put esplit etl (.bh (l := [_]) (r := [_]) (.w _) (.w _)), fun z hz => ?_, ⟨hx.1, by omega⟩, Rd.put_all (show Rd.all _ (Rd.bh .w .w) from ⟨trivial, trivial⟩) ht', ?_, ?_⟩ hs4
    · simp only [List.mem_append, List.mem_cons, List.not_mem_nil, or_false] at hz
      rcases hz with q | (rfl | rfl) | q
      · exact hok' z (htk z q)
      · exact ⟨⟨⟨hko.1.1, e1.1⟩, by decide, hko.1.2, e1.2⟩, by simp only [Kd.size]; omega⟩
      · exact ⟨e1, by omega⟩
      · exact hok' z (hdr z q)
    · have := Rd.put_cnt (m := Rd.bh .w .w) (t := t) (s := g)
      have e3 : (Rd.bh .w .w).cnt = 3 := rfl
      omega
    · simp only [List.length_append, List.length_cons, List.length_nil]; omega
  walk_at "dl"
  refine i_tf (fun q => ?_) (fun q3 => ?_)
  · walk_at "dl"
    refine ⟨_, rfl, ?_⟩
    rw [et]
    walk_at "dl"
    refine i_ixF (kds_at hk) ?_
    walk_at "dl"
    refine i_addZF (by simp only [List.length_map, List.length_cons, List.length_nil]; omega) ?_
    walk_at "dl"
    refine ⟨_, rfl, ?_⟩
    rw [ed]
    walk_at "dl"
    refine i_addZF (by simp only [List.length_append, List.length_map, List.length_cons, List.length_nil]; omega) ?_
    walk_at "dl"
    refine ⟨t, .ah .w .w, l, x, g, rfl, hm.sh, by omega, by decide, ?_⟩
    walk_at "dl"
    have er : (l.take g).map Kd.dv ++ [e.dv, .tup [.str "ahead", e.dv, k.dv]] ++ (l.drop (g + 1)).map Kd.dv = (l.take g ++ ([e, Kd.tw .ah e k] ++ l.drop (g + 1))).map Kd.dv := by simp [Kd.dv, Fm.s]
    refine rt_here ?_
    rw [er]
    refine h _ (t.put g (.ah .w .w)) x s4 ⟨hm.sh.put esplit etl (.ah (l := [_]) (r := [_]) (.w _) (.w _)), fun z hz => ?_, ⟨hx.1, by omega⟩, Rd.put_all (show Rd.all _ (Rd.ah .w .w) from ⟨trivial, trivial⟩) ht', ?_, ?_⟩ hs4
    · simp only [List.mem_append, List.mem_cons, List.not_mem_nil, or_false] at hz
      rcases hz with q | (rfl | rfl) | q
      · exact hok' z (htk z q)
      · exact ⟨e1, by omega⟩
      · exact ⟨⟨⟨e1.1, hko.1.1⟩, by decide, e1.2, hko.1.2⟩, by simp only [Kd.size]; omega⟩
      · exact hok' z (hdr z q)
    · have := Rd.put_cnt (m := Rd.ah .w .w) (t := t) (s := g)
      have e3 : (Rd.ah .w .w).cnt = 3 := rfl
      omega
    · simp only [List.length_append, List.length_cons, List.length_nil]; omega
  refine i_next ?_
  dsimp only
  refine i_seqI (fun S' M' => S' = [some (.loc p), some (tripD l t x), some (.fl (l.map Kd.dv)), some t.dv, some x.dv, some (.int way), some (.int (g : Int)), some (.tup [.str "word"]), some e.dv, none] ∧ M' = M0.up p s4) ?_ (fun R hR => by
    walk_at "dl"
    refine i_tf (fun q => ?_) (fun q => ?_)
    · walk_at "dl"
      refine i_tf (fun q2 => ?_) (fun q2 => ?_)
      · walk_at "dl"
        exact ⟨way, l, t, x, rfl, hm, by simp at q2; omega, fun l' t' x' hm' => rt_here (h l' t' x' s4 (hm'.le (by decide) (by decide) (by decide)) hs4)⟩
      · walk_at "dl"
        exact hR _ _ ⟨rfl, rfl⟩
    · walk_at "dl"
      exact hR _ _ ⟨rfl, rfl⟩)
  rintro S' M' ⟨rfl, rfl⟩
  walk_at "dl"
  refine i_tf (fun q => ?_) (fun q => ?_)
  · walk_at "dl"
    refine ⟨t, x, rfl, ?_⟩
    walk_at "dl"
    exact rt_here (h l (eta t x) x s4 ⟨hm.sh.eta, hok', ⟨hx.1, by omega⟩, eta_all hx.1 (by omega) ht', by have := eta_cnt t x; omega, by omega⟩ hs4)
  refine i_next ?_
  dsimp only
  refine i_seqI (fun S' M' => S' = [some (.loc p), some (tripD l t x), some (.fl (l.map Kd.dv)), some t.dv, some x.dv, some (.int way), some (.int (g : Int)), some (.tup [.str "word"]), some e.dv, none] ∧ M' = M0.up p s4) ?_ (fun R hR => by
    walk_at "dl"
    refine .inr ⟨way, _, [9, 10], rfl, rfl, rfl, ?_⟩
    walk_at "dl"
    refine i_tf (fun q => ?_) (fun q => ?_)
    · cases x with
      | pl c =>
        walk_at "dl"
        refine i_f rfl ?_
        walk_at "dl"
        exact hR _ _ ⟨rfl, rfl⟩
      | tw f a b =>
        have := a.size_pos
        have := b.size_pos
        have hz := hx.2
        simp only [Kd.size] at hz
        cases f with
        | bh =>
          walk_at "dl"
          refine i_t rfl ?_
          walk_at "dl"
          refine i_addZF (by simp only [List.length_map, List.length_cons, List.length_nil]; omega) ?_
          walk_at "dl"
          have er : l.map Kd.dv ++ [b.dv] = (l ++ [b]).map Kd.dv := by rw [List.map_append]; rfl
          refine rt_here ?_
          rw [er]
          refine h (l ++ [b]) (.bh t .w) a s4 ⟨.bh hm.sh (.w _), fun z hz => ?_, ⟨⟨hx.1.1.1, hx.1.2.2.1⟩, by omega⟩, ⟨ht', trivial⟩, by simp only [Rd.cnt]; omega, by rw [List.length_append, List.length_singleton]; omega⟩ hs4
          rcases List.mem_append.mp hz with q | q
          · exact hok' z q
          · rw [List.mem_singleton.mp q]; exact ⟨⟨hx.1.1.2, hx.1.2.2.2⟩, by omega⟩
        | ah =>
          walk_at "dl"
          refine i_f rfl ?_
          walk_at "dl"
          exact hR _ _ ⟨rfl, rfl⟩
        | wi => exact absurd rfl hx.1.2.1
    · walk_at "dl"
      exact hR _ _ ⟨rfl, rfl⟩)
  rintro S' M' ⟨rfl, rfl⟩
  refine i_seqI (fun S' M' => S' = [some (.loc p), some (tripD l t x), some (.fl (l.map Kd.dv)), some t.dv, some x.dv, some (.int way), some (.int (g : Int)), some (.tup [.str "word"]), some e.dv, none] ∧ M' = M0.up p s4) ?_ (fun R hR => by
    walk_at "dl"
    refine .inr ⟨way, _, [9, 10], rfl, rfl, rfl, ?_⟩
    walk_at "dl"
    refine i_tf (fun q => ?_) (fun q => ?_)
    · cases x with
      | pl c =>
        walk_at "dl"
        refine i_f rfl ?_
        walk_at "dl"
        exact hR _ _ ⟨rfl, rfl⟩
      | tw f a b =>
        have := a.size_pos
        have := b.size_pos
        have hz := hx.2
        simp only [Kd.size] at hz
        cases f with
        | ah =>
          walk_at "dl"
          refine i_t rfl ?_
          walk_at "dl"
          refine i_addZF (by simp only [List.length_map, List.length_cons, List.length_nil]; omega) ?_
          walk_at "dl"
          refine rt_here (h (a :: l) (.ah .w t) b s4 ⟨.ah (l := [_]) (.w _) hm.sh, fun z hz => ?_, ⟨⟨hx.1.1.2, hx.1.2.2.2⟩, by omega⟩, ⟨trivial, ht'⟩, by simp only [Rd.cnt]; omega, by rw [List.length_cons]; omega⟩ hs4)
          rcases List.mem_cons.mp hz with q | q
          · rw [q]; exact ⟨⟨hx.1.1.1, hx.1.2.2.1⟩, by omega⟩
          · exact hok' z q
        | bh =>
          walk_at "dl"
          refine i_f rfl ?_
          walk_at "dl"
          exact hR _ _ ⟨rfl, rfl⟩
        | wi => exact absurd rfl hx.1.2.1
    · walk_at "dl"
      exact hR _ _ ⟨rfl, rfl⟩)
  rintro S' M' ⟨rfl, rfl⟩
  walk_at "dl"
  refine i_ixF (kds_at hk) ?_
  walk_at "dl"
  refine ⟨.w, k, rfl, ?_⟩
  walk_at "dl"
  refine ⟨t, eta .w k, l, x, g, rfl, hm.sh, by omega, by decide, ?_⟩
  walk_at "dl"
  refine rt_here (h l (t.put g (eta .w k)) x s4 ⟨?_, hok', ⟨hx.1, by omega⟩, Rd.put_all (eta_all (N := 7) (t := .w) hko.1 (by omega) trivial) ht', ?_, by omega⟩ hs4)
  · have q := hm.sh.put esplit etl (Sh.w k).eta
    have e2 : l.take g ++ ([k] ++ l.drop (g + 1)) = l := by
      rw [List.singleton_append]; exact esplit.symm
    rw [e2] at q
    exact q
  · have := Rd.put_cnt (m := eta .w k) (t := t) (s := g)
    have h4 := eta_cnt .w k
    have h5 : Rd.w.cnt = 1 := rfl
    omega
/-! ### _law_made -/
abbrev N__law_made : List Str := ["pool", "turns", "shape", "made", "turn", "longer"]
def fs__law_made : FS := fun xs M P _ => ∃ (M0 : Mem) (p : Addr) (c m : Nat) (s : MC), M = M0.up p s ∧ xs = [.loc p, .int (m : Int)] ∧ m ≤ 1000 ∧ SrP s c ∧ c ≤ 700000 ∧ ∀ l t x s', Mk 7 40 6 l t x → Wn (l ++ [x]) → SrP s' (c + 20 + 20 * m) → P (tripD l t x) (M0.up p s')
theorem len__law_made : ∀ xs M P Pe, fs__law_made xs M P Pe → xs.length = 2 := by
  rintro xs M P Pe ⟨M0, p, c, m, s, rfl, rfl, _⟩; rfl
def d__law_made : DS := (dSeq (dAsg (dCall (fs__law_shape 3) PX0 (dCons (dVar 0) (dCons (dC (.int 3)) dNil))) (dgName 2))
  (dSeq (dAsg (dTup (dCons (dFz (dLst (dCons (dVar 2) dNil))) (dCons (dTup (dCons (dC (.str "word")) dNil)) (dCons (dVar 2) dNil)))) (dgName 3))
  (dSeq (dFor (dRng1 (dCons (dVar 1) dNil)) (dgName 4)
  (dSeq (dAsg (dCall fs__law_grown PX0 (dCons (dVar 0) (dCons (dVar 3) dNil))) (dgName 5))
  (dIfS (dAndT (dTest (dOp (dI0 fun i j => .bl (decide (i ≤ j))) (dCall (fs__law_count 44) PX0 (dCons (dOp dIx (dVar 5) (dC (.int 1))) dNil)) (dC (.int 40)))) (dTest (dOp dNotN (dCall (fs__law_shown 44) PX0 (dCons (dOp dIx (dVar 5) (dC (.int 0))) (dCons (dOp dIx (dVar 5) (dC (.int 1))) (dCons (dC (.bl true)) dNil)))) (dC .non))))
  (dAsg (dVar 5) (dgName 3))
  dNext)))
  (dRet (dVar 3)))))
theorem pure__law_made : ∀ xs M P Pe, fs__law_made xs M P Pe → d__law_made { nx := fun _ M' => Rt P .non M', rt := Rt P } (startD N__law_made xs) M := by
  rintro xs M P Pe ⟨M0, p, c, m, s, rfl, rfl, hm, hs, hc, h⟩
  unfold d__law_made
  walk_at "dl"
  refine ⟨M0, p, c, 3, s, rfl, rfl, by decide, by decide, by decide, hs, by omega, fun k s1 k1 k2 hs1 => ?_⟩
  walk_at "dl"
  refine ⟨_, rfl, by omega, by omega, ?_⟩
  rw [Int.toNat_natCast]
  refine forR m (fun i S2 M2 => ∃ (v4 v5 : Option DV) (l : List Kd) (t : Rd) (x : Kd) (s : MC), S2 = [some (.loc p), some (.int (m : Int)), some k.dv, some (tripD l t x), v4, v5] ∧ M2 = M0.up p s ∧ Mk 7 40 6 l t x ∧ Wn (l ++ [x]) ∧ SrP s (c + 20 + 20 * i)) (fun _ => trivial)
    ⟨none, none, [k], .w, k, s1, rfl, rfl, ⟨.w k, fun z hz => by rw [List.mem_singleton.mp hz]; exact ⟨k1, by omega⟩, ⟨k1, by omega⟩, trivial, by decide, by simp⟩, ?_, hs1.le (by omega)⟩ ?_ ?_
  · have hd := k.depth_size
    refine ⟨by simp, by simp [sizes]; omega, fun z hz => ?_⟩
    simp only [List.mem_append, List.mem_singleton, or_self] at hz
    subst hz
    omega
  · rintro S2 M2 ⟨v4, v5, l, t, x, s, rfl, rfl, hk, hw, hs2⟩
    walk_at "dl"
    exact rt_here (h l t x s hk hw hs2)
  · rintro i hi S2 M2 ⟨v4, v5, l, t, x, s, rfl, rfl, hk, hw, hs2⟩ R hR
    walk_at "dl"
    refine ⟨M0, p, _, s, l, t, x, rfl, rfl, hk, hs2, by omega, fun l' t' x' s3 hk' hs3 => ?_⟩
    have hdc := t'.depth_cnt
    have hcn := hk'.cn
    have hln := hk'.ln
    unfold tripD
    walk_at "dl"
    refine ⟨t', rfl, by omega, ?_⟩
    walk_at "dl"
    refine i_tf (fun q => ?_) (fun q => ?_)
    · have q : t'.cnt ≤ 40 := by simp at q; omega
      walk_at "dl"
      refine ⟨t', l', x', true, 14, rfl, hk'.sh, fun z hz => ⟨(hk'.ok z hz).1.1, by have := z.depth_size; have := (hk'.ok z hz).2; omega⟩, Rd.all_mono (fun z q => ⟨q.1.1, by have := z.depth_size; have := q.2; omega⟩) hk'.tk, by omega, by omega, by omega, fun _ => ?_, fun hw' => ?_⟩
      · walk_at "dl"
        refine i_notN (c := true) rfl ?_
        walk_at "dl"
        exact hR _ _ ⟨_, _, l, t, x, s3, rfl, rfl, hk, hw, hs3.le (by omega)⟩
      · have hw' := hw' rfl
        walk_at "dl"
        refine i_notN (c := false) (by cases x' <;> rfl) ?_
        walk_at "dl"
        refine hR _ _ ⟨_, _, l', t', x', s3, rfl, rfl, ⟨hk'.sh, fun z hz => ⟨(hk'.ok z hz).1, (hw'.2.2 z (by simp [hz])).1⟩, ⟨hk'.xk.1, (hw'.2.2 x' (by simp)).1⟩, hk'.tk, q, by have := hw'.1; rw [List.length_append, List.length_singleton] at this; omega⟩, hw', hs3.le (by omega)⟩
    · walk_at "dl"
      exact hR _ _ ⟨_, _, l, t, x, s3, rfl, rfl, hk, hw, hs3.le (by omega)⟩
/-! ### _law_lane -/
abbrev N__law_lane : List Str := ["pool", "many", "left", "shapes", "spot", "shape"]
def fs__law_lane : FS := fun xs M P _ => ∃ (M0 : Mem) (p : Addr) (c : Nat) (s : MC), M = M0.up p s ∧ xs = [.loc p] ∧ SrP s c ∧ c ≤ 700000 ∧ ∀ (l : List Kd) (x : Kd) s', (∀ k ∈ l, k.ok) → x.ok → l ≠ [] → Wn (l ++ [x]) → SrP s' (c + 500) → P (.tup [.fl (l.map Kd.dv), x.dv]) (M0.up p s')
theorem len__law_lane : ∀ xs M P Pe, fs__law_lane xs M P Pe → xs.length = 1 := by
  rintro xs M P Pe ⟨M0, p, c, s, rfl, rfl, _⟩; rfl
def d__law_lane : DS := (dSeq (dPar 1 2 (dCons (dOp dAddZ (dC (.int 2)) (dCall fs__law_pick PX0 (dCons (dVar 0) (dCons (dC (.int 6)) dNil)))) (dCons (dC (.int 14)) dNil)))
  (dSeq (dAsg (dLst dNil) (dgName 3))
  (dSeq (dFor (dRng1 (dCons (dVar 1) dNil)) (dgName 4)
  (dSeq (dAsg (dCall (fs__law_shape 7) PX0 (dCons (dVar 0) (dCons (dOp dAddZ (dC (.int 1)) (dCall fs__law_pick PX0 (dCons (dVar 0) (dCons (dCB dMin2 (dCons (dC (.int 7)) (dCons (dOp dSub (dVar 2) (dOp dSub (dOp dSub (dVar 1) (dC (.int 1))) (dVar 4))) dNil))) dNil)))) dNil))) (dgName 5))
  (dSeq (dIfS (dTest (dOp (dI0 fun i j => .bl (decide (j < i))) (dCall (fs__law_deep 100) PX0 (dCons (dVar 5) dNil)) (dC (.int 5))))
  (dAsg (dTup (dCons (dC (.str "plain")) (dCons (dC (.str "a")) dNil))) (dgName 5))
  dNext)
  (dSeq (dDrop (dAppend (dVar 3) (dVar 5)))
  (dAsg (dOp dSub (dVar 2) (dCall (fs__law_size 100) PX0 (dCons (dVar 5) dNil))) (dgName 2))))))
  (dRet (dTup (dCons (dSlcZ (dVar 3) dNoPt (dPt (dNeg (dC (.int 1))))) (dCons (dOp dIx (dVar 3) (dNeg (dC (.int 1)))) dNil)))))))
theorem pure__law_lane : ∀ xs M P Pe, fs__law_lane xs M P Pe → d__law_lane { nx := fun _ M' => Rt P .non M', rt := Rt P } (startD N__law_lane xs) M := by
  rintro xs M P Pe ⟨M0, p, c, s, rfl, rfl, hs, hc, h⟩
  unfold d__law_lane
  walk_at "dl"
  refine pick_top hs (by omega) (by decide) (by decide) fun r s1 r0 r1 hs1 => ?_
  obtain ⟨m, hm⟩ : ∃ m : Nat, 2 + r = (m : Int) := ⟨(2 + r).toNat, by omega⟩
  walk_at "dl"
  rw [hm]
  walk_at "dl"
  intro q hq
  obtain ⟨hqp, hq⟩ := up_none hq
  rw [up_comm (Ne.symm hqp)]
  walk_at "dl"
  refine ⟨_, rfl, by omega, by omega, ?_⟩
  rw [Int.toNat_natCast]
  refine forR m (fun i S2 M2 => ∃ (v4 v5 : Option DV) (ks : List Kd) (left : Nat) (s : MC), S2 = [some (.loc p), some (.int (m : Int)), some (.int (left : Int)), some (.loc q), v4, v5] ∧ M2 = (M0.up q (.lst (ks.map Kd.dv))).up p s ∧ ks.length = i ∧ (∀ k ∈ ks, k.ok ∧ k.size ≤ 7 ∧ k.depth ≤ 5) ∧ sizes ks + left = 14 ∧ m ≤ left + i ∧ SrP s (c + 1 + 60 * i)) (fun _ => trivial)
    ⟨none, none, [], 14, s1, rfl, rfl, rfl, by simp, rfl, by omega, hs1⟩ ?_ ?_
  · rintro S2 M2 ⟨v4, v5, ks, left, s, rfl, rfl, hkl, hks, hz, _, hs2⟩
    rcases List.eq_nil_or_concat ks with rfl | ⟨l, x, rfl⟩
    · simp at hkl; omega
    rw [List.concat_eq_append] at *
    have er : cutD ((l ++ [x]).map Kd.dv) none (some (-1)) = l.map Kd.dv := by rw [List.map_append]; exact cut_init _ _
    have hlast : atI ((l ++ [x]).map Kd.dv) (-1) = some x.dv := by rw [List.map_append]; exact atI_last _ _
    walk_at "dl"
    refine ⟨_, lst_loc (up_get2 hqp), ?_⟩
    rw [er]
    walk_at "dl"
    refine i_ixLU hqp hlast ?_
    walk_at "dl"
    have hll : l.length + 1 = m := by rw [List.length_append, List.length_singleton] at hkl; exact hkl
    have hext : Ext (M0.up p s) ((M0.up q (.lst ((l ++ [x]).map Kd.dv))).up p s) := by
      rw [← up_comm (Ne.symm hqp)]
      exact Ext.new (by rw [up_ne hqp]; exact hq)
    refine rt_sub hext (h l x s (fun k hk => (hks k (by simp [hk])).1) (hks x (by simp)).1 ?_ ⟨by omega, by omega, fun k hk => (hks k hk).2⟩ (hs2.le (by omega)))
    rintro rfl
    simp at hll; omega
  · rintro i hi S2 M2 ⟨v4, v5, ks, left, s, rfl, rfl, hkl, hks, hz, hml, hs2⟩ R hR
    have hkl2 : ks.length < 100000 := by omega
    walk_at "dl"
    have e1 : (left : Int) - ((m : Int) - 1 - (i : Int)) = ((left - (m - 1 - i) : Nat) : Int) := by omega
    rw [e1]
    refine i_min2 fun mm a1 a2 a3 => ?_
    walk_at "dl"
    refine pick_top hs2 (by omega) (by omega) (by omega) fun r s3 r0 r1 hs3 => ?_
    obtain ⟨g, hg⟩ : ∃ g : Nat, 1 + r = (g : Int) := ⟨(1 + r).toNat, by omega⟩
    walk_at "dl"
    rw [hg]
    refine ⟨_, p, _, g, s3, rfl, rfl, by omega, by omega, by omega, hs3, by omega, fun k s4 k1 k2 hs4 => ?_⟩
    have kd := k.depth_size
    walk_at "dl"
    refine ⟨k, rfl, by omega, ?_⟩
    have fin : ∀ z : Kd, z.ok → z.size ≤ g → z.depth ≤ 5 → ∀ v4 v5, R [some (.loc p), some (.int (m : Int)), some (.int ((left : Int) - (z.size : Int))), some (.loc q), v4, v5] ((M0.up q (.lst ((ks ++ [z]).map Kd.dv))).up p s4) := fun z z1 z2 z3 v4 v5 => by
      have e3 : (left : Int) - (z.size : Int) = ((left - z.size : Nat) : Int) := by omega
      rw [e3]
      refine hR _ _ ⟨_, _, ks ++ [z], left - z.size, s4, rfl, rfl, by rw [List.length_append, List.length_singleton, hkl], fun y hy => ?_, by rw [sizes_app, sizes_cons]; simp only [sizes, List.map_nil, List.sum_nil]; unfold sizes at hz; omega, by omega, hs4.le (by omega)⟩
      rcases List.mem_append.mp hy with q | q
      · exact hks y q
      · rw [List.mem_singleton.mp q]; exact ⟨z1, by omega, z3⟩
    walk_at "dl"
    refine i_tf (fun q => ?_) (fun q => ?_)
    · walk_at "dl"
      refine ⟨.pl 97, rfl, by decide, ?_⟩
      walk_at "dl"
      have := fin (.pl 97) ⟨⟨by decide, by decide⟩, trivial⟩ (by show 1 ≤ g; omega) (by decide) (some (.int (i : Int))) (some (Kd.pl 97).dv)
      rw [List.map_append] at this
      exact this
    · walk_at "dl"
      refine ⟨k, rfl, by omega, ?_⟩
      walk_at "dl"
      have k5 : k.depth ≤ 5 := by simp at q; omega
      exact fin k k1 k2 k5 (some (.int (i : Int))) (some k.dv)
/-! ### _law_stands -/
abbrev N__law_stands : List Str := ["shape"]
def fs__law_stands (n : Nat) : FS := fun xs M P _ => ∃ k : Kd, xs = [k.dv] ∧ k.one ∧ k.size ≤ 1000 ∧ k.depth ≤ n ∧ P (.str (txtOf k.std)) M
theorem len__law_stands (n : Nat) : ∀ xs M P Pe, fs__law_stands n xs M P Pe → xs.length = 1 := by
  rintro xs M P Pe ⟨x, rfl, _⟩; rfl
theorem no__law_stands : ∀ xs M P Pe, ¬ fs__law_stands 0 xs M P Pe := by
  rintro xs M P Pe ⟨k, _, _, _, h, _⟩
  have := k.depth_pos
  omega
def d__law_stands (n : Nat) : DS := (dSeq (dIfS (dTest (dOp dEqS (dOp dIx (dVar 0) (dC (.int 0))) (dC (.str "plain"))))
  (dRet (dOp dIx (dVar 0) (dC (.int 1))))
  dNext)
  (dSeq (dIfS (dTest (dOp dEqS (dOp dIx (dVar 0) (dC (.int 0))) (dC (.str "behind"))))
  (dRet (dOp dAddZ (dCall (fs__law_stands n) PX0 (dCons (dOp dIx (dVar 0) (dC (.int 1))) dNil)) (dRevT (dCall (fs__law_stands n) PX0 (dCons (dOp dIx (dVar 0) (dC (.int 2))) dNil)))))
  dNext)
  (dRet (dOp dAddZ (dRevT (dCall (fs__law_stands n) PX0 (dCons (dOp dIx (dVar 0) (dC (.int 1))) dNil))) (dCall (fs__law_stands n) PX0 (dCons (dOp dIx (dVar 0) (dC (.int 2))) dNil))))))
theorem pure__law_stands (n : Nat) : ∀ xs M P Pe, fs__law_stands (n + 1) xs M P Pe → d__law_stands n { nx := fun _ M' => Rt P .non M', rt := Rt P } (startD N__law_stands xs) M := by
  rintro xs M P Pe ⟨k, rfl, kg, kz, kd, h⟩
  have h := rt_here h
  unfold d__law_stands
  walk_at "dl"
  cases k with
  | pl c =>
    refine i_t rfl ?_
    walk_at "dl"
    exact h
  | tw f a b =>
    have hd : 1 + max a.depth b.depth ≤ n + 1 := kd
    have hz : a.size + b.size ≤ 1000 := kz
    have ha := std_len a
    have hb := std_len b
    refine i_f (fm_ne f) ?_
    walk_at "dl"
    cases f with
    | bh =>
      rw [std_bh] at h
      refine i_t rfl ?_
      walk_at "dl"
      refine ⟨a, rfl, kg.2.1, by omega, by omega, ?_⟩
      walk_at "dl"
      refine ⟨b, rfl, kg.2.2, by omega, by omega, ?_⟩
      refine ⟨_, rfl, by rw [txt_len]; omega, ?_⟩
      rw [rev_txt]
      refine i_addZS (by rw [txt_len, txt_len, List.length_reverse]; omega) ?_
      rw [txt_app]; exact h
    | ah =>
      rw [std_ah] at h
      refine i_f rfl ?_
      walk_at "dl"
      refine ⟨a, rfl, kg.2.1, by omega, by omega, ?_⟩
      refine ⟨_, rfl, by rw [txt_len]; omega, ?_⟩
      rw [rev_txt]
      walk_at "dl"
      refine ⟨b, rfl, kg.2.2, by omega, by omega, ?_⟩
      refine i_addZS (by rw [txt_len, txt_len, List.length_reverse]; omega) ?_
      rw [txt_app]; exact h
    | wi => exact absurd rfl kg.1
/-! ### _law_line -/
abbrev N__law_line : List Str := ["lane", "shape", "part"]
def fs__law_line : FS := fun xs M P _ => ∃ (x : DV) (ks : List Kd) (k : Kd), xs = [x, k.dv] ∧ lstOf M x = some (ks.map Kd.dv) ∧ sizes (ks ++ [k]) ≤ 1000 ∧ (∀ z ∈ ks ++ [k], z.one ∧ z.depth ≤ 30) ∧ P (.str (txtOf (lineOf ks k))) M
theorem len__law_line : ∀ xs M P Pe, fs__law_line xs M P Pe → xs.length = 2 := by
  rintro xs M P Pe ⟨x, _, _, rfl, _⟩; rfl
def d__law_line : DS := (dRet (dOp dAddZ (dJoin (dC (.str "")) (dFz (dLc (dIter (dVar 0)) (dgName 2) dYes (dCall (fs__law_stands 30) PX0 (dCons (dVar 2) dNil)) [2]))) (dRevT (dCall (fs__law_stands 30) PX0 (dCons (dVar 1) dNil)))))
theorem pure__law_line : ∀ xs M P Pe, fs__law_line xs M P Pe → d__law_line { nx := fun _ M' => Rt P .non M', rt := Rt P } (startD N__law_line xs) M := by
  rintro xs M P Pe ⟨x, ks, k, rfl, hx, hz, hg, h⟩
  have h := rt_here h
  have hk : ∀ z ∈ ks ++ [k], z.size ≤ 1000 := fun z q => Nat.le_trans (sizes_mem q) hz
  have hlen := sizes_len (ks ++ [k])
  rw [List.length_append, List.length_singleton] at hlen
  unfold d__law_line
  walk_at "dl"
  refine ⟨_, rfl, ?_⟩
  walk_at "dl"
  refine i_iterQ hx ?_
  refine lcVA ks _ (fun z => DV.str (txtOf z.std)) (by omega) (fun M2 e => stand_ext hx e) ?_ (fun z hz2 M4 Q R e hQ => ?_)
  · have hfl : (ks.map Kd.std).flatten = rowStd ks := by rw [rowStd, List.flatMap_def]
    have hz1 := rowStd_len ks
    have hz2 : sizes ks + k.size ≤ 1000 := by rw [sizes_app, sizes_cons] at hz; omega
    have hk1 := std_len k
    have hseq : seqOf M (.fl (ks.map fun z => DV.str (txtOf z.std))) = some ((ks.map Kd.std).map fun c => DV.str (txtOf c)) := by rw [List.map_map]; rfl
    have hstr : strsOf ((ks.map Kd.std).map fun c => DV.str (txtOf c)) = some ((ks.map Kd.std).map txtOf) := by
      have := strsOf_map ((ks.map Kd.std).map txtOf)
      rw [List.map_map] at this
      exact this
    refine ⟨_, (ks.map Kd.std).map txtOf, hseq, hstr, ?_, ?_⟩
    · rw [sum_txt, hfl]
      have e0 : (Str.ofString "").length = 0 := by decide
      rw [e0]; omega
    rw [txt_joins rfl, hfl]
    walk_at "dl"
    refine ⟨k, rfl, (hg k (by simp)).1, hk k (by simp), (hg k (by simp)).2, ?_⟩
    refine ⟨_, rfl, by rw [txt_len]; omega, ?_⟩
    rw [rev_txt]
    refine i_addZS (by rw [txt_len, txt_len, List.length_reverse]; omega) ?_
    rw [txt_app]; exact h
  · walk_at "dl"
    refine ⟨z, rfl, (hg z (by simp [hz2])).1, hk z (by simp [hz2]), (hg z (by simp [hz2])).2, ?_⟩
    exact hQ
/-! ### _law_same -/
abbrev N__law_same : List Str := ["answer", "due", "alike", "spot"]
/-- the same data; its lists are short -/
inductive Ds : Nat → DV → Prop
  | non {n : Nat} : Ds (n + 1) .non
  | bl {n : Nat} (b : Bool) : Ds (n + 1) (.bl b)
  | int {n : Nat} (i : Int) : Ds (n + 1) (.int i)
  | str {n : Nat} (s : Str) : Ds (n + 1) (.str s)
  | tup {n : Nat} {xs : List DV} (l : xs.length ≤ 1000) (h : ∀ x ∈ xs, Ds n x) : Ds (n + 1) (.tup xs)
  | fl {n : Nat} {xs : List DV} (l : xs.length ≤ 1000) (h : ∀ x ∈ xs, Ds n x) : Ds (n + 1) (.fl xs)
theorem Ds.stn {n : Nat} {x : DV} {M : Mem} (h : Ds n x) : stn M x = x := by
  cases h <;> rfl
theorem ds_inv {M : Mem} {x : DV} : (∃ xs, lstOf M x = some xs ∧ stn M x = .fl xs) ∨ (stn M x = x ∧ lstOf M x = none) := by
  unfold stn
  cases e : lstOf M x with
  | none => exact .inr ⟨rfl, rfl⟩
  | some xs => exact .inl ⟨xs, rfl, rfl⟩
def fs__law_same (n : Nat) : FS := fun xs M P _ => ∃ x y, xs = [x, y] ∧ Ds n (stn M x) ∧ stn M x = stn M y ∧ P (.bl true) M
theorem len__law_same (n : Nat) : ∀ xs M P Pe, fs__law_same n xs M P Pe → xs.length = 2 := by
  rintro xs M P Pe ⟨c, _, rfl, _⟩; rfl
theorem no__law_same : ∀ xs M P Pe, ¬ fs__law_same 0 xs M P Pe := by
  rintro xs M P Pe ⟨x, y, _, h, _⟩; cases h
theorem same_of {n : Nat} {x : DV} {M : Mem} {P : PV} (h : Ds n x) (p : P (.bl true) M) : fs__law_same n [x, x] M P PX0 := ⟨x, x, rfl, by rw [h.stn]; exact h, rfl, p⟩
/-- with a list under way -/
theorem same_loc {n : Nat} {x y z : DV} {M : Mem} {P : PV} (h : Ds n z) (e1 : stn M x = z) (e2 : stn M y = z) (p : P (.bl true) M) : fs__law_same n [x, y] M P PX0 := ⟨x, y, rfl, by rw [e1]; exact h, by rw [e1, e2], p⟩
theorem stn_lst {M : Mem} {x : DV} {xs : List DV} (h : lstOf M x = some xs) : stn M x = .fl xs := by
  unfold stn; rw [h]
theorem i_ixQ {M : Mem} {x z : DV} {xs : List DV} {i : Int} {P : PV} (h : seqOf M x = some xs) (e : atI xs i = some z) (p : P z M) : dIx x (.int i) M P := by
  cases x with
  | str s => cases h
  | _ => exact ⟨i, rfl, xs, z, h, e, p⟩
theorem seq_ext {M M2 : Mem} {x : DV} {xs : List DV} (h : seqOf M x = some xs) (e : Ext M M2) : seqOf M2 x = some xs := by
  cases x with
  | loc p =>
    have q : isStand (.loc p) xs M := stand_of (x := .loc p) h
    exact lst_loc (e p _ q)
  | _ => exact h
theorem kc1 : kitB "int" "tuple" = some false := by decide +kernel
theorem kc2 : kitB "str" "tuple" = some false := by decide +kernel
theorem kc3 : kitB "bool" "tuple" = some false := by decide +kernel
theorem kc4 : kitB "NoneType" "tuple" = some false := by decide +kernel
theorem kc5 : kitB "int" "list" = some false := by decide +kernel
theorem kc6 : kitB "str" "list" = some false := by decide +kernel
theorem kc7 : kitB "bool" "list" = some false := by decide +kernel
theorem kc8 : kitB "NoneType" "list" = some false := by decide +kernel
theorem kc9 : kitB "tuple" "tuple" = some true := by decide +kernel
theorem kc10 : kitB "list" "tuple" = some false := by decide +kernel
def d__law_same (n : Nat) : DS := (dSeq (dIfS (dOrT (dTruth (dCB dIsi (dCons (dVar 1) (dCons (dC (.ty "tuple")) dNil)))) (dTruth (dCB dIsi (dCons (dVar 1) (dCons (dC (.ty "list")) dNil)))))
  (dSeq (dAsg (dIf (dTruth (dCB dIsi (dCons (dVar 1) (dCons (dC (.ty "tuple")) dNil)))) (dCB dIsi (dCons (dVar 0) (dCons (dC (.ty "tuple")) dNil))) (dCB dIsi (dCons (dVar 0) (dCons (dC (.ty "list")) dNil)))) (dgName 2))
  (dSeq (dIfS (dOrT (dNotT (dTruth (dVar 2))) (dTest (dOp dNeU (dCB dLen (dCons (dVar 0) dNil)) (dCB dLen (dCons (dVar 1) dNil)))))
  (dRet (dC (.bl false)))
  dNext)
  (dRet (dOp dEqNil (dFz (dLc (dRng1 (dCons (dCB dLen (dCons (dVar 1) dNil)) dNil)) (dgName 3) (dNotT (dTruth (dCall (fs__law_same n) PX0 (dCons (dOp dIx (dVar 0) (dVar 3)) (dCons (dOp dIx (dVar 1) (dVar 3)) dNil))))) (dVar 3) [3])) (dFz (dLst dNil))))))
  dNext)
  (dSeq (dIfS (dOrT (dTest (dOp dIsN (dVar 1) (dC .non))) (dOrT (dTest (dOp dIsZ (dVar 1) (dC (.bl true)))) (dTest (dOp dIsZ (dVar 1) (dC (.bl false))))))
  (dRet (dIf (dTest (dOp dIsN (dVar 1) (dC .non))) (dOp dIsN (dVar 0) (dC .non)) (dIf (dTest (dOp dIsZ (dVar 1) (dC (.bl true)))) (dOp dIsZ (dVar 0) (dC (.bl true))) (dOp dIsZ (dVar 0) (dC (.bl false))))))
  dNext)
  (dSeq (dIfS (dTruth (dCB dIsi (dCons (dVar 1) (dCons (dC (.ty "str")) dNil))))
  (dRet (dAndV (dCB dIsi (dCons (dVar 0) (dCons (dC (.ty "str")) dNil))) (dOp dEqU (dVar 0) (dVar 1))))
  dNext)
  (dRet (dAndV (dCB dIsi (dCons (dVar 0) (dCons (dC (.ty "int")) dNil))) (dAndV (dNotV (dCB dIsi (dCons (dVar 0) (dCons (dC (.ty "bool")) dNil)))) (dOp dEqU (dVar 0) (dVar 1))))))))
theorem pure__law_same (n : Nat) : ∀ xs M P Pe, fs__law_same (n + 1) xs M P Pe → d__law_same n { nx := fun _ M' => Rt P .non M', rt := Rt P } (startD N__law_same xs) M := by
  rintro xs M P Pe ⟨x, y, rfl, hd, he, h⟩
  have h := rt_here h
  unfold d__law_same
  have seqs : (∃ zs, ((x = .tup zs ∧ y = .tup zs) ∨ (lstOf M x = some zs ∧ lstOf M y = some zs)) ∧ zs.length ≤ 1000 ∧ ∀ z ∈ zs, Ds n z) ∨ (x = y ∧ (x = .non ∨ (∃ b, x = .bl b) ∨ (∃ i, x = .int i) ∨ ∃ s, x = .str s)) := by
    rcases ds_inv (M := M) (x := x) with ⟨zs, h1, h2⟩ | ⟨h1, h2⟩
    · left
      rw [h2] at hd he
      cases hd with
      | fl hl hz =>
        refine ⟨zs, .inr ⟨h1, ?_⟩, hl, hz⟩
        rcases ds_inv (M := M) (x := y) with ⟨ws, k1, k2⟩ | ⟨k1, k2⟩
        · rw [k2] at he; cases he; exact k1
        · rw [k1] at he; subst he; cases k2
    · rw [h1] at hd he
      have hy : y = x := by
        rcases ds_inv (M := M) (x := y) with ⟨ws, k1, k2⟩ | ⟨k1, k2⟩
        · rw [k2] at he; subst he; cases h2
        · rw [k1] at he; exact he.symm
      subst hy
      cases hd with
      | non => exact .inr ⟨rfl, .inl rfl⟩
      | bl b => exact .inr ⟨rfl, .inr (.inl ⟨b, rfl⟩)⟩
      | int b => exact .inr ⟨rfl, .inr (.inr (.inl ⟨b, rfl⟩))⟩
      | str b => exact .inr ⟨rfl, .inr (.inr (.inr ⟨b, rfl⟩))⟩
      | tup hl hz => exact .inl ⟨_, .inl ⟨rfl, rfl⟩, hl, hz⟩
      | fl hl hz => cases h2
  rcases seqs with ⟨zs, hxy, hl, hi⟩ | ⟨rfl, hx⟩
  rotate_left
  · rcases hx with rfl | ⟨b, rfl⟩ | ⟨i, rfl⟩ | ⟨s, rfl⟩
    · walk_at "dl"
      refine i_isi rfl kc4 ?_
      walk_at "dl"
      refine i_isi rfl kc8 ?_
      walk_at "dl"
      refine i_isN (c := true) rfl ?_
      walk_at "dl"
      refine i_isN (c := true) rfl ?_
      walk_at "dl"
      refine i_isN (c := true) rfl ?_
      exact h
    · walk_at "dl"
      refine i_isi rfl kc3 ?_
      walk_at "dl"
      refine i_isi rfl kc7 ?_
      walk_at "dl"
      refine i_isN (c := false) rfl ?_
      walk_at "dl"
      refine i_isZB ?_
      walk_at "dl"
      cases b with
      | true =>
        refine i_t rfl ?_
        walk_at "dl"
        refine i_isN (c := false) rfl ?_
        walk_at "dl"
        refine i_isZB ?_
        walk_at "dl"
        refine i_t rfl ?_
        walk_at "dl"
        refine i_isZB ?_
        exact h
      | false =>
        refine i_f rfl ?_
        walk_at "dl"
        refine i_isZB ?_
        walk_at "dl"
        refine i_t rfl ?_
        walk_at "dl"
        refine i_isN (c := false) rfl ?_
        walk_at "dl"
        refine i_isZB ?_
        walk_at "dl"
        refine i_f rfl ?_
        walk_at "dl"
        refine i_isZB ?_
        exact h
    · walk_at "dl"
      refine i_isi rfl kc1 ?_
      walk_at "dl"
      refine i_isi rfl kc5 ?_
      walk_at "dl"
      refine i_isN (c := false) rfl ?_
      walk_at "dl"
      refine i_isZI ?_
      walk_at "dl"
      refine i_isZI ?_
      walk_at "dl"
      refine i_isi rfl kb5 ?_
      walk_at "dl"
      refine i_isi rfl kb8 ?_
      walk_at "dl"
      refine i_isi rfl kb6 ?_
      walk_at "dl"
      have e : (i == i) = true := by simp
      rw [e]; exact h
    · walk_at "dl"
      refine i_isi rfl kc2 ?_
      walk_at "dl"
      refine i_isi rfl kc6 ?_
      walk_at "dl"
      refine i_isN (c := false) rfl ?_
      walk_at "dl"
      refine i_isZS ?_
      walk_at "dl"
      refine i_isZS ?_
      walk_at "dl"
      refine i_isi rfl kb3 ?_
      walk_at "dl"
      refine i_isi rfl kb3 ?_
      walk_at "dl"
      have e : (s == s) = true := by simp
      rw [e]; exact h
  · obtain ⟨t1, u1, ka, kb, fx, fy, sx, sy⟩ : ∃ (t1 : String) (u1 : Bool), kitB t1 "tuple" = some u1 ∧ kitB t1 "list" = some (!u1) ∧ tyD M x = some t1 ∧ tyD M y = some t1 ∧ seqOf M x = some zs ∧ seqOf M y = some zs := by
      rcases hxy with ⟨rfl, rfl⟩ | ⟨h1, h2⟩
      · exact ⟨_, true, kc9, kb2, rfl, rfl, rfl, rfl⟩
      · obtain ⟨a1, a2, a3, a4, a5⟩ := lst_ty h1
        obtain ⟨b1, b2, b3, b4, b5⟩ := lst_ty h2
        exact ⟨_, false, kc10, kb1, a1, b1, a2, b2⟩
    cases u1
    case' true =>
      walk_at "dl"
      refine i_isi fy ka ?_
      walk_at "dl"
      refine i_isi fy ka ?_
      walk_at "dl"
      refine i_isi fx ka ?_
    case' false =>
      walk_at "dl"
      refine i_isi fy ka ?_
      walk_at "dl"
      refine i_isi fy kb ?_
      walk_at "dl"
      refine i_isi fy ka ?_
      walk_at "dl"
      refine i_isi fx kb ?_
    all_goals
      walk_at "dl"
      try refine i_f rfl ?_
      walk_at "dl"
      refine i_lenQ sx ?_
      walk_at "dl"
      refine i_lenQ sy ?_
      walk_at "dl"
      refine i_f (by simp) ?_
      walk_at "dl"
      refine i_lenQ sy ?_
      walk_at "dl"
      refine ⟨_, rfl, by omega, by omega, ?_⟩
      rw [Int.toNat_natCast, rngN]
      refine lcV (List.range zs.length) _ (fun _ => .non) (fun _ => false) (by rw [List.length_range]; omega) (fun _ _ => trivial) ?_ (fun i hi2 M4 Q R e hQ hR => ?_)
      · rw [List.filter_eq_nil_iff.mpr (fun _ _ => by decide)]
        walk_at "dl"
        exact ⟨[], rfl, rfl, h⟩
      · have hlt : i < zs.length := List.mem_range.mp hi2
        have hat : atI zs (i : Int) = some zs[i] := atI_nat (List.getElem?_eq_getElem hlt)
        walk_at "dl"
        refine i_ixQ (seq_ext sx e) hat ?_
        walk_at "dl"
        refine i_ixQ (seq_ext sy e) hat ?_
        walk_at "dl"
        refine same_of (hi _ (List.getElem_mem hlt)) ?_
        walk_at "dl"
        try refine i_f rfl ?_
        exact hR rfl
/-! ### _law_spoil -/
abbrev N__law_spoil : List Str := ["thing", "part"]
/-- the list of places is changed behind the answer -/
def fs__law_spoil (n : Nat) : FS := fun xs M P _ => (∃ i : Int, xs = [.int i] ∧ 1 ≤ n ∧ P .non M) ∨ ∃ (M0 : Mem) (p : Addr) (ns : List Nat), M = M0.up p (.lst (ns.map inDV)) ∧ xs = [.loc p] ∧ 2 ≤ n ∧ ns.length < 1000 ∧ P .non (M0.up p (.lst (ns.map inDV ++ [.str "more"])))
theorem len__law_spoil (n : Nat) : ∀ xs M P Pe, fs__law_spoil n xs M P Pe → xs.length = 1 := by
  rintro xs M P Pe (⟨i, rfl, _⟩ | ⟨M0, p, ns, rfl, rfl, _⟩) <;> rfl
theorem no__law_spoil : ∀ xs M P Pe, ¬ fs__law_spoil 0 xs M P Pe := by
  rintro xs M P Pe (⟨i, rfl, h, _⟩ | ⟨M0, p, ns, rfl, rfl, h, _⟩) <;> omega
def d__law_spoil (n : Nat) : DS := (dIfS (dTruth (dCB dIsi (dCons (dVar 0) (dCons (dC (.ty "list")) dNil))))
  (dSeq (dFor (dIter (dFz (dCB dListOf (dCons (dVar 0) dNil)))) (dgName 1)
  (dDrop (dCall (fs__law_spoil n) PX0 (dCons (dVar 1) dNil))))
  (dDrop (dAppend (dVar 0) (dC (.str "more")))))
  (dIfS (dTruth (dCB dIsi (dCons (dVar 0) (dCons (dC (.ty "tuple")) dNil))))
  (dFor (dIter (dVar 0)) (dgName 1)
  (dDrop (dCall (fs__law_spoil n) PX0 (dCons (dVar 1) dNil))))
  dNext))
theorem pure__law_spoil (n : Nat) : ∀ xs M P Pe, fs__law_spoil (n + 1) xs M P Pe → d__law_spoil n { nx := fun _ M' => Rt P .non M', rt := Rt P } (startD N__law_spoil xs) M := by
  rintro xs M P Pe (⟨i, rfl, hn, h⟩ | ⟨M0, p, ns, rfl, rfl, hn, hl, h⟩)
  · unfold d__law_spoil
    walk_at "dl"
    refine i_isi rfl kc5 ?_
    walk_at "dl"
    refine i_isi rfl kc1 ?_
    walk_at "dl"
    exact rt_here h
  · unfold d__law_spoil
    have e1 : lstOf (M0.up p (.lst (ns.map inDV))) (.loc p) = some (ns.map inDV) := lst_loc up_same
    walk_at "dl"
    refine i_isi (lst_ty e1).1 kb1 ?_
    walk_at "dl"
    refine ⟨_, _, rfl, e1, ?_⟩
    intro q hq
    refine rt_top hq ?_
    refine i_iterF ?_
    refine forL ns _ (fun _ S2 M2 => ∃ v : Option DV, S2 = [some (.loc p), v] ∧ M2 = M0.up p (.lst (ns.map inDV))) (fun _ _ _ _ => trivial) ⟨none, rfl, rfl⟩ ?_ ?_
    · rintro S2 M2 ⟨v, rfl, rfl⟩
      have hl2 : (ns.map inDV).length < 100000 := by rw [List.length_map]; omega
      walk_at "dl"
      exact rt_here h
    · rintro dn z rm ed S2 M2 ⟨v, rfl, rfl⟩ R hR
      walk_at "dl"
      refine .inl ⟨(z : Int), rfl, by omega, ?_⟩
      walk_at "dl"
      exact hR _ _ ⟨_, rfl, rfl⟩
/-! ### _law_owners -/
abbrev N__law_owners : List Str := ["lane", "shape", "found", "spot"]
theorem rep_in (n i : Nat) : (List.replicate n [DV.int (i : Int)]).flatten = (List.replicate n i).map inDV := by
  rw [List.flatten_replicate_singleton, List.map_replicate]; rfl
def fs__law_owners : FS := fun xs M P _ => ∃ (x : DV) (ks : List Kd) (k : Kd), xs = [x, k.dv] ∧ lstOf M x = some (ks.map Kd.dv) ∧ sizes (ks ++ [k]) ≤ 900 ∧ (∀ z ∈ ks ++ [k], z.depth ≤ 100) ∧ P (.fl ((own 0 (ks ++ [k])).map inDV)) M
theorem len__law_owners : ∀ xs M P Pe, fs__law_owners xs M P Pe → xs.length = 2 := by
  rintro xs M P Pe ⟨x, _, _, rfl, _⟩; rfl
def d__law_owners : DS := (dSeq (dAsg (dFz (dLst dNil)) (dgName 2))
  (dSeq (dFor (dRng1 (dCons (dCB dLen (dCons (dVar 0) dNil)) dNil)) (dgName 3)
  (dAsg (dOp dAddZ (dVar 2) (dFz (dOp dRep (dLst (dCons (dVar 3) dNil)) (dCall (fs__law_size 100) PX0 (dCons (dOp dIx (dVar 0) (dVar 3)) dNil))))) (dgName 2)))
  (dRet (dOp dAddZ (dVar 2) (dFz (dOp dRep (dLst (dCons (dCB dLen (dCons (dVar 0) dNil)) dNil)) (dCall (fs__law_size 100) PX0 (dCons (dVar 1) dNil))))))))
theorem pure__law_owners : ∀ xs M P Pe, fs__law_owners xs M P Pe → d__law_owners { nx := fun _ M' => Rt P .non M', rt := Rt P } (startD N__law_owners xs) M := by
  rintro xs M P Pe ⟨x, ks, k, rfl, hx, hz, hd, h⟩
  have h := rt_here h
  have hlen := sizes_len (ks ++ [k])
  have hsz : sizes ks + k.size ≤ 900 := by rw [sizes_app, sizes_cons] at hz; omega
  rw [List.length_append, List.length_singleton] at hlen
  unfold d__law_owners
  walk_at "dl"
  refine i_lenQ (by cases x <;> first | exact hx | cases hx) ?_
  walk_at "dl"
  refine ⟨_, rfl, by rw [List.length_map]; omega, by rw [List.length_map]; omega, ?_⟩
  rw [Int.toNat_natCast, List.length_map]
  refine forR ks.length (fun i S2 M2 => ∃ v3 : Option DV, S2 = [some x, some k.dv, some (.fl ((own 0 (ks.take i)).map inDV)), v3] ∧ M2 = M) (fun _ => trivial)
    ⟨none, rfl, rfl⟩ ?_ ?_
  · rintro S2 M2 ⟨v3, rfl, rfl⟩
    rw [List.take_length]
    walk_at "dl"
    refine i_lenQ (by cases x <;> first | exact hx | cases hx) ?_
    walk_at "dl"
    intro p hp
    walk_at "dl"
    refine ⟨k, rfl, hd k (by simp), ?_⟩
    refine ⟨p, _, k.size, rfl, up_same, rfl, by omega, by simp; omega, fun q hq => ?_⟩
    obtain ⟨hqp, hq⟩ := up_none hq
    refine rt_lst (ext2 hp hq) up_same hq ?_
    rw [List.length_map, rep_in]
    have ow := own_len ks 0
    refine i_addZF (by rw [List.length_map, List.length_map, List.length_replicate]; omega) ?_
    have e : (own 0 ks).map inDV ++ (List.replicate k.size ks.length).map inDV = (own 0 (ks ++ [k])).map inDV := by
      rw [own_app, own_cons, Nat.zero_add, List.map_append, List.map_append]
      simp [own]
    rw [e]
    exact h
  · rintro i hi S2 M2 ⟨v3, rfl, rfl⟩ R hR
    have hat : atI (ks.map Kd.dv) (i : Int) = some ks[i].dv := atI_nat (by rw [List.getElem?_map, List.getElem?_eq_getElem hi]; rfl)
    have hmem : ks[i] ∈ ks := List.getElem_mem hi
    have hki := sizes_mem hmem
    walk_at "dl"
    intro p hp
    walk_at "dl"
    refine i_ixQ (seq_ext (M := M2) (by cases x <;> first | exact hx | cases hx) (Ext.new hp)) hat ?_
    walk_at "dl"
    refine ⟨ks[i], rfl, hd _ (by simp [hmem]), ?_⟩
    refine ⟨p, _, ks[i].size, rfl, up_same, rfl, by omega, by simp; omega, fun q hq => ?_⟩
    obtain ⟨hqp, hq⟩ := up_none hq
    refine rt_lst (ext2 hp hq) up_same hq ?_
    rw [rep_in]
    have ow := own_len (ks.take i) 0
    have hst : sizes (ks.take i) ≤ sizes ks := by
      have := sizes_app (ks.take i) (ks.drop i)
      rw [List.take_append_drop] at this
      omega
    refine i_addZF (by rw [List.length_map, List.length_map, List.length_replicate]; omega) ?_
    have e : (own 0 (ks.take i)).map inDV ++ (List.replicate ks[i].size i).map inDV = (own 0 (ks.take (i + 1))).map inDV := by
      rw [List.take_succ_eq_append_getElem hi, own_app, own_cons, Nat.zero_add, List.length_take, Nat.min_eq_left (by omega), List.map_append, List.map_append]
      simp [own]
    rw [e]
    walk_at "dl"
    exact hR _ _ ⟨_, rfl, rfl⟩
/-! ### _law_told_right -/
abbrev N__law_told_right : List Str := ["lane", "shape", "handed", "due", "answer", "part"]
def fs__law_told_right : FS := fun xs M P _ => ∃ (x : DV) (ks : List Kd) (k : Kd), xs = [x, k.dv] ∧ lstOf M x = some (ks.map Kd.dv) ∧ ks ≠ [] ∧ sizes (ks ++ [k]) ≤ 500 ∧ (∀ z ∈ ks ++ [k], z.ok ∧ z.depth ≤ 30) ∧ P (.bl true) M
theorem len__law_told_right : ∀ xs M P Pe, fs__law_told_right xs M P Pe → xs.length = 2 := by
  rintro xs M P Pe ⟨x, _, _, rfl, _⟩; rfl
theorem kd_ds : ∀ {k : Kd} {n : Nat}, k.depth ≤ n → Ds (n + 1) k.dv
  | .pl c, n, h => by
    have h : 1 ≤ n := h
    obtain ⟨m, rfl⟩ : ∃ m, n = m + 1 := ⟨n - 1, by omega⟩
    refine .tup (by simp) fun x hx => ?_
    simp only [List.mem_cons, List.not_mem_nil, or_false] at hx
    rcases hx with rfl | rfl
    · exact .str _
    · exact .str _
  | .tw f a b, n, h => by
    have h : 1 + max a.depth b.depth ≤ n := h
    obtain ⟨m, rfl⟩ : ∃ m, n = m + 1 := ⟨n - 1, by omega⟩
    refine .tup (by simp) fun x hx => ?_
    simp only [List.mem_cons, List.not_mem_nil, or_false] at hx
    rcases hx with rfl | rfl | rfl
    · exact .str _
    · exact kd_ds (by omega)
    · exact kd_ds (by omega)
theorem in_ds {n : Nat} {l : List Nat} (h : l.length ≤ 1000) : Ds (n + 2) (.fl (l.map inDV)) := by
  refine .fl (by rw [List.length_map]; exact h) fun x hx => ?_
  obtain ⟨i, _, rfl⟩ := List.mem_map.mp hx
  exact .int _
theorem row_ds {ks : List Kd} (hl : ks.length ≤ 1000) (h : ∀ k ∈ ks, k.depth ≤ 38) : Ds 40 (.fl (ks.map Kd.dv)) := by
  refine .fl (by rw [List.length_map]; exact hl) fun x hx => ?_
  obtain ⟨k, hk, rfl⟩ := List.mem_map.mp hx
  exact kd_ds (h k hk)
def d__law_told_right : DS := (dSeq (dPar 2 3 (dCons (dFz (dCB dListOf (dCons (dVar 0) dNil))) (dCons (dCall fs__law_line PX0 (dCons (dVar 0) (dCons (dVar 1) dNil))) dNil)))
  (dSeq (dIfS (dOrT (dNotT (dTruth (dCall (fs__law_same 40) PX0 (dCons (dCall fs_line PX0 (dCons (dVar 2) (dCons (dVar 1) dNil))) (dCons (dVar 3) dNil))))) (dNotT (dTruth (dCall (fs__law_same 40) PX0 (dCons (dCallN 0 2 fs_line [1, 0] PX0 dNil (dCons (dVar 1) (dCons (dVar 2) dNil))) (dCons (dVar 3) dNil))))))
  (dRet (dC (.bl false)))
  dNext)
  (dSeq (dAsg (dCall fs_owners PX0 (dCons (dVar 2) (dCons (dVar 1) dNil))) (dgName 4))
  (dSeq (dIfS (dNotT (dTruth (dCall (fs__law_same 40) PX0 (dCons (dVar 4) (dCons (dCall fs__law_owners PX0 (dCons (dVar 0) (dCons (dVar 1) dNil))) dNil)))))
  (dRet (dC (.bl false)))
  dNext)
  (dSeq (dDrop (dCall (fs__law_spoil 2) PX0 (dCons (dVar 4) dNil)))
  (dSeq (dIfS (dOrT (dNotT (dTruth (dCall (fs__law_same 40) PX0 (dCons (dCallN 0 2 fs_owners [1, 0] PX0 dNil (dCons (dVar 1) (dCons (dVar 2) dNil))) (dCons (dCall fs__law_owners PX0 (dCons (dVar 0) (dCons (dVar 1) dNil))) dNil))))) (dNotT (dTruth (dCall (fs__law_same 40) PX0 (dCons (dVar 2) (dCons (dVar 0) dNil))))))
  (dRet (dC (.bl false)))
  dNext)
  (dRet (dOp dEqU (dCB dLen (dCons (dVar 3) dNil)) (dCB dSum (dCons (dFz (dLc (dIter (dOp dAddZ (dVar 0) (dFz (dLst (dCons (dVar 1) dNil))))) (dgName 5) dYes (dCall (fs__law_size 100) PX0 (dCons (dVar 5) dNil)) [5])) dNil))))))))))
theorem pure__law_told_right : ∀ xs M P Pe, fs__law_told_right xs M P Pe → d__law_told_right { nx := fun _ M' => Rt P .non M', rt := Rt P } (startD N__law_told_right xs) M := by
  rintro xs M P Pe ⟨x, ks, k, rfl, hx, hn, hz, hg, h⟩
  have hlen := sizes_len (ks ++ [k])
  rw [List.length_append, List.length_singleton] at hlen
  have hz1 : sizes (ks ++ [k]) ≤ 1000 := by omega
  have hz9 : sizes (ks ++ [k]) ≤ 900 := by omega
  have hok : ∀ z ∈ ks ++ [k], z.ok := fun z q => (hg z q).1
  have hon : ∀ z ∈ ks ++ [k], z.one ∧ z.depth ≤ 30 := fun z q => ⟨(hg z q).1.2, (hg z q).2⟩
  have hd1 : ∀ z ∈ ks ++ [k], z.depth ≤ 100 := fun z q => by have := (hg z q).2; omega
  have how := own_len (ks ++ [k]) 0
  have hq : seqOf M x = some (ks.map Kd.dv) := by cases x <;> first | exact hx | cases hx
  unfold d__law_told_right
  walk_at "dl"
  refine ⟨_, _, rfl, hq, ?_⟩
  walk_at "dl"
  refine ⟨x, ks, k, rfl, hx, hz1, hon, ?_⟩
  walk_at "dl"
  refine ⟨_, ks, k, rfl, rfl, hn, hz1, hok, ?_⟩
  walk_at "dl"
  refine same_of (n := 40) (.str _) ?_
  walk_at "dl"
  try refine i_f rfl ?_
  walk_at "dl"
  refine ⟨rfl, rfl, _, ks, k, rfl, rfl, hn, hz1, hok, ?_⟩
  walk_at "dl"
  refine same_of (n := 40) (.str _) ?_
  walk_at "dl"
  try refine i_f rfl ?_
  walk_at "dl"
  refine ⟨_, ks, k, rfl, rfl, hn, hz1, hok, fun p hp => ?_⟩
  walk_at "dl"
  refine ⟨x, ks, k, rfl, lst_up hx hp, hz9, hd1, ?_⟩
  walk_at "dl"
  refine same_loc (n := 40) (in_ds (n := 38) (l := own 0 (ks ++ [k])) (by omega)) (stn_lst (lst_loc up_same)) rfl ?_
  walk_at "dl"
  try refine i_f rfl ?_
  walk_at "dl"
  refine .inr ⟨M, p, own 0 (ks ++ [k]), rfl, rfl, by decide, by omega, ?_⟩
  walk_at "dl"
  generalize hc : MC.lst ((own 0 (ks ++ [k])).map inDV ++ [.str "more"]) = c
  refine ⟨rfl, rfl, _, ks, k, rfl, rfl, hn, hz1, hok, fun q hq2 => ?_⟩
  walk_at "dl"
  have hx2 : lstOf ((M.up p c).up q (.lst ((own 0 (ks ++ [k])).map inDV))) x = some (ks.map Kd.dv) := lst_up (lst_up hx hp) hq2
  refine ⟨x, ks, k, rfl, hx2, hz9, hd1, ?_⟩
  walk_at "dl"
  refine same_loc (n := 40) (in_ds (n := 38) (l := own 0 (ks ++ [k])) (by omega)) (stn_lst (lst_loc up_same)) rfl ?_
  walk_at "dl"
  try refine i_f rfl ?_
  walk_at "dl"
  refine same_loc (n := 40) (z := .fl (ks.map Kd.dv)) (row_ds (by omega) fun z hz2 => by have := (hg z (by simp [hz2])).2; omega) rfl (stn_lst hx2) ?_
  walk_at "dl"
  try refine i_f rfl ?_
  walk_at "dl"
  refine i_lenS (by rw [txt_len, lineOf_len]; omega) ?_
  rw [txt_len, lineOf_len]
  walk_at "dl"
  refine i_addZQ hx2 rfl (by rw [List.length_map]; simp; omega) ?_
  walk_at "dl"
  have er : ks.map Kd.dv ++ [k.dv] = (ks ++ [k]).map Kd.dv := by rw [List.map_append]; rfl
  rw [er]
  refine i_iterF ?_
  refine lcVA (ks ++ [k]) _ (fun z => DV.int (z.size : Nat)) (by rw [List.length_append, List.length_singleton]; omega) (fun _ _ => trivial) ?_ (fun z hz M4 Q R e hQ => ?_)
  · walk_at "dl"
    refine ⟨_, _, _, rfl, rfl, ints_of (ks ++ [k]) Kd.size, ?_⟩
    rw [sum_of]
    walk_at "dl"
    have e2 : ((sizes (ks ++ [k]) : Int) == (((ks ++ [k]).map Kd.size).sum : Int)) = true := by
      show ((((ks ++ [k]).map Kd.size).sum : Int) == (((ks ++ [k]).map Kd.size).sum : Int)) = true
      simp
    rw [e2]
    exact rt_sub ((Ext.new hp).trans (Ext.new hq2)) h
  · walk_at "dl"
    refine ⟨z, rfl, hd1 z hz, ?_⟩
    exact hQ
/-! ### _law_right -/
abbrev N__law_right : List Str := ["pool", "lane", "tree", "shape", "mirror", "back", "due", "cut", "spot", "changed", "less"]
theorem turn_ok : ∀ {k : Kd}, k.ok → k.turn.ok
  | .pl c, h => h
  | .tw f a b, h => by
    obtain ⟨b1, b2⟩ := turn_ok (k := b) ⟨h.1.2, h.2.2.2⟩
    obtain ⟨a1, a2⟩ := turn_ok (k := a) ⟨h.1.1, h.2.2.1⟩
    refine ⟨⟨b1, a1⟩, ?_, b2, a2⟩
    have := h.2.1
    cases f
    · decide
    · decide
    · exact absurd rfl this
theorem turn_size : ∀ k : Kd, k.turn.size = k.size
  | .pl c => rfl
  | .tw f a b => by simp only [Kd.turn, Kd.size, turn_size a, turn_size b]; omega
theorem turn_depth : ∀ k : Kd, k.turn.depth = k.depth
  | .pl c => rfl
  | .tw f a b => by simp only [Kd.turn, Kd.depth, turn_depth a, turn_depth b]; omega
theorem turn_std : ∀ {k : Kd}, k.one → k.turn.std = k.std.reverse
  | .pl c, _ => rfl
  | .tw f a b, h => by
    have ha := turn_std h.2.1
    have hb := turn_std h.2.2
    cases f with
    | bh =>
      show (Kd.tw .ah b.turn a.turn).std = _
      rw [std_ah, std_bh, ha, hb]; simp
    | ah =>
      show (Kd.tw .bh b.turn a.turn).std = _
      rw [std_ah, std_bh, ha, hb]; simp
    | wi => exact absurd rfl h.1
theorem turn_rowStd : ∀ {ks : List Kd}, (∀ k ∈ ks, k.one) → rowStd (ks.reverse.map Kd.turn) = (rowStd ks).reverse
  | [], _ => rfl
  | k :: r, h => by
    have ih := turn_rowStd (ks := r) fun z hz => h z (by simp [hz])
    unfold rowStd at ih ⊢
    rw [List.reverse_cons, List.map_append, List.flatMap_append, ih, List.flatMap_cons, List.reverse_append]
    simp only [List.map_cons, List.map_nil, List.flatMap_cons, List.flatMap_nil, List.append_nil]
    rw [turn_std (h k (by simp))]
theorem turn_line {ks : List Kd} {x : Kd} (h : ∀ k ∈ ks, k.one) (hx : x.one) : lineOf (ks.reverse.map Kd.turn) x.turn = (rowStd ks).reverse ++ x.std := by
  rw [lineOf, turn_rowStd h, turn_std hx, List.reverse_reverse]
theorem sizes_turn : ∀ ks : List Kd, sizes (ks.reverse.map Kd.turn) = sizes ks
  | [] => rfl
  | k :: r => by
    rw [List.reverse_cons, List.map_append, sizes_app, sizes_turn r, sizes_cons, List.map_cons, sizes_cons, turn_size]
    show _ + (k.size + 0) = _
    omega
theorem own_shift : ∀ (ks : List Kd) (i : Nat), own (i + 1) ks = (own i ks).map (· + 1)
  | [], _ => rfl
  | k :: r, i => by rw [own_cons, own_cons, own_shift r (i + 1), List.map_append, List.map_replicate]
theorem turn_own : ∀ (ks : List Kd), ((own 0 (ks.reverse.map Kd.turn)).map fun n : Nat => (n : Int)) = (own 0 ks).reverse.map fun n : Nat => (ks.length : Int) - 1 - (n : Int)
  | [] => rfl
  | k :: r => by
    rw [List.reverse_cons, List.map_append, own_app, List.map_append, turn_own r, own_cons, List.reverse_append, List.map_append]
    simp only [Nat.zero_add, own_shift r 0, List.map_cons, List.map_nil, List.length_map, List.length_reverse, List.length_cons]
    congr 1
    · rw [← List.map_reverse, List.map_map]
      apply List.map_congr_left
      intro n _
      show (r.length : Int) - 1 - (n : Int) = ((r.length + 1 : Nat) : Int) - 1 - ((n + 1 : Nat) : Int)
      omega
    · rw [own_cons, turn_size]
      have e0 : own (r.length + 1) [] = [] := rfl
      rw [e0, List.append_nil, List.map_replicate, List.reverse_replicate, List.map_replicate]
      congr 1
      show ((r.length : Nat) : Int) = ((r.length + 1 : Nat) : Int) - 1 - ((0 : Nat) : Int)
      omega
/-- a row within bounds, beside a kind -/
structure RowF (L : List Kd) (x : Kd) : Prop where
  ne : L ≠ []
  len : L.length ≤ 6
  ok : ∀ z ∈ L ++ [x], z.ok ∧ z.size ≤ 7 ∧ z.depth ≤ 5
theorem sizes_le : ∀ {l : List Kd}, (∀ z ∈ l, z.size ≤ 7) → sizes l ≤ 7 * l.length
  | [], _ => Nat.le_refl _
  | k :: r, h => by
    have := sizes_le (l := r) fun z hz => h z (by simp [hz])
    have := h k (by simp)
    rw [sizes_cons, List.length_cons]; omega
theorem RowF.sz {L : List Kd} {x : Kd} (h : RowF L x) : sizes (L ++ [x]) ≤ 49 := by
  have := sizes_le (l := L ++ [x]) fun z hz => (h.ok z hz).2.1
  have := h.len
  rw [List.length_append, List.length_singleton] at *
  omega
theorem RowF.d30 {L : List Kd} {x : Kd} (h : RowF L x) : ∀ z ∈ L ++ [x], z.ok ∧ z.depth ≤ 30 := fun z q => ⟨(h.ok z q).1, by have := (h.ok z q).2.2; omega⟩
theorem RowF.o30 {L : List Kd} {x : Kd} (h : RowF L x) : ∀ z ∈ L ++ [x], z.one ∧ z.depth ≤ 30 := fun z q => ⟨(h.ok z q).1.2, by have := (h.ok z q).2.2; omega⟩
theorem RowF.d100 {L : List Kd} {x : Kd} (h : RowF L x) : ∀ z ∈ L ++ [x], z.depth ≤ 100 := fun z q => by have := (h.ok z q).2.2; omega
theorem RowF.oks {L : List Kd} {x : Kd} (h : RowF L x) : ∀ z ∈ L ++ [x], z.ok := fun z q => (h.ok z q).1
theorem pl_f {c : Nat} (h0 : 97 ≤ c) (h1 : c ≤ 122) : (Kd.pl c).ok ∧ (Kd.pl c).size ≤ 7 ∧ (Kd.pl c).depth ≤ 5 := ⟨⟨⟨h0, h1⟩, trivial⟩, by show 1 ≤ 7; decide, by show 1 ≤ 5; decide⟩
theorem RowF.set {L : List Kd} {x : Kd} (h : RowF L x) (g : Nat) {c : Nat} (h0 : 97 ≤ c) (h1 : c ≤ 122) : RowF (L.set g (.pl c)) x := by
  refine ⟨?_, by rw [List.length_set]; exact h.len, fun z hz => ?_⟩
  · intro e
    have := congrArg List.length e
    rw [List.length_set, List.length_nil] at this
    exact h.ne (List.length_eq_zero_iff.mp this)
  · rcases List.mem_append.mp hz with q | q
    · rcases List.mem_or_eq_of_mem_set q with q | rfl
      · exact h.ok z (by simp [q])
      · exact pl_f h0 h1
    · exact h.ok z (by simp [List.mem_singleton.mp q])
theorem RowF.shift {a : Kd} {L : List Kd} {x : Kd} (h : RowF (a :: L) x) : RowF (L ++ [.pl 122]) x := by
  refine ⟨by simp, by have := h.len; rw [List.length_cons] at this; rw [List.length_append, List.length_singleton]; omega, fun z hz => ?_⟩
  simp only [List.mem_append, List.mem_singleton] at hz
  rcases hz with (q | rfl) | rfl
  · exact h.ok z (by simp [q])
  · exact pl_f (by decide) (by decide)
  · exact h.ok z (by simp)
theorem ext_upp {M N : Mem} (e : Ext M N) (p : Addr) (c : MC) : Ext (M.up p c) (N.up p c) := by
  intro q d hq
  by_cases h : q = p
  · subst h
    rw [up_same] at hq ⊢
    exact hq
  · rw [up_ne h] at hq ⊢
    exact e q d hq
def fs__law_right : FS := fun xs M P _ => ∃ (M0 : Mem) (p : Addr) (c : Nat) (s : MC), M = M0.up p s ∧ xs = [.loc p] ∧ SrP s c ∧ c ≤ 600000 ∧ ∀ s', SrP s' (c + 1000) → P (.bl true) (M0.up p s')
theorem len__law_right : ∀ xs M P Pe, fs__law_right xs M P Pe → xs.length = 1 := by
  rintro xs M P Pe ⟨M0, p, c, s, rfl, rfl, _⟩; rfl
def d__law_right : DS := (dSeq (dIfS (dTest (dOp dEqS (dCall fs__law_pick PX0 (dCons (dVar 0) (dCons (dC (.int 3)) dNil))) (dC (.int 0))))
  (dAsg (dCall fs__law_made PX0 (dCons (dVar 0) (dCons (dOp dAddZ (dC (.int 2)) (dCall fs__law_pick PX0 (dCons (dVar 0) (dCons (dC (.int 8)) dNil)))) dNil))) (dgTup 3 (dgCons (dgName 1) (dgCons (dgName 2) (dgCons (dgName 3) dgNil)))))
  (dAsg (dCall fs__law_lane PX0 (dCons (dVar 0) dNil)) (dgTup 2 (dgCons (dgName 1) (dgCons (dgName 3) dgNil)))))
  (dSeq (dIfS (dNotT (dTruth (dCall fs__law_told_right PX0 (dCons (dVar 1) (dCons (dVar 3) dNil)))))
  (dRet (dC (.bl false)))
  dNext)
  (dSeq (dPar3 4 5 6 (dCons (dCall fs_turned_row PX0 (dCons (dFz (dCB dListOf (dCons (dVar 1) dNil))) dNil)) (dCons (dCall fs_turned PX0 (dCons (dVar 3) dNil)) (dCons (dCall fs__law_line PX0 (dCons (dVar 1) (dCons (dVar 3) dNil))) dNil))))
  (dSeq (dAsg (dOp dSub (dCB dLen (dCons (dVar 6) dNil)) (dCall (fs__law_size 100) PX0 (dCons (dVar 3) dNil))) (dgName 7))
  (dSeq (dIfS (dNotT (dTruth (dCall (fs__law_same 40) PX0 (dCons (dCall fs_line PX0 (dCons (dVar 4) (dCons (dVar 5) dNil))) (dCons (dOp dAddZ (dRevT (dSlcZ (dVar 6) dNoPt (dPt (dVar 7)))) (dRevT (dSlcZ (dVar 6) (dPt (dVar 7)) dNoPt))) dNil)))))
  (dRet (dC (.bl false)))
  dNext)
  (dSeq (dIfS (dNotT (dTruth (dCall (fs__law_same 40) PX0 (dCons (dSlcZ (dCall fs_owners PX0 (dCons (dVar 4) (dCons (dVar 5) dNil))) dNoPt (dPt (dVar 7))) (dCons (dFz (dLc (dIter (dFz (dRevL (dSlcZ (dCall fs__law_owners PX0 (dCons (dVar 1) (dCons (dVar 3) dNil))) dNoPt (dPt (dVar 7)))))) (dgName 8) dYes (dOp dSub (dOp dSub (dCB dLen (dCons (dVar 1) dNil)) (dC (.int 1))) (dVar 8)) [8])) dNil)))))
  (dRet (dC (.bl false)))
  dNext)
  (dSeq (dPar 9 8 (dCons (dCB dListOf (dCons (dVar 1) dNil)) (dCons (dCall fs__law_pick PX0 (dCons (dVar 0) (dCons (dCB dLen (dCons (dVar 1) dNil)) dNil))) dNil)))
  (dSeq (dIfS (dNotT (dTruth (dCall (fs__law_same 40) PX0 (dCons (dCall fs_line PX0 (dCons (dVar 9) (dCons (dVar 3) dNil))) (dCons (dVar 6) dNil)))))
  (dRet (dC (.bl false)))
  dNext)
  (dSeq (dAsg (dTup (dCons (dC (.str "plain")) (dCons (dOp dIx (dOp dIx (dVar 0) (dC (.int 3))) (dCall fs__law_pick PX0 (dCons (dVar 0) (dCons (dCB dLen (dCons (dOp dIx (dVar 0) (dC (.int 3))) dNil)) dNil)))) dNil))) (dgSubL (dVar 9) (dVar 8)))
  (dSeq (dAsg (dCall fs__law_line PX0 (dCons (dVar 9) (dCons (dVar 3) dNil))) (dgName 10))
  (dSeq (dIfS (dOrT (dNotT (dTruth (dCall (fs__law_same 40) PX0 (dCons (dCall fs_line PX0 (dCons (dVar 9) (dCons (dVar 3) dNil))) (dCons (dVar 10) dNil))))) (dNotT (dTruth (dCall (fs__law_same 40) PX0 (dCons (dCall fs_owners PX0 (dCons (dVar 9) (dCons (dVar 3) dNil))) (dCons (dCall fs__law_owners PX0 (dCons (dVar 9) (dCons (dVar 3) dNil))) dNil))))))
  (dRet (dC (.bl false)))
  dNext)
  (dSeq (dDrop (dAppend (dVar 9) (dTup (dCons (dC (.str "plain")) (dCons (dC (.str "z")) dNil)))))
  (dSeq (dDrop (dPop0 (dVar 9) (dC (.int 0))))
  (dRet (dAndV (dCall fs__law_told_right PX0 (dCons (dVar 9) (dCons (dVar 3) dNil))) (dCall fs__law_told_right PX0 (dCons (dVar 1) (dCons (dVar 3) dNil))))))))))))))))))
theorem pure__law_right : ∀ xs M P Pe, fs__law_right xs M P Pe → d__law_right { nx := fun _ M' => Rt P .non M', rt := Rt P } (startD N__law_right xs) M := by
  rintro xs M P Pe ⟨M0, p, c, s, rfl, rfl, hs, hc, h⟩
  unfold d__law_right
  refine i_seqI (fun S' M' => ∃ (l : List Kd) (x : Kd) (s : MC) (v : Option DV), S' = [some (.loc p), some (.fl (l.map Kd.dv)), v, some x.dv, none, none, none, none, none, none, none] ∧ M' = M0.up p s ∧ l ≠ [] ∧ (∀ z ∈ l ++ [x], z.ok) ∧ Wn (l ++ [x]) ∧ SrP s (c + 900)) ?_ (fun R hR => ?_)
  rotate_left
  · walk_at "dl"
    refine pick_top hs (by omega) (by decide) (by decide) fun r s1 r0 r1 hs1 => ?_
    walk_at "dl"
    refine i_tf (fun q => ?_) (fun q => ?_)
    · walk_at "dl"
      refine pick_top hs1 (by omega) (by decide) (by decide) fun r s2 r0 r1 hs2 => ?_
      obtain ⟨m, hm⟩ : ∃ m : Nat, 2 + r = (m : Int) := ⟨(2 + r).toNat, by omega⟩
      walk_at "dl"
      rw [hm]
      refine ⟨M0, p, _, m, s2, rfl, rfl, by omega, hs2, by omega, fun l t x s3 hk hw hs3 => ?_⟩
      refine i_gtup (xs := [.fl (l.map Kd.dv), t.dv, x.dv]) rfl ?_
      walk_at "dl"
      refine hR _ _ ⟨l, x, s3, _, rfl, rfl, hk.sh.ne, fun z hz => ?_, hw, hs3.le (by omega)⟩
      rcases List.mem_append.mp hz with q | q
      · exact (hk.ok z q).1
      · rw [List.mem_singleton.mp q]; exact hk.xk.1
    · walk_at "dl"
      refine ⟨M0, p, _, s1, rfl, rfl, hs1, by omega, fun l x s3 h1 h2 h3 hw hs3 => ?_⟩
      walk_at "dl"
      refine hR _ _ ⟨l, x, s3, _, rfl, rfl, h3, fun z hz => ?_, hw, hs3.le (by omega)⟩
      rcases List.mem_append.mp hz with q | q
      · exact h1 z q
      · rw [List.mem_singleton.mp q]; exact h2
  rintro S' M' ⟨l, x, s, v, rfl, rfl, hne, hok, hw, hs⟩
  walk_at "dl"
  have hz : sizes (l ++ [x]) ≤ 14 := hw.2.1
  have hlen := sizes_len (l ++ [x])
  rw [List.length_append, List.length_singleton] at hlen
  have hzs : sizes l + x.size ≤ 14 := by rw [sizes_app, sizes_cons] at hz; omega
  have hd : ∀ z ∈ l ++ [x], z.ok ∧ z.depth ≤ 30 := fun z q => ⟨hok z q, by have := (hw.2.2 z q).2; omega⟩
  have hon : ∀ z ∈ l ++ [x], z.one ∧ z.depth ≤ 30 := fun z q => ⟨(hok z q).2, by have := (hw.2.2 z q).2; omega⟩
  have hl1 : ∀ z ∈ l, z.one := fun z q => (hok z (by simp [q])).2
  have hx1 : x.ok := hok x (by simp)
  have hxd : x.depth ≤ 5 := (hw.2.2 x (by simp)).2
  have hrow : RowOk l := ⟨hne, by omega, fun z q => ⟨(hok z (by simp [q])).1, by have := (hw.2.2 z (by simp [q])).1; omega, by have := (hw.2.2 z (by simp [q])).2; omega⟩⟩
  have htne : l.reverse.map Kd.turn ≠ [] := by simpa using hne
  have htz : sizes (l.reverse.map Kd.turn ++ [x.turn]) ≤ 14 := by
    rw [sizes_app, sizes_turn, sizes_cons, turn_size]
    show sizes l + (x.size + 0) ≤ 14
    omega
  have htok : ∀ z ∈ l.reverse.map Kd.turn ++ [x.turn], z.ok := fun z q => by
    rcases List.mem_append.mp q with q | q
    · obtain ⟨y, hy, rfl⟩ := List.mem_map.mp q
      exact turn_ok (hok y (by simp [List.mem_reverse.mp hy]))
    · rw [List.mem_singleton.mp q]; exact turn_ok hx1
  have hll := lineOf_len l x
  refine ⟨_, l, x, rfl, rfl, hne, by omega, hd, ?_⟩
  walk_at "dl"
  try refine i_f rfl ?_
  walk_at "dl"
  refine ⟨_, _, rfl, rfl, ?_⟩
  walk_at "dl"
  refine ⟨_, l, rfl, rfl, hrow, ?_⟩
  walk_at "dl"
  refine ⟨x, rfl, hx1.1, by omega, by omega, ?_⟩
  walk_at "dl"
  refine ⟨_, l, x, rfl, rfl, by omega, hon, ?_⟩
  walk_at "dl"
  refine i_lenS (by rw [txt_len, hll]; omega) ?_
  rw [txt_len, hll]
  walk_at "dl"
  refine ⟨x, rfl, by omega, ?_⟩
  have ecut : (sizes (l ++ [x]) : Int) - (x.size : Int) = (sizes l : Int) := by
    rw [sizes_app, sizes_cons]
    show ((sizes l + (x.size + 0) : Nat) : Int) - _ = _
    omega
  walk_at "dl"
  rw [ecut]
  refine ⟨_, l.reverse.map Kd.turn, x.turn, rfl, rfl, htne, by omega, htok, ?_⟩
  rw [turn_line hl1 hx1.2]
  walk_at "dl"
  have hrl := rowStd_len l
  have hsl := std_len x
  have e1 : cutT (txtOf (lineOf l x)) none (some (sizes l : Int)) = txtOf (rowStd l) := by
    rw [cutT_to, lineOf, List.take_left' hrl]
  have e2 : cutT (txtOf (lineOf l x)) (some (sizes l : Int)) none = txtOf x.std.reverse := by
    rw [cutT_from, lineOf, List.drop_left' hrl]
  refine ⟨by rw [txt_len, hll]; omega, ?_⟩
  rw [e1]
  refine ⟨_, rfl, by rw [txt_len, hrl]; omega, ?_⟩
  rw [rev_txt]
  walk_at "dl"
  refine ⟨by rw [txt_len, hll]; omega, ?_⟩
  rw [e2]
  refine ⟨_, rfl, by rw [txt_len, List.length_reverse, hsl]; omega, ?_⟩
  rw [rev_txt, List.reverse_reverse]
  refine i_addZS (by rw [txt_len, txt_len, List.length_reverse, hrl, hsl]; omega) ?_
  rw [txt_app]
  walk_at "dl"
  refine same_of (n := 40) (.str _) ?_
  walk_at "dl"
  try refine i_f rfl ?_
  walk_at "dl"
  refine ⟨_, l.reverse.map Kd.turn, x.turn, rfl, rfl, htne, by omega, htok, fun q hq => ?_⟩
  walk_at "dl"
  refine ⟨_, lst_loc up_same, ?_⟩
  walk_at "dl"
  refine ⟨_, l, x, rfl, rfl, by omega, fun z hz => by have := (hd z hz).2; omega, ?_⟩
  walk_at "dl"
  have ow1 := own_len l 0
  have ow2 := own_len (l.reverse.map Kd.turn) 0
  rw [sizes_turn] at ow2
  have e3 : cutD ((own 0 (l ++ [x])).map inDV) none (some (sizes l : Int)) = (own 0 l).map inDV := by
    rw [cut_to, own_app, List.map_append, List.take_left' (by rw [List.length_map]; exact ow1)]
  have e4 : cutD ((own 0 (l.reverse.map Kd.turn ++ [x.turn])).map inDV) none (some (sizes l : Int)) = (own 0 (l.reverse.map Kd.turn)).map inDV := by
    rw [cut_to, own_app, List.map_append, List.take_left' (by rw [List.length_map]; exact ow2)]
  rw [e4]
  refine ⟨_, rfl, ?_⟩
  rw [e3]
  refine ⟨_, rfl, ?_⟩
  walk_at "dl"
  rw [← List.map_reverse]
  refine i_iterF ?_
  refine lcVA (own 0 l).reverse _ (fun n : Nat => DV.int ((l.length : Int) - 1 - (n : Int))) (by rw [List.length_reverse]; omega) (fun _ _ => trivial) ?_ (fun z hz M4 Q R e hQ => ?_)
  · walk_at "dl"
    have e5 : (own 0 l).reverse.map (fun n : Nat => DV.int ((l.length : Int) - 1 - (n : Int))) = (own 0 (l.reverse.map Kd.turn)).map inDV := by
      have := congrArg (List.map DV.int) (turn_own l)
      rw [List.map_map, List.map_map] at this
      exact this.symm
    rw [e5]
    refine same_of (n := 40) (in_ds (n := 38) (by omega)) ?_
    walk_at "dl"
    try refine i_f rfl ?_
    walk_at "dl"
    obtain ⟨hqp, hq⟩ := up_none hq
    rw [up_comm (Ne.symm hqp)]
    generalize hM1 : M0.up q (.lst ((own 0 (l.reverse.map Kd.turn ++ [x.turn])).map inDV)) = M1
    have hex1 : Ext M0 M1 := by rw [← hM1]; exact Ext.new hq
    have rf : RowF l x := ⟨hne, by have := hw.1; rw [List.length_append, List.length_singleton] at this; omega, fun z hz => ⟨hok z hz, hw.2.2 z hz⟩⟩
    walk_at "dl"
    refine ⟨_, _, rfl, rfl, fun C hC => ?_⟩
    obtain ⟨hCp, hC⟩ := up_none hC
    rw [up_comm (Ne.symm hCp)]
    have hlp : 0 < l.length := List.length_pos_iff.mpr hne
    have rfl6 := rf.len
    walk_at "dl"
    rw [List.length_map]
    refine pick_top hs (by omega) (by omega) (by omega) fun r s3 r0 r1 hs3 => ?_
    obtain ⟨g, rfl⟩ : ∃ g : Nat, r = (g : Int) := ⟨r.toNat, by omega⟩
    have hg : g < l.length := by omega
    walk_at "dl"
    refine ⟨_, l, x, rfl, lst_loc (up_get2 hCp), hne, by omega, hok, ?_⟩
    walk_at "dl"
    refine same_of (n := 40) (.str _) ?_
    walk_at "dl"
    try refine i_f rfl ?_
    walk_at "dl"
    obtain ⟨ts, xs, hts, rfl, hat⟩ := srp_let hs3
    refine i_ixL up_same hat ?_
    walk_at "dl"
    refine i_ixL up_same hat ?_
    walk_at "dl"
    refine i_lenS (by rw [txt_len]; have := hts.2.1; omega) ?_
    rw [txt_len]
    have t1 := hts.1
    have t2 := hts.2.1
    walk_at "dl"
    refine pick_top hs3 (by omega) (by omega) (by omega) fun r s4 r0 r1 hs4 => ?_
    refine i_ixLetR hts r0 r1 fun b b0 b1 => ?_
    walk_at "dl"
    refine ⟨C, _, (g : Int), g, rfl, rfl, up_get2 hCp, by simp [ixN]; omega, ?_⟩
    rw [up_under hCp]
    have eset : (l.map Kd.dv).set g (.tup [.str "plain", .str (sg b)]) = (l.set g (.pl b)).map Kd.dv := by rw [List.map_set]; rfl
    rw [eset]
    have rf1 := rf.set g b0 b1
    generalize l.set g (.pl b) = L1 at rf1 ⊢
    walk_at "dl"
    have z1 := rf1.sz
    have n1 := rf1.len
    refine ⟨_, L1, x, rfl, lst_loc (up_get2 hCp), by omega, rf1.o30, ?_⟩
    walk_at "dl"
    refine ⟨_, L1, x, rfl, lst_loc (up_get2 hCp), rf1.ne, by omega, rf1.oks, ?_⟩
    walk_at "dl"
    refine same_of (n := 40) (.str _) ?_
    walk_at "dl"
    try refine i_f rfl ?_
    walk_at "dl"
    refine ⟨_, L1, x, rfl, lst_loc (up_get2 hCp), rf1.ne, by omega, rf1.oks, fun q2 hq2 => ?_⟩
    walk_at "dl"
    refine ⟨_, L1, x, rfl, lst_up (lst_loc (up_get2 hCp)) hq2, by omega, rf1.d100, ?_⟩
    walk_at "dl"
    have ow3 := own_len (L1 ++ [x]) 0
    refine same_loc (n := 40) (in_ds (n := 38) (l := own 0 (L1 ++ [x])) (by omega)) (stn_lst (lst_loc up_same)) rfl ?_
    walk_at "dl"
    try refine i_f rfl ?_
    obtain ⟨q2p, hq2⟩ := up_none hq2
    obtain ⟨q2C, hq2⟩ := up_none hq2
    rw [up_comm (Ne.symm q2p), up_comm (Ne.symm q2C)]
    have hC2 : (M1.up q2 (.lst ((own 0 (L1 ++ [x])).map inDV))) C = none := by rw [up_ne (Ne.symm q2C)]; exact hC
    have hex2 : Ext M0 (M1.up q2 (.lst ((own 0 (L1 ++ [x])).map inDV))) := hex1.trans (Ext.new hq2)
    generalize M1.up q2 (.lst ((own 0 (L1 ++ [x])).map inDV)) = M2 at hC2 hex2 ⊢
    obtain ⟨a, L2, rfl⟩ : ∃ a L2, L1 = a :: L2 := by
      cases L1 with
      | nil => exact absurd rfl rf1.ne
      | cons a r => exact ⟨a, r, rfl⟩
    have hl2 : (a :: L2).length < 100000 := by omega
    walk_at "dl"
    refine ⟨C, a.dv, L2.map Kd.dv ++ [.tup [.str "plain", .str "z"]], rfl, up_get2 hCp, rfl, ?_⟩
    rw [up_under hCp]
    have rf2 := rf1.shift
    have z2 := rf2.sz
    have er : L2.map Kd.dv ++ [.tup [.str "plain", .str "z"]] = (L2 ++ [Kd.pl 122]).map Kd.dv := by rw [List.map_append]; rfl
    rw [er]
    walk_at "dl"
    refine ⟨_, L2 ++ [.pl 122], x, rfl, lst_loc (up_get2 hCp), rf2.ne, by omega, rf2.d30, ?_⟩
    walk_at "dl"
    refine ⟨_, l, x, rfl, rfl, hne, by omega, hd, ?_⟩
    exact rt_sub (ext_upp (hex2.trans (Ext.new hC2)) p s4) (h s4 (hs4.le (by omega)))
  · walk_at "dl"
    rw [List.length_map]
    exact hQ
/-! ### law -/
abbrev N_law : List Str := ["script", "spot", "pool"]
abbrev fs_law : FS := fsLawB
theorem len_law : ∀ xs M P Pe, fs_law xs M P Pe → xs.length = 1 := by
  rintro xs M P Pe ⟨ns, rfl, _⟩; rfl
def d_law : DS := (dSeq (dFor (dRng1 (dCons (dCB dMax2 (dCons (dC (.int 3)) (dCons (dCB dMin2 (dCons (dC (.int 6)) (dCons (dCB dLen (dCons (dVar 0) dNil)) dNil))) dNil))) dNil)) (dgName 1)
  (dSeq (dAsg (dCall fs__law_pool PX0 (dCons (dVar 0) (dCons (dVar 1) dNil))) (dgName 2))
  (dIfS (dOrT (dNotT (dTruth (dCall fs__law_right PX0 (dCons (dVar 2) dNil)))) (dOrT (dNotT (dTruth (dCall fs__law_right PX0 (dCons (dVar 2) dNil)))) (dNotT (dTruth (dCall fs__law_right PX0 (dCons (dVar 2) dNil))))))
  (dRet (dC (.bl false)))
  dNext)))
  (dRet (dC (.bl true))))
theorem pure_law : ∀ xs M P Pe, fs_law xs M P Pe → d_law { nx := fun _ M' => Rt P .non M', rt := Rt P } (startD N_law xs) M := by
  rintro xs M P Pe ⟨ns, rfl, hn, hb, h⟩
  have hT : ∀ M', Rt P (.bl true) M' := fun M' => rt_here (h M')
  unfold d_law
  walk_at "dl"
  refine i_min2 fun m m0 m1 m2 => ?_
  walk_at "dl"
  refine i_max2P fun k k0 k1 k2 => ?_
  obtain ⟨g, rfl⟩ : ∃ g : Nat, k = (g : Int) := ⟨k.toNat, by omega⟩
  walk_at "dl"
  refine ⟨_, rfl, by omega, by omega, ?_⟩
  rw [Int.toNat_natCast]
  refine forR g (fun i S2 M2 => ∃ v1 v2 : Option DV, S2 = [some (.fl (ns.map DV.int)), v1, v2]) (fun _ => trivial)
    ⟨none, none, rfl⟩ ?_ ?_
  · rintro S2 M2 ⟨v1, v2, rfl⟩
    walk_at "dl"
    exact hT _
  · rintro i hi S2 M2 ⟨v1, v2, rfl⟩ R hR
    walk_at "dl"
    refine ⟨ns, i, rfl, hn, by omega, hb, fun p s hp hs => ?_⟩
    walk_at "dl"
    refine ⟨M2, p, 1, s, rfl, rfl, hs, by decide, fun s1 hs1 => ?_⟩
    walk_at "dl"
    try refine i_f rfl ?_
    walk_at "dl"
    refine ⟨M2, p, _, s1, rfl, rfl, hs1, by decide, fun s2 hs2 => ?_⟩
    walk_at "dl"
    try refine i_f rfl ?_
    walk_at "dl"
    refine ⟨M2, p, _, s2, rfl, rfl, hs2, by decide, fun s3 hs3 => ?_⟩
    walk_at "dl"
    try refine i_f rfl ?_
    walk_at "dl"
    exact hR _ _ ⟨_, _, rfl⟩
end DL
/-! De -/
set_option Elab.async false
set_option linter.all false
set_option maxRecDepth 100000
set_option maxHeartbeats 4000000
namespace DL
open PySem L2 PyProof.Rows
def top (i : Nat) : Stmt := PySem.Challenge.pw_waitwords_k40_whole_lines_and_owners.main.body.getD i (.Pass ⟨0, 0, 0, 0⟩)
abbrev s_is_letter : Stmt := top 10
theorem sc_is_letter : FnScope N_is_letter ["text"] (defScope s_is_letter) := ⟨rfl, rfl, rfl, by decide +kernel, rfl, by decide +kernel, by decide +kernel⟩
abbrev s_is_kind_part : Stmt := top 11
theorem sc_is_kind_part : FnScope N_is_kind_part ["part"] (defScope s_is_kind_part) := ⟨rfl, rfl, rfl, by decide +kernel, rfl, by decide +kernel, by decide +kernel⟩
abbrev s_parts_of_kind : Stmt := top 12
theorem sc_parts_of_kind : FnScope N_parts_of_kind ["kind"] (defScope s_parts_of_kind) := ⟨rfl, rfl, rfl, by decide +kernel, rfl, by decide +kernel, by decide +kernel⟩
abbrev s_letters_within : Stmt := top 13
theorem sc_letters_within : FnScope N_letters_within ["kind"] (defScope s_letters_within) := ⟨rfl, rfl, rfl, by decide +kernel, rfl, by decide +kernel, by decide +kernel⟩
abbrev s_has_with : Stmt := top 14
theorem sc_has_with : FnScope N_has_with ["kind"] (defScope s_has_with) := ⟨rfl, rfl, rfl, by decide +kernel, rfl, by decide +kernel, by decide +kernel⟩
abbrev s_turn_kind : Stmt := top 15
theorem sc_turn_kind : FnScope N_turn_kind ["kind"] (defScope s_turn_kind) := ⟨rfl, rfl, rfl, by decide +kernel, rfl, by decide +kernel, by decide +kernel⟩
abbrev s_signed_letters : Stmt := top 16
theorem sc_signed_letters : FnScope N_signed_letters ["kind", "start"] (defScope s_signed_letters) := ⟨rfl, rfl, rfl, by decide +kernel, rfl, by decide +kernel, by decide +kernel⟩
abbrev s_check_kinds : Stmt := top 18
theorem sc_check_kinds : FnScope N_check_kinds ["kinds"] (defScope s_check_kinds) := ⟨rfl, rfl, rfl, by decide +kernel, rfl, by decide +kernel, by decide +kernel⟩
abbrev s_check_not_empty : Stmt := top 19
theorem sc_check_not_empty : FnScope N_check_not_empty ["row"] (defScope s_check_not_empty) := ⟨rfl, rfl, rfl, by decide +kernel, rfl, by decide +kernel, by decide +kernel⟩
abbrev s_check_row : Stmt := top 20
theorem sc_check_row : FnScope N_check_row ["row", "others"] (defScope s_check_row) := ⟨rfl, rfl, rfl, by decide +kernel, rfl, by decide +kernel, by decide +kernel⟩
abbrev s_check_single : Stmt := top 21
theorem sc_check_single : FnScope N_check_single ["kinds"] (defScope s_check_single) := ⟨rfl, rfl, rfl, by decide +kernel, rfl, by decide +kernel, by decide +kernel⟩
abbrev s_check_single_row : Stmt := top 22
theorem sc_check_single_row : FnScope N_check_single_row ["row", "others"] (defScope s_check_single_row) := ⟨rfl, rfl, rfl, by decide +kernel, rfl, by decide +kernel, by decide +kernel⟩
abbrev s_letters_in_line : Stmt := top 24
theorem sc_letters_in_line : FnScope N_letters_in_line ["row", "kind"] (defScope s_letters_in_line) := ⟨rfl, rfl, rfl, by decide +kernel, rfl, by decide +kernel, by decide +kernel⟩
abbrev s_line_owners : Stmt := top 25
theorem sc_line_owners : FnScope N_line_owners ["row", "kind"] (defScope s_line_owners) := ⟨rfl, rfl, rfl, by decide +kernel, rfl, by decide +kernel, by decide +kernel⟩
abbrev s_line : Stmt := top 27
theorem sc_line : FnScope N_line ["row", "kind"] (defScope s_line) := ⟨rfl, rfl, rfl, by decide +kernel, rfl, by decide +kernel, by decide +kernel⟩
abbrev s_owners : Stmt := top 28
theorem sc_owners : FnScope N_owners ["row", "kind"] (defScope s_owners) := ⟨rfl, rfl, rfl, by decide +kernel, rfl, by decide +kernel, by decide +kernel⟩
abbrev s_turned : Stmt := top 30
theorem sc_turned : FnScope N_turned ["kind"] (defScope s_turned) := ⟨rfl, rfl, rfl, by decide +kernel, rfl, by decide +kernel, by decide +kernel⟩
abbrev s_turned_row : Stmt := top 31
theorem sc_turned_row : FnScope N_turned_row ["row"] (defScope s_turned_row) := ⟨rfl, rfl, rfl, by decide +kernel, rfl, by decide +kernel, by decide +kernel⟩
abbrev s__law_pick : Stmt := top 34
theorem sc__law_pick : FnScope N__law_pick ["pool", "many"] (defScope s__law_pick) := ⟨rfl, rfl, rfl, by decide +kernel, rfl, by decide +kernel, by decide +kernel⟩
abbrev s__law_pool : Stmt := top 33
theorem sc__law_pool : FnScope N__law_pool ["script", "spot"] (defScope s__law_pool) := ⟨rfl, rfl, rfl, by decide +kernel, rfl, by decide +kernel, by decide +kernel⟩
abbrev s__law_shape : Stmt := top 35
theorem sc__law_shape : FnScope N__law_shape ["pool", "most"] (defScope s__law_shape) := ⟨rfl, rfl, rfl, by decide +kernel, rfl, by decide +kernel, by decide +kernel⟩
abbrev s__law_size : Stmt := top 36
theorem sc__law_size : FnScope N__law_size ["shape"] (defScope s__law_size) := ⟨rfl, rfl, rfl, by decide +kernel, rfl, by decide +kernel, by decide +kernel⟩
abbrev s__law_deep : Stmt := top 37
theorem sc__law_deep : FnScope N__law_deep ["shape"] (defScope s__law_deep) := ⟨rfl, rfl, rfl, by decide +kernel, rfl, by decide +kernel, by decide +kernel⟩
abbrev s__law_within : Stmt := top 38
theorem sc__law_within : FnScope N__law_within ["shapes"] (defScope s__law_within) := ⟨rfl, rfl, rfl, by decide +kernel, rfl, by decide +kernel, by decide +kernel⟩
abbrev s__law_wide : Stmt := top 39
theorem sc__law_wide : FnScope N__law_wide ["tree"] (defScope s__law_wide) := ⟨rfl, rfl, rfl, by decide +kernel, rfl, by decide +kernel, by decide +kernel⟩
abbrev s__law_count : Stmt := top 40
theorem sc__law_count : FnScope N__law_count ["tree"] (defScope s__law_count) := ⟨rfl, rfl, rfl, by decide +kernel, rfl, by decide +kernel, by decide +kernel⟩
abbrev s__law_shown : Stmt := top 41
theorem sc__law_shown : FnScope N__law_shown ["lane", "tree", "tight"] (defScope s__law_shown) := ⟨rfl, rfl, rfl, by decide +kernel, rfl, by decide +kernel, by decide +kernel⟩
abbrev s__law_put : Stmt := top 42
theorem sc__law_put : FnScope N__law_put ["tree", "spot", "more"] (defScope s__law_put) := ⟨rfl, rfl, rfl, by decide +kernel, rfl, by decide +kernel, by decide +kernel⟩
abbrev s__law_eta : Stmt := top 43
theorem sc__law_eta : FnScope N__law_eta ["tree", "shape"] (defScope s__law_eta) := ⟨rfl, rfl, rfl, by decide +kernel, rfl, by decide +kernel, by decide +kernel⟩
abbrev s__law_given : Stmt := top 44
theorem sc__law_given : FnScope N__law_given ["way", "lane", "tree", "shape"] (defScope s__law_given) := ⟨rfl, rfl, rfl, by decide +kernel, rfl, by decide +kernel, by decide +kernel⟩
abbrev s__law_grown : Stmt := top 45
theorem sc__law_grown : FnScope N__law_grown ["pool", "made"] (defScope s__law_grown) := ⟨rfl, rfl, rfl, by decide +kernel, rfl, by decide +kernel, by decide +kernel⟩
abbrev s__law_made : Stmt := top 46
theorem sc__law_made : FnScope N__law_made ["pool", "turns"] (defScope s__law_made) := ⟨rfl, rfl, rfl, by decide +kernel, rfl, by decide +kernel, by decide +kernel⟩
abbrev s__law_lane : Stmt := top 47
theorem sc__law_lane : FnScope N__law_lane ["pool"] (defScope s__law_lane) := ⟨rfl, rfl, rfl, by decide +kernel, rfl, by decide +kernel, by decide +kernel⟩
abbrev s__law_stands : Stmt := top 48
theorem sc__law_stands : FnScope N__law_stands ["shape"] (defScope s__law_stands) := ⟨rfl, rfl, rfl, by decide +kernel, rfl, by decide +kernel, by decide +kernel⟩
abbrev s__law_line : Stmt := top 49
theorem sc__law_line : FnScope N__law_line ["lane", "shape"] (defScope s__law_line) := ⟨rfl, rfl, rfl, by decide +kernel, rfl, by decide +kernel, by decide +kernel⟩
abbrev s__law_same : Stmt := top 50
theorem sc__law_same : FnScope N__law_same ["answer", "due"] (defScope s__law_same) := ⟨rfl, rfl, rfl, by decide +kernel, rfl, by decide +kernel, by decide +kernel⟩
abbrev s__law_spoil : Stmt := top 52
theorem sc__law_spoil : FnScope N__law_spoil ["thing"] (defScope s__law_spoil) := ⟨rfl, rfl, rfl, by decide +kernel, rfl, by decide +kernel, by decide +kernel⟩
abbrev s__law_owners : Stmt := top 53
theorem sc__law_owners : FnScope N__law_owners ["lane", "shape"] (defScope s__law_owners) := ⟨rfl, rfl, rfl, by decide +kernel, rfl, by decide +kernel, by decide +kernel⟩
abbrev s__law_told_right : Stmt := top 54
theorem sc__law_told_right : FnScope N__law_told_right ["lane", "shape"] (defScope s__law_told_right) := ⟨rfl, rfl, rfl, by decide +kernel, rfl, by decide +kernel, by decide +kernel⟩
abbrev s__law_right : Stmt := top 55
theorem sc__law_right : FnScope N__law_right ["pool"] (defScope s__law_right) := ⟨rfl, rfl, rfl, by decide +kernel, rfl, by decide +kernel, by decide +kernel⟩
abbrev s_law : Stmt := top 56
theorem sc_law : FnScope N_law ["script"] (defScope s_law) := ⟨rfl, rfl, rfl, by decide +kernel, rfl, by decide +kernel, by decide +kernel⟩
structure Ad where
  a_is_letter : Addr
  f_is_letter : FuncData
  a_is_kind_part : Addr
  f_is_kind_part : FuncData
  a_parts_of_kind : Addr
  f_parts_of_kind : FuncData
  a_letters_within : Addr
  f_letters_within : FuncData
  a_has_with : Addr
  f_has_with : FuncData
  a_turn_kind : Addr
  f_turn_kind : FuncData
  a_signed_letters : Addr
  f_signed_letters : FuncData
  a_check_kinds : Addr
  f_check_kinds : FuncData
  a_check_not_empty : Addr
  f_check_not_empty : FuncData
  a_check_row : Addr
  f_check_row : FuncData
  a_check_single : Addr
  f_check_single : FuncData
  a_check_single_row : Addr
  f_check_single_row : FuncData
  a_letters_in_line : Addr
  f_letters_in_line : FuncData
  a_line_owners : Addr
  f_line_owners : FuncData
  a_line : Addr
  f_line : FuncData
  a_owners : Addr
  f_owners : FuncData
  a_turned : Addr
  f_turned : FuncData
  a_turned_row : Addr
  f_turned_row : FuncData
  a__law_pick : Addr
  f__law_pick : FuncData
  a__law_pool : Addr
  f__law_pool : FuncData
  a__law_shape : Addr
  f__law_shape : FuncData
  a__law_size : Addr
  f__law_size : FuncData
  a__law_deep : Addr
  f__law_deep : FuncData
  a__law_within : Addr
  f__law_within : FuncData
  a__law_wide : Addr
  f__law_wide : FuncData
  a__law_count : Addr
  f__law_count : FuncData
  a__law_shown : Addr
  f__law_shown : FuncData
  a__law_put : Addr
  f__law_put : FuncData
  a__law_eta : Addr
  f__law_eta : FuncData
  a__law_given : Addr
  f__law_given : FuncData
  a__law_grown : Addr
  f__law_grown : FuncData
  a__law_made : Addr
  f__law_made : FuncData
  a__law_lane : Addr
  f__law_lane : FuncData
  a__law_stands : Addr
  f__law_stands : FuncData
  a__law_line : Addr
  f__law_line : FuncData
  a__law_same : Addr
  f__law_same : FuncData
  a__law_spoil : Addr
  f__law_spoil : FuncData
  a__law_owners : Addr
  f__law_owners : FuncData
  a__law_told_right : Addr
  f__law_told_right : FuncData
  a__law_right : Addr
  f__law_right : FuncData
  a_law : Addr
  f_law : FuncData
  a_SIGNS : Addr
  e_SIGNS : Array DictEntry
  n_SIGNS : Nat
  a_TURNED : Addr
  e_TURNED : Array DictEntry
  n_TURNED : Nat
structure Top (K : PySem.W.Frag) (w : World) (mg : Str → Option Value) (A : Ad) : Prop where
  z_len : mg "len" = none
  z_range : mg "range" = none
  z_int : mg "int" = none
  z_max : mg "max" = none
  z_min : mg "min" = none
  z_any : mg "any" = none
  z_list : mg "list" = none
  z_tuple : mg "tuple" = none
  z_str : mg "str" = none
  z_bool : mg "bool" = none
  z_isinstance : mg "isinstance" = none
  z_sum : mg "sum" = none
  z_enumerate : mg "enumerate" = none
  z_abs : mg "abs" = none
  m_is_letter : mg "is_letter" = some (.ref A.a_is_letter)
  F_is_letter : Fun K "is_letter" "is_letter" s_is_letter A.a_is_letter A.f_is_letter
  b_is_letter : Binds K A.f_is_letter ["text"] []
  m_is_kind_part : mg "is_kind_part" = some (.ref A.a_is_kind_part)
  F_is_kind_part : Fun K "is_kind_part" "is_kind_part" s_is_kind_part A.a_is_kind_part A.f_is_kind_part
  b_is_kind_part : Binds K A.f_is_kind_part ["part"] []
  m_parts_of_kind : mg "parts_of_kind" = some (.ref A.a_parts_of_kind)
  F_parts_of_kind : Fun K "parts_of_kind" "parts_of_kind" s_parts_of_kind A.a_parts_of_kind A.f_parts_of_kind
  b_parts_of_kind : Binds K A.f_parts_of_kind ["kind"] []
  m_letters_within : mg "letters_within" = some (.ref A.a_letters_within)
  F_letters_within : Fun K "letters_within" "letters_within" s_letters_within A.a_letters_within A.f_letters_within
  b_letters_within : Binds K A.f_letters_within ["kind"] []
  m_has_with : mg "has_with" = some (.ref A.a_has_with)
  F_has_with : Fun K "has_with" "has_with" s_has_with A.a_has_with A.f_has_with
  b_has_with : Binds K A.f_has_with ["kind"] []
  m_turn_kind : mg "turn_kind" = some (.ref A.a_turn_kind)
  F_turn_kind : Fun K "turn_kind" "turn_kind" s_turn_kind A.a_turn_kind A.f_turn_kind
  b_turn_kind : Binds K A.f_turn_kind ["kind"] []
  m_signed_letters : mg "signed_letters" = some (.ref A.a_signed_letters)
  F_signed_letters : Fun K "signed_letters" "signed_letters" s_signed_letters A.a_signed_letters A.f_signed_letters
  b_signed_letters : Binds K A.f_signed_letters ["kind", "start"] []
  m_check_kinds : mg "check_kinds" = some (.ref A.a_check_kinds)
  F_check_kinds : Fun K "check_kinds" "check_kinds" s_check_kinds A.a_check_kinds A.f_check_kinds
  b_check_kinds : Binds K A.f_check_kinds ["kinds"] []
  m_check_not_empty : mg "check_not_empty" = some (.ref A.a_check_not_empty)
  F_check_not_empty : Fun K "check_not_empty" "check_not_empty" s_check_not_empty A.a_check_not_empty A.f_check_not_empty
  b_check_not_empty : Binds K A.f_check_not_empty ["row"] []
  m_check_row : mg "check_row" = some (.ref A.a_check_row)
  F_check_row : Fun K "check_row" "check_row" s_check_row A.a_check_row A.f_check_row
  b_check_row : Binds K A.f_check_row ["row", "others"] []
  m_check_single : mg "check_single" = some (.ref A.a_check_single)
  F_check_single : Fun K "check_single" "check_single" s_check_single A.a_check_single A.f_check_single
  b_check_single : Binds K A.f_check_single ["kinds"] []
  m_check_single_row : mg "check_single_row" = some (.ref A.a_check_single_row)
  F_check_single_row : Fun K "check_single_row" "check_single_row" s_check_single_row A.a_check_single_row A.f_check_single_row
  b_check_single_row : Binds K A.f_check_single_row ["row", "others"] []
  m_letters_in_line : mg "letters_in_line" = some (.ref A.a_letters_in_line)
  F_letters_in_line : Fun K "letters_in_line" "letters_in_line" s_letters_in_line A.a_letters_in_line A.f_letters_in_line
  b_letters_in_line : Binds K A.f_letters_in_line ["row", "kind"] []
  m_line_owners : mg "line_owners" = some (.ref A.a_line_owners)
  F_line_owners : Fun K "line_owners" "line_owners" s_line_owners A.a_line_owners A.f_line_owners
  b_line_owners : Binds K A.f_line_owners ["row", "kind"] []
  m_line : mg "line" = some (.ref A.a_line)
  F_line : Fun K "line" "line" s_line A.a_line A.f_line
  b_line : Binds K A.f_line ["row", "kind"] []
  m_owners : mg "owners" = some (.ref A.a_owners)
  F_owners : Fun K "owners" "owners" s_owners A.a_owners A.f_owners
  b_owners : Binds K A.f_owners ["row", "kind"] []
  m_turned : mg "turned" = some (.ref A.a_turned)
  F_turned : Fun K "turned" "turned" s_turned A.a_turned A.f_turned
  b_turned : Binds K A.f_turned ["kind"] []
  m_turned_row : mg "turned_row" = some (.ref A.a_turned_row)
  F_turned_row : Fun K "turned_row" "turned_row" s_turned_row A.a_turned_row A.f_turned_row
  b_turned_row : Binds K A.f_turned_row ["row"] []
  m__law_pick : mg "_law_pick" = some (.ref A.a__law_pick)
  F__law_pick : Fun K "_law_pick" "_law_pick" s__law_pick A.a__law_pick A.f__law_pick
  b__law_pick : Binds K A.f__law_pick ["pool", "many"] []
  m__law_pool : mg "_law_pool" = some (.ref A.a__law_pool)
  F__law_pool : Fun K "_law_pool" "_law_pool" s__law_pool A.a__law_pool A.f__law_pool
  b__law_pool : Binds K A.f__law_pool ["script", "spot"] []
  m__law_shape : mg "_law_shape" = some (.ref A.a__law_shape)
  F__law_shape : Fun K "_law_shape" "_law_shape" s__law_shape A.a__law_shape A.f__law_shape
  b__law_shape : Binds K A.f__law_shape ["pool", "most"] []
  m__law_size : mg "_law_size" = some (.ref A.a__law_size)
  F__law_size : Fun K "_law_size" "_law_size" s__law_size A.a__law_size A.f__law_size
  b__law_size : Binds K A.f__law_size ["shape"] []
  m__law_deep : mg "_law_deep" = some (.ref A.a__law_deep)
  F__law_deep : Fun K "_law_deep" "_law_deep" s__law_deep A.a__law_deep A.f__law_deep
  b__law_deep : Binds K A.f__law_deep ["shape"] []
  m__law_within : mg "_law_within" = some (.ref A.a__law_within)
  F__law_within : Fun K "_law_within" "_law_within" s__law_within A.a__law_within A.f__law_within
  b__law_within : Binds K A.f__law_within ["shapes"] []
  m__law_wide : mg "_law_wide" = some (.ref A.a__law_wide)
  F__law_wide : Fun K "_law_wide" "_law_wide" s__law_wide A.a__law_wide A.f__law_wide
  b__law_wide : Binds K A.f__law_wide ["tree"] []
  m__law_count : mg "_law_count" = some (.ref A.a__law_count)
  F__law_count : Fun K "_law_count" "_law_count" s__law_count A.a__law_count A.f__law_count
  b__law_count : Binds K A.f__law_count ["tree"] []
  m__law_shown : mg "_law_shown" = some (.ref A.a__law_shown)
  F__law_shown : FunD K "_law_shown" "_law_shown" (defArgs s__law_shown) (defBody s__law_shown) (defScope s__law_shown) [(.bl false)] [] A.a__law_shown A.f__law_shown
  b__law_shown : Binds K A.f__law_shown ["lane", "tree", "tight"] []
  m__law_put : mg "_law_put" = some (.ref A.a__law_put)
  F__law_put : Fun K "_law_put" "_law_put" s__law_put A.a__law_put A.f__law_put
  b__law_put : Binds K A.f__law_put ["tree", "spot", "more"] []
  m__law_eta : mg "_law_eta" = some (.ref A.a__law_eta)
  F__law_eta : Fun K "_law_eta" "_law_eta" s__law_eta A.a__law_eta A.f__law_eta
  b__law_eta : Binds K A.f__law_eta ["tree", "shape"] []
  m__law_given : mg "_law_given" = some (.ref A.a__law_given)
  F__law_given : Fun K "_law_given" "_law_given" s__law_given A.a__law_given A.f__law_given
  b__law_given : Binds K A.f__law_given ["way", "lane", "tree", "shape"] []
  m__law_grown : mg "_law_grown" = some (.ref A.a__law_grown)
  F__law_grown : Fun K "_law_grown" "_law_grown" s__law_grown A.a__law_grown A.f__law_grown
  b__law_grown : Binds K A.f__law_grown ["pool", "made"] []
  m__law_made : mg "_law_made" = some (.ref A.a__law_made)
  F__law_made : Fun K "_law_made" "_law_made" s__law_made A.a__law_made A.f__law_made
  b__law_made : Binds K A.f__law_made ["pool", "turns"] []
  m__law_lane : mg "_law_lane" = some (.ref A.a__law_lane)
  F__law_lane : Fun K "_law_lane" "_law_lane" s__law_lane A.a__law_lane A.f__law_lane
  b__law_lane : Binds K A.f__law_lane ["pool"] []
  m__law_stands : mg "_law_stands" = some (.ref A.a__law_stands)
  F__law_stands : Fun K "_law_stands" "_law_stands" s__law_stands A.a__law_stands A.f__law_stands
  b__law_stands : Binds K A.f__law_stands ["shape"] []
  m__law_line : mg "_law_line" = some (.ref A.a__law_line)
  F__law_line : Fun K "_law_line" "_law_line" s__law_line A.a__law_line A.f__law_line
  b__law_line : Binds K A.f__law_line ["lane", "shape"] []
  m__law_same : mg "_law_same" = some (.ref A.a__law_same)
  F__law_same : Fun K "_law_same" "_law_same" s__law_same A.a__law_same A.f__law_same
  b__law_same : Binds K A.f__law_same ["answer", "due"] []
  m__law_spoil : mg "_law_spoil" = some (.ref A.a__law_spoil)
  F__law_spoil : Fun K "_law_spoil" "_law_spoil" s__law_spoil A.a__law_spoil A.f__law_spoil
  b__law_spoil : Binds K A.f__law_spoil ["thing"] []
  m__law_owners : mg "_law_owners" = some (.ref A.a__law_owners)
  F__law_owners : Fun K "_law_owners" "_law_owners" s__law_owners A.a__law_owners A.f__law_owners
  b__law_owners : Binds K A.f__law_owners ["lane", "shape"] []
  m__law_told_right : mg "_law_told_right" = some (.ref A.a__law_told_right)
  F__law_told_right : Fun K "_law_told_right" "_law_told_right" s__law_told_right A.a__law_told_right A.f__law_told_right
  b__law_told_right : Binds K A.f__law_told_right ["lane", "shape"] []
  m__law_right : mg "_law_right" = some (.ref A.a__law_right)
  F__law_right : Fun K "_law_right" "_law_right" s__law_right A.a__law_right A.f__law_right
  b__law_right : Binds K A.f__law_right ["pool"] []
  m_law : mg "law" = some (.ref A.a_law)
  F_law : Fun K "law" "law" s_law A.a_law A.f_law
  b_law : Binds K A.f_law ["script"] []
  m_SIGNS : mg "SIGNS" = some (.ref A.a_SIGNS)
  d_SIGNS : KDict K w A.a_SIGNS A.e_SIGNS A.n_SIGNS
  h_SIGNS : KHas K A.a_SIGNS has_SIGNS
  v_SIGNS : KVal K w A.a_SIGNS val_SIGNS
  m_TURNED : mg "TURNED" = some (.ref A.a_TURNED)
  d_TURNED : KDict K w A.a_TURNED A.e_TURNED A.n_TURNED
  v_TURNED : KVal K w A.a_TURNED val_TURNED
section
variable {P : Program} {w : World} {K : PySem.W.Frag} {mg : Str → Option Value} {base : Heap} {A : Ad}
theorem ok_is_letter (T : Top K w mg A) : FnOk P w K mg base CX0 1 A.a_is_letter A.f_is_letter ["text"] (lift K fs_is_letter) :=
  okZ T.F_is_letter sc_is_letter (fun xs M P Pe h => len_is_letter xs M P Pe h) (fun cdv A2 outer s H E hr => ⟨_, d_is_letter, (qss_one (qs_ret (qe_and (qe_cmp op_eq ro_eqS (qe_callB call_len rc_len (by rfl) T.z_len (by decide +kernel) (qa_cons (qv 0) qa_nil)) qe_int (nomark _)) (qe_one (qe_chain op_le_str op_le_str ro_leS ro_leS qe_str qe_str (qv 0)))))), fun xs M P Pe h => pure_is_letter xs M P Pe h⟩)
theorem ok_is_kind_part (T : Top K w mg A) : FnOk P w K mg base CX0 2 A.a_is_kind_part A.f_is_kind_part ["part"] (lift K fs_is_kind_part) :=
  okZ T.F_is_kind_part sc_is_kind_part (fun xs M P Pe h => len_is_kind_part xs M P Pe h) (fun cdv A2 outer s H E hr => ⟨_, d_is_kind_part A.a_SIGNS, (qss_one (qs_ret (qe_or (qe_inKd T.d_SIGNS T.h_SIGNS (qe_ix (qv 0) qe_int) (qe_gref (by rfl) T.m_SIGNS)) (qe_one (qe_and (qe_cmp op_eq ro_eqS (qe_ix (qv 0) qe_int) qe_str (nomark _)) (qe_one (qe_call (ok_is_letter T) (hr.mono (by decide)) (by rfl) T.m_is_letter T.F_is_letter.kp T.b_is_letter (qa_cons (qe_ix (qv 0) qe_int) qa_nil)))))))), fun xs M P Pe h => pure_is_kind_part A.a_SIGNS xs M P Pe h⟩)
theorem ok_parts_of_kind (T : Top K w mg A) : FnOk P w K mg base CX0 1 A.a_parts_of_kind A.f_parts_of_kind ["kind"] (lift K fs_parts_of_kind) :=
  okZ T.F_parts_of_kind sc_parts_of_kind (fun xs M P Pe h => len_parts_of_kind xs M P Pe h) (fun cdv A2 outer s H E hr => ⟨_, d_parts_of_kind A.a_SIGNS, (qss_cons (qs_set 1 sc_parts_of_kind.nd (qe_lst qa_nil))
    (qss_cons (qs_set 2 sc_parts_of_kind.nd (qe_lst (qa_cons (qv 0) qa_nil)))
    (qss_cons (qs_while PassesOwn.never (qt_truth (qv 2)) (qss_cons (qs_set 3 sc_parts_of_kind.nd (qe_pop (qv 2)))
    (qss_cons (qs_expr (qe_append (qv 1) (qv 3)))
    (qss_one (qs_if (qt_inKd T.d_SIGNS T.h_SIGNS (qe_ix (qv 3) qe_int) (qe_gref (by rfl) T.m_SIGNS)) (qss_cons (qs_expr (qe_append (qv 2) (qe_ix (qv 3) qe_int)))
    (qss_one (qs_expr (qe_append (qv 2) (qe_ix (qv 3) qe_int))))) qss_nil)))))
    (qss_one (qs_ret (qv 1)))))), fun xs M P Pe h => pure_parts_of_kind A.a_SIGNS xs M P Pe h⟩)
theorem ok_letters_within (T : Top K w mg A) : FnOk P w K mg base CX0 2 A.a_letters_within A.f_letters_within ["kind"] (lift K fs_letters_within) :=
  okZ T.F_letters_within sc_letters_within (fun xs M P Pe h => len_letters_within xs M P Pe h) (fun cdv A2 outer s H E hr => ⟨_, d_letters_within, (qss_one (qs_ret (qe_fz (qe_lc (own := [("part", 1)]) rfl sc_letters_within.nd (qi_any (qe_call (ok_parts_of_kind T) (hr.mono (by decide)) (by rfl) T.m_parts_of_kind T.F_parts_of_kind.kp T.b_parts_of_kind (qa_cons (qv 0) qa_nil))) (blkOk_by (own := [("part", 1)]) (N := N_letters_within) (sc := defScope s_letters_within) (by decide +kernel)) wg_name (by intro _ _ _ _ _; exact in_blkG (qg_name (i := 1) sc_letters_within.nd) (by first | (dsimp only [blk_K]; done) | (dsimp only [blk_K]; rfl) | rfl)) (by intro _ _ _ _ _; exact in_blkT (qts_one (qt_cmp op_eq ro_eqS (qe_ix (qv 1) qe_int) qe_str (nomark _))) (by first | (dsimp only [blk_K]; done) | (dsimp only [blk_K]; rfl) | rfl)) (by intro _ _ _ _ _; exact in_blkE (qe_ix (qv 1) qe_int) (by first | (dsimp only [blk_K]; done) | (dsimp only [blk_K]; rfl) | rfl)))))), fun xs M P Pe h => pure_letters_within xs M P Pe h⟩)
theorem ok_has_with (T : Top K w mg A) : FnOk P w K mg base CX0 2 A.a_has_with A.f_has_with ["kind"] (lift K fs_has_with) :=
  okZ T.F_has_with sc_has_with (fun xs M P Pe h => len_has_with xs M P Pe h) (fun cdv A2 outer s H E hr => ⟨_, d_has_with, (qss_one (qs_ret (qe_callB (cr_any rfl) rc_any (by rfl) T.z_any (by decide +kernel) (qa_cons (qe_fz (qe_lc (own := [("part", 1)]) rfl sc_has_with.nd (qi_any (qe_call (ok_parts_of_kind T) (hr.mono (by decide)) (by rfl) T.m_parts_of_kind T.F_parts_of_kind.kp T.b_parts_of_kind (qa_cons (qv 0) qa_nil))) (blkOk_by (own := [("part", 1)]) (N := N_has_with) (sc := defScope s_has_with) (by decide +kernel)) wg_name (by intro _ _ _ _ _; exact in_blkG (qg_name (i := 1) sc_has_with.nd) (by first | (dsimp only [blk_K]; done) | (dsimp only [blk_K]; rfl) | rfl)) (by intro _ _ _ _ _; exact in_blkT qts_nil (by first | (dsimp only [blk_K]; done) | (dsimp only [blk_K]; rfl) | rfl)) (by intro _ _ _ _ _; exact in_blkE (qe_cmp op_eq ro_eqS (qe_ix (qv 1) qe_int) qe_str (nomark _)) (by first | (dsimp only [blk_K]; done) | (dsimp only [blk_K]; rfl) | rfl)))) qa_nil)))), fun xs M P Pe h => pure_has_with xs M P Pe h⟩)
theorem ok_turn_kind (T : Top K w mg A) : ∀ n : Nat, FnOk P w K mg base CX0 (0 + n) A.a_turn_kind A.f_turn_kind ["kind"] (lift K (fs_turn_kind n))
  | 0 => fnOk_none fun xs M P Pe h => no_turn_kind xs M P Pe h
  | n + 1 => okZ T.F_turn_kind sc_turn_kind (fun xs M P Pe h => len_turn_kind _ xs M P Pe h) (fun cdv A2 outer s H E hr => ⟨_, d_turn_kind n A.a_TURNED, (qss_cons (qs_if (qt_cmp op_eq ro_eqS (qe_ix (qv 0) qe_int) qe_str (nomark _)) (qss_one (qs_ret (qv 0))) qss_nil)
    (qss_one (qs_ret (qe_tup (qa_cons (qe_ixKd T.v_TURNED (qe_gref (by rfl) T.m_TURNED) (qe_ix (qv 0) qe_int)) (qa_cons (qe_call (ok_turn_kind T n) (hr.mono (by first | omega | (simp only [Nat.add_eq, Nat.zero_add] <;> omega))) (by rfl) T.m_turn_kind T.F_turn_kind.kp T.b_turn_kind (qa_cons (qe_ix (qv 0) qe_int) qa_nil)) (qa_cons (qe_call (ok_turn_kind T n) (hr.mono (by first | omega | (simp only [Nat.add_eq, Nat.zero_add] <;> omega))) (by rfl) T.m_turn_kind T.F_turn_kind.kp T.b_turn_kind (qa_cons (qe_ix (qv 0) qe_int) qa_nil)) qa_nil))))))), fun xs M P Pe h => pure_turn_kind n A.a_TURNED xs M P Pe h⟩)
theorem ok_signed_letters (T : Top K w mg A) : FnOk P w K mg base CX0 1 A.a_signed_letters A.f_signed_letters ["kind", "start"] (lift K fs_signed_letters) :=
  okZ T.F_signed_letters sc_signed_letters (fun xs M P Pe h => len_signed_letters xs M P Pe h) (fun cdv A2 outer s H E hr => ⟨_, d_signed_letters A.a_SIGNS, (qss_cons (qs_set 2 sc_signed_letters.nd (qe_lst qa_nil))
    (qss_cons (qs_set 3 sc_signed_letters.nd (qe_lst (qa_cons (qe_tup (qa_cons (qv 0) (qa_cons (qv 1) qa_nil))) qa_nil)))
    (qss_cons (qs_while PassesOwn.never (qt_truth (qv 3)) (qss_cons (qs_asg (qe_pop (qv 3)) (qg_tup (n := 2) (by rfl) (qgs_cons (qg_name (i := 4) sc_signed_letters.nd) (qgs_cons (qg_name (i := 5) sc_signed_letters.nd) qgs_nil))))
    (qss_one (qs_if (qt_cmp op_eq ro_eqS (qe_ix (qv 4) qe_int) qe_str (nomark _)) (qss_one (qs_expr (qe_append (qv 2) (qe_tup (qa_cons (qe_ix (qv 4) qe_int) (qa_cons (qv 5) qa_nil)))))) (qss_cons (qs_asg (qe_ixKd T.v_SIGNS (qe_gref (by rfl) T.m_SIGNS) (qe_ix (qv 4) qe_int)) (qg_tup (n := 2) (by rfl) (qgs_cons (qg_name (i := 6) sc_signed_letters.nd) (qgs_cons (qg_name (i := 7) sc_signed_letters.nd) qgs_nil))))
    (qss_cons (qs_set 8 sc_signed_letters.nd (qe_fz (qe_lst (qa_cons (qe_tup (qa_cons (qe_ix (qv 4) qe_int) (qa_cons (qe_mul (qv 5) (qv 6)) qa_nil))) (qa_cons (qe_tup (qa_cons (qe_ix (qv 4) qe_int) (qa_cons (qe_mul (qv 5) (qv 7)) qa_nil))) qa_nil)))))
    (qss_one (qs_expr (qe_extZ (qv 3) (qe_ifExp (qt_cmp (op_eqU hr.units) ro_eqU (qv 5) (qe_neg qe_int) (nomark _)) (qv 8) (qe_fz (qe_revL (qv 8)))))))))))))
    (qss_one (qs_ret (qv 2)))))), fun xs M P Pe h => pure_signed_letters A.a_SIGNS xs M P Pe h⟩)
theorem ok_check_kinds (T : Top K w mg A) : FnOk P w K mg base CX0 3 A.a_check_kinds A.f_check_kinds ["kinds"] (lift K fs_check_kinds) :=
  okZ T.F_check_kinds sc_check_kinds (fun xs M P Pe h => len_check_kinds xs M P Pe h) (fun cdv A2 outer s H E hr => ⟨_, d_check_kinds, (qss_one (qs_for PassesOwn.never rfl (qi_any (qv 0)) (qg_name (i := 1) sc_check_kinds.nd) (qss_one (qs_for PassesOwn.never rfl (qi_any (qe_call (ok_parts_of_kind T) (hr.mono (by decide)) (by rfl) T.m_parts_of_kind T.F_parts_of_kind.kp T.b_parts_of_kind (qa_cons (qv 1) qa_nil))) (qg_name (i := 2) sc_check_kinds.nd) (qss_one (qs_if (qt_not (qt_truth (qe_call (ok_is_kind_part T) (hr.mono (by decide)) (by rfl) T.m_is_kind_part T.F_is_kind_part.kp T.b_is_kind_part (qa_cons (qv 2) qa_nil)))) (qss_one qs_never) qss_nil)))))), fun xs M P Pe h => pure_check_kinds xs M P Pe h⟩)
theorem ok_check_not_empty (T : Top K w mg A) : FnOk P w K mg base CX0 1 A.a_check_not_empty A.f_check_not_empty ["row"] (lift K fs_check_not_empty) :=
  okZ T.F_check_not_empty sc_check_not_empty (fun xs M P Pe h => len_check_not_empty xs M P Pe h) (fun cdv A2 outer s H E hr => ⟨_, d_check_not_empty, (qss_one (qs_if (qt_not (qt_truth (qv 0))) (qss_one qs_never) qss_nil)), fun xs M P Pe h => pure_check_not_empty xs M P Pe h⟩)
theorem ok_check_row (T : Top K w mg A) : FnOk P w K mg base CX0 4 A.a_check_row A.f_check_row ["row", "others"] (lift K fs_check_row) :=
  okZ T.F_check_row sc_check_row (fun xs M P Pe h => len_check_row xs M P Pe h) (fun cdv A2 outer s H E hr => ⟨_, d_check_row, (qss_cons (qs_expr (qe_call (ok_check_kinds T) (hr.mono (by decide)) (by rfl) T.m_check_kinds T.F_check_kinds.kp T.b_check_kinds (qa_cons (qe_addZ (qv 0) (qv 1)) qa_nil)))
    (qss_one (qs_expr (qe_call (ok_check_not_empty T) (hr.mono (by decide)) (by rfl) T.m_check_not_empty T.F_check_not_empty.kp T.b_check_not_empty (qa_cons (qv 0) qa_nil))))), fun xs M P Pe h => pure_check_row xs M P Pe h⟩)
theorem ok_check_single (T : Top K w mg A) : FnOk P w K mg base CX0 3 A.a_check_single A.f_check_single ["kinds"] (lift K fs_check_single) :=
  okZ T.F_check_single sc_check_single (fun xs M P Pe h => len_check_single xs M P Pe h) (fun cdv A2 outer s H E hr => ⟨_, d_check_single, (qss_one (qs_for PassesOwn.never rfl (qi_any (qv 0)) (qg_name (i := 1) sc_check_single.nd) (qss_one (qs_if (qt_truth (qe_call (ok_has_with T) (hr.mono (by decide)) (by rfl) T.m_has_with T.F_has_with.kp T.b_has_with (qa_cons (qv 1) qa_nil))) (qss_one qs_never) qss_nil)))), fun xs M P Pe h => pure_check_single xs M P Pe h⟩)
theorem ok_check_single_row (T : Top K w mg A) : FnOk P w K mg base CX0 5 A.a_check_single_row A.f_check_single_row ["row", "others"] (lift K fs_check_single_row) :=
  okZ T.F_check_single_row sc_check_single_row (fun xs M P Pe h => len_check_single_row xs M P Pe h) (fun cdv A2 outer s H E hr => ⟨_, d_check_single_row, (qss_cons (qs_expr (qe_call (ok_check_row T) (hr.mono (by decide)) (by rfl) T.m_check_row T.F_check_row.kp T.b_check_row (qa_cons (qv 0) (qa_cons (qv 1) qa_nil))))
    (qss_one (qs_expr (qe_call (ok_check_single T) (hr.mono (by decide)) (by rfl) T.m_check_single T.F_check_single.kp T.b_check_single (qa_cons (qe_addZ (qv 0) (qv 1)) qa_nil))))), fun xs M P Pe h => pure_check_single_row xs M P Pe h⟩)
theorem ok_letters_in_line (T : Top K w mg A) : FnOk P w K mg base CX0 2 A.a_letters_in_line A.f_letters_in_line ["row", "kind"] (lift K fs_letters_in_line) :=
  okZ T.F_letters_in_line sc_letters_in_line (fun xs M P Pe h => len_letters_in_line xs M P Pe h) (fun cdv A2 outer s H E hr => ⟨_, d_letters_in_line, (qss_cons (qs_setLc2Z 2 [4, 5] (own := [("part", 3), ("letter", 4), ("_", 5)]) rfl sc_letters_in_line.nd (qi_any (qv 0)) (blkOk_by (own := [("part", 3), ("letter", 4), ("_", 5)]) (N := N_letters_in_line) (sc := defScope s_letters_in_line) (by decide +kernel)) (by decide) (wg_nameIn (i := 3) (by decide)) wg_tup2 (by intro _ _ _ _ _; exact in_blkG (qg_name (i := 3) sc_letters_in_line.nd) (by first | (dsimp only [blk_K]; done) | (dsimp only [blk_K]; rfl) | rfl)) (by intro _ _ _ _ _; exact in_blkT qts_nil (by first | (dsimp only [blk_K]; done) | (dsimp only [blk_K]; rfl) | rfl)) (by intro _ _ _ _ _; exact in_blkI (qi_any (qe_call (ok_signed_letters T) (hr.mono (by decide)) (by rfl) T.m_signed_letters T.F_signed_letters.kp T.b_signed_letters (qa_cons (qv 3) (qa_cons qe_int qa_nil)))) (by first | (dsimp only [blk_K]; done) | (dsimp only [blk_K]; rfl) | rfl)) (by intro _ _ _ _ _; exact in_blkG (qg_tup (n := 2) (by rfl) (qgs_cons (qg_name (i := 4) sc_letters_in_line.nd) (qgs_cons (qg_name (i := 5) sc_letters_in_line.nd) qgs_nil))) (by first | (dsimp only [blk_K]; done) | (dsimp only [blk_K]; rfl) | rfl)) (by intro _ _ _ _ _; exact in_blkT qts_nil (by first | (dsimp only [blk_K]; done) | (dsimp only [blk_K]; rfl) | rfl)) (by intro _ _ _ _ _; exact in_blkE (qv 4) (by first | (dsimp only [blk_K]; done) | (dsimp only [blk_K]; rfl) | rfl)))
    (qss_one (qs_ret (qe_addZ (qv 2) (qe_fz (qe_lc (own := [("letter", 4), ("_", 5)]) rfl sc_letters_in_line.nd (qi_any (qe_call (ok_signed_letters T) (hr.mono (by decide)) (by rfl) T.m_signed_letters T.F_signed_letters.kp T.b_signed_letters (qa_cons (qv 1) (qa_cons (qe_neg qe_int) qa_nil)))) (blkOk_by (own := [("letter", 4), ("_", 5)]) (N := N_letters_in_line) (sc := defScope s_letters_in_line) (by decide +kernel)) wg_tup2 (by intro _ _ _ _ _; exact in_blkG (qg_tup (n := 2) (by rfl) (qgs_cons (qg_name (i := 4) sc_letters_in_line.nd) (qgs_cons (qg_name (i := 5) sc_letters_in_line.nd) qgs_nil))) (by first | (dsimp only [blk_K]; done) | (dsimp only [blk_K]; rfl) | rfl)) (by intro _ _ _ _ _; exact in_blkT qts_nil (by first | (dsimp only [blk_K]; done) | (dsimp only [blk_K]; rfl) | rfl)) (by intro _ _ _ _ _; exact in_blkE (qv 4) (by first | (dsimp only [blk_K]; done) | (dsimp only [blk_K]; rfl) | rfl)))))))), fun xs M P Pe h => pure_letters_in_line xs M P Pe h⟩)
theorem ok_line_owners (T : Top K w mg A) : FnOk P w K mg base CX0 3 A.a_line_owners A.f_line_owners ["row", "kind"] (lift K fs_line_owners) :=
  okZ T.F_line_owners sc_line_owners (fun xs M P Pe h => len_line_owners xs M P Pe h) (fun cdv A2 outer s H E hr => ⟨_, d_line_owners, (qss_one (qs_ret (qe_lc2 [4] (own := [("place", 2), ("one", 3), ("_", 4)]) rfl sc_line_owners.nd (qi_enum (by rfl) T.z_enumerate (qa_cons (qe_addZ (qv 0) (qe_fz (qe_lst (qa_cons (qv 1) qa_nil)))) qa_nil)) (blkOk_by (own := [("place", 2), ("one", 3), ("_", 4)]) (N := N_line_owners) (sc := defScope s_line_owners) (by decide +kernel)) (by decide) (wg_tup2In (i := 2) (j := 3) (by decide) (by decide)) wg_name (by intro _ _ _ _ _; exact in_blkG (qg_tup (n := 2) (by rfl) (qgs_cons (qg_name (i := 2) sc_line_owners.nd) (qgs_cons (qg_name (i := 3) sc_line_owners.nd) qgs_nil))) (by first | (dsimp only [blk_K]; done) | (dsimp only [blk_K]; rfl) | rfl)) (by intro _ _ _ _ _; exact in_blkT qts_nil (by first | (dsimp only [blk_K]; done) | (dsimp only [blk_K]; rfl) | rfl)) (by intro _ _ _ _ _; exact in_blkI (qi_any (qe_call (ok_letters_within T) (hr.mono (by decide)) (by rfl) T.m_letters_within T.F_letters_within.kp T.b_letters_within (qa_cons (qv 3) qa_nil))) (by first | (dsimp only [blk_K]; done) | (dsimp only [blk_K]; rfl) | rfl)) (by intro _ _ _ _ _; exact in_blkG (qg_name (i := 4) sc_line_owners.nd) (by first | (dsimp only [blk_K]; done) | (dsimp only [blk_K]; rfl) | rfl)) (by intro _ _ _ _ _; exact in_blkT qts_nil (by first | (dsimp only [blk_K]; done) | (dsimp only [blk_K]; rfl) | rfl)) (by intro _ _ _ _ _; exact in_blkE (qv 2) (by first | (dsimp only [blk_K]; done) | (dsimp only [blk_K]; rfl) | rfl))))), fun xs M P Pe h => pure_line_owners xs M P Pe h⟩)
theorem ok_line (T : Top K w mg A) : FnOk P w K mg base CX0 6 A.a_line A.f_line ["row", "kind"] (lift K fs_line) :=
  okZ T.F_line sc_line (fun xs M P Pe h => len_line xs M P Pe h) (fun cdv A2 outer s H E hr => ⟨_, d_line, (qss_cons (qs_expr (qe_call (ok_check_single_row T) (hr.mono (by decide)) (by rfl) T.m_check_single_row T.F_check_single_row.kp T.b_check_single_row (qa_cons (qv 0) (qa_cons (qe_fz (qe_lst (qa_cons (qv 1) qa_nil))) qa_nil))))
    (qss_one (qs_ret (qe_join qe_str (qe_call (ok_letters_in_line T) (hr.mono (by decide)) (by rfl) T.m_letters_in_line T.F_letters_in_line.kp T.b_letters_in_line (qa_cons (qv 0) (qa_cons (qv 1) qa_nil))))))), fun xs M P Pe h => pure_line xs M P Pe h⟩)
theorem ok_owners (T : Top K w mg A) : FnOk P w K mg base CX0 6 A.a_owners A.f_owners ["row", "kind"] (lift K fs_owners) :=
  okZ T.F_owners sc_owners (fun xs M P Pe h => len_owners xs M P Pe h) (fun cdv A2 outer s H E hr => ⟨_, d_owners, (qss_cons (qs_expr (qe_call (ok_check_single_row T) (hr.mono (by decide)) (by rfl) T.m_check_single_row T.F_check_single_row.kp T.b_check_single_row (qa_cons (qv 0) (qa_cons (qe_fz (qe_lst (qa_cons (qv 1) qa_nil))) qa_nil))))
    (qss_one (qs_ret (qe_call (ok_line_owners T) (hr.mono (by decide)) (by rfl) T.m_line_owners T.F_line_owners.kp T.b_line_owners (qa_cons (qv 0) (qa_cons (qv 1) qa_nil)))))), fun xs M P Pe h => pure_owners xs M P Pe h⟩)
theorem ok_turned (T : Top K w mg A) : FnOk P w K mg base CX0 21 A.a_turned A.f_turned ["kind"] (lift K fs_turned) :=
  okZ T.F_turned sc_turned (fun xs M P Pe h => len_turned xs M P Pe h) (fun cdv A2 outer s H E hr => ⟨_, d_turned, (qss_cons (qs_expr (qe_call (ok_check_kinds T) (hr.mono (by decide)) (by rfl) T.m_check_kinds T.F_check_kinds.kp T.b_check_kinds (qa_cons (qe_fz (qe_lst (qa_cons (qv 0) qa_nil))) qa_nil)))
    (qss_one (qs_ret (qe_call (ok_turn_kind T 20) (hr.mono (by decide)) (by rfl) T.m_turn_kind T.F_turn_kind.kp T.b_turn_kind (qa_cons (qv 0) qa_nil))))), fun xs M P Pe h => pure_turned xs M P Pe h⟩)
theorem ok_turned_row (T : Top K w mg A) : FnOk P w K mg base CX0 21 A.a_turned_row A.f_turned_row ["row"] (lift K fs_turned_row) :=
  okZ T.F_turned_row sc_turned_row (fun xs M P Pe h => len_turned_row xs M P Pe h) (fun cdv A2 outer s H E hr => ⟨_, d_turned_row, (qss_cons (qs_expr (qe_call (ok_check_kinds T) (hr.mono (by decide)) (by rfl) T.m_check_kinds T.F_check_kinds.kp T.b_check_kinds (qa_cons (qv 0) qa_nil)))
    (qss_cons (qs_expr (qe_call (ok_check_not_empty T) (hr.mono (by decide)) (by rfl) T.m_check_not_empty T.F_check_not_empty.kp T.b_check_not_empty (qa_cons (qv 0) qa_nil)))
    (qss_one (qs_ret (qe_fz (qe_lc (own := [("kind", 1)]) rfl sc_turned_row.nd (qi_any (qe_fz (qe_revL (qv 0)))) (blkOk_by (own := [("kind", 1)]) (N := N_turned_row) (sc := defScope s_turned_row) (by decide +kernel)) wg_name (by intro _ _ _ _ _; exact in_blkG (qg_name (i := 1) sc_turned_row.nd) (by first | (dsimp only [blk_K]; done) | (dsimp only [blk_K]; rfl) | rfl)) (by intro _ _ _ _ _; exact in_blkT qts_nil (by first | (dsimp only [blk_K]; done) | (dsimp only [blk_K]; rfl) | rfl)) (by intro _ _ _ _ _; exact in_blkE (qe_call (ok_turn_kind T 20) (hr.mono (by decide)) (by rfl) T.m_turn_kind T.F_turn_kind.kp T.b_turn_kind (qa_cons (qv 1) qa_nil)) (by first | (dsimp only [blk_K]; done) | (dsimp only [blk_K]; rfl) | rfl)))))))), fun xs M P Pe h => pure_turned_row xs M P Pe h⟩)
theorem ok__law_pick (T : Top K w mg A) : FnOk P w K mg base CX0 1 A.a__law_pick A.f__law_pick ["pool", "many"] (lift K fs__law_pick) :=
  okZ T.F__law_pick sc__law_pick (fun xs M P Pe h => len__law_pick xs M P Pe h) (fun cdv A2 outer s H E hr => ⟨_, d__law_pick, (qss_cons (qs_if (qt_cmp op_gt ro_gt (qe_ix (qv 0) qe_int) qe_int (nomark _)) (qss_cons (qs_set 2 sc__law_pick.nd (qe_mod (qe_callTy call_int1 rc_int (by rfl) T.z_int (by decide +kernel) (qa_cons (qe_ix (qv 0) qe_int) qa_nil)) (qv 1)))
    (qss_cons (qs_asg (qe_fdiv (qe_callTy call_int1 rc_int (by rfl) T.z_int (by decide +kernel) (qa_cons (qe_ix (qv 0) qe_int) qa_nil)) (qv 1)) (qg_subL (qv 0) qe_int))
    (qss_one (qs_ret (qv 2))))) qss_nil)
    (qss_cons (qs_asg (qe_addZ (qe_ix (qv 0) qe_int) qe_int) (qg_subL (qv 0) qe_int))
    (qss_cons (qs_set 3 sc__law_pick.nd (qe_mod (qe_callTy call_int1 rc_int (by rfl) T.z_int (by decide +kernel) (qa_cons (qe_addZ (qe_powX (qe_addZ (qe_ix (qv 0) qe_int) (qe_mulX qe_int (qe_ix (qv 0) qe_int))) qe_int) (qe_mulX qe_int (qe_ix (qv 0) qe_int))) qa_nil)) (qe_addZ (qe_powX qe_int qe_int) qe_int)))
    (qss_cons (qs_set 3 sc__law_pick.nd (qe_mod (qe_callTy call_int1 rc_int (by rfl) T.z_int (by decide +kernel) (qa_cons (qe_addZ (qe_powX (qv 3) qe_int) (qe_mulX qe_int (qv 3))) qa_nil)) (qe_addZ (qe_powX qe_int qe_int) qe_int)))
    (qss_one (qs_ret (qe_mod (qe_callTy call_int1 rc_int (by rfl) T.z_int (by decide +kernel) (qa_cons (qe_fdiv (qv 3) qe_int) qa_nil)) (qv 1)))))))), fun xs M P Pe h => pure__law_pick xs M P Pe h⟩)
theorem ok__law_pool (T : Top K w mg A) : FnOk P w K mg base CX0 2 A.a__law_pool A.f__law_pool ["script", "spot"] (lift K fs__law_pool) :=
  okZ T.F__law_pool sc__law_pool (fun xs M P Pe h => len__law_pool xs M P Pe h) (fun cdv A2 outer s H E hr => ⟨_, d__law_pool, (qss_cons (qs_set 2 sc__law_pool.nd (qe_ifExp (qt_cmp op_lt ro_lt (qv 1) (qe_callB call_len rc_len (by rfl) T.z_len (by decide +kernel) (qa_cons (qv 0) qa_nil)) (nomark _)) (qe_callTy call_int1 rc_int (by rfl) T.z_int (by decide +kernel) (qa_cons (qe_ix (qv 0) (qv 1)) qa_nil)) (qe_addZ (qe_addZ (qe_mulX qe_int (qv 1)) (qe_mulX qe_int (qe_callB call_len rc_len (by rfl) T.z_len (by decide +kernel) (qa_cons (qv 0) qa_nil)))) qe_int)))
    (qss_cons (qs_set 3 sc__law_pool.nd (qe_lst (qa_cons (qe_callB (call_max2 rfl) rc_max2 (by rfl) T.z_max (by decide +kernel) (qa_cons qe_int (qa_cons (qe_sub (qe_callB call_abs rc_abs (by rfl) T.z_abs (by decide +kernel) (qa_cons (qv 2) qa_nil)) (qe_powX qe_int qe_int)) qa_nil))) (qa_cons (qe_mod (qe_callTy call_int1 rc_int (by rfl) T.z_int (by decide +kernel) (qa_cons (qe_addZ (qe_addZ (qe_mulX (qv 2) qe_int) (qe_mulX qe_int (qv 1))) qe_int) qa_nil)) (qe_addZ (qe_powX qe_int qe_int) qe_int)) (qa_cons qe_int qa_nil)))))
    (qss_cons (qs_set 4 sc__law_pool.nd (qe_fz (qe_lst (qa_cons qe_str (qa_cons qe_str (qa_cons qe_str (qa_cons qe_str (qa_cons qe_str (qa_cons qe_str qa_nil)))))))))
    (qss_cons (qs_expr (qe_append (qv 3) (qe_ix (qv 4) (qe_call (ok__law_pick T) (hr.mono (by decide)) (by rfl) T.m__law_pick T.F__law_pick.kp T.b__law_pick (qa_cons (qv 3) (qa_cons qe_int qa_nil))))))
    (qss_one (qs_ret (qv 3))))))), fun xs M P Pe h => pure__law_pool xs M P Pe h⟩)
theorem ok__law_shape (T : Top K w mg A) : ∀ n : Nat, FnOk P w K mg base CX0 (1 + n) A.a__law_shape A.f__law_shape ["pool", "most"] (lift K (fs__law_shape n))
  | 0 => fnOk_none fun xs M P Pe h => no__law_shape xs M P Pe h
  | n + 1 => okZ T.F__law_shape sc__law_shape (fun xs M P Pe h => len__law_shape _ xs M P Pe h) (fun cdv A2 outer s H E hr => ⟨_, d__law_shape n, (qss_cons (qs_if (QW.t (qw_or (qt_cmp op_lt ro_lt (qv 1) qe_int (nomark _)) (qw_or1 (qt_cmp op_eq ro_eqS (qe_call (ok__law_pick T) (hr.mono (by first | omega | (simp only [Nat.add_eq, Nat.zero_add] <;> omega))) (by rfl) T.m__law_pick T.F__law_pick.kp T.b__law_pick (qa_cons (qv 0) (qa_cons qe_int qa_nil))) qe_int (nomark _))))) (qss_one (qs_ret (qe_tup (qa_cons qe_str (qa_cons (qe_ix (qe_ix (qv 0) qe_int) (qe_call (ok__law_pick T) (hr.mono (by first | omega | (simp only [Nat.add_eq, Nat.zero_add] <;> omega))) (by rfl) T.m__law_pick T.F__law_pick.kp T.b__law_pick (qa_cons (qv 0) (qa_cons (qe_callB call_len rc_len (by rfl) T.z_len (by decide +kernel) (qa_cons (qe_ix (qv 0) qe_int) qa_nil)) qa_nil)))) qa_nil))))) qss_nil)
    (qss_cons (qs_set 2 sc__law_shape.nd (qe_addZ qe_int (qe_call (ok__law_pick T) (hr.mono (by first | omega | (simp only [Nat.add_eq, Nat.zero_add] <;> omega))) (by rfl) T.m__law_pick T.F__law_pick.kp T.b__law_pick (qa_cons (qv 0) (qa_cons (qe_sub (qv 1) qe_int) qa_nil)))))
    (qss_cons (qs_par 3 4 rfl sc__law_shape.nd (qa_cons (qe_call (ok__law_shape T n) (hr.mono (by first | omega | (simp only [Nat.add_eq, Nat.zero_add] <;> omega))) (by rfl) T.m__law_shape T.F__law_shape.kp T.b__law_shape (qa_cons (qv 0) (qa_cons (qv 2) qa_nil))) (qa_cons (qe_call (ok__law_shape T n) (hr.mono (by first | omega | (simp only [Nat.add_eq, Nat.zero_add] <;> omega))) (by rfl) T.m__law_shape T.F__law_shape.kp T.b__law_shape (qa_cons (qv 0) (qa_cons (qe_sub (qv 1) (qv 2)) qa_nil))) qa_nil)))
    (qss_one (qs_ret (qe_tup (qa_cons (qe_ix (qe_fz (qe_lst (qa_cons qe_str (qa_cons qe_str qa_nil)))) (qe_call (ok__law_pick T) (hr.mono (by first | omega | (simp only [Nat.add_eq, Nat.zero_add] <;> omega))) (by rfl) T.m__law_pick T.F__law_pick.kp T.b__law_pick (qa_cons (qv 0) (qa_cons qe_int qa_nil)))) (qa_cons (qv 3) (qa_cons (qv 4) qa_nil))))))))), fun xs M P Pe h => pure__law_shape n xs M P Pe h⟩)
theorem ok__law_size (T : Top K w mg A) : ∀ n : Nat, FnOk P w K mg base CX0 (0 + n) A.a__law_size A.f__law_size ["shape"] (lift K (fs__law_size n))
  | 0 => fnOk_none fun xs M P Pe h => no__law_size xs M P Pe h
  | n + 1 => okZ T.F__law_size sc__law_size (fun xs M P Pe h => len__law_size _ xs M P Pe h) (fun cdv A2 outer s H E hr => ⟨_, d__law_size n, (qss_one (qs_ret (qe_ifExp (qt_cmp op_eq ro_eqS (qe_ix (qv 0) qe_int) qe_str (nomark _)) qe_int (qe_addZ (qe_call (ok__law_size T n) (hr.mono (by first | omega | (simp only [Nat.add_eq, Nat.zero_add] <;> omega))) (by rfl) T.m__law_size T.F__law_size.kp T.b__law_size (qa_cons (qe_ix (qv 0) qe_int) qa_nil)) (qe_call (ok__law_size T n) (hr.mono (by first | omega | (simp only [Nat.add_eq, Nat.zero_add] <;> omega))) (by rfl) T.m__law_size T.F__law_size.kp T.b__law_size (qa_cons (qe_ix (qv 0) qe_int) qa_nil)))))), fun xs M P Pe h => pure__law_size n xs M P Pe h⟩)
theorem ok__law_deep (T : Top K w mg A) : ∀ n : Nat, FnOk P w K mg base CX0 (0 + n) A.a__law_deep A.f__law_deep ["shape"] (lift K (fs__law_deep n))
  | 0 => fnOk_none fun xs M P Pe h => no__law_deep xs M P Pe h
  | n + 1 => okZ T.F__law_deep sc__law_deep (fun xs M P Pe h => len__law_deep _ xs M P Pe h) (fun cdv A2 outer s H E hr => ⟨_, d__law_deep n, (qss_one (qs_ret (qe_ifExp (qt_cmp op_eq ro_eqS (qe_ix (qv 0) qe_int) qe_str (nomark _)) qe_int (qe_addZ qe_int (qe_callB (call_max2 rfl) rc_max2 (by rfl) T.z_max (by decide +kernel) (qa_cons (qe_call (ok__law_deep T n) (hr.mono (by first | omega | (simp only [Nat.add_eq, Nat.zero_add] <;> omega))) (by rfl) T.m__law_deep T.F__law_deep.kp T.b__law_deep (qa_cons (qe_ix (qv 0) qe_int) qa_nil)) (qa_cons (qe_call (ok__law_deep T n) (hr.mono (by first | omega | (simp only [Nat.add_eq, Nat.zero_add] <;> omega))) (by rfl) T.m__law_deep T.F__law_deep.kp T.b__law_deep (qa_cons (qe_ix (qv 0) qe_int) qa_nil)) qa_nil))))))), fun xs M P Pe h => pure__law_deep n xs M P Pe h⟩)
theorem ok__law_within (T : Top K w mg A) : FnOk P w K mg base CX0 101 A.a__law_within A.f__law_within ["shapes"] (lift K fs__law_within) :=
  okZ T.F__law_within sc__law_within (fun xs M P Pe h => len__law_within xs M P Pe h) (fun cdv A2 outer s H E hr => ⟨_, d__law_within, (qss_cons (qs_setLcZ 1 (own := [("shape", 2)]) rfl sc__law_within.nd (qi_any (qv 0)) (blkOk_by (own := [("shape", 2)]) (N := N__law_within) (sc := defScope s__law_within) (by decide +kernel)) wg_name (by intro _ _ _ _ _; exact in_blkG (qg_name (i := 2) sc__law_within.nd) (by first | (dsimp only [blk_K]; done) | (dsimp only [blk_K]; rfl) | rfl)) (by intro _ _ _ _ _; exact in_blkT qts_nil (by first | (dsimp only [blk_K]; done) | (dsimp only [blk_K]; rfl) | rfl)) (by intro _ _ _ _ _; exact in_blkE (qe_call (ok__law_size T 100) (hr.mono (by decide)) (by rfl) T.m__law_size T.F__law_size.kp T.b__law_size (qa_cons (qv 2) qa_nil)) (by first | (dsimp only [blk_K]; done) | (dsimp only [blk_K]; rfl) | rfl)))
    (qss_cons (qs_if (QW.t (qw_or (qt_cmp op_gt ro_gt (qe_callB call_len rc_len (by rfl) T.z_len (by decide +kernel) (qa_cons (qv 0) qa_nil)) qe_int (nomark _)) (qw_or (qt_cmp op_gt ro_gt (qe_callB (cr_sum rfl) rc_sum (by rfl) T.z_sum (by decide +kernel) (qa_cons (qv 1) qa_nil)) qe_int (nomark _)) (qw_or1 (qt_cmp op_gt ro_gt (qe_callB (cr_max rfl) rc_maxL (by rfl) T.z_max (by decide +kernel) (qa_cons (qv 1) qa_nil)) qe_int (nomark _)))))) (qss_one (qs_ret qe_bl)) qss_nil)
    (qss_one (qs_ret (qe_cmp op_lt ro_lt (qe_callB (cr_max rfl) rc_maxL (by rfl) T.z_max (by decide +kernel) (qa_cons (qe_fz (qe_lc (own := [("shape", 2)]) rfl sc__law_within.nd (qi_any (qv 0)) (blkOk_by (own := [("shape", 2)]) (N := N__law_within) (sc := defScope s__law_within) (by decide +kernel)) wg_name (by intro _ _ _ _ _; exact in_blkG (qg_name (i := 2) sc__law_within.nd) (by first | (dsimp only [blk_K]; done) | (dsimp only [blk_K]; rfl) | rfl)) (by intro _ _ _ _ _; exact in_blkT qts_nil (by first | (dsimp only [blk_K]; done) | (dsimp only [blk_K]; rfl) | rfl)) (by intro _ _ _ _ _; exact in_blkE (qe_call (ok__law_deep T 100) (hr.mono (by decide)) (by rfl) T.m__law_deep T.F__law_deep.kp T.b__law_deep (qa_cons (qv 2) qa_nil)) (by first | (dsimp only [blk_K]; done) | (dsimp only [blk_K]; rfl) | rfl)))) qa_nil)) qe_int (nomark _)))))), fun xs M P Pe h => pure__law_within xs M P Pe h⟩)
theorem ok__law_wide (T : Top K w mg A) : ∀ n : Nat, FnOk P w K mg base CX0 (0 + n) A.a__law_wide A.f__law_wide ["tree"] (lift K (fs__law_wide n))
  | 0 => fnOk_none fun xs M P Pe h => no__law_wide xs M P Pe h
  | n + 1 => okZ T.F__law_wide sc__law_wide (fun xs M P Pe h => len__law_wide _ xs M P Pe h) (fun cdv A2 outer s H E hr => ⟨_, d__law_wide n, (qss_cons (qs_if (qt_cmp op_eq ro_eqS (qe_ix (qv 0) qe_int) qe_str (nomark _)) (qss_one (qs_ret qe_int)) qss_nil)
    (qss_cons (qs_if (qt_cmp op_in_seq ro_inF (qe_ix (qv 0) qe_int) (qe_tup (qa_cons qe_str (qa_cons qe_str qa_nil))) (by rfl)) (qss_one (qs_ret (qe_sub (qe_call (ok__law_wide T n) (hr.mono (by first | omega | (simp only [Nat.add_eq, Nat.zero_add] <;> omega))) (by rfl) T.m__law_wide T.F__law_wide.kp T.b__law_wide (qa_cons (qe_ix (qv 0) qe_int) qa_nil)) qe_int))) qss_nil)
    (qss_one (qs_ret (qe_addZ (qe_call (ok__law_wide T n) (hr.mono (by first | omega | (simp only [Nat.add_eq, Nat.zero_add] <;> omega))) (by rfl) T.m__law_wide T.F__law_wide.kp T.b__law_wide (qa_cons (qe_ix (qv 0) qe_int) qa_nil)) (qe_call (ok__law_wide T n) (hr.mono (by first | omega | (simp only [Nat.add_eq, Nat.zero_add] <;> omega))) (by rfl) T.m__law_wide T.F__law_wide.kp T.b__law_wide (qa_cons (qe_ix (qv 0) qe_int) qa_nil))))))), fun xs M P Pe h => pure__law_wide n xs M P Pe h⟩)
theorem ok__law_count (T : Top K w mg A) : ∀ n : Nat, FnOk P w K mg base CX0 (0 + n) A.a__law_count A.f__law_count ["tree"] (lift K (fs__law_count n))
  | 0 => fnOk_none fun xs M P Pe h => no__law_count xs M P Pe h
  | n + 1 => okZ T.F__law_count sc__law_count (fun xs M P Pe h => len__law_count _ xs M P Pe h) (fun cdv A2 outer s H E hr => ⟨_, d__law_count n, (qss_cons (qs_if (qt_cmp op_eq ro_eqS (qe_ix (qv 0) qe_int) qe_str (nomark _)) (qss_one (qs_ret qe_int)) qss_nil)
    (qss_cons (qs_if (qt_cmp op_in_seq ro_inF (qe_ix (qv 0) qe_int) (qe_tup (qa_cons qe_str (qa_cons qe_str qa_nil))) (by rfl)) (qss_one (qs_ret (qe_addZ qe_int (qe_call (ok__law_count T n) (hr.mono (by first | omega | (simp only [Nat.add_eq, Nat.zero_add] <;> omega))) (by rfl) T.m__law_count T.F__law_count.kp T.b__law_count (qa_cons (qe_ix (qv 0) qe_int) qa_nil))))) qss_nil)
    (qss_one (qs_ret (qe_addZ (qe_addZ qe_int (qe_call (ok__law_count T n) (hr.mono (by first | omega | (simp only [Nat.add_eq, Nat.zero_add] <;> omega))) (by rfl) T.m__law_count T.F__law_count.kp T.b__law_count (qa_cons (qe_ix (qv 0) qe_int) qa_nil))) (qe_call (ok__law_count T n) (hr.mono (by first | omega | (simp only [Nat.add_eq, Nat.zero_add] <;> omega))) (by rfl) T.m__law_count T.F__law_count.kp T.b__law_count (qa_cons (qe_ix (qv 0) qe_int) qa_nil))))))), fun xs M P Pe h => pure__law_count n xs M P Pe h⟩)
theorem ok__law_shown (T : Top K w mg A) : ∀ n : Nat, FnOk P w K mg base CX0 (101 + n) A.a__law_shown A.f__law_shown ["lane", "tree", "tight"] (lift K (fs__law_shown n))
  | 0 => fnOk_none fun xs M P Pe h => no__law_shown xs M P Pe h
  | n + 1 => okZD T.F__law_shown sc__law_shown (fun xs M P Pe h => len__law_shown _ xs M P Pe h) (fun cdv A2 outer s H E hr => ⟨_, d__law_shown n, (qss_cons (qs_set 3 sc__law_shown.nd qe_non)
    (qss_cons (qs_if (qt_cmp op_eq ro_eqS (qe_ix (qv 1) qe_int) qe_str (nomark _)) (qss_one (qs_set 3 sc__law_shown.nd (qe_ifExp (qt_cmp op_eq ro_eqS (qe_callB call_len rc_len (by rfl) T.z_len (by decide +kernel) (qa_cons (qv 0) qa_nil)) qe_int (nomark _)) (qe_ix (qv 0) qe_int) qe_non))) (qss_one (qs_if (qt_cmp op_eq ro_eqS (qe_ix (qv 1) qe_int) qe_str (nomark _)) (qss_cons (qs_set 4 sc__law_shown.nd (qe_call (ok__law_shown T n) (hr.mono (by first | omega | (simp only [Nat.add_eq, Nat.zero_add] <;> omega))) (by rfl) T.m__law_shown T.F__law_shown.kp T.b__law_shown (qa_cons (qe_addZ (qv 0) (qe_fz (qe_lst (qa_cons (qe_ix (qv 1) qe_int) qa_nil)))) (qa_cons (qe_ix (qv 1) qe_int) (qa_cons (qv 2) qa_nil)))))
    (qss_one (qs_set 3 sc__law_shown.nd (qe_ifExp (qt_cmp op_isN ro_isN (qv 4) qe_non (nomark _)) qe_non (qe_tup (qa_cons qe_str (qa_cons (qv 4) (qa_cons (qe_ix (qv 1) qe_int) qa_nil)))))))) (qss_one (qs_if (qt_cmp op_eq ro_eqS (qe_ix (qv 1) qe_int) qe_str (nomark _)) (qss_cons (qs_set 4 sc__law_shown.nd (qe_call (ok__law_shown T n) (hr.mono (by first | omega | (simp only [Nat.add_eq, Nat.zero_add] <;> omega))) (by rfl) T.m__law_shown T.F__law_shown.kp T.b__law_shown (qa_cons (qe_addZ (qe_fz (qe_lst (qa_cons (qe_ix (qv 1) qe_int) qa_nil))) (qv 0)) (qa_cons (qe_ix (qv 1) qe_int) (qa_cons (qv 2) qa_nil)))))
    (qss_one (qs_set 3 sc__law_shown.nd (qe_ifExp (qt_cmp op_isN ro_isN (qv 4) qe_non (nomark _)) qe_non (qe_tup (qa_cons qe_str (qa_cons (qe_ix (qv 1) qe_int) (qa_cons (qv 4) qa_nil)))))))) (qss_cons (qs_set 5 sc__law_shown.nd (qe_call (ok__law_wide T 60) (hr.mono (by first | omega | (simp only [Nat.add_eq, Nat.zero_add] <;> omega))) (by rfl) T.m__law_wide T.F__law_wide.kp T.b__law_wide (qa_cons (qe_ix (qv 1) qe_int) qa_nil)))
    (qss_cons (qs_par 6 7 rfl sc__law_shown.nd (qa_cons (qe_call (ok__law_shown T n) (hr.mono (by first | omega | (simp only [Nat.add_eq, Nat.zero_add] <;> omega))) (by rfl) T.m__law_shown T.F__law_shown.kp T.b__law_shown (qa_cons (qe_slcZ (qv 0) qo_none (qo_some (qv 5))) (qa_cons (qe_ix (qv 1) qe_int) (qa_cons (qv 2) qa_nil)))) (qa_cons (qe_call (ok__law_shown T n) (hr.mono (by first | omega | (simp only [Nat.add_eq, Nat.zero_add] <;> omega))) (by rfl) T.m__law_shown T.F__law_shown.kp T.b__law_shown (qa_cons (qe_slcZ (qv 0) (qo_some (qv 5)) qo_none) (qa_cons (qe_ix (qv 1) qe_int) (qa_cons (qv 2) qa_nil)))) qa_nil)))
    (qss_cons (qs_if (QW.t (qw_or (qt_cmp op_isN ro_isN (qv 6) qe_non (nomark _)) (qw_or1 (qt_cmp op_isN ro_isN (qv 7) qe_non (nomark _))))) (qss_one (qs_ret qe_non)) qss_nil)
    (qss_cons (qs_if (QW.t (qw_and (qt_cmp op_eq ro_eqS (qe_ix (qv 1) qe_int) qe_str (nomark _)) (qw_and (qt_cmp op_eq ro_eqS (qe_ix (qv 6) qe_int) qe_str (nomark _)) (qw_and1 (qt_cmp (op_eqU hr.units) ro_eqU (qe_ix (qv 6) qe_int) (qv 7) (nomark _)))))) (qss_one (qs_set 3 sc__law_shown.nd (qe_ix (qv 6) qe_int))) qss_nil)
    (qss_one (qs_if (QW.t (qw_and (qt_cmp op_eq ro_eqS (qe_ix (qv 1) qe_int) qe_str (nomark _)) (qw_and (qt_cmp op_eq ro_eqS (qe_ix (qv 7) qe_int) qe_str (nomark _)) (qw_and1 (qt_cmp (op_eqU hr.units) ro_eqU (qe_ix (qv 7) qe_int) (qv 6) (nomark _)))))) (qss_one (qs_set 3 sc__law_shown.nd (qe_ix (qv 7) qe_int))) qss_nil)))))))))))
    (qss_cons (qs_if (QW.t (qw_or (qt_cmp op_isN ro_isN (qv 3) qe_non (nomark _)) (qw_or1 (QW.t (qw_and (qt_truth (qv 2)) (qw_and1 (qt_not (qt_truth (qe_call (ok__law_within T) (hr.mono (by first | omega | (simp only [Nat.add_eq, Nat.zero_add] <;> omega))) (by rfl) T.m__law_within T.F__law_within.kp T.b__law_within (qa_cons (qe_addZ (qv 0) (qe_fz (qe_lst (qa_cons (qv 3) qa_nil)))) qa_nil)))))))))) (qss_one (qs_ret qe_non)) qss_nil)
    (qss_one (qs_ret (qv 3)))))), fun xs M P Pe h => pure__law_shown n xs M P Pe h⟩)
theorem ok__law_put (T : Top K w mg A) : ∀ n : Nat, FnOk P w K mg base CX0 (60 + n) A.a__law_put A.f__law_put ["tree", "spot", "more"] (lift K (fs__law_put n))
  | 0 => fnOk_none fun xs M P Pe h => no__law_put xs M P Pe h
  | n + 1 => okZ T.F__law_put sc__law_put (fun xs M P Pe h => len__law_put _ xs M P Pe h) (fun cdv A2 outer s H E hr => ⟨_, d__law_put n, (qss_cons (qs_if (qt_cmp op_eq ro_eqS (qe_ix (qv 0) qe_int) qe_str (nomark _)) (qss_one (qs_ret (qv 2))) qss_nil)
    (qss_cons (qs_if (qt_cmp op_eq ro_eqS (qe_ix (qv 0) qe_int) qe_str (nomark _)) (qss_one (qs_ret (qe_tup (qa_cons (qe_ix (qv 0) qe_int) (qa_cons (qe_ix (qv 0) qe_int) (qa_cons (qe_call (ok__law_put T n) (hr.mono (by first | omega | (simp only [Nat.add_eq, Nat.zero_add] <;> omega))) (by rfl) T.m__law_put T.F__law_put.kp T.b__law_put (qa_cons (qe_ix (qv 0) qe_int) (qa_cons (qv 1) (qa_cons (qv 2) qa_nil)))) qa_nil)))))) qss_nil)
    (qss_cons (qs_if (qt_cmp op_eq ro_eqS (qe_ix (qv 0) qe_int) qe_str (nomark _)) (qss_one (qs_ret (qe_tup (qa_cons (qe_ix (qv 0) qe_int) (qa_cons (qe_ix (qv 0) qe_int) (qa_cons (qe_call (ok__law_put T n) (hr.mono (by first | omega | (simp only [Nat.add_eq, Nat.zero_add] <;> omega))) (by rfl) T.m__law_put T.F__law_put.kp T.b__law_put (qa_cons (qe_ix (qv 0) qe_int) (qa_cons (qe_addZ (qv 1) qe_int) (qa_cons (qv 2) qa_nil)))) qa_nil)))))) qss_nil)
    (qss_cons (qs_set 3 sc__law_put.nd (qe_call (ok__law_wide T 60) (hr.mono (by first | omega | (simp only [Nat.add_eq, Nat.zero_add] <;> omega))) (by rfl) T.m__law_wide T.F__law_wide.kp T.b__law_wide (qa_cons (qe_ix (qv 0) qe_int) qa_nil)))
    (qss_cons (qs_if (qt_cmp op_lt ro_lt (qv 1) (qv 3) (nomark _)) (qss_one (qs_ret (qe_tup (qa_cons (qe_ix (qv 0) qe_int) (qa_cons (qe_call (ok__law_put T n) (hr.mono (by first | omega | (simp only [Nat.add_eq, Nat.zero_add] <;> omega))) (by rfl) T.m__law_put T.F__law_put.kp T.b__law_put (qa_cons (qe_ix (qv 0) qe_int) (qa_cons (qv 1) (qa_cons (qv 2) qa_nil)))) (qa_cons (qe_ix (qv 0) qe_int) qa_nil)))))) qss_nil)
    (qss_one (qs_ret (qe_tup (qa_cons (qe_ix (qv 0) qe_int) (qa_cons (qe_ix (qv 0) qe_int) (qa_cons (qe_call (ok__law_put T n) (hr.mono (by first | omega | (simp only [Nat.add_eq, Nat.zero_add] <;> omega))) (by rfl) T.m__law_put T.F__law_put.kp T.b__law_put (qa_cons (qe_ix (qv 0) qe_int) (qa_cons (qe_sub (qv 1) (qv 3)) (qa_cons (qv 2) qa_nil)))) qa_nil))))))))))), fun xs M P Pe h => pure__law_put n xs M P Pe h⟩)
theorem ok__law_eta (T : Top K w mg A) : FnOk P w K mg base CX0 1 A.a__law_eta A.f__law_eta ["tree", "shape"] (lift K fs__law_eta) :=
  okZ T.F__law_eta sc__law_eta (fun xs M P Pe h => len__law_eta xs M P Pe h) (fun cdv A2 outer s H E hr => ⟨_, d__law_eta, (qss_cons (qs_if (qt_cmp op_eq ro_eqS (qe_ix (qv 1) qe_int) qe_str (nomark _)) (qss_one (qs_ret (qe_tup (qa_cons qe_str (qa_cons (qe_ix (qv 1) qe_int) (qa_cons (qe_tup (qa_cons qe_str (qa_cons (qv 0) (qa_cons (qe_tup (qa_cons qe_str qa_nil)) qa_nil)))) qa_nil)))))) qss_nil)
    (qss_cons (qs_if (qt_cmp op_eq ro_eqS (qe_ix (qv 1) qe_int) qe_str (nomark _)) (qss_one (qs_ret (qe_tup (qa_cons qe_str (qa_cons (qe_ix (qv 1) qe_int) (qa_cons (qe_tup (qa_cons qe_str (qa_cons (qe_tup (qa_cons qe_str qa_nil)) (qa_cons (qv 0) qa_nil)))) qa_nil)))))) qss_nil)
    (qss_one (qs_ret (qv 0))))), fun xs M P Pe h => pure__law_eta xs M P Pe h⟩)
theorem ok__law_given (T : Top K w mg A) : FnOk P w K mg base CX0 1 A.a__law_given A.f__law_given ["way", "lane", "tree", "shape"] (lift K fs__law_given) :=
  okZ T.F__law_given sc__law_given (fun xs M P Pe h => len__law_given xs M P Pe h) (fun cdv A2 outer s H E hr => ⟨_, d__law_given, (qss_cons (qs_if (qt_cmp op_eq ro_eqS (qv 0) qe_int (nomark _)) (qss_one (qs_ret (qe_tup (qa_cons (qe_slcZ (qv 1) qo_none (qo_some (qe_neg qe_int))) (qa_cons (qe_tup (qa_cons qe_str (qa_cons (qe_ix (qv 1) (qe_neg qe_int)) (qa_cons (qv 2) qa_nil)))) (qa_cons (qe_tup (qa_cons qe_str (qa_cons (qv 3) (qa_cons (qe_ix (qv 1) (qe_neg qe_int)) qa_nil)))) qa_nil)))))) qss_nil)
    (qss_cons (qs_if (qt_cmp op_eq ro_eqS (qv 0) qe_int (nomark _)) (qss_one (qs_ret (qe_tup (qa_cons (qe_slcZ (qv 1) (qo_some qe_int) qo_none) (qa_cons (qe_tup (qa_cons qe_str (qa_cons (qe_ix (qv 1) qe_int) (qa_cons (qv 2) qa_nil)))) (qa_cons (qe_tup (qa_cons qe_str (qa_cons (qe_ix (qv 1) qe_int) (qa_cons (qv 3) qa_nil)))) qa_nil)))))) qss_nil)
    (qss_cons (qs_if (qt_cmp op_eq ro_eqS (qv 0) qe_int (nomark _)) (qss_one (qs_ret (qe_tup (qa_cons (qv 1) (qa_cons (qe_tup (qa_cons qe_str (qa_cons (qe_tup (qa_cons qe_str (qa_cons (qe_ix (qv 1) (qe_neg qe_int)) (qa_cons (qv 2) qa_nil)))) (qa_cons (qe_tup (qa_cons qe_str qa_nil)) qa_nil)))) (qa_cons (qv 3) qa_nil)))))) qss_nil)
    (qss_one (qs_ret (qe_tup (qa_cons (qv 1) (qa_cons (qe_tup (qa_cons qe_str (qa_cons (qe_tup (qa_cons qe_str qa_nil)) (qa_cons (qe_tup (qa_cons qe_str (qa_cons (qe_ix (qv 1) qe_int) (qa_cons (qv 2) qa_nil)))) qa_nil)))) (qa_cons (qv 3) qa_nil))))))))), fun xs M P Pe h => pure__law_given xs M P Pe h⟩)
theorem ok__law_grown (T : Top K w mg A) : FnOk P w K mg base CX0 102 A.a__law_grown A.f__law_grown ["pool", "made"] (lift K fs__law_grown) :=
  okZ T.F__law_grown sc__law_grown (fun xs M P Pe h => len__law_grown xs M P Pe h) (fun cdv A2 outer s H E hr => ⟨_, d__law_grown, (qss_cons (qs_asg (qv 1) (qg_tup (n := 3) (by rfl) (qgs_cons (qg_name (i := 2) sc__law_grown.nd) (qgs_cons (qg_name (i := 3) sc__law_grown.nd) (qgs_cons (qg_name (i := 4) sc__law_grown.nd) qgs_nil)))))
    (qss_cons (qs_par3 5 6 7 rfl sc__law_grown.nd (qa_cons (qe_call (ok__law_pick T) (hr.mono (by decide)) (by rfl) T.m__law_pick T.F__law_pick.kp T.b__law_pick (qa_cons (qv 0) (qa_cons qe_int qa_nil))) (qa_cons (qe_call (ok__law_pick T) (hr.mono (by decide)) (by rfl) T.m__law_pick T.F__law_pick.kp T.b__law_pick (qa_cons (qv 0) (qa_cons (qe_callB call_len rc_len (by rfl) T.z_len (by decide +kernel) (qa_cons (qv 2) qa_nil)) qa_nil))) (qa_cons (qe_tup (qa_cons qe_str qa_nil)) qa_nil))))
    (qss_cons (qs_set 8 sc__law_grown.nd (qe_call (ok__law_shape T 2) (hr.mono (by decide)) (by rfl) T.m__law_shape T.F__law_shape.kp T.b__law_shape (qa_cons (qv 0) (qa_cons (qe_addZ qe_int (qe_call (ok__law_pick T) (hr.mono (by decide)) (by rfl) T.m__law_pick T.F__law_pick.kp T.b__law_pick (qa_cons (qv 0) (qa_cons qe_int qa_nil)))) qa_nil))))
    (qss_cons (qs_if (qt_cmp op_eq ro_eqS (qv 5) qe_int (nomark _)) (qss_one (qs_ret (qe_tup (qa_cons (qe_addZ (qe_fz (qe_lst (qa_cons (qe_tup (qa_cons qe_str (qa_cons (qv 8) (qa_cons (qv 4) qa_nil)))) qa_nil))) (qv 2)) (qa_cons (qe_tup (qa_cons qe_str (qa_cons (qv 7) (qa_cons (qv 3) qa_nil)))) (qa_cons (qv 8) qa_nil)))))) qss_nil)
    (qss_cons (qs_if (qt_cmp op_eq ro_eqS (qv 5) qe_int (nomark _)) (qss_one (qs_ret (qe_tup (qa_cons (qe_addZ (qv 2) (qe_fz (qe_lst (qa_cons (qe_tup (qa_cons qe_str (qa_cons (qv 4) (qa_cons (qv 8) qa_nil)))) qa_nil)))) (qa_cons (qe_tup (qa_cons qe_str (qa_cons (qv 3) (qa_cons (qv 7) qa_nil)))) (qa_cons (qv 8) qa_nil)))))) qss_nil)
    (qss_cons (qs_if (qt_cmp op_eq ro_eqS (qv 5) qe_int (nomark _)) (qss_cons (qs_set 9 sc__law_grown.nd (qe_addZ (qe_addZ (qe_slcZ (qv 2) qo_none (qo_some (qv 6))) (qe_fz (qe_lst (qa_cons (qe_tup (qa_cons qe_str (qa_cons (qe_ix (qv 2) (qv 6)) (qa_cons (qv 8) qa_nil)))) (qa_cons (qv 8) qa_nil))))) (qe_slcZ (qv 2) (qo_some (qe_addZ (qv 6) qe_int)) qo_none)))
    (qss_one (qs_ret (qe_tup (qa_cons (qv 9) (qa_cons (qe_call (ok__law_put T 41) (hr.mono (by decide)) (by rfl) T.m__law_put T.F__law_put.kp T.b__law_put (qa_cons (qv 3) (qa_cons (qv 6) (qa_cons (qe_tup (qa_cons qe_str (qa_cons (qv 7) (qa_cons (qv 7) qa_nil)))) qa_nil)))) (qa_cons (qv 4) qa_nil))))))) qss_nil)
    (qss_cons (qs_if (qt_cmp op_eq ro_eqS (qv 5) qe_int (nomark _)) (qss_cons (qs_set 9 sc__law_grown.nd (qe_addZ (qe_addZ (qe_slcZ (qv 2) qo_none (qo_some (qv 6))) (qe_fz (qe_lst (qa_cons (qv 8) (qa_cons (qe_tup (qa_cons qe_str (qa_cons (qv 8) (qa_cons (qe_ix (qv 2) (qv 6)) qa_nil)))) qa_nil))))) (qe_slcZ (qv 2) (qo_some (qe_addZ (qv 6) qe_int)) qo_none)))
    (qss_one (qs_ret (qe_tup (qa_cons (qv 9) (qa_cons (qe_call (ok__law_put T 41) (hr.mono (by decide)) (by rfl) T.m__law_put T.F__law_put.kp T.b__law_put (qa_cons (qv 3) (qa_cons (qv 6) (qa_cons (qe_tup (qa_cons qe_str (qa_cons (qv 7) (qa_cons (qv 7) qa_nil)))) qa_nil)))) (qa_cons (qv 4) qa_nil))))))) qss_nil)
    (qss_cons (qs_if (QW.t (qw_and (qt_cmp op_lt ro_lt (qv 5) qe_int (nomark _)) (qw_and1 (qt_cmp op_gt ro_gt (qe_callB call_len rc_len (by rfl) T.z_len (by decide +kernel) (qa_cons (qv 2) qa_nil)) qe_int (nomark _))))) (qss_one (qs_ret (qe_call (ok__law_given T) (hr.mono (by decide)) (by rfl) T.m__law_given T.F__law_given.kp T.b__law_given (qa_cons (qv 5) (qa_cons (qv 2) (qa_cons (qv 3) (qa_cons (qv 4) qa_nil))))))) qss_nil)
    (qss_cons (qs_if (qt_cmp op_eq ro_eqS (qv 5) qe_int (nomark _)) (qss_one (qs_ret (qe_tup (qa_cons (qv 2) (qa_cons (qe_call (ok__law_eta T) (hr.mono (by decide)) (by rfl) T.m__law_eta T.F__law_eta.kp T.b__law_eta (qa_cons (qv 3) (qa_cons (qv 4) qa_nil))) (qa_cons (qv 4) qa_nil)))))) qss_nil)
    (qss_cons (qs_if (QW.t (qw_and (qt_cmp op_in_seq ro_inF (qv 5) (qe_tup (qa_cons qe_int (qa_cons qe_int qa_nil))) (by rfl)) (qw_and1 (qt_cmp op_eq ro_eqS (qe_ix (qv 4) qe_int) qe_str (nomark _))))) (qss_one (qs_ret (qe_tup (qa_cons (qe_addZ (qv 2) (qe_fz (qe_lst (qa_cons (qe_ix (qv 4) qe_int) qa_nil)))) (qa_cons (qe_tup (qa_cons qe_str (qa_cons (qv 3) (qa_cons (qv 7) qa_nil)))) (qa_cons (qe_ix (qv 4) qe_int) qa_nil)))))) qss_nil)
    (qss_cons (qs_if (QW.t (qw_and (qt_cmp op_in_seq ro_inF (qv 5) (qe_tup (qa_cons qe_int (qa_cons qe_int qa_nil))) (by rfl)) (qw_and1 (qt_cmp op_eq ro_eqS (qe_ix (qv 4) qe_int) qe_str (nomark _))))) (qss_one (qs_ret (qe_tup (qa_cons (qe_addZ (qe_fz (qe_lst (qa_cons (qe_ix (qv 4) qe_int) qa_nil))) (qv 2)) (qa_cons (qe_tup (qa_cons qe_str (qa_cons (qv 7) (qa_cons (qv 3) qa_nil)))) (qa_cons (qe_ix (qv 4) qe_int) qa_nil)))))) qss_nil)
    (qss_one (qs_ret (qe_tup (qa_cons (qv 2) (qa_cons (qe_call (ok__law_put T 41) (hr.mono (by decide)) (by rfl) T.m__law_put T.F__law_put.kp T.b__law_put (qa_cons (qv 3) (qa_cons (qv 6) (qa_cons (qe_call (ok__law_eta T) (hr.mono (by decide)) (by rfl) T.m__law_eta T.F__law_eta.kp T.b__law_eta (qa_cons (qv 7) (qa_cons (qe_ix (qv 2) (qv 6)) qa_nil))) qa_nil)))) (qa_cons (qv 4) qa_nil))))))))))))))))), fun xs M P Pe h => pure__law_grown xs M P Pe h⟩)
theorem ok__law_made (T : Top K w mg A) : FnOk P w K mg base CX0 146 A.a__law_made A.f__law_made ["pool", "turns"] (lift K fs__law_made) :=
  okZ T.F__law_made sc__law_made (fun xs M P Pe h => len__law_made xs M P Pe h) (fun cdv A2 outer s H E hr => ⟨_, d__law_made, (qss_cons (qs_set 2 sc__law_made.nd (qe_call (ok__law_shape T 3) (hr.mono (by decide)) (by rfl) T.m__law_shape T.F__law_shape.kp T.b__law_shape (qa_cons (qv 0) (qa_cons qe_int qa_nil))))
    (qss_cons (qs_set 3 sc__law_made.nd (qe_tup (qa_cons (qe_fz (qe_lst (qa_cons (qv 2) qa_nil))) (qa_cons (qe_tup (qa_cons qe_str qa_nil)) (qa_cons (qv 2) qa_nil)))))
    (qss_cons (qs_for PassesOwn.never rfl (qi_range1 (by rfl) T.z_range (qa_cons (qv 1) qa_nil)) (qg_name (i := 4) sc__law_made.nd) (qss_cons (qs_set 5 sc__law_made.nd (qe_call (ok__law_grown T) (hr.mono (by decide)) (by rfl) T.m__law_grown T.F__law_grown.kp T.b__law_grown (qa_cons (qv 0) (qa_cons (qv 3) qa_nil))))
    (qss_one (qs_if (QW.t (qw_and (qt_cmp op_le ro_le (qe_call (ok__law_count T 44) (hr.mono (by decide)) (by rfl) T.m__law_count T.F__law_count.kp T.b__law_count (qa_cons (qe_ix (qv 5) qe_int) qa_nil)) qe_int (nomark _)) (qw_and1 (qt_cmp op_notN ro_notN (qe_call (ok__law_shown T 44) (hr.mono (by decide)) (by rfl) T.m__law_shown T.F__law_shown.kp T.b__law_shown (qa_cons (qe_ix (qv 5) qe_int) (qa_cons (qe_ix (qv 5) qe_int) (qa_cons qe_bl qa_nil)))) qe_non (nomark _))))) (qss_one (qs_set 3 sc__law_made.nd (qv 5))) qss_nil))))
    (qss_one (qs_ret (qv 3)))))), fun xs M P Pe h => pure__law_made xs M P Pe h⟩)
theorem ok__law_lane (T : Top K w mg A) : FnOk P w K mg base CX0 101 A.a__law_lane A.f__law_lane ["pool"] (lift K fs__law_lane) :=
  okZ T.F__law_lane sc__law_lane (fun xs M P Pe h => len__law_lane xs M P Pe h) (fun cdv A2 outer s H E hr => ⟨_, d__law_lane, (qss_cons (qs_par 1 2 rfl sc__law_lane.nd (qa_cons (qe_addZ qe_int (qe_call (ok__law_pick T) (hr.mono (by decide)) (by rfl) T.m__law_pick T.F__law_pick.kp T.b__law_pick (qa_cons (qv 0) (qa_cons qe_int qa_nil)))) (qa_cons qe_int qa_nil)))
    (qss_cons (qs_set 3 sc__law_lane.nd (qe_lst qa_nil))
    (qss_cons (qs_for PassesOwn.never rfl (qi_range1 (by rfl) T.z_range (qa_cons (qv 1) qa_nil)) (qg_name (i := 4) sc__law_lane.nd) (qss_cons (qs_set 5 sc__law_lane.nd (qe_call (ok__law_shape T 7) (hr.mono (by decide)) (by rfl) T.m__law_shape T.F__law_shape.kp T.b__law_shape (qa_cons (qv 0) (qa_cons (qe_addZ qe_int (qe_call (ok__law_pick T) (hr.mono (by decide)) (by rfl) T.m__law_pick T.F__law_pick.kp T.b__law_pick (qa_cons (qv 0) (qa_cons (qe_callB (call_min2 rfl) rc_min2 (by rfl) T.z_min (by decide +kernel) (qa_cons qe_int (qa_cons (qe_sub (qv 2) (qe_sub (qe_sub (qv 1) qe_int) (qv 4))) qa_nil))) qa_nil)))) qa_nil))))
    (qss_cons (qs_if (qt_cmp op_gt ro_gt (qe_call (ok__law_deep T 100) (hr.mono (by decide)) (by rfl) T.m__law_deep T.F__law_deep.kp T.b__law_deep (qa_cons (qv 5) qa_nil)) qe_int (nomark _)) (qss_one (qs_set 5 sc__law_lane.nd (qe_tup (qa_cons qe_str (qa_cons qe_str qa_nil))))) qss_nil)
    (qss_cons (qs_expr (qe_append (qv 3) (qv 5)))
    (qss_one (qs_set 2 sc__law_lane.nd (qe_sub (qv 2) (qe_call (ok__law_size T 100) (hr.mono (by decide)) (by rfl) T.m__law_size T.F__law_size.kp T.b__law_size (qa_cons (qv 5) qa_nil)))))))))
    (qss_one (qs_ret (qe_tup (qa_cons (qe_slcZ (qv 3) qo_none (qo_some (qe_neg qe_int))) (qa_cons (qe_ix (qv 3) (qe_neg qe_int)) qa_nil)))))))), fun xs M P Pe h => pure__law_lane xs M P Pe h⟩)
theorem ok__law_stands (T : Top K w mg A) : ∀ n : Nat, FnOk P w K mg base CX0 (0 + n) A.a__law_stands A.f__law_stands ["shape"] (lift K (fs__law_stands n))
  | 0 => fnOk_none fun xs M P Pe h => no__law_stands xs M P Pe h
  | n + 1 => okZ T.F__law_stands sc__law_stands (fun xs M P Pe h => len__law_stands _ xs M P Pe h) (fun cdv A2 outer s H E hr => ⟨_, d__law_stands n, (qss_cons (qs_if (qt_cmp op_eq ro_eqS (qe_ix (qv 0) qe_int) qe_str (nomark _)) (qss_one (qs_ret (qe_ix (qv 0) qe_int))) qss_nil)
    (qss_cons (qs_if (qt_cmp op_eq ro_eqS (qe_ix (qv 0) qe_int) qe_str (nomark _)) (qss_one (qs_ret (qe_addZ (qe_call (ok__law_stands T n) (hr.mono (by first | omega | (simp only [Nat.add_eq, Nat.zero_add] <;> omega))) (by rfl) T.m__law_stands T.F__law_stands.kp T.b__law_stands (qa_cons (qe_ix (qv 0) qe_int) qa_nil)) (qe_revT (qe_call (ok__law_stands T n) (hr.mono (by first | omega | (simp only [Nat.add_eq, Nat.zero_add] <;> omega))) (by rfl) T.m__law_stands T.F__law_stands.kp T.b__law_stands (qa_cons (qe_ix (qv 0) qe_int) qa_nil)))))) qss_nil)
    (qss_one (qs_ret (qe_addZ (qe_revT (qe_call (ok__law_stands T n) (hr.mono (by first | omega | (simp only [Nat.add_eq, Nat.zero_add] <;> omega))) (by rfl) T.m__law_stands T.F__law_stands.kp T.b__law_stands (qa_cons (qe_ix (qv 0) qe_int) qa_nil))) (qe_call (ok__law_stands T n) (hr.mono (by first | omega | (simp only [Nat.add_eq, Nat.zero_add] <;> omega))) (by rfl) T.m__law_stands T.F__law_stands.kp T.b__law_stands (qa_cons (qe_ix (qv 0) qe_int) qa_nil))))))), fun xs M P Pe h => pure__law_stands n xs M P Pe h⟩)
theorem ok__law_line (T : Top K w mg A) : FnOk P w K mg base CX0 31 A.a__law_line A.f__law_line ["lane", "shape"] (lift K fs__law_line) :=
  okZ T.F__law_line sc__law_line (fun xs M P Pe h => len__law_line xs M P Pe h) (fun cdv A2 outer s H E hr => ⟨_, d__law_line, (qss_one (qs_ret (qe_addZ (qe_join qe_str (qe_fz (qe_lc (own := [("part", 2)]) rfl sc__law_line.nd (qi_any (qv 0)) (blkOk_by (own := [("part", 2)]) (N := N__law_line) (sc := defScope s__law_line) (by decide +kernel)) wg_name (by intro _ _ _ _ _; exact in_blkG (qg_name (i := 2) sc__law_line.nd) (by first | (dsimp only [blk_K]; done) | (dsimp only [blk_K]; rfl) | rfl)) (by intro _ _ _ _ _; exact in_blkT qts_nil (by first | (dsimp only [blk_K]; done) | (dsimp only [blk_K]; rfl) | rfl)) (by intro _ _ _ _ _; exact in_blkE (qe_call (ok__law_stands T 30) (hr.mono (by decide)) (by rfl) T.m__law_stands T.F__law_stands.kp T.b__law_stands (qa_cons (qv 2) qa_nil)) (by first | (dsimp only [blk_K]; done) | (dsimp only [blk_K]; rfl) | rfl))))) (qe_revT (qe_call (ok__law_stands T 30) (hr.mono (by decide)) (by rfl) T.m__law_stands T.F__law_stands.kp T.b__law_stands (qa_cons (qv 1) qa_nil)))))), fun xs M P Pe h => pure__law_line xs M P Pe h⟩)
theorem ok__law_same (T : Top K w mg A) : ∀ n : Nat, FnOk P w K mg base CX0 (0 + n) A.a__law_same A.f__law_same ["answer", "due"] (lift K (fs__law_same n))
  | 0 => fnOk_none fun xs M P Pe h => no__law_same xs M P Pe h
  | n + 1 => okZ T.F__law_same sc__law_same (fun xs M P Pe h => len__law_same _ xs M P Pe h) (fun cdv A2 outer s H E hr => ⟨_, d__law_same n, (qss_cons (qs_if (QW.t (qw_or (qt_truth (qe_callB call_isi rc_isi (by rfl) T.z_isinstance (by decide +kernel) (qa_cons (qv 1) (qa_cons (qe_ty (by rfl) T.z_tuple (by decide +kernel)) qa_nil)))) (qw_or1 (qt_truth (qe_callB call_isi rc_isi (by rfl) T.z_isinstance (by decide +kernel) (qa_cons (qv 1) (qa_cons (qe_ty (by rfl) T.z_list (by decide +kernel)) qa_nil))))))) (qss_cons (qs_set 2 sc__law_same.nd (qe_ifExp (qt_truth (qe_callB call_isi rc_isi (by rfl) T.z_isinstance (by decide +kernel) (qa_cons (qv 1) (qa_cons (qe_ty (by rfl) T.z_tuple (by decide +kernel)) qa_nil)))) (qe_callB call_isi rc_isi (by rfl) T.z_isinstance (by decide +kernel) (qa_cons (qv 0) (qa_cons (qe_ty (by rfl) T.z_tuple (by decide +kernel)) qa_nil))) (qe_callB call_isi rc_isi (by rfl) T.z_isinstance (by decide +kernel) (qa_cons (qv 0) (qa_cons (qe_ty (by rfl) T.z_list (by decide +kernel)) qa_nil)))))
    (qss_cons (qs_if (QW.t (qw_or (qt_not (qt_truth (qv 2))) (qw_or1 (qt_cmp (op_neU hr.units) ro_neU (qe_callB call_len rc_len (by rfl) T.z_len (by decide +kernel) (qa_cons (qv 0) qa_nil)) (qe_callB call_len rc_len (by rfl) T.z_len (by decide +kernel) (qa_cons (qv 1) qa_nil)) (nomark _))))) (qss_one (qs_ret qe_bl)) qss_nil)
    (qss_one (qs_ret (qe_cmp (op_eqNil hr.units0) ro_eqNil (qe_fz (qe_lc (own := [("spot", 3)]) rfl sc__law_same.nd (qi_range1 (by rfl) T.z_range (qa_cons (qe_callB call_len rc_len (by rfl) T.z_len (by decide +kernel) (qa_cons (qv 1) qa_nil)) qa_nil)) (blkOk_by (own := [("spot", 3)]) (N := N__law_same) (sc := defScope s__law_same) (by decide +kernel)) wg_name (by intro _ _ _ _ _; exact in_blkG (qg_name (i := 3) sc__law_same.nd) (by first | (dsimp only [blk_K]; done) | (dsimp only [blk_K]; rfl) | rfl)) (by intro _ _ _ _ _; exact in_blkT (qts_one (qt_not (qt_truth (qe_call (ok__law_same T n) (hr.mono (by first | omega | (simp only [Nat.add_eq, Nat.zero_add] <;> omega))) (by rfl) T.m__law_same T.F__law_same.kp T.b__law_same (qa_cons (qe_ix (qv 0) (qv 3)) (qa_cons (qe_ix (qv 1) (qv 3)) qa_nil)))))) (by first | (dsimp only [blk_K]; done) | (dsimp only [blk_K]; rfl) | rfl)) (by intro _ _ _ _ _; exact in_blkE (qv 3) (by first | (dsimp only [blk_K]; done) | (dsimp only [blk_K]; rfl) | rfl)))) (qe_fz (qe_lst qa_nil)) (nomark _)))))) qss_nil)
    (qss_cons (qs_if (QW.t (qw_or (qt_cmp op_isN ro_isN (qv 1) qe_non (nomark _)) (qw_or (qt_cmp op_isZ ro_isZ (qv 1) qe_bl (nomark _)) (qw_or1 (qt_cmp op_isZ ro_isZ (qv 1) qe_bl (nomark _)))))) (qss_one (qs_ret (qe_ifExp (qt_cmp op_isN ro_isN (qv 1) qe_non (nomark _)) (qe_cmp op_isN ro_isN (qv 0) qe_non (nomark _)) (qe_ifExp (qt_cmp op_isZ ro_isZ (qv 1) qe_bl (nomark _)) (qe_cmp op_isZ ro_isZ (qv 0) qe_bl (nomark _)) (qe_cmp op_isZ ro_isZ (qv 0) qe_bl (nomark _)))))) qss_nil)
    (qss_cons (qs_if (qt_truth (qe_callB call_isi rc_isi (by rfl) T.z_isinstance (by decide +kernel) (qa_cons (qv 1) (qa_cons (qe_ty (by rfl) T.z_str (by decide +kernel)) qa_nil)))) (qss_one (qs_ret (qe_and (qe_callB call_isi rc_isi (by rfl) T.z_isinstance (by decide +kernel) (qa_cons (qv 0) (qa_cons (qe_ty (by rfl) T.z_str (by decide +kernel)) qa_nil))) (qe_one (qe_cmp (op_eqU hr.units) ro_eqU (qv 0) (qv 1) (nomark _)))))) qss_nil)
    (qss_one (qs_ret (qe_and (qe_callB call_isi rc_isi (by rfl) T.z_isinstance (by decide +kernel) (qa_cons (qv 0) (qa_cons (qe_ty (by rfl) T.z_int (by decide +kernel)) qa_nil))) (qe_and (qe_not (qe_callB call_isi rc_isi (by rfl) T.z_isinstance (by decide +kernel) (qa_cons (qv 0) (qa_cons (qe_ty (by rfl) T.z_bool (by decide +kernel)) qa_nil)))) (qe_one (qe_cmp (op_eqU hr.units) ro_eqU (qv 0) (qv 1) (nomark _)))))))))), fun xs M P Pe h => pure__law_same n xs M P Pe h⟩)
theorem ok__law_spoil (T : Top K w mg A) : ∀ n : Nat, FnOk P w K mg base CX0 (0 + n) A.a__law_spoil A.f__law_spoil ["thing"] (lift K (fs__law_spoil n))
  | 0 => fnOk_none fun xs M P Pe h => no__law_spoil xs M P Pe h
  | n + 1 => okZ T.F__law_spoil sc__law_spoil (fun xs M P Pe h => len__law_spoil _ xs M P Pe h) (fun cdv A2 outer s H E hr => ⟨_, d__law_spoil n, (qss_one (qs_if (qt_truth (qe_callB call_isi rc_isi (by rfl) T.z_isinstance (by decide +kernel) (qa_cons (qv 0) (qa_cons (qe_ty (by rfl) T.z_list (by decide +kernel)) qa_nil)))) (qss_cons (qs_for PassesOwn.never rfl (qi_any (qe_fz (qe_callTy call_list_of rc_list (by rfl) T.z_list (by decide +kernel) (qa_cons (qv 0) qa_nil)))) (qg_name (i := 1) sc__law_spoil.nd) (qss_one (qs_expr (qe_call (ok__law_spoil T n) (hr.mono (by first | omega | (simp only [Nat.add_eq, Nat.zero_add] <;> omega))) (by rfl) T.m__law_spoil T.F__law_spoil.kp T.b__law_spoil (qa_cons (qv 1) qa_nil)))))
    (qss_one (qs_expr (qe_append (qv 0) qe_str)))) (qss_one (qs_if (qt_truth (qe_callB call_isi rc_isi (by rfl) T.z_isinstance (by decide +kernel) (qa_cons (qv 0) (qa_cons (qe_ty (by rfl) T.z_tuple (by decide +kernel)) qa_nil)))) (qss_one (qs_for PassesOwn.never rfl (qi_any (qv 0)) (qg_name (i := 1) sc__law_spoil.nd) (qss_one (qs_expr (qe_call (ok__law_spoil T n) (hr.mono (by first | omega | (simp only [Nat.add_eq, Nat.zero_add] <;> omega))) (by rfl) T.m__law_spoil T.F__law_spoil.kp T.b__law_spoil (qa_cons (qv 1) qa_nil)))))) qss_nil)))), fun xs M P Pe h => pure__law_spoil n xs M P Pe h⟩)
theorem ok__law_owners (T : Top K w mg A) : FnOk P w K mg base CX0 101 A.a__law_owners A.f__law_owners ["lane", "shape"] (lift K fs__law_owners) :=
  okZ T.F__law_owners sc__law_owners (fun xs M P Pe h => len__law_owners xs M P Pe h) (fun cdv A2 outer s H E hr => ⟨_, d__law_owners, (qss_cons (qs_set 2 sc__law_owners.nd (qe_fz (qe_lst qa_nil)))
    (qss_cons (qs_for PassesOwn.never rfl (qi_range1 (by rfl) T.z_range (qa_cons (qe_callB call_len rc_len (by rfl) T.z_len (by decide +kernel) (qa_cons (qv 0) qa_nil)) qa_nil)) (qg_name (i := 3) sc__law_owners.nd) (qss_one (qs_set 2 sc__law_owners.nd (qe_addZ (qv 2) (qe_fz (qe_op op_rep ro_rep (qe_lst (qa_cons (qv 3) qa_nil)) (qe_call (ok__law_size T 100) (hr.mono (by decide)) (by rfl) T.m__law_size T.F__law_size.kp T.b__law_size (qa_cons (qe_ix (qv 0) (qv 3)) qa_nil))))))))
    (qss_one (qs_ret (qe_addZ (qv 2) (qe_fz (qe_op op_rep ro_rep (qe_lst (qa_cons (qe_callB call_len rc_len (by rfl) T.z_len (by decide +kernel) (qa_cons (qv 0) qa_nil)) qa_nil)) (qe_call (ok__law_size T 100) (hr.mono (by decide)) (by rfl) T.m__law_size T.F__law_size.kp T.b__law_size (qa_cons (qv 1) qa_nil))))))))), fun xs M P Pe h => pure__law_owners xs M P Pe h⟩)
theorem kb_line_0_10 (T : Top K w mg A) : KBn K A.f_line ["row", "kind"] 0 ["kind", "row"] (pick [1, 0]) (pick [1, 0]) := Fun.kbn T.F_line _ _ _ fun _ _ _ _ _ _ us ws h1 h2 => match us, ws, h1, h2 with | [], [_, _], _, _ => rfl
theorem kb_owners_0_10 (T : Top K w mg A) : KBn K A.f_owners ["row", "kind"] 0 ["kind", "row"] (pick [1, 0]) (pick [1, 0]) := Fun.kbn T.F_owners _ _ _ fun _ _ _ _ _ _ us ws h1 h2 => match us, ws, h1, h2 with | [], [_, _], _, _ => rfl
theorem ok__law_told_right (T : Top K w mg A) : FnOk P w K mg base CX0 102 A.a__law_told_right A.f__law_told_right ["lane", "shape"] (lift K fs__law_told_right) :=
  okZ T.F__law_told_right sc__law_told_right (fun xs M P Pe h => len__law_told_right xs M P Pe h) (fun cdv A2 outer s H E hr => ⟨_, d__law_told_right, (qss_cons (qs_par 2 3 rfl sc__law_told_right.nd (qa_cons (qe_fz (qe_callTy call_list_of rc_list (by rfl) T.z_list (by decide +kernel) (qa_cons (qv 0) qa_nil))) (qa_cons (qe_call (ok__law_line T) (hr.mono (by decide)) (by rfl) T.m__law_line T.F__law_line.kp T.b__law_line (qa_cons (qv 0) (qa_cons (qv 1) qa_nil))) qa_nil)))
    (qss_cons (qs_if (QW.t (qw_or (qt_not (qt_truth (qe_call (ok__law_same T 40) (hr.mono (by decide)) (by rfl) T.m__law_same T.F__law_same.kp T.b__law_same (qa_cons (qe_call (ok_line T) (hr.mono (by decide)) (by rfl) T.m_line T.F_line.kp T.b_line (qa_cons (qv 2) (qa_cons (qv 1) qa_nil))) (qa_cons (qv 3) qa_nil))))) (qw_or1 (qt_not (qt_truth (qe_call (ok__law_same T 40) (hr.mono (by decide)) (by rfl) T.m__law_same T.F__law_same.kp T.b__law_same (qa_cons (qe_callN0 (ok_line T) (hr.mono (by decide)) (by rfl) T.m_line T.F_line.kp (kb_line_0_10 T) (qk_cons (qv 1) (qk_cons (qv 2) qk_nil))) (qa_cons (qv 3) qa_nil)))))))) (qss_one (qs_ret qe_bl)) qss_nil)
    (qss_cons (qs_set 4 sc__law_told_right.nd (qe_call (ok_owners T) (hr.mono (by decide)) (by rfl) T.m_owners T.F_owners.kp T.b_owners (qa_cons (qv 2) (qa_cons (qv 1) qa_nil))))
    (qss_cons (qs_if (qt_not (qt_truth (qe_call (ok__law_same T 40) (hr.mono (by decide)) (by rfl) T.m__law_same T.F__law_same.kp T.b__law_same (qa_cons (qv 4) (qa_cons (qe_call (ok__law_owners T) (hr.mono (by decide)) (by rfl) T.m__law_owners T.F__law_owners.kp T.b__law_owners (qa_cons (qv 0) (qa_cons (qv 1) qa_nil))) qa_nil))))) (qss_one (qs_ret qe_bl)) qss_nil)
    (qss_cons (qs_expr (qe_call (ok__law_spoil T 2) (hr.mono (by decide)) (by rfl) T.m__law_spoil T.F__law_spoil.kp T.b__law_spoil (qa_cons (qv 4) qa_nil)))
    (qss_cons (qs_if (QW.t (qw_or (qt_not (qt_truth (qe_call (ok__law_same T 40) (hr.mono (by decide)) (by rfl) T.m__law_same T.F__law_same.kp T.b__law_same (qa_cons (qe_callN0 (ok_owners T) (hr.mono (by decide)) (by rfl) T.m_owners T.F_owners.kp (kb_owners_0_10 T) (qk_cons (qv 1) (qk_cons (qv 2) qk_nil))) (qa_cons (qe_call (ok__law_owners T) (hr.mono (by decide)) (by rfl) T.m__law_owners T.F__law_owners.kp T.b__law_owners (qa_cons (qv 0) (qa_cons (qv 1) qa_nil))) qa_nil))))) (qw_or1 (qt_not (qt_truth (qe_call (ok__law_same T 40) (hr.mono (by decide)) (by rfl) T.m__law_same T.F__law_same.kp T.b__law_same (qa_cons (qv 2) (qa_cons (qv 0) qa_nil)))))))) (qss_one (qs_ret qe_bl)) qss_nil)
    (qss_one (qs_ret (qe_cmp (op_eqU hr.units) ro_eqU (qe_callB call_len rc_len (by rfl) T.z_len (by decide +kernel) (qa_cons (qv 3) qa_nil)) (qe_callB (cr_sum rfl) rc_sum (by rfl) T.z_sum (by decide +kernel) (qa_cons (qe_fz (qe_lc (own := [("part", 5)]) rfl sc__law_told_right.nd (qi_any (qe_addZ (qv 0) (qe_fz (qe_lst (qa_cons (qv 1) qa_nil))))) (blkOk_by (own := [("part", 5)]) (N := N__law_told_right) (sc := defScope s__law_told_right) (by decide +kernel)) wg_name (by intro _ _ _ _ _; exact in_blkG (qg_name (i := 5) sc__law_told_right.nd) (by first | (dsimp only [blk_K]; done) | (dsimp only [blk_K]; rfl) | rfl)) (by intro _ _ _ _ _; exact in_blkT qts_nil (by first | (dsimp only [blk_K]; done) | (dsimp only [blk_K]; rfl) | rfl)) (by intro _ _ _ _ _; exact in_blkE (qe_call (ok__law_size T 100) (hr.mono (by decide)) (by rfl) T.m__law_size T.F__law_size.kp T.b__law_size (qa_cons (qv 5) qa_nil)) (by first | (dsimp only [blk_K]; done) | (dsimp only [blk_K]; rfl) | rfl)))) qa_nil)) (nomark _)))))))))), fun xs M P Pe h => pure__law_told_right xs M P Pe h⟩)
theorem ok__law_right (T : Top K w mg A) : FnOk P w K mg base CX0 147 A.a__law_right A.f__law_right ["pool"] (lift K fs__law_right) :=
  okZ T.F__law_right sc__law_right (fun xs M P Pe h => len__law_right xs M P Pe h) (fun cdv A2 outer s H E hr => ⟨_, d__law_right, (qss_cons (qs_if (qt_cmp op_eq ro_eqS (qe_call (ok__law_pick T) (hr.mono (by decide)) (by rfl) T.m__law_pick T.F__law_pick.kp T.b__law_pick (qa_cons (qv 0) (qa_cons qe_int qa_nil))) qe_int (nomark _)) (qss_one (qs_asg (qe_call (ok__law_made T) (hr.mono (by decide)) (by rfl) T.m__law_made T.F__law_made.kp T.b__law_made (qa_cons (qv 0) (qa_cons (qe_addZ qe_int (qe_call (ok__law_pick T) (hr.mono (by decide)) (by rfl) T.m__law_pick T.F__law_pick.kp T.b__law_pick (qa_cons (qv 0) (qa_cons qe_int qa_nil)))) qa_nil))) (qg_tup (n := 3) (by rfl) (qgs_cons (qg_name (i := 1) sc__law_right.nd) (qgs_cons (qg_name (i := 2) sc__law_right.nd) (qgs_cons (qg_name (i := 3) sc__law_right.nd) qgs_nil)))))) (qss_one (qs_asg (qe_call (ok__law_lane T) (hr.mono (by decide)) (by rfl) T.m__law_lane T.F__law_lane.kp T.b__law_lane (qa_cons (qv 0) qa_nil)) (qg_tup (n := 2) (by rfl) (qgs_cons (qg_name (i := 1) sc__law_right.nd) (qgs_cons (qg_name (i := 3) sc__law_right.nd) qgs_nil))))))
    (qss_cons (qs_if (qt_not (qt_truth (qe_call (ok__law_told_right T) (hr.mono (by decide)) (by rfl) T.m__law_told_right T.F__law_told_right.kp T.b__law_told_right (qa_cons (qv 1) (qa_cons (qv 3) qa_nil))))) (qss_one (qs_ret qe_bl)) qss_nil)
    (qss_cons (qs_par3 4 5 6 rfl sc__law_right.nd (qa_cons (qe_call (ok_turned_row T) (hr.mono (by decide)) (by rfl) T.m_turned_row T.F_turned_row.kp T.b_turned_row (qa_cons (qe_fz (qe_callTy call_list_of rc_list (by rfl) T.z_list (by decide +kernel) (qa_cons (qv 1) qa_nil))) qa_nil)) (qa_cons (qe_call (ok_turned T) (hr.mono (by decide)) (by rfl) T.m_turned T.F_turned.kp T.b_turned (qa_cons (qv 3) qa_nil)) (qa_cons (qe_call (ok__law_line T) (hr.mono (by decide)) (by rfl) T.m__law_line T.F__law_line.kp T.b__law_line (qa_cons (qv 1) (qa_cons (qv 3) qa_nil))) qa_nil))))
    (qss_cons (qs_set 7 sc__law_right.nd (qe_sub (qe_callB call_len rc_len (by rfl) T.z_len (by decide +kernel) (qa_cons (qv 6) qa_nil)) (qe_call (ok__law_size T 100) (hr.mono (by decide)) (by rfl) T.m__law_size T.F__law_size.kp T.b__law_size (qa_cons (qv 3) qa_nil))))
    (qss_cons (qs_if (qt_not (qt_truth (qe_call (ok__law_same T 40) (hr.mono (by decide)) (by rfl) T.m__law_same T.F__law_same.kp T.b__law_same (qa_cons (qe_call (ok_line T) (hr.mono (by decide)) (by rfl) T.m_line T.F_line.kp T.b_line (qa_cons (qv 4) (qa_cons (qv 5) qa_nil))) (qa_cons (qe_addZ (qe_revT (qe_slcZ (qv 6) qo_none (qo_some (qv 7)))) (qe_revT (qe_slcZ (qv 6) (qo_some (qv 7)) qo_none))) qa_nil))))) (qss_one (qs_ret qe_bl)) qss_nil)
    (qss_cons (qs_if (qt_not (qt_truth (qe_call (ok__law_same T 40) (hr.mono (by decide)) (by rfl) T.m__law_same T.F__law_same.kp T.b__law_same (qa_cons (qe_slcZ (qe_call (ok_owners T) (hr.mono (by decide)) (by rfl) T.m_owners T.F_owners.kp T.b_owners (qa_cons (qv 4) (qa_cons (qv 5) qa_nil))) qo_none (qo_some (qv 7))) (qa_cons (qe_fz (qe_lc (own := [("spot", 8)]) rfl sc__law_right.nd (qi_any (qe_fz (qe_revL (qe_slcZ (qe_call (ok__law_owners T) (hr.mono (by decide)) (by rfl) T.m__law_owners T.F__law_owners.kp T.b__law_owners (qa_cons (qv 1) (qa_cons (qv 3) qa_nil))) qo_none (qo_some (qv 7)))))) (blkOk_by (own := [("spot", 8)]) (N := N__law_right) (sc := defScope s__law_right) (by decide +kernel)) wg_name (by intro _ _ _ _ _; exact in_blkG (qg_name (i := 8) sc__law_right.nd) (by first | (dsimp only [blk_K]; done) | (dsimp only [blk_K]; rfl) | rfl)) (by intro _ _ _ _ _; exact in_blkT qts_nil (by first | (dsimp only [blk_K]; done) | (dsimp only [blk_K]; rfl) | rfl)) (by intro _ _ _ _ _; exact in_blkE (qe_sub (qe_sub (qe_callB call_len rc_len (by rfl) T.z_len (by decide +kernel) (qa_cons (qv 1) qa_nil)) qe_int) (qv 8)) (by first | (dsimp only [blk_K]; done) | (dsimp only [blk_K]; rfl) | rfl)))) qa_nil))))) (qss_one (qs_ret qe_bl)) qss_nil)
    (qss_cons (qs_par 9 8 rfl sc__law_right.nd (qa_cons (qe_callTy call_list_of rc_list (by rfl) T.z_list (by decide +kernel) (qa_cons (qv 1) qa_nil)) (qa_cons (qe_call (ok__law_pick T) (hr.mono (by decide)) (by rfl) T.m__law_pick T.F__law_pick.kp T.b__law_pick (qa_cons (qv 0) (qa_cons (qe_callB call_len rc_len (by rfl) T.z_len (by decide +kernel) (qa_cons (qv 1) qa_nil)) qa_nil))) qa_nil)))
    (qss_cons (qs_if (qt_not (qt_truth (qe_call (ok__law_same T 40) (hr.mono (by decide)) (by rfl) T.m__law_same T.F__law_same.kp T.b__law_same (qa_cons (qe_call (ok_line T) (hr.mono (by decide)) (by rfl) T.m_line T.F_line.kp T.b_line (qa_cons (qv 9) (qa_cons (qv 3) qa_nil))) (qa_cons (qv 6) qa_nil))))) (qss_one (qs_ret qe_bl)) qss_nil)
    (qss_cons (qs_asg (qe_tup (qa_cons qe_str (qa_cons (qe_ix (qe_ix (qv 0) qe_int) (qe_call (ok__law_pick T) (hr.mono (by decide)) (by rfl) T.m__law_pick T.F__law_pick.kp T.b__law_pick (qa_cons (qv 0) (qa_cons (qe_callB call_len rc_len (by rfl) T.z_len (by decide +kernel) (qa_cons (qe_ix (qv 0) qe_int) qa_nil)) qa_nil)))) qa_nil))) (qg_subL (qv 9) (qv 8)))
    (qss_cons (qs_set 10 sc__law_right.nd (qe_call (ok__law_line T) (hr.mono (by decide)) (by rfl) T.m__law_line T.F__law_line.kp T.b__law_line (qa_cons (qv 9) (qa_cons (qv 3) qa_nil))))
    (qss_cons (qs_if (QW.t (qw_or (qt_not (qt_truth (qe_call (ok__law_same T 40) (hr.mono (by decide)) (by rfl) T.m__law_same T.F__law_same.kp T.b__law_same (qa_cons (qe_call (ok_line T) (hr.mono (by decide)) (by rfl) T.m_line T.F_line.kp T.b_line (qa_cons (qv 9) (qa_cons (qv 3) qa_nil))) (qa_cons (qv 10) qa_nil))))) (qw_or1 (qt_not (qt_truth (qe_call (ok__law_same T 40) (hr.mono (by decide)) (by rfl) T.m__law_same T.F__law_same.kp T.b__law_same (qa_cons (qe_call (ok_owners T) (hr.mono (by decide)) (by rfl) T.m_owners T.F_owners.kp T.b_owners (qa_cons (qv 9) (qa_cons (qv 3) qa_nil))) (qa_cons (qe_call (ok__law_owners T) (hr.mono (by decide)) (by rfl) T.m__law_owners T.F__law_owners.kp T.b__law_owners (qa_cons (qv 9) (qa_cons (qv 3) qa_nil))) qa_nil)))))))) (qss_one (qs_ret qe_bl)) qss_nil)
    (qss_cons (qs_expr (qe_append (qv 9) (qe_tup (qa_cons qe_str (qa_cons qe_str qa_nil)))))
    (qss_cons (qs_expr (qe_pop0 (qv 9) qe_int))
    (qss_one (qs_ret (qe_and (qe_call (ok__law_told_right T) (hr.mono (by decide)) (by rfl) T.m__law_told_right T.F__law_told_right.kp T.b__law_told_right (qa_cons (qv 9) (qa_cons (qv 3) qa_nil))) (qe_one (qe_call (ok__law_told_right T) (hr.mono (by decide)) (by rfl) T.m__law_told_right T.F__law_told_right.kp T.b__law_told_right (qa_cons (qv 1) (qa_cons (qv 3) qa_nil)))))))))))))))))))), fun xs M P Pe h => pure__law_right xs M P Pe h⟩)
theorem ok_law (T : Top K w mg A) : FnOk P w K mg base CX0 148 A.a_law A.f_law ["script"] (lift K fs_law) :=
  okZ T.F_law sc_law (fun xs M P Pe h => len_law xs M P Pe h) (fun cdv A2 outer s H E hr => ⟨_, d_law, (qss_cons (qs_for PassesOwn.never rfl (qi_range1 (by rfl) T.z_range (qa_cons (qe_callB (call_max2 rfl) rc_max2 (by rfl) T.z_max (by decide +kernel) (qa_cons qe_int (qa_cons (qe_callB (call_min2 rfl) rc_min2 (by rfl) T.z_min (by decide +kernel) (qa_cons qe_int (qa_cons (qe_callB call_len rc_len (by rfl) T.z_len (by decide +kernel) (qa_cons (qv 0) qa_nil)) qa_nil))) qa_nil))) qa_nil)) (qg_name (i := 1) sc_law.nd) (qss_cons (qs_set 2 sc_law.nd (qe_call (ok__law_pool T) (hr.mono (by decide)) (by rfl) T.m__law_pool T.F__law_pool.kp T.b__law_pool (qa_cons (qv 0) (qa_cons (qv 1) qa_nil))))
    (qss_one (qs_if (QW.t (qw_or (qt_not (qt_truth (qe_call (ok__law_right T) (hr.mono (by decide)) (by rfl) T.m__law_right T.F__law_right.kp T.b__law_right (qa_cons (qv 2) qa_nil)))) (qw_or (qt_not (qt_truth (qe_call (ok__law_right T) (hr.mono (by decide)) (by rfl) T.m__law_right T.F__law_right.kp T.b__law_right (qa_cons (qv 2) qa_nil)))) (qw_or1 (qt_not (qt_truth (qe_call (ok__law_right T) (hr.mono (by decide)) (by rfl) T.m__law_right T.F__law_right.kp T.b__law_right (qa_cons (qv 2) qa_nil)))))))) (qss_one (qs_ret qe_bl)) qss_nil))))
    (qss_one (qs_ret qe_bl))), fun xs M P Pe h => pure_law xs M P Pe h⟩)
end
end DL
/-! Fin -/
set_option Elab.async false
set_option linter.all false
set_option maxRecDepth 100000
set_option maxHeartbeats 4000000
namespace DL
open PySem L2 PyProof.Rows
theorem all_mk {l : PySem.W.OpenLaw} {w : World} {K : PySem.W.Frag} {h : Heap} {mg : Str → Option Value} {fa : Addr} (X : K.In h) (G : h.Ns mainGlobals mg) (hfa : mg "law" = some (.ref fa))
    {od_is_letter an_is_letter : Option Addr} {sl_is_letter : Array (Option Value)} {oc_is_letter kV_is_letter dc_is_letter pm_is_letter cd_is_letter ct_is_letter : Value} {g_is_letter : Addr}
    (a_is_letter : PySem.W.nsIn K mainGlobals "is_letter" = some (some (.ref g_is_letter))) (l_is_letter : K.lookup g_is_letter = some ⟨oc_is_letter, od_is_letter, .func (PySem.W.fnOf "is_letter" "is_letter" (defArgs s_is_letter) (defBody s_is_letter) (defScope s_is_letter) .none kV_is_letter dc_is_letter pm_is_letter an_is_letter cd_is_letter ct_is_letter), sl_is_letter⟩)
    (c_is_letter : PySem.W.codeIn K cd_is_letter "is_letter" = true) (k_is_letter : PySem.W.keepIn K (.ref g_is_letter) = true)
    {od_is_kind_part an_is_kind_part : Option Addr} {sl_is_kind_part : Array (Option Value)} {oc_is_kind_part kV_is_kind_part dc_is_kind_part pm_is_kind_part cd_is_kind_part ct_is_kind_part : Value} {g_is_kind_part : Addr}
    (a_is_kind_part : PySem.W.nsIn K mainGlobals "is_kind_part" = some (some (.ref g_is_kind_part))) (l_is_kind_part : K.lookup g_is_kind_part = some ⟨oc_is_kind_part, od_is_kind_part, .func (PySem.W.fnOf "is_kind_part" "is_kind_part" (defArgs s_is_kind_part) (defBody s_is_kind_part) (defScope s_is_kind_part) .none kV_is_kind_part dc_is_kind_part pm_is_kind_part an_is_kind_part cd_is_kind_part ct_is_kind_part), sl_is_kind_part⟩)
    (c_is_kind_part : PySem.W.codeIn K cd_is_kind_part "is_kind_part" = true) (k_is_kind_part : PySem.W.keepIn K (.ref g_is_kind_part) = true)
    {od_parts_of_kind an_parts_of_kind : Option Addr} {sl_parts_of_kind : Array (Option Value)} {oc_parts_of_kind kV_parts_of_kind dc_parts_of_kind pm_parts_of_kind cd_parts_of_kind ct_parts_of_kind : Value} {g_parts_of_kind : Addr}
    (a_parts_of_kind : PySem.W.nsIn K mainGlobals "parts_of_kind" = some (some (.ref g_parts_of_kind))) (l_parts_of_kind : K.lookup g_parts_of_kind = some ⟨oc_parts_of_kind, od_parts_of_kind, .func (PySem.W.fnOf "parts_of_kind" "parts_of_kind" (defArgs s_parts_of_kind) (defBody s_parts_of_kind) (defScope s_parts_of_kind) .none kV_parts_of_kind dc_parts_of_kind pm_parts_of_kind an_parts_of_kind cd_parts_of_kind ct_parts_of_kind), sl_parts_of_kind⟩)
    (c_parts_of_kind : PySem.W.codeIn K cd_parts_of_kind "parts_of_kind" = true) (k_parts_of_kind : PySem.W.keepIn K (.ref g_parts_of_kind) = true)
    {od_letters_within an_letters_within : Option Addr} {sl_letters_within : Array (Option Value)} {oc_letters_within kV_letters_within dc_letters_within pm_letters_within cd_letters_within ct_letters_within : Value} {g_letters_within : Addr}
    (a_letters_within : PySem.W.nsIn K mainGlobals "letters_within" = some (some (.ref g_letters_within))) (l_letters_within : K.lookup g_letters_within = some ⟨oc_letters_within, od_letters_within, .func (PySem.W.fnOf "letters_within" "letters_within" (defArgs s_letters_within) (defBody s_letters_within) (defScope s_letters_within) .none kV_letters_within dc_letters_within pm_letters_within an_letters_within cd_letters_within ct_letters_within), sl_letters_within⟩)
    (c_letters_within : PySem.W.codeIn K cd_letters_within "letters_within" = true) (k_letters_within : PySem.W.keepIn K (.ref g_letters_within) = true)
    {od_has_with an_has_with : Option Addr} {sl_has_with : Array (Option Value)} {oc_has_with kV_has_with dc_has_with pm_has_with cd_has_with ct_has_with : Value} {g_has_with : Addr}
    (a_has_with : PySem.W.nsIn K mainGlobals "has_with" = some (some (.ref g_has_with))) (l_has_with : K.lookup g_has_with = some ⟨oc_has_with, od_has_with, .func (PySem.W.fnOf "has_with" "has_with" (defArgs s_has_with) (defBody s_has_with) (defScope s_has_with) .none kV_has_with dc_has_with pm_has_with an_has_with cd_has_with ct_has_with), sl_has_with⟩)
    (c_has_with : PySem.W.codeIn K cd_has_with "has_with" = true) (k_has_with : PySem.W.keepIn K (.ref g_has_with) = true)
    {od_turn_kind an_turn_kind : Option Addr} {sl_turn_kind : Array (Option Value)} {oc_turn_kind kV_turn_kind dc_turn_kind pm_turn_kind cd_turn_kind ct_turn_kind : Value} {g_turn_kind : Addr}
    (a_turn_kind : PySem.W.nsIn K mainGlobals "turn_kind" = some (some (.ref g_turn_kind))) (l_turn_kind : K.lookup g_turn_kind = some ⟨oc_turn_kind, od_turn_kind, .func (PySem.W.fnOf "turn_kind" "turn_kind" (defArgs s_turn_kind) (defBody s_turn_kind) (defScope s_turn_kind) .none kV_turn_kind dc_turn_kind pm_turn_kind an_turn_kind cd_turn_kind ct_turn_kind), sl_turn_kind⟩)
    (c_turn_kind : PySem.W.codeIn K cd_turn_kind "turn_kind" = true) (k_turn_kind : PySem.W.keepIn K (.ref g_turn_kind) = true)
    {od_signed_letters an_signed_letters : Option Addr} {sl_signed_letters : Array (Option Value)} {oc_signed_letters kV_signed_letters dc_signed_letters pm_signed_letters cd_signed_letters ct_signed_letters : Value} {g_signed_letters : Addr}
    (a_signed_letters : PySem.W.nsIn K mainGlobals "signed_letters" = some (some (.ref g_signed_letters))) (l_signed_letters : K.lookup g_signed_letters = some ⟨oc_signed_letters, od_signed_letters, .func (PySem.W.fnOf "signed_letters" "signed_letters" (defArgs s_signed_letters) (defBody s_signed_letters) (defScope s_signed_letters) .none kV_signed_letters dc_signed_letters pm_signed_letters an_signed_letters cd_signed_letters ct_signed_letters), sl_signed_letters⟩)
    (c_signed_letters : PySem.W.codeIn K cd_signed_letters "signed_letters" = true) (k_signed_letters : PySem.W.keepIn K (.ref g_signed_letters) = true)
    {od_check_kinds an_check_kinds : Option Addr} {sl_check_kinds : Array (Option Value)} {oc_check_kinds kV_check_kinds dc_check_kinds pm_check_kinds cd_check_kinds ct_check_kinds : Value} {g_check_kinds : Addr}
    (a_check_kinds : PySem.W.nsIn K mainGlobals "check_kinds" = some (some (.ref g_check_kinds))) (l_check_kinds : K.lookup g_check_kinds = some ⟨oc_check_kinds, od_check_kinds, .func (PySem.W.fnOf "check_kinds" "check_kinds" (defArgs s_check_kinds) (defBody s_check_kinds) (defScope s_check_kinds) .none kV_check_kinds dc_check_kinds pm_check_kinds an_check_kinds cd_check_kinds ct_check_kinds), sl_check_kinds⟩)
    (c_check_kinds : PySem.W.codeIn K cd_check_kinds "check_kinds" = true) (k_check_kinds : PySem.W.keepIn K (.ref g_check_kinds) = true)
    {od_check_not_empty an_check_not_empty : Option Addr} {sl_check_not_empty : Array (Option Value)} {oc_check_not_empty kV_check_not_empty dc_check_not_empty pm_check_not_empty cd_check_not_empty ct_check_not_empty : Value} {g_check_not_empty : Addr}
    (a_check_not_empty : PySem.W.nsIn K mainGlobals "check_not_empty" = some (some (.ref g_check_not_empty))) (l_check_not_empty : K.lookup g_check_not_empty = some ⟨oc_check_not_empty, od_check_not_empty, .func (PySem.W.fnOf "check_not_empty" "check_not_empty" (defArgs s_check_not_empty) (defBody s_check_not_empty) (defScope s_check_not_empty) .none kV_check_not_empty dc_check_not_empty pm_check_not_empty an_check_not_empty cd_check_not_empty ct_check_not_empty), sl_check_not_empty⟩)
    (c_check_not_empty : PySem.W.codeIn K cd_check_not_empty "check_not_empty" = true) (k_check_not_empty : PySem.W.keepIn K (.ref g_check_not_empty) = true)
    {od_check_row an_check_row : Option Addr} {sl_check_row : Array (Option Value)} {oc_check_row kV_check_row dc_check_row pm_check_row cd_check_row ct_check_row : Value} {g_check_row : Addr}
    (a_check_row : PySem.W.nsIn K mainGlobals "check_row" = some (some (.ref g_check_row))) (l_check_row : K.lookup g_check_row = some ⟨oc_check_row, od_check_row, .func (PySem.W.fnOf "check_row" "check_row" (defArgs s_check_row) (defBody s_check_row) (defScope s_check_row) .none kV_check_row dc_check_row pm_check_row an_check_row cd_check_row ct_check_row), sl_check_row⟩)
    (c_check_row : PySem.W.codeIn K cd_check_row "check_row" = true) (k_check_row : PySem.W.keepIn K (.ref g_check_row) = true)
    {od_check_single an_check_single : Option Addr} {sl_check_single : Array (Option Value)} {oc_check_single kV_check_single dc_check_single pm_check_single cd_check_single ct_check_single : Value} {g_check_single : Addr}
    (a_check_single : PySem.W.nsIn K mainGlobals "check_single" = some (some (.ref g_check_single))) (l_check_single : K.lookup g_check_single = some ⟨oc_check_single, od_check_single, .func (PySem.W.fnOf "check_single" "check_single" (defArgs s_check_single) (defBody s_check_single) (defScope s_check_single) .none kV_check_single dc_check_single pm_check_single an_check_single cd_check_single ct_check_single), sl_check_single⟩)
    (c_check_single : PySem.W.codeIn K cd_check_single "check_single" = true) (k_check_single : PySem.W.keepIn K (.ref g_check_single) = true)
    {od_check_single_row an_check_single_row : Option Addr} {sl_check_single_row : Array (Option Value)} {oc_check_single_row kV_check_single_row dc_check_single_row pm_check_single_row cd_check_single_row ct_check_single_row : Value} {g_check_single_row : Addr}
    (a_check_single_row : PySem.W.nsIn K mainGlobals "check_single_row" = some (some (.ref g_check_single_row))) (l_check_single_row : K.lookup g_check_single_row = some ⟨oc_check_single_row, od_check_single_row, .func (PySem.W.fnOf "check_single_row" "check_single_row" (defArgs s_check_single_row) (defBody s_check_single_row) (defScope s_check_single_row) .none kV_check_single_row dc_check_single_row pm_check_single_row an_check_single_row cd_check_single_row ct_check_single_row), sl_check_single_row⟩)
    (c_check_single_row : PySem.W.codeIn K cd_check_single_row "check_single_row" = true) (k_check_single_row : PySem.W.keepIn K (.ref g_check_single_row) = true)
    {od_letters_in_line an_letters_in_line : Option Addr} {sl_letters_in_line : Array (Option Value)} {oc_letters_in_line kV_letters_in_line dc_letters_in_line pm_letters_in_line cd_letters_in_line ct_letters_in_line : Value} {g_letters_in_line : Addr}
    (a_letters_in_line : PySem.W.nsIn K mainGlobals "letters_in_line" = some (some (.ref g_letters_in_line))) (l_letters_in_line : K.lookup g_letters_in_line = some ⟨oc_letters_in_line, od_letters_in_line, .func (PySem.W.fnOf "letters_in_line" "letters_in_line" (defArgs s_letters_in_line) (defBody s_letters_in_line) (defScope s_letters_in_line) .none kV_letters_in_line dc_letters_in_line pm_letters_in_line an_letters_in_line cd_letters_in_line ct_letters_in_line), sl_letters_in_line⟩)
    (c_letters_in_line : PySem.W.codeIn K cd_letters_in_line "letters_in_line" = true) (k_letters_in_line : PySem.W.keepIn K (.ref g_letters_in_line) = true)
    {od_line_owners an_line_owners : Option Addr} {sl_line_owners : Array (Option Value)} {oc_line_owners kV_line_owners dc_line_owners pm_line_owners cd_line_owners ct_line_owners : Value} {g_line_owners : Addr}
    (a_line_owners : PySem.W.nsIn K mainGlobals "line_owners" = some (some (.ref g_line_owners))) (l_line_owners : K.lookup g_line_owners = some ⟨oc_line_owners, od_line_owners, .func (PySem.W.fnOf "line_owners" "line_owners" (defArgs s_line_owners) (defBody s_line_owners) (defScope s_line_owners) .none kV_line_owners dc_line_owners pm_line_owners an_line_owners cd_line_owners ct_line_owners), sl_line_owners⟩)
    (c_line_owners : PySem.W.codeIn K cd_line_owners "line_owners" = true) (k_line_owners : PySem.W.keepIn K (.ref g_line_owners) = true)
    {od_line an_line : Option Addr} {sl_line : Array (Option Value)} {oc_line kV_line dc_line pm_line cd_line ct_line : Value} {g_line : Addr}
    (a_line : PySem.W.nsIn K mainGlobals "line" = some (some (.ref g_line))) (l_line : K.lookup g_line = some ⟨oc_line, od_line, .func (PySem.W.fnOf "line" "line" (defArgs s_line) (defBody s_line) (defScope s_line) .none kV_line dc_line pm_line an_line cd_line ct_line), sl_line⟩)
    (c_line : PySem.W.codeIn K cd_line "line" = true) (k_line : PySem.W.keepIn K (.ref g_line) = true)
    {od_owners an_owners : Option Addr} {sl_owners : Array (Option Value)} {oc_owners kV_owners dc_owners pm_owners cd_owners ct_owners : Value} {g_owners : Addr}
    (a_owners : PySem.W.nsIn K mainGlobals "owners" = some (some (.ref g_owners))) (l_owners : K.lookup g_owners = some ⟨oc_owners, od_owners, .func (PySem.W.fnOf "owners" "owners" (defArgs s_owners) (defBody s_owners) (defScope s_owners) .none kV_owners dc_owners pm_owners an_owners cd_owners ct_owners), sl_owners⟩)
    (c_owners : PySem.W.codeIn K cd_owners "owners" = true) (k_owners : PySem.W.keepIn K (.ref g_owners) = true)
    {od_turned an_turned : Option Addr} {sl_turned : Array (Option Value)} {oc_turned kV_turned dc_turned pm_turned cd_turned ct_turned : Value} {g_turned : Addr}
    (a_turned : PySem.W.nsIn K mainGlobals "turned" = some (some (.ref g_turned))) (l_turned : K.lookup g_turned = some ⟨oc_turned, od_turned, .func (PySem.W.fnOf "turned" "turned" (defArgs s_turned) (defBody s_turned) (defScope s_turned) .none kV_turned dc_turned pm_turned an_turned cd_turned ct_turned), sl_turned⟩)
    (c_turned : PySem.W.codeIn K cd_turned "turned" = true) (k_turned : PySem.W.keepIn K (.ref g_turned) = true)
    {od_turned_row an_turned_row : Option Addr} {sl_turned_row : Array (Option Value)} {oc_turned_row kV_turned_row dc_turned_row pm_turned_row cd_turned_row ct_turned_row : Value} {g_turned_row : Addr}
    (a_turned_row : PySem.W.nsIn K mainGlobals "turned_row" = some (some (.ref g_turned_row))) (l_turned_row : K.lookup g_turned_row = some ⟨oc_turned_row, od_turned_row, .func (PySem.W.fnOf "turned_row" "turned_row" (defArgs s_turned_row) (defBody s_turned_row) (defScope s_turned_row) .none kV_turned_row dc_turned_row pm_turned_row an_turned_row cd_turned_row ct_turned_row), sl_turned_row⟩)
    (c_turned_row : PySem.W.codeIn K cd_turned_row "turned_row" = true) (k_turned_row : PySem.W.keepIn K (.ref g_turned_row) = true)
    {od__law_pick an__law_pick : Option Addr} {sl__law_pick : Array (Option Value)} {oc__law_pick kV__law_pick dc__law_pick pm__law_pick cd__law_pick ct__law_pick : Value} {g__law_pick : Addr}
    (a__law_pick : PySem.W.nsIn K mainGlobals "_law_pick" = some (some (.ref g__law_pick))) (l__law_pick : K.lookup g__law_pick = some ⟨oc__law_pick, od__law_pick, .func (PySem.W.fnOf "_law_pick" "_law_pick" (defArgs s__law_pick) (defBody s__law_pick) (defScope s__law_pick) .none kV__law_pick dc__law_pick pm__law_pick an__law_pick cd__law_pick ct__law_pick), sl__law_pick⟩)
    (c__law_pick : PySem.W.codeIn K cd__law_pick "_law_pick" = true) (k__law_pick : PySem.W.keepIn K (.ref g__law_pick) = true)
    {od__law_pool an__law_pool : Option Addr} {sl__law_pool : Array (Option Value)} {oc__law_pool kV__law_pool dc__law_pool pm__law_pool cd__law_pool ct__law_pool : Value} {g__law_pool : Addr}
    (a__law_pool : PySem.W.nsIn K mainGlobals "_law_pool" = some (some (.ref g__law_pool))) (l__law_pool : K.lookup g__law_pool = some ⟨oc__law_pool, od__law_pool, .func (PySem.W.fnOf "_law_pool" "_law_pool" (defArgs s__law_pool) (defBody s__law_pool) (defScope s__law_pool) .none kV__law_pool dc__law_pool pm__law_pool an__law_pool cd__law_pool ct__law_pool), sl__law_pool⟩)
    (c__law_pool : PySem.W.codeIn K cd__law_pool "_law_pool" = true) (k__law_pool : PySem.W.keepIn K (.ref g__law_pool) = true)
    {od__law_shape an__law_shape : Option Addr} {sl__law_shape : Array (Option Value)} {oc__law_shape kV__law_shape dc__law_shape pm__law_shape cd__law_shape ct__law_shape : Value} {g__law_shape : Addr}
    (a__law_shape : PySem.W.nsIn K mainGlobals "_law_shape" = some (some (.ref g__law_shape))) (l__law_shape : K.lookup g__law_shape = some ⟨oc__law_shape, od__law_shape, .func (PySem.W.fnOf "_law_shape" "_law_shape" (defArgs s__law_shape) (defBody s__law_shape) (defScope s__law_shape) .none kV__law_shape dc__law_shape pm__law_shape an__law_shape cd__law_shape ct__law_shape), sl__law_shape⟩)
    (c__law_shape : PySem.W.codeIn K cd__law_shape "_law_shape" = true) (k__law_shape : PySem.W.keepIn K (.ref g__law_shape) = true)
    {od__law_size an__law_size : Option Addr} {sl__law_size : Array (Option Value)} {oc__law_size kV__law_size dc__law_size pm__law_size cd__law_size ct__law_size : Value} {g__law_size : Addr}
    (a__law_size : PySem.W.nsIn K mainGlobals "_law_size" = some (some (.ref g__law_size))) (l__law_size : K.lookup g__law_size = some ⟨oc__law_size, od__law_size, .func (PySem.W.fnOf "_law_size" "_law_size" (defArgs s__law_size) (defBody s__law_size) (defScope s__law_size) .none kV__law_size dc__law_size pm__law_size an__law_size cd__law_size ct__law_size), sl__law_size⟩)
    (c__law_size : PySem.W.codeIn K cd__law_size "_law_size" = true) (k__law_size : PySem.W.keepIn K (.ref g__law_size) = true)
    {od__law_deep an__law_deep : Option Addr} {sl__law_deep : Array (Option Value)} {oc__law_deep kV__law_deep dc__law_deep pm__law_deep cd__law_deep ct__law_deep : Value} {g__law_deep : Addr}
    (a__law_deep : PySem.W.nsIn K mainGlobals "_law_deep" = some (some (.ref g__law_deep))) (l__law_deep : K.lookup g__law_deep = some ⟨oc__law_deep, od__law_deep, .func (PySem.W.fnOf "_law_deep" "_law_deep" (defArgs s__law_deep) (defBody s__law_deep) (defScope s__law_deep) .none kV__law_deep dc__law_deep pm__law_deep an__law_deep cd__law_deep ct__law_deep), sl__law_deep⟩)
    (c__law_deep : PySem.W.codeIn K cd__law_deep "_law_deep" = true) (k__law_deep : PySem.W.keepIn K (.ref g__law_deep) = true)
    {od__law_within an__law_within : Option Addr} {sl__law_within : Array (Option Value)} {oc__law_within kV__law_within dc__law_within pm__law_within cd__law_within ct__law_within : Value} {g__law_within : Addr}
    (a__law_within : PySem.W.nsIn K mainGlobals "_law_within" = some (some (.ref g__law_within))) (l__law_within : K.lookup g__law_within = some ⟨oc__law_within, od__law_within, .func (PySem.W.fnOf "_law_within" "_law_within" (defArgs s__law_within) (defBody s__law_within) (defScope s__law_within) .none kV__law_within dc__law_within pm__law_within an__law_within cd__law_within ct__law_within), sl__law_within⟩)
    (c__law_within : PySem.W.codeIn K cd__law_within "_law_within" = true) (k__law_within : PySem.W.keepIn K (.ref g__law_within) = true)
    {od__law_wide an__law_wide : Option Addr} {sl__law_wide : Array (Option Value)} {oc__law_wide kV__law_wide dc__law_wide pm__law_wide cd__law_wide ct__law_wide : Value} {g__law_wide : Addr}
    (a__law_wide : PySem.W.nsIn K mainGlobals "_law_wide" = some (some (.ref g__law_wide))) (l__law_wide : K.lookup g__law_wide = some ⟨oc__law_wide, od__law_wide, .func (PySem.W.fnOf "_law_wide" "_law_wide" (defArgs s__law_wide) (defBody s__law_wide) (defScope s__law_wide) .none kV__law_wide dc__law_wide pm__law_wide an__law_wide cd__law_wide ct__law_wide), sl__law_wide⟩)
    (c__law_wide : PySem.W.codeIn K cd__law_wide "_law_wide" = true) (k__law_wide : PySem.W.keepIn K (.ref g__law_wide) = true)
    {od__law_count an__law_count : Option Addr} {sl__law_count : Array (Option Value)} {oc__law_count kV__law_count dc__law_count pm__law_count cd__law_count ct__law_count : Value} {g__law_count : Addr}
    (a__law_count : PySem.W.nsIn K mainGlobals "_law_count" = some (some (.ref g__law_count))) (l__law_count : K.lookup g__law_count = some ⟨oc__law_count, od__law_count, .func (PySem.W.fnOf "_law_count" "_law_count" (defArgs s__law_count) (defBody s__law_count) (defScope s__law_count) .none kV__law_count dc__law_count pm__law_count an__law_count cd__law_count ct__law_count), sl__law_count⟩)
    (c__law_count : PySem.W.codeIn K cd__law_count "_law_count" = true) (k__law_count : PySem.W.keepIn K (.ref g__law_count) = true)
    {od__law_shown an__law_shown ot__law_shown : Option Addr} {sl__law_shown st__law_shown : Array (Option Value)} {oc__law_shown kV__law_shown dc__law_shown pm__law_shown cd__law_shown ct__law_shown : Value} {g__law_shown T__law_shown : Addr} {it__law_shown : Array Value} {nt__law_shown : Nat}
    (a__law_shown : PySem.W.nsIn K mainGlobals "_law_shown" = some (some (.ref g__law_shown))) (l__law_shown : K.lookup g__law_shown = some ⟨oc__law_shown, od__law_shown, .func (PySem.W.fnOf "_law_shown" "_law_shown" (defArgs s__law_shown) (defBody s__law_shown) (defScope s__law_shown) (.ref T__law_shown) kV__law_shown dc__law_shown pm__law_shown an__law_shown cd__law_shown ct__law_shown), sl__law_shown⟩)
    (dl__law_shown : K.lookup T__law_shown = some ⟨.type "tuple", ot__law_shown, .seq it__law_shown nt__law_shown, st__law_shown⟩) (dv__law_shown : Vals [(.bl false)] it__law_shown.toList)
    (c__law_shown : PySem.W.codeIn K cd__law_shown "_law_shown" = true) (k__law_shown : PySem.W.keepIn K (.ref g__law_shown) = true)
    {od__law_put an__law_put : Option Addr} {sl__law_put : Array (Option Value)} {oc__law_put kV__law_put dc__law_put pm__law_put cd__law_put ct__law_put : Value} {g__law_put : Addr}
    (a__law_put : PySem.W.nsIn K mainGlobals "_law_put" = some (some (.ref g__law_put))) (l__law_put : K.lookup g__law_put = some ⟨oc__law_put, od__law_put, .func (PySem.W.fnOf "_law_put" "_law_put" (defArgs s__law_put) (defBody s__law_put) (defScope s__law_put) .none kV__law_put dc__law_put pm__law_put an__law_put cd__law_put ct__law_put), sl__law_put⟩)
    (c__law_put : PySem.W.codeIn K cd__law_put "_law_put" = true) (k__law_put : PySem.W.keepIn K (.ref g__law_put) = true)
    {od__law_eta an__law_eta : Option Addr} {sl__law_eta : Array (Option Value)} {oc__law_eta kV__law_eta dc__law_eta pm__law_eta cd__law_eta ct__law_eta : Value} {g__law_eta : Addr}
    (a__law_eta : PySem.W.nsIn K mainGlobals "_law_eta" = some (some (.ref g__law_eta))) (l__law_eta : K.lookup g__law_eta = some ⟨oc__law_eta, od__law_eta, .func (PySem.W.fnOf "_law_eta" "_law_eta" (defArgs s__law_eta) (defBody s__law_eta) (defScope s__law_eta) .none kV__law_eta dc__law_eta pm__law_eta an__law_eta cd__law_eta ct__law_eta), sl__law_eta⟩)
    (c__law_eta : PySem.W.codeIn K cd__law_eta "_law_eta" = true) (k__law_eta : PySem.W.keepIn K (.ref g__law_eta) = true)
    {od__law_given an__law_given : Option Addr} {sl__law_given : Array (Option Value)} {oc__law_given kV__law_given dc__law_given pm__law_given cd__law_given ct__law_given : Value} {g__law_given : Addr}
    (a__law_given : PySem.W.nsIn K mainGlobals "_law_given" = some (some (.ref g__law_given))) (l__law_given : K.lookup g__law_given = some ⟨oc__law_given, od__law_given, .func (PySem.W.fnOf "_law_given" "_law_given" (defArgs s__law_given) (defBody s__law_given) (defScope s__law_given) .none kV__law_given dc__law_given pm__law_given an__law_given cd__law_given ct__law_given), sl__law_given⟩)
    (c__law_given : PySem.W.codeIn K cd__law_given "_law_given" = true) (k__law_given : PySem.W.keepIn K (.ref g__law_given) = true)
    {od__law_grown an__law_grown : Option Addr} {sl__law_grown : Array (Option Value)} {oc__law_grown kV__law_grown dc__law_grown pm__law_grown cd__law_grown ct__law_grown : Value} {g__law_grown : Addr}
    (a__law_grown : PySem.W.nsIn K mainGlobals "_law_grown" = some (some (.ref g__law_grown))) (l__law_grown : K.lookup g__law_grown = some ⟨oc__law_grown, od__law_grown, .func (PySem.W.fnOf "_law_grown" "_law_grown" (defArgs s__law_grown) (defBody s__law_grown) (defScope s__law_grown) .none kV__law_grown dc__law_grown pm__law_grown an__law_grown cd__law_grown ct__law_grown), sl__law_grown⟩)
    (c__law_grown : PySem.W.codeIn K cd__law_grown "_law_grown" = true) (k__law_grown : PySem.W.keepIn K (.ref g__law_grown) = true)
    {od__law_made an__law_made : Option Addr} {sl__law_made : Array (Option Value)} {oc__law_made kV__law_made dc__law_made pm__law_made cd__law_made ct__law_made : Value} {g__law_made : Addr}
    (a__law_made : PySem.W.nsIn K mainGlobals "_law_made" = some (some (.ref g__law_made))) (l__law_made : K.lookup g__law_made = some ⟨oc__law_made, od__law_made, .func (PySem.W.fnOf "_law_made" "_law_made" (defArgs s__law_made) (defBody s__law_made) (defScope s__law_made) .none kV__law_made dc__law_made pm__law_made an__law_made cd__law_made ct__law_made), sl__law_made⟩)
    (c__law_made : PySem.W.codeIn K cd__law_made "_law_made" = true) (k__law_made : PySem.W.keepIn K (.ref g__law_made) = true)
    {od__law_lane an__law_lane : Option Addr} {sl__law_lane : Array (Option Value)} {oc__law_lane kV__law_lane dc__law_lane pm__law_lane cd__law_lane ct__law_lane : Value} {g__law_lane : Addr}
    (a__law_lane : PySem.W.nsIn K mainGlobals "_law_lane" = some (some (.ref g__law_lane))) (l__law_lane : K.lookup g__law_lane = some ⟨oc__law_lane, od__law_lane, .func (PySem.W.fnOf "_law_lane" "_law_lane" (defArgs s__law_lane) (defBody s__law_lane) (defScope s__law_lane) .none kV__law_lane dc__law_lane pm__law_lane an__law_lane cd__law_lane ct__law_lane), sl__law_lane⟩)
    (c__law_lane : PySem.W.codeIn K cd__law_lane "_law_lane" = true) (k__law_lane : PySem.W.keepIn K (.ref g__law_lane) = true)
    {od__law_stands an__law_stands : Option Addr} {sl__law_stands : Array (Option Value)} {oc__law_stands kV__law_stands dc__law_stands pm__law_stands cd__law_stands ct__law_stands : Value} {g__law_stands : Addr}
    (a__law_stands : PySem.W.nsIn K mainGlobals "_law_stands" = some (some (.ref g__law_stands))) (l__law_stands : K.lookup g__law_stands = some ⟨oc__law_stands, od__law_stands, .func (PySem.W.fnOf "_law_stands" "_law_stands" (defArgs s__law_stands) (defBody s__law_stands) (defScope s__law_stands) .none kV__law_stands dc__law_stands pm__law_stands an__law_stands cd__law_stands ct__law_stands), sl__law_stands⟩)
    (c__law_stands : PySem.W.codeIn K cd__law_stands "_law_stands" = true) (k__law_stands : PySem.W.keepIn K (.ref g__law_stands) = true)
    {od__law_line an__law_line : Option Addr} {sl__law_line : Array (Option Value)} {oc__law_line kV__law_line dc__law_line pm__law_line cd__law_line ct__law_line : Value} {g__law_line : Addr}
    (a__law_line : PySem.W.nsIn K mainGlobals "_law_line" = some (some (.ref g__law_line))) (l__law_line : K.lookup g__law_line = some ⟨oc__law_line, od__law_line, .func (PySem.W.fnOf "_law_line" "_law_line" (defArgs s__law_line) (defBody s__law_line) (defScope s__law_line) .none kV__law_line dc__law_line pm__law_line an__law_line cd__law_line ct__law_line), sl__law_line⟩)
    (c__law_line : PySem.W.codeIn K cd__law_line "_law_line" = true) (k__law_line : PySem.W.keepIn K (.ref g__law_line) = true)
    {od__law_same an__law_same : Option Addr} {sl__law_same : Array (Option Value)} {oc__law_same kV__law_same dc__law_same pm__law_same cd__law_same ct__law_same : Value} {g__law_same : Addr}
    (a__law_same : PySem.W.nsIn K mainGlobals "_law_same" = some (some (.ref g__law_same))) (l__law_same : K.lookup g__law_same = some ⟨oc__law_same, od__law_same, .func (PySem.W.fnOf "_law_same" "_law_same" (defArgs s__law_same) (defBody s__law_same) (defScope s__law_same) .none kV__law_same dc__law_same pm__law_same an__law_same cd__law_same ct__law_same), sl__law_same⟩)
    (c__law_same : PySem.W.codeIn K cd__law_same "_law_same" = true) (k__law_same : PySem.W.keepIn K (.ref g__law_same) = true)
    {od__law_spoil an__law_spoil : Option Addr} {sl__law_spoil : Array (Option Value)} {oc__law_spoil kV__law_spoil dc__law_spoil pm__law_spoil cd__law_spoil ct__law_spoil : Value} {g__law_spoil : Addr}
    (a__law_spoil : PySem.W.nsIn K mainGlobals "_law_spoil" = some (some (.ref g__law_spoil))) (l__law_spoil : K.lookup g__law_spoil = some ⟨oc__law_spoil, od__law_spoil, .func (PySem.W.fnOf "_law_spoil" "_law_spoil" (defArgs s__law_spoil) (defBody s__law_spoil) (defScope s__law_spoil) .none kV__law_spoil dc__law_spoil pm__law_spoil an__law_spoil cd__law_spoil ct__law_spoil), sl__law_spoil⟩)
    (c__law_spoil : PySem.W.codeIn K cd__law_spoil "_law_spoil" = true) (k__law_spoil : PySem.W.keepIn K (.ref g__law_spoil) = true)
    {od__law_owners an__law_owners : Option Addr} {sl__law_owners : Array (Option Value)} {oc__law_owners kV__law_owners dc__law_owners pm__law_owners cd__law_owners ct__law_owners : Value} {g__law_owners : Addr}
    (a__law_owners : PySem.W.nsIn K mainGlobals "_law_owners" = some (some (.ref g__law_owners))) (l__law_owners : K.lookup g__law_owners = some ⟨oc__law_owners, od__law_owners, .func (PySem.W.fnOf "_law_owners" "_law_owners" (defArgs s__law_owners) (defBody s__law_owners) (defScope s__law_owners) .none kV__law_owners dc__law_owners pm__law_owners an__law_owners cd__law_owners ct__law_owners), sl__law_owners⟩)
    (c__law_owners : PySem.W.codeIn K cd__law_owners "_law_owners" = true) (k__law_owners : PySem.W.keepIn K (.ref g__law_owners) = true)
    {od__law_told_right an__law_told_right : Option Addr} {sl__law_told_right : Array (Option Value)} {oc__law_told_right kV__law_told_right dc__law_told_right pm__law_told_right cd__law_told_right ct__law_told_right : Value} {g__law_told_right : Addr}
    (a__law_told_right : PySem.W.nsIn K mainGlobals "_law_told_right" = some (some (.ref g__law_told_right))) (l__law_told_right : K.lookup g__law_told_right = some ⟨oc__law_told_right, od__law_told_right, .func (PySem.W.fnOf "_law_told_right" "_law_told_right" (defArgs s__law_told_right) (defBody s__law_told_right) (defScope s__law_told_right) .none kV__law_told_right dc__law_told_right pm__law_told_right an__law_told_right cd__law_told_right ct__law_told_right), sl__law_told_right⟩)
    (c__law_told_right : PySem.W.codeIn K cd__law_told_right "_law_told_right" = true) (k__law_told_right : PySem.W.keepIn K (.ref g__law_told_right) = true)
    {od__law_right an__law_right : Option Addr} {sl__law_right : Array (Option Value)} {oc__law_right kV__law_right dc__law_right pm__law_right cd__law_right ct__law_right : Value} {g__law_right : Addr}
    (a__law_right : PySem.W.nsIn K mainGlobals "_law_right" = some (some (.ref g__law_right))) (l__law_right : K.lookup g__law_right = some ⟨oc__law_right, od__law_right, .func (PySem.W.fnOf "_law_right" "_law_right" (defArgs s__law_right) (defBody s__law_right) (defScope s__law_right) .none kV__law_right dc__law_right pm__law_right an__law_right cd__law_right ct__law_right), sl__law_right⟩)
    (c__law_right : PySem.W.codeIn K cd__law_right "_law_right" = true) (k__law_right : PySem.W.keepIn K (.ref g__law_right) = true)
    {od_law an_law : Option Addr} {sl_law : Array (Option Value)} {oc_law kV_law dc_law pm_law cd_law ct_law : Value} {g_law : Addr}
    (a_law : PySem.W.nsIn K mainGlobals "law" = some (some (.ref g_law))) (l_law : K.lookup g_law = some ⟨oc_law, od_law, .func (PySem.W.fnOf "law" "law" (defArgs s_law) (defBody s_law) (defScope s_law) .none kV_law dc_law pm_law an_law cd_law ct_law), sl_law⟩)
    (c_law : PySem.W.codeIn K cd_law "law" = true) (k_law : PySem.W.keepIn K (.ref g_law) = true)
    (z_len : PySem.W.nsIn K mainGlobals "len" = some none)
    (z_range : PySem.W.nsIn K mainGlobals "range" = some none)
    (z_int : PySem.W.nsIn K mainGlobals "int" = some none)
    (z_max : PySem.W.nsIn K mainGlobals "max" = some none)
    (z_min : PySem.W.nsIn K mainGlobals "min" = some none)
    (z_any : PySem.W.nsIn K mainGlobals "any" = some none)
    (z_list : PySem.W.nsIn K mainGlobals "list" = some none)
    (z_tuple : PySem.W.nsIn K mainGlobals "tuple" = some none)
    (z_str : PySem.W.nsIn K mainGlobals "str" = some none)
    (z_bool : PySem.W.nsIn K mainGlobals "bool" = some none)
    (z_isinstance : PySem.W.nsIn K mainGlobals "isinstance" = some none)
    (z_sum : PySem.W.nsIn K mainGlobals "sum" = some none)
    (z_enumerate : PySem.W.nsIn K mainGlobals "enumerate" = some none)
    (z_abs : PySem.W.nsIn K mainGlobals "abs" = some none)
    {g_SIGNS : Addr} {e_SIGNS : Array DictEntry} {n_SIGNS : Nat} (a_SIGNS : PySem.W.nsIn K mainGlobals "SIGNS" = some (some (.ref g_SIGNS))) (l_SIGNS : K.lookup g_SIGNS = some ⟨.type "dict", none, .dict e_SIGNS n_SIGNS, #[]⟩) (y_SIGNS : PySem.W.KeysLit w.params e_SIGNS.toList) (o_SIGNS : (g_SIGNS == sysModules) = false)
    (q0_SIGNS : PySem.W.nsIn K g_SIGNS "plain" = some none)
    {r1_SIGNS : Addr} (q1_SIGNS : PySem.W.nsIn K g_SIGNS "behind" = some (some (.ref r1_SIGNS)))
    {i1_SIGNS : Array Value} {m1_SIGNS : Nat} {od1_SIGNS : Option Addr} {sl1_SIGNS : Array (Option Value)} (l1_SIGNS : K.lookup r1_SIGNS = some ⟨.type "tuple", od1_SIGNS, .seq i1_SIGNS m1_SIGNS, sl1_SIGNS⟩) (z1_SIGNS : i1_SIGNS.size ≤ sizeLine) (v1_SIGNS : Vals [.int 1, .int (-1)] i1_SIGNS.toList)
    {r2_SIGNS : Addr} (q2_SIGNS : PySem.W.nsIn K g_SIGNS "ahead" = some (some (.ref r2_SIGNS)))
    {i2_SIGNS : Array Value} {m2_SIGNS : Nat} {od2_SIGNS : Option Addr} {sl2_SIGNS : Array (Option Value)} (l2_SIGNS : K.lookup r2_SIGNS = some ⟨.type "tuple", od2_SIGNS, .seq i2_SIGNS m2_SIGNS, sl2_SIGNS⟩) (z2_SIGNS : i2_SIGNS.size ≤ sizeLine) (v2_SIGNS : Vals [.int (-1), .int 1] i2_SIGNS.toList)
    {r3_SIGNS : Addr} (q3_SIGNS : PySem.W.nsIn K g_SIGNS "with" = some (some (.ref r3_SIGNS)))
    {i3_SIGNS : Array Value} {m3_SIGNS : Nat} {od3_SIGNS : Option Addr} {sl3_SIGNS : Array (Option Value)} (l3_SIGNS : K.lookup r3_SIGNS = some ⟨.type "tuple", od3_SIGNS, .seq i3_SIGNS m3_SIGNS, sl3_SIGNS⟩) (z3_SIGNS : i3_SIGNS.size ≤ sizeLine) (v3_SIGNS : Vals [.int 1, .int 1] i3_SIGNS.toList)
    {g_TURNED : Addr} {e_TURNED : Array DictEntry} {n_TURNED : Nat} (a_TURNED : PySem.W.nsIn K mainGlobals "TURNED" = some (some (.ref g_TURNED))) (l_TURNED : K.lookup g_TURNED = some ⟨.type "dict", none, .dict e_TURNED n_TURNED, #[]⟩) (y_TURNED : PySem.W.KeysLit w.params e_TURNED.toList) (o_TURNED : (g_TURNED == sysModules) = false)
    (q0_TURNED : PySem.W.nsIn K g_TURNED "plain" = some none)
    {t1_TURNED : Tok} (q1_TURNED : PySem.W.nsIn K g_TURNED "behind" = some (some (.str "ahead" t1_TURNED)))
    {t2_TURNED : Tok} (q2_TURNED : PySem.W.nsIn K g_TURNED "ahead" = some (some (.str "behind" t2_TURNED)))
    {t3_TURNED : Tok} (q3_TURNED : PySem.W.nsIn K g_TURNED "with" = some (some (.str "with" t3_TURNED)))
    : ∃ fd : FuncData, (∀ (s : Shared) (v : Value), BindsTo s fd ⟨[v], []⟩ [("script", v)]) ∧ ∀ base : Heap, K.In base → base.Ns mainGlobals mg → FnOk l.prog w K mg base CX0 148 fa fd ["script"] (lift K fsLawB) := by
  have e := hfa.symm.trans (PySem.W.mg_of X G a_law)
  cases e
  have F_is_letter := fun_mk (st := s_is_letter) l_is_letter c_is_letter k_is_letter
  have F_is_kind_part := fun_mk (st := s_is_kind_part) l_is_kind_part c_is_kind_part k_is_kind_part
  have F_parts_of_kind := fun_mk (st := s_parts_of_kind) l_parts_of_kind c_parts_of_kind k_parts_of_kind
  have F_letters_within := fun_mk (st := s_letters_within) l_letters_within c_letters_within k_letters_within
  have F_has_with := fun_mk (st := s_has_with) l_has_with c_has_with k_has_with
  have F_turn_kind := fun_mk (st := s_turn_kind) l_turn_kind c_turn_kind k_turn_kind
  have F_signed_letters := fun_mk (st := s_signed_letters) l_signed_letters c_signed_letters k_signed_letters
  have F_check_kinds := fun_mk (st := s_check_kinds) l_check_kinds c_check_kinds k_check_kinds
  have F_check_not_empty := fun_mk (st := s_check_not_empty) l_check_not_empty c_check_not_empty k_check_not_empty
  have F_check_row := fun_mk (st := s_check_row) l_check_row c_check_row k_check_row
  have F_check_single := fun_mk (st := s_check_single) l_check_single c_check_single k_check_single
  have F_check_single_row := fun_mk (st := s_check_single_row) l_check_single_row c_check_single_row k_check_single_row
  have F_letters_in_line := fun_mk (st := s_letters_in_line) l_letters_in_line c_letters_in_line k_letters_in_line
  have F_line_owners := fun_mk (st := s_line_owners) l_line_owners c_line_owners k_line_owners
  have F_line := fun_mk (st := s_line) l_line c_line k_line
  have F_owners := fun_mk (st := s_owners) l_owners c_owners k_owners
  have F_turned := fun_mk (st := s_turned) l_turned c_turned k_turned
  have F_turned_row := fun_mk (st := s_turned_row) l_turned_row c_turned_row k_turned_row
  have F__law_pick := fun_mk (st := s__law_pick) l__law_pick c__law_pick k__law_pick
  have F__law_pool := fun_mk (st := s__law_pool) l__law_pool c__law_pool k__law_pool
  have F__law_shape := fun_mk (st := s__law_shape) l__law_shape c__law_shape k__law_shape
  have F__law_size := fun_mk (st := s__law_size) l__law_size c__law_size k__law_size
  have F__law_deep := fun_mk (st := s__law_deep) l__law_deep c__law_deep k__law_deep
  have F__law_within := fun_mk (st := s__law_within) l__law_within c__law_within k__law_within
  have F__law_wide := fun_mk (st := s__law_wide) l__law_wide c__law_wide k__law_wide
  have F__law_count := fun_mk (st := s__law_count) l__law_count c__law_count k__law_count
  have F__law_shown : FunD K "_law_shown" "_law_shown" (defArgs s__law_shown) (defBody s__law_shown) (defScope s__law_shown) [(.bl false)] [] g__law_shown _ := ⟨⟨oc__law_shown, od__law_shown, _, kV__law_shown, dc__law_shown, pm__law_shown, an__law_shown, cd__law_shown, ct__law_shown, sl__law_shown, rfl, l__law_shown, c__law_shown, .inr ⟨by simp, T__law_shown, _, it__law_shown.toList, nt__law_shown, rfl, dl__law_shown, by simp, dv__law_shown⟩, .inl rfl⟩, k__law_shown⟩
  have F__law_put := fun_mk (st := s__law_put) l__law_put c__law_put k__law_put
  have F__law_eta := fun_mk (st := s__law_eta) l__law_eta c__law_eta k__law_eta
  have F__law_given := fun_mk (st := s__law_given) l__law_given c__law_given k__law_given
  have F__law_grown := fun_mk (st := s__law_grown) l__law_grown c__law_grown k__law_grown
  have F__law_made := fun_mk (st := s__law_made) l__law_made c__law_made k__law_made
  have F__law_lane := fun_mk (st := s__law_lane) l__law_lane c__law_lane k__law_lane
  have F__law_stands := fun_mk (st := s__law_stands) l__law_stands c__law_stands k__law_stands
  have F__law_line := fun_mk (st := s__law_line) l__law_line c__law_line k__law_line
  have F__law_same := fun_mk (st := s__law_same) l__law_same c__law_same k__law_same
  have F__law_spoil := fun_mk (st := s__law_spoil) l__law_spoil c__law_spoil k__law_spoil
  have F__law_owners := fun_mk (st := s__law_owners) l__law_owners c__law_owners k__law_owners
  have F__law_told_right := fun_mk (st := s__law_told_right) l__law_told_right c__law_told_right k__law_told_right
  have F__law_right := fun_mk (st := s__law_right) l__law_right c__law_right k__law_right
  have F_law := fun_mk (st := s_law) l_law c_law k_law
  have D_SIGNS : KDict K w g_SIGNS e_SIGNS n_SIGNS := ⟨l_SIGNS, y_SIGNS, o_SIGNS⟩
  have V_SIGNS : KVal K w g_SIGNS val_SIGNS := by
    intro z x hz
    unfold val_SIGNS at hz
    by_cases e1 : z = "behind"
    · subst e1
      rw [if_pos rfl] at hz
      cases hz
      exact kval_tup D_SIGNS q1_SIGNS l1_SIGNS z1_SIGNS v1_SIGNS (fun G => .cons (.int 1) (.cons (.int (-1)) (.nil)))
    rw [if_neg e1] at hz
    by_cases e2 : z = "ahead"
    · subst e2
      rw [if_pos rfl] at hz
      cases hz
      exact kval_tup D_SIGNS q2_SIGNS l2_SIGNS z2_SIGNS v2_SIGNS (fun G => .cons (.int (-1)) (.cons (.int 1) (.nil)))
    rw [if_neg e2] at hz
    by_cases e3 : z = "with"
    · subst e3
      rw [if_pos rfl] at hz
      cases hz
      exact kval_tup D_SIGNS q3_SIGNS l3_SIGNS z3_SIGNS v3_SIGNS (fun G => .cons (.int 1) (.cons (.int 1) (.nil)))
    rw [if_neg e3] at hz
    cases hz
  have D_TURNED : KDict K w g_TURNED e_TURNED n_TURNED := ⟨l_TURNED, y_TURNED, o_TURNED⟩
  have V_TURNED : KVal K w g_TURNED val_TURNED := by
    intro z x hz
    unfold val_TURNED at hz
    by_cases e1 : z = "behind"
    · subst e1
      rw [if_pos rfl] at hz
      cases hz
      exact kval_str D_TURNED q1_TURNED
    rw [if_neg e1] at hz
    by_cases e2 : z = "ahead"
    · subst e2
      rw [if_pos rfl] at hz
      cases hz
      exact kval_str D_TURNED q2_TURNED
    rw [if_neg e2] at hz
    by_cases e3 : z = "with"
    · subst e3
      rw [if_pos rfl] at hz
      cases hz
      exact kval_str D_TURNED q3_TURNED
    rw [if_neg e3] at hz
    cases hz
  have T : Top K w mg ⟨g_is_letter, _, g_is_kind_part, _, g_parts_of_kind, _, g_letters_within, _, g_has_with, _, g_turn_kind, _, g_signed_letters, _, g_check_kinds, _, g_check_not_empty, _, g_check_row, _, g_check_single, _, g_check_single_row, _, g_letters_in_line, _, g_line_owners, _, g_line, _, g_owners, _, g_turned, _, g_turned_row, _, g__law_pick, _, g__law_pool, _, g__law_shape, _, g__law_size, _, g__law_deep, _, g__law_within, _, g__law_wide, _, g__law_count, _, g__law_shown, _, g__law_put, _, g__law_eta, _, g__law_given, _, g__law_grown, _, g__law_made, _, g__law_lane, _, g__law_stands, _, g__law_line, _, g__law_same, _, g__law_spoil, _, g__law_owners, _, g__law_told_right, _, g__law_right, _, fa, _, g_SIGNS, e_SIGNS, n_SIGNS, g_TURNED, e_TURNED, n_TURNED⟩ := {
    z_len := PySem.W.mg_none_of X G z_len,
    z_range := PySem.W.mg_none_of X G z_range,
    z_int := PySem.W.mg_none_of X G z_int,
    z_max := PySem.W.mg_none_of X G z_max,
    z_min := PySem.W.mg_none_of X G z_min,
    z_any := PySem.W.mg_none_of X G z_any,
    z_list := PySem.W.mg_none_of X G z_list,
    z_tuple := PySem.W.mg_none_of X G z_tuple,
    z_str := PySem.W.mg_none_of X G z_str,
    z_bool := PySem.W.mg_none_of X G z_bool,
    z_isinstance := PySem.W.mg_none_of X G z_isinstance,
    z_sum := PySem.W.mg_none_of X G z_sum,
    z_enumerate := PySem.W.mg_none_of X G z_enumerate,
    z_abs := PySem.W.mg_none_of X G z_abs,
    m_is_letter := PySem.W.mg_of X G a_is_letter, F_is_letter := F_is_letter, b_is_letter := F_is_letter.binds fun _ _ _ _ _ _ us hl => match us, hl with | [_], _ => rfl,
    m_is_kind_part := PySem.W.mg_of X G a_is_kind_part, F_is_kind_part := F_is_kind_part, b_is_kind_part := F_is_kind_part.binds fun _ _ _ _ _ _ us hl => match us, hl with | [_], _ => rfl,
    m_parts_of_kind := PySem.W.mg_of X G a_parts_of_kind, F_parts_of_kind := F_parts_of_kind, b_parts_of_kind := F_parts_of_kind.binds fun _ _ _ _ _ _ us hl => match us, hl with | [_], _ => rfl,
    m_letters_within := PySem.W.mg_of X G a_letters_within, F_letters_within := F_letters_within, b_letters_within := F_letters_within.binds fun _ _ _ _ _ _ us hl => match us, hl with | [_], _ => rfl,
    m_has_with := PySem.W.mg_of X G a_has_with, F_has_with := F_has_with, b_has_with := F_has_with.binds fun _ _ _ _ _ _ us hl => match us, hl with | [_], _ => rfl,
    m_turn_kind := PySem.W.mg_of X G a_turn_kind, F_turn_kind := F_turn_kind, b_turn_kind := F_turn_kind.binds fun _ _ _ _ _ _ us hl => match us, hl with | [_], _ => rfl,
    m_signed_letters := PySem.W.mg_of X G a_signed_letters, F_signed_letters := F_signed_letters, b_signed_letters := F_signed_letters.binds fun _ _ _ _ _ _ us hl => match us, hl with | [_, _], _ => rfl,
    m_check_kinds := PySem.W.mg_of X G a_check_kinds, F_check_kinds := F_check_kinds, b_check_kinds := F_check_kinds.binds fun _ _ _ _ _ _ us hl => match us, hl with | [_], _ => rfl,
    m_check_not_empty := PySem.W.mg_of X G a_check_not_empty, F_check_not_empty := F_check_not_empty, b_check_not_empty := F_check_not_empty.binds fun _ _ _ _ _ _ us hl => match us, hl with | [_], _ => rfl,
    m_check_row := PySem.W.mg_of X G a_check_row, F_check_row := F_check_row, b_check_row := F_check_row.binds fun _ _ _ _ _ _ us hl => match us, hl with | [_, _], _ => rfl,
    m_check_single := PySem.W.mg_of X G a_check_single, F_check_single := F_check_single, b_check_single := F_check_single.binds fun _ _ _ _ _ _ us hl => match us, hl with | [_], _ => rfl,
    m_check_single_row := PySem.W.mg_of X G a_check_single_row, F_check_single_row := F_check_single_row, b_check_single_row := F_check_single_row.binds fun _ _ _ _ _ _ us hl => match us, hl with | [_, _], _ => rfl,
    m_letters_in_line := PySem.W.mg_of X G a_letters_in_line, F_letters_in_line := F_letters_in_line, b_letters_in_line := F_letters_in_line.binds fun _ _ _ _ _ _ us hl => match us, hl with | [_, _], _ => rfl,
    m_line_owners := PySem.W.mg_of X G a_line_owners, F_line_owners := F_line_owners, b_line_owners := F_line_owners.binds fun _ _ _ _ _ _ us hl => match us, hl with | [_, _], _ => rfl,
    m_line := PySem.W.mg_of X G a_line, F_line := F_line, b_line := F_line.binds fun _ _ _ _ _ _ us hl => match us, hl with | [_, _], _ => rfl,
    m_owners := PySem.W.mg_of X G a_owners, F_owners := F_owners, b_owners := F_owners.binds fun _ _ _ _ _ _ us hl => match us, hl with | [_, _], _ => rfl,
    m_turned := PySem.W.mg_of X G a_turned, F_turned := F_turned, b_turned := F_turned.binds fun _ _ _ _ _ _ us hl => match us, hl with | [_], _ => rfl,
    m_turned_row := PySem.W.mg_of X G a_turned_row, F_turned_row := F_turned_row, b_turned_row := F_turned_row.binds fun _ _ _ _ _ _ us hl => match us, hl with | [_], _ => rfl,
    m__law_pick := PySem.W.mg_of X G a__law_pick, F__law_pick := F__law_pick, b__law_pick := F__law_pick.binds fun _ _ _ _ _ _ us hl => match us, hl with | [_, _], _ => rfl,
    m__law_pool := PySem.W.mg_of X G a__law_pool, F__law_pool := F__law_pool, b__law_pool := F__law_pool.binds fun _ _ _ _ _ _ us hl => match us, hl with | [_, _], _ => rfl,
    m__law_shape := PySem.W.mg_of X G a__law_shape, F__law_shape := F__law_shape, b__law_shape := F__law_shape.binds fun _ _ _ _ _ _ us hl => match us, hl with | [_, _], _ => rfl,
    m__law_size := PySem.W.mg_of X G a__law_size, F__law_size := F__law_size, b__law_size := F__law_size.binds fun _ _ _ _ _ _ us hl => match us, hl with | [_], _ => rfl,
    m__law_deep := PySem.W.mg_of X G a__law_deep, F__law_deep := F__law_deep, b__law_deep := F__law_deep.binds fun _ _ _ _ _ _ us hl => match us, hl with | [_], _ => rfl,
    m__law_within := PySem.W.mg_of X G a__law_within, F__law_within := F__law_within, b__law_within := F__law_within.binds fun _ _ _ _ _ _ us hl => match us, hl with | [_], _ => rfl,
    m__law_wide := PySem.W.mg_of X G a__law_wide, F__law_wide := F__law_wide, b__law_wide := F__law_wide.binds fun _ _ _ _ _ _ us hl => match us, hl with | [_], _ => rfl,
    m__law_count := PySem.W.mg_of X G a__law_count, F__law_count := F__law_count, b__law_count := F__law_count.binds fun _ _ _ _ _ _ us hl => match us, hl with | [_], _ => rfl,
    m__law_shown := PySem.W.mg_of X G a__law_shown, F__law_shown := F__law_shown, b__law_shown := binds_full (F__law_shown.binds1 3 1 (by simp) (by decide) fun T kV doc pm an cdv ct us its l1 l2 => match us, its, l1, l2 with | [_, _, _], [_], _, _ => ⟨_, rfl, rfl⟩),
    m__law_put := PySem.W.mg_of X G a__law_put, F__law_put := F__law_put, b__law_put := F__law_put.binds fun _ _ _ _ _ _ us hl => match us, hl with | [_, _, _], _ => rfl,
    m__law_eta := PySem.W.mg_of X G a__law_eta, F__law_eta := F__law_eta, b__law_eta := F__law_eta.binds fun _ _ _ _ _ _ us hl => match us, hl with | [_, _], _ => rfl,
    m__law_given := PySem.W.mg_of X G a__law_given, F__law_given := F__law_given, b__law_given := F__law_given.binds fun _ _ _ _ _ _ us hl => match us, hl with | [_, _, _, _], _ => rfl,
    m__law_grown := PySem.W.mg_of X G a__law_grown, F__law_grown := F__law_grown, b__law_grown := F__law_grown.binds fun _ _ _ _ _ _ us hl => match us, hl with | [_, _], _ => rfl,
    m__law_made := PySem.W.mg_of X G a__law_made, F__law_made := F__law_made, b__law_made := F__law_made.binds fun _ _ _ _ _ _ us hl => match us, hl with | [_, _], _ => rfl,
    m__law_lane := PySem.W.mg_of X G a__law_lane, F__law_lane := F__law_lane, b__law_lane := F__law_lane.binds fun _ _ _ _ _ _ us hl => match us, hl with | [_], _ => rfl,
    m__law_stands := PySem.W.mg_of X G a__law_stands, F__law_stands := F__law_stands, b__law_stands := F__law_stands.binds fun _ _ _ _ _ _ us hl => match us, hl with | [_], _ => rfl,
    m__law_line := PySem.W.mg_of X G a__law_line, F__law_line := F__law_line, b__law_line := F__law_line.binds fun _ _ _ _ _ _ us hl => match us, hl with | [_, _], _ => rfl,
    m__law_same := PySem.W.mg_of X G a__law_same, F__law_same := F__law_same, b__law_same := F__law_same.binds fun _ _ _ _ _ _ us hl => match us, hl with | [_, _], _ => rfl,
    m__law_spoil := PySem.W.mg_of X G a__law_spoil, F__law_spoil := F__law_spoil, b__law_spoil := F__law_spoil.binds fun _ _ _ _ _ _ us hl => match us, hl with | [_], _ => rfl,
    m__law_owners := PySem.W.mg_of X G a__law_owners, F__law_owners := F__law_owners, b__law_owners := F__law_owners.binds fun _ _ _ _ _ _ us hl => match us, hl with | [_, _], _ => rfl,
    m__law_told_right := PySem.W.mg_of X G a__law_told_right, F__law_told_right := F__law_told_right, b__law_told_right := F__law_told_right.binds fun _ _ _ _ _ _ us hl => match us, hl with | [_, _], _ => rfl,
    m__law_right := PySem.W.mg_of X G a__law_right, F__law_right := F__law_right, b__law_right := F__law_right.binds fun _ _ _ _ _ _ us hl => match us, hl with | [_], _ => rfl,
    m_law := PySem.W.mg_of X G a_law, F_law := F_law, b_law := F_law.binds fun _ _ _ _ _ _ us hl => match us, hl with | [_], _ => rfl,
    m_SIGNS := PySem.W.mg_of X G a_SIGNS, d_SIGNS := ⟨l_SIGNS, y_SIGNS, o_SIGNS⟩, h_SIGNS := khas_SIGNS q0_SIGNS q1_SIGNS q2_SIGNS q3_SIGNS, v_SIGNS := V_SIGNS,
    m_TURNED := PySem.W.mg_of X G a_TURNED, d_TURNED := ⟨l_TURNED, y_TURNED, o_TURNED⟩, v_TURNED := V_TURNED }
  exact ⟨_, fun s v => .of_eq rfl, fun base _ _ => ok_law T⟩
theorem walk {l : PySem.W.OpenLaw} {q : Program} {loose : List Str} {XP : (Str → Option Value) → Heap → Prop} {YP : World → Heap → Prop} {d : DefRec} {K : Params → PySem.W.Frag} (hn : l.most = some 63) (hdf : d.params.defaults = [])
    (hY : ∀ (w : World) (h : Heap), YP w h → (K w.params).In h)
    (F : ∀ (w : World) (mg : Str → Option Value) (fa : Addr) (h : Heap), (K w.params).In h → h.Ns mainGlobals mg → mg d.name = some (.ref fa) →
      ∃ fd : FuncData, (∀ (s : Shared) (u : Value), BindsTo s fd ⟨[u], []⟩ [("script", u)]) ∧ ∀ base : Heap, (K w.params).In base → base.Ns mainGlobals mg → FnOk l.prog w (K w.params) mg base CX0 148 fa fd ["script"] (lift (K w.params) fsLawB)) :
    PySem.W.WalkO q loose XP YP l.row.toRowW d [] (fun f vs => PySem.call f vs) :=
  L2.walk_ofB (n := 63) (k := 148) (x := "script") (CX := fun _ => CX0) (sp := fun w => lift (K w.params) fsLawB) hn (by decide) hdf ⟨rfl, by decide, by decide⟩ hY F (fun _ _ a ns hl hb _ hS => law_spB hl hb hS) fun _ _ _ _ _ z => z
end DL
open PySem PySem.W PyProof.Rows in
set_option maxRecDepth 100000 in
set_option maxHeartbeats 0 in
theorem PySem.Challenge.cw_waitwords_k40_whole_lines_and_owners_holds : PySem.Challenge.rw_waitwords_k40_whole_lines_and_owners.Holds := by
  w_on; o_law; k_head; (case hw => w_witness2)
  k_fill
  refine DL.walk (l := PySem.Challenge.rw_waitwords_k40_whole_lines_and_owners) rfl rfl (fun w h Y => PySem.W.kIn_of Y) ?F
  case F =>
    intro w mg fa h KX G hmg
    refine' DL.all_mk KX G hmg ?a_is_letter ?l_is_letter ?c_is_letter ?k_is_letter ?a_is_kind_part ?l_is_kind_part ?c_is_kind_part ?k_is_kind_part ?a_parts_of_kind ?l_parts_of_kind ?c_parts_of_kind ?k_parts_of_kind ?a_letters_within ?l_letters_within ?c_letters_within ?k_letters_within ?a_has_with ?l_has_with ?c_has_with ?k_has_with ?a_turn_kind ?l_turn_kind ?c_turn_kind ?k_turn_kind ?a_signed_letters ?l_signed_letters ?c_signed_letters ?k_signed_letters ?a_check_kinds ?l_check_kinds ?c_check_kinds ?k_check_kinds ?a_check_not_empty ?l_check_not_empty ?c_check_not_empty ?k_check_not_empty ?a_check_row ?l_check_row ?c_check_row ?k_check_row ?a_check_single ?l_check_single ?c_check_single ?k_check_single ?a_check_single_row ?l_check_single_row ?c_check_single_row ?k_check_single_row ?a_letters_in_line ?l_letters_in_line ?c_letters_in_line ?k_letters_in_line ?a_line_owners ?l_line_owners ?c_line_owners ?k_line_owners ?a_line ?l_line ?c_line ?k_line ?a_owners ?l_owners ?c_owners ?k_owners ?a_turned ?l_turned ?c_turned ?k_turned ?a_turned_row ?l_turned_row ?c_turned_row ?k_turned_row ?a__law_pick ?l__law_pick ?c__law_pick ?k__law_pick ?a__law_pool ?l__law_pool ?c__law_pool ?k__law_pool ?a__law_shape ?l__law_shape ?c__law_shape ?k__law_shape ?a__law_size ?l__law_size ?c__law_size ?k__law_size ?a__law_deep ?l__law_deep ?c__law_deep ?k__law_deep ?a__law_within ?l__law_within ?c__law_within ?k__law_within ?a__law_wide ?l__law_wide ?c__law_wide ?k__law_wide ?a__law_count ?l__law_count ?c__law_count ?k__law_count ?a__law_shown ?l__law_shown ?dl__law_shown ?dv__law_shown ?c__law_shown ?k__law_shown ?a__law_put ?l__law_put ?c__law_put ?k__law_put ?a__law_eta ?l__law_eta ?c__law_eta ?k__law_eta ?a__law_given ?l__law_given ?c__law_given ?k__law_given ?a__law_grown ?l__law_grown ?c__law_grown ?k__law_grown ?a__law_made ?l__law_made ?c__law_made ?k__law_made ?a__law_lane ?l__law_lane ?c__law_lane ?k__law_lane ?a__law_stands ?l__law_stands ?c__law_stands ?k__law_stands ?a__law_line ?l__law_line ?c__law_line ?k__law_line ?a__law_same ?l__law_same ?c__law_same ?k__law_same ?a__law_spoil ?l__law_spoil ?c__law_spoil ?k__law_spoil ?a__law_owners ?l__law_owners ?c__law_owners ?k__law_owners ?a__law_told_right ?l__law_told_right ?c__law_told_right ?k__law_told_right ?a__law_right ?l__law_right ?c__law_right ?k__law_right ?a_law ?l_law ?c_law ?k_law ?z_len ?z_range ?z_int ?z_max ?z_min ?z_any ?z_list ?z_tuple ?z_str ?z_bool ?z_isinstance ?z_sum ?z_enumerate ?z_abs ?a_SIGNS ?l_SIGNS ?y_SIGNS ?o_SIGNS ?q0_SIGNS ?q1_SIGNS ?l1_SIGNS ?z1_SIGNS ?v1_SIGNS ?q2_SIGNS ?l2_SIGNS ?z2_SIGNS ?v2_SIGNS ?q3_SIGNS ?l3_SIGNS ?z3_SIGNS ?v3_SIGNS ?a_TURNED ?l_TURNED ?y_TURNED ?o_TURNED ?q0_TURNED ?q1_TURNED ?q2_TURNED ?q3_TURNED
    (case a_is_letter => k_is)
    (case l_is_letter => k_is)
    (case c_is_letter => k_is)
    (case k_is_letter => k_is)
    (case a_is_kind_part => k_is)
    (case l_is_kind_part => k_is)
    (case c_is_kind_part => k_is)
    (case k_is_kind_part => k_is)
    (case a_parts_of_kind => k_is)
    (case l_parts_of_kind => k_is)
    (case c_parts_of_kind => k_is)
    (case k_parts_of_kind => k_is)
    (case a_letters_within => k_is)
    (case l_letters_within => k_is)
    (case c_letters_within => k_is)
    (case k_letters_within => k_is)
    (case a_has_with => k_is)
    (case l_has_with => k_is)
    (case c_has_with => k_is)
    (case k_has_with => k_is)
    (case a_turn_kind => k_is)
    (case l_turn_kind => k_is)
    (case c_turn_kind => k_is)
    (case k_turn_kind => k_is)
    (case a_signed_letters => k_is)
    (case l_signed_letters => k_is)
    (case c_signed_letters => k_is)
    (case k_signed_letters => k_is)
    (case a_check_kinds => k_is)
    (case l_check_kinds => k_is)
    (case c_check_kinds => k_is)
    (case k_check_kinds => k_is)
    (case a_check_not_empty => k_is)
    (case l_check_not_empty => k_is)
    (case c_check_not_empty => k_is)
    (case k_check_not_empty => k_is)
    (case a_check_row => k_is)
    (case l_check_row => k_is)
    (case c_check_row => k_is)
    (case k_check_row => k_is)
    (case a_check_single => k_is)
    (case l_check_single => k_is)
    (case c_check_single => k_is)
    (case k_check_single => k_is)
    (case a_check_single_row => k_is)
    (case l_check_single_row => k_is)
    (case c_check_single_row => k_is)
    (case k_check_single_row => k_is)
    (case a_letters_in_line => k_is)
    (case l_letters_in_line => k_is)
    (case c_letters_in_line => k_is)
    (case k_letters_in_line => k_is)
    (case a_line_owners => k_is)
    (case l_line_owners => k_is)
    (case c_line_owners => k_is)
    (case k_line_owners => k_is)
    (case a_line => k_is)
    (case l_line => k_is)
    (case c_line => k_is)
    (case k_line => k_is)
    (case a_owners => k_is)
    (case l_owners => k_is)
    (case c_owners => k_is)
    (case k_owners => k_is)
    (case a_turned => k_is)
    (case l_turned => k_is)
    (case c_turned => k_is)
    (case k_turned => k_is)
    (case a_turned_row => k_is)
    (case l_turned_row => k_is)
    (case c_turned_row => k_is)
    (case k_turned_row => k_is)
    (case a__law_pick => k_is)
    (case l__law_pick => k_is)
    (case c__law_pick => k_is)
    (case k__law_pick => k_is)
    (case a__law_pool => k_is)
    (case l__law_pool => k_is)
    (case c__law_pool => k_is)
    (case k__law_pool => k_is)
    (case a__law_shape => k_is)
    (case l__law_shape => k_is)
    (case c__law_shape => k_is)
    (case k__law_shape => k_is)
    (case a__law_size => k_is)
    (case l__law_size => k_is)
    (case c__law_size => k_is)
    (case k__law_size => k_is)
    (case a__law_deep => k_is)
    (case l__law_deep => k_is)
    (case c__law_deep => k_is)
    (case k__law_deep => k_is)
    (case a__law_within => k_is)
    (case l__law_within => k_is)
    (case c__law_within => k_is)
    (case k__law_within => k_is)
    (case a__law_wide => k_is)
    (case l__law_wide => k_is)
    (case c__law_wide => k_is)
    (case k__law_wide => k_is)
    (case a__law_count => k_is)
    (case l__law_count => k_is)
    (case c__law_count => k_is)
    (case k__law_count => k_is)
    (case a__law_shown => k_is)
    (case l__law_shown => k_is)
    (case dl__law_shown => k_is)
    (case dv__law_shown => exact .cons rfl (.nil))
    (case c__law_shown => k_is)
    (case k__law_shown => k_is)
    (case a__law_put => k_is)
    (case l__law_put => k_is)
    (case c__law_put => k_is)
    (case k__law_put => k_is)
    (case a__law_eta => k_is)
    (case l__law_eta => k_is)
    (case c__law_eta => k_is)
    (case k__law_eta => k_is)
    (case a__law_given => k_is)
    (case l__law_given => k_is)
    (case c__law_given => k_is)
    (case k__law_given => k_is)
    (case a__law_grown => k_is)
    (case l__law_grown => k_is)
    (case c__law_grown => k_is)
    (case k__law_grown => k_is)
    (case a__law_made => k_is)
    (case l__law_made => k_is)
    (case c__law_made => k_is)
    (case k__law_made => k_is)
    (case a__law_lane => k_is)
    (case l__law_lane => k_is)
    (case c__law_lane => k_is)
    (case k__law_lane => k_is)
    (case a__law_stands => k_is)
    (case l__law_stands => k_is)
    (case c__law_stands => k_is)
    (case k__law_stands => k_is)
    (case a__law_line => k_is)
    (case l__law_line => k_is)
    (case c__law_line => k_is)
    (case k__law_line => k_is)
    (case a__law_same => k_is)
    (case l__law_same => k_is)
    (case c__law_same => k_is)
    (case k__law_same => k_is)
    (case a__law_spoil => k_is)
    (case l__law_spoil => k_is)
    (case c__law_spoil => k_is)
    (case k__law_spoil => k_is)
    (case a__law_owners => k_is)
    (case l__law_owners => k_is)
    (case c__law_owners => k_is)
    (case k__law_owners => k_is)
    (case a__law_told_right => k_is)
    (case l__law_told_right => k_is)
    (case c__law_told_right => k_is)
    (case k__law_told_right => k_is)
    (case a__law_right => k_is)
    (case l__law_right => k_is)
    (case c__law_right => k_is)
    (case k__law_right => k_is)
    (case a_law => k_is)
    (case l_law => k_is)
    (case c_law => k_is)
    (case k_law => k_is)
    (case z_len => k_is)
    (case z_range => k_is)
    (case z_int => k_is)
    (case z_max => k_is)
    (case z_min => k_is)
    (case z_any => k_is)
    (case z_list => k_is)
    (case z_tuple => k_is)
    (case z_str => k_is)
    (case z_bool => k_is)
    (case z_isinstance => k_is)
    (case z_sum => k_is)
    (case z_enumerate => k_is)
    (case z_abs => k_is)
    (case a_SIGNS => k_is)
    (case l_SIGNS => k_is)
    (case y_SIGNS => k_keys)
    (case o_SIGNS => first | rfl | decide | k_is)
    (case q0_SIGNS => k_is)
    (case q1_SIGNS => k_is)
    (case l1_SIGNS => k_is)
    (case z1_SIGNS => decide)
    (case v1_SIGNS => exact .cons ⟨_, rfl⟩ (.cons ⟨_, rfl⟩ .nil))
    (case q2_SIGNS => k_is)
    (case l2_SIGNS => k_is)
    (case z2_SIGNS => decide)
    (case v2_SIGNS => exact .cons ⟨_, rfl⟩ (.cons ⟨_, rfl⟩ .nil))
    (case q3_SIGNS => k_is)
    (case l3_SIGNS => k_is)
    (case z3_SIGNS => decide)
    (case v3_SIGNS => exact .cons ⟨_, rfl⟩ (.cons ⟨_, rfl⟩ .nil))
    (case a_TURNED => k_is)
    (case l_TURNED => k_is)
    (case y_TURNED => k_keys)
    (case o_TURNED => first | rfl | decide | k_is)
    (case q0_TURNED => k_is)
    (case q1_TURNED => k_is)
    (case q2_TURNED => k_is)
    (case q3_TURNED => k_is)

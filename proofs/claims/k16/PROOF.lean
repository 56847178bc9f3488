import PyProof.Rows.All
import Wide.All
import OpenK.AllK
import Wide.FinOn
import HandS.ForMost
import HandS.ForExc
import HandS.IsInst
import HandS.Style
import HandS.Zip
import HandS.Wide
import HandS.Conv
import HandS.Walk
import HandS.More
import HandS.StrMore
import KE.KDictCopyH
import HandS.TupAny
import HandS.RaiseMore
import KE.KIntText
import PySem.Challenge.RW_murrine_k16_deeds_written
set_option Elab.async false
set_option linter.all false
set_option maxRecDepth 100000
set_option maxHeartbeats 4000000
/-! Lib: what every proof of ours takes: names of the module, tests, the data that the laws compare. -/
namespace Mu
open PySem L2

structure GInt (mg : Str → Option Value) (x : Str) (n : Int) : Prop where
  ex : ∃ t, mg x = some (.int n t)
theorem pe_gint {X : Cx} {x : Str} {n : Int} {pos : Pos} (g : GInt X.mg x n) (hg : Gl X x := by rfl) (hd : (x == ("__debug__" : Str)) = false := by decide) : PE X (.Name x pos) (tC (.int n)) := by
  obtain ⟨t, h⟩ := g.ex
  exact pe_glob hg h ⟨t, rfl⟩ hd
theorem pe_ty {X : Cx} {x : Str} {T : String} {pos : Pos} (hm : X.mg x = none) (hv : bootBuiltins x = some (.type T)) (hg : Gl X x := by rfl) (hn : x ≠ "__name__" := by decide) (hd : (x == ("__debug__" : Str)) = false := by decide) :
    PE X (.Name x pos) (tC (.ty T)) := pe_bltn hg hm hv rfl hn hd

/-! ### tests -/
theorem ifT {c : Bool} {A B : Prop} (hc : c = true) (h : A) : if c = true then A else B := by
  rw [if_pos hc]
  exact h
theorem ifF {c : Bool} {A B : Prop} (hc : c = false) (h : B) : if c = true then A else B := by
  rw [hc, if_neg Bool.false_ne_true]
  exact h
theorem ifD {c A B : Prop} [Decidable c] (hc : c) (h : A) : if decide c = true then A else B := ifT (decide_eq_true hc) h
theorem ifN {c A B : Prop} [Decidable c] (hc : ¬ c) (h : B) : if decide c = true then A else B := ifF (decide_eq_false hc) h
theorem ifD2 {c A B : Prop} [Decidable c] (h1 : c → A) (h2 : ¬ c → B) : if decide c = true then A else B := by
  by_cases h : c
  · exact ifD h (h1 h)
  · exact ifN h (h2 h)

/-- x is True, x is False, x anything -/
theorem op_isV {X : Cx} : OpR X (compareOp .Is) (fun x y H Q => ∃ b : Bool, y = .bl b ∧ Q (.bl (decide (x = .bl b))) H) := by
  intro pins s σ H x y v u Q I rx ry h
  obtain ⟨b, rfl, q⟩ := h
  cases (show u = Value.bool b from ry)
  have other : ∀ {v : Value}, plainIs v (.bool b) = true → (v ≠ Value.bool b) → x ≠ .bl b → wpAny (model X.prog X.w) X.A (compareOp .Is v (.bool b)) (EP X pins σ Q) X.xe s := fun h1 h2 h3 =>
    wpAny_is_other h1 h2 ⟨.bl false, H, I, rfl, by simpa [h3] using q⟩
  cases x with
  | bl a =>
    cases (show v = Value.bool a from rx)
    by_cases e : a = b
    · subst e
      exact wpAny_is_self rfl ⟨.bl true, H, I, rfl, by simpa using q⟩
    · exact wpAny_is_other rfl (fun z => e (Value.bool.inj z)) ⟨.bl false, H, I, rfl, by simpa [e] using q⟩
  | ref a => cases (show v = Value.ref a from rx); exact other rfl (fun z => nomatch z) (fun z => nomatch z)
  | non => cases (show v = Value.none from rx); exact other rfl (fun z => nomatch z) (fun z => nomatch z)
  | int i => obtain ⟨t, rfl⟩ := (show ∃ t, v = Value.int i t from rx); exact other rfl (fun z => nomatch z) (fun z => nomatch z)
  | str i => obtain ⟨t, rfl⟩ := (show ∃ t, v = Value.str i t from rx); exact other rfl (fun z => nomatch z) (fun z => nomatch z)
  | byt i => obtain ⟨t, rfl⟩ := (show ∃ t, v = Value.bytes i t from rx); exact other rfl (fun z => nomatch z) (fun z => nomatch z)
  | flt i => obtain ⟨t, rfl⟩ := (show ∃ t, v = Value.float i t from rx); exact other rfl (fun z => nomatch z) (fun z => nomatch z)
  | ty n => cases (show v = Value.type n from rx); exact other rfl (fun z => nomatch z) (fun z => nomatch z)

/-- an exception of the class at S is what a clause with that class takes -/
theorem exm_self {K : PySem.W.Frag} {S : Addr} (h1 : PySem.W.subIn K (.ref S) (.type "BaseException") = some true) (h2 : PySem.W.isClsIn K S = true) (h3 : PySem.W.typeIn K (.ref S) = some (.type "type")) (h4 : PySem.W.subIn K (.ref S) (.ref S) = some true) :
    PySem.W.exmOne K (.ref S) (.ref S) = some true := by
  have k1 : PySem.W.kitCls K (.ref S) (.ref S) = some true := by
    show (if ((PySem.W.clsIn K S).isSome &&
      PySem.W.typeIn K (.ref S) == some (.type "type")) = true then
        PySem.W.subIn K (.ref S) (.ref S) else none) = some true
    have h2' : (PySem.W.clsIn K S).isSome = true := h2
    rw [if_pos (by rw [h2', h3] <;> rfl), h4]
  unfold PySem.W.exmOne
  rw [if_pos (by rw [h1] <;> rfl), k1]
/-! ### isinstance -/
theorem rd_isi {K : PySem.W.Frag} {x : V} {t n : String} {b : Bool} {H : Hp} {Q : VK} (ty : TyX K H x (.type t)) (hk : PySem.W.kitOne K (.type t) (.type n) = some b) (q : Q (.bl b) H) : rIsi K [x, .ty n] H Q :=
  ⟨x, .ty n, .type t, .type n, b, rfl, .ty n, ty, hk, q⟩
theorem tyx_l {K : PySem.W.Frag} {H : Hp} {a : Addr} {xs : List V} (h : SqL K H a xs) : TyX K H (.ref a) (.type "list") := by
  rcases h with (h | ⟨o, h⟩) | ⟨o, us, n, e, c, _⟩
  · exact .base (.lst h)
  · exact .base (.frz h)
  · exact .kList e c
theorem tyx_t {K : PySem.W.Frag} {H : Hp} {a : Addr} {xs : List V} (h : SqT K H a xs) : TyX K H (.ref a) (.type "tuple") := by
  rcases h with (h | ⟨o, h⟩) | ⟨o, us, n, e, c, _⟩
  · exact .base (.tup h)
  · exact .fTuple h
  · exact .kTuple e c

/-! ### data: what the laws compare -/
inductive Dt where
  | non | bl (b : Bool) | int (i : Int) | str (s : Str) | tup (xs : List Dt) | lst (xs : List Dt)
mutual
inductive DtAt (K : PySem.W.Frag) (H : Hp) : V → Dt → Prop
  | non : DtAt K H .non .non
  | bl (b : Bool) : DtAt K H (.bl b) (.bl b)
  | int (i : Int) : DtAt K H (.int i) (.int i)
  | str (s : Str) : DtAt K H (.str s) (.str s)
  | tup {a : Addr} {vs : List V} {xs : List Dt} (h : SqT K H a vs) (d : DtsAt K H vs xs) : DtAt K H (.ref a) (.tup xs)
  | lst {a : Addr} {vs : List V} {xs : List Dt} (h : SqL K H a vs) (d : DtsAt K H vs xs) : DtAt K H (.ref a) (.lst xs)
inductive DtsAt (K : PySem.W.Frag) (H : Hp) : List V → List Dt → Prop
  | nil : DtsAt K H [] []
  | cons {v : V} {vs : List V} {x : Dt} {xs : List Dt} (h : DtAt K H v x) (t : DtsAt K H vs xs) : DtsAt K H (v :: vs) (x :: xs)
end
mutual
def Dt.dep : Dt → Nat
  | .tup xs => Dt.deps xs + 1
  | .lst xs => Dt.deps xs + 1
  | _ => 0
def Dt.deps : List Dt → Nat
  | [] => 0
  | x :: xs => max x.dep (Dt.deps xs)
end
theorem Same.tup {K : PySem.W.Frag} {H H' : Hp} {a : Addr} {xs : List V} (e : Same H H') (h : SqT K H a xs) : SqT K H' a xs := by
  rcases h with (h | ⟨o, h⟩) | h
  · exact .inl (.inl (e _ _ h))
  · exact .inl (.inr ⟨o, e _ _ h⟩)
  · exact .inr h
mutual
theorem DtAt.same {K : PySem.W.Frag} {H H' : Hp} (e : Same H H') : ∀ {v : V} {x : Dt}, DtAt K H v x → DtAt K H' v x
  | _, _, .non => .non
  | _, _, .bl b => .bl b
  | _, _, .int b => .int b
  | _, _, .str b => .str b
  | _, _, .tup h d => .tup (Same.tup e h) (DtsAt.same e d)
  | _, _, .lst h d => .lst (e.seq h) (DtsAt.same e d)
theorem DtsAt.same {K : PySem.W.Frag} {H H' : Hp} (e : Same H H') : ∀ {vs : List V} {xs : List Dt}, DtsAt K H vs xs → DtsAt K H' vs xs
  | _, _, .nil => .nil
  | _, _, .cons h t => .cons (DtAt.same e h) (DtsAt.same e t)
end
theorem DtsAt.len {K : PySem.W.Frag} {H : Hp} : ∀ {vs : List V} {xs : List Dt}, DtsAt K H vs xs → vs.length = xs.length
  | _, _, .nil => rfl
  | _, _, .cons _ t => congrArg (· + 1) t.len
theorem DtsAt.at {K : PySem.W.Frag} {H : Hp} : ∀ {vs : List V} {xs : List Dt} {i : Nat} {v : V}, DtsAt K H vs xs → vs[i]? = some v → ∃ x, xs[i]? = some x ∧ DtAt K H v x ∧ x.dep ≤ Dt.deps xs
  | _, _, i, v, .nil, e => by simp at e
  | _, _, 0, v, .cons (x := x) (xs := xs) h t, e => by
    cases e
    exact ⟨x, rfl, h, by unfold Dt.deps; omega⟩
  | _, _, i + 1, v, .cons (x := x) (xs := xs) h t, e => by
    obtain ⟨y, h1, h2, h3⟩ := t.at (i := i) (v := v) e
    exact ⟨y, h1, h2, by unfold Dt.deps; omega⟩
theorem Same.new {H : Hp} {p : Addr} {o : HO} (h : H p = none) : Same H (upd H p o) := fun a u e => by
  rw [upd_ne (ne_of_none e h)]
  exact e

theorem yes_in {σ : L2.St} {H : Hp} {Q : Bool → Hp → Prop} (h : Q true H) : tYes σ H Q := h
/-- one turn of a comprehension without tests -/
theorem lc_turn {σ : L2.St} {H : Hp} {A B : Hp → Prop} (h : A H) : tYes σ H (fun b H3 => if b = true then A H3 else B H3) := by
  show if true = true then A H else B H
  rw [if_pos rfl]
  exact h
/-! ### a meeting of ways: one word for what holds behind a statement -/
def tJoin (t u : TS) : TS := fun D σ H => ∃ R : L2.St → Hp → Prop, t { D with nx := R } σ H ∧ ∀ σ' H', R σ' H' → u D σ' H'
theorem pss_join {X : Cx} {st : Stmt} {rest : List Stmt} {t u : TS} (h1 : PS X st t) (h2 : PSs X rest u) : PSs X (st :: rest) (tJoin t u) := by
  refine ⟨fun pins s σ H D I h => ?_⟩
  obtain ⟨R, h, hR⟩ := h
  refine wpAny_execs_cons (thn (h1.run pins s σ H { D with nx := R } I h) fun f s1 q => ?_)
  cases f with
  | next =>
    obtain ⟨σ', H', I', q⟩ := q
    exact h2.run pins s1 σ' H' D I' (hR _ _ q)
  | ret v => exact q
  | brk => exact q
  | cont => exact q
def tCut (t : TE) : TE := fun σ H Q => ∃ R : V → Hp → Prop, t σ H R ∧ ∀ v H', R v H' → Q v H'
theorem pe_cut {X : Cx} {e : Expr} {t : TE} (h : PE X e t) : PE X e (tCut t) := by
  refine ⟨fun pins s σ H Q I hq => ?_⟩
  obtain ⟨R, h1, h2⟩ := hq
  refine thn (h.run pins s σ H R I h1) fun u s1 q => ?_
  obtain ⟨v, H', I', r, q⟩ := q
  exact ⟨v, H', I', r, h2 _ _ q⟩
section
variable {P : Program} {w : World} {K : PySem.W.Frag} {mg : Str → Option Value} {base : Heap}
/-- a promise that is never asked -/
theorem fn_never {CX : CXT} {k : Nat} {f : Addr} {fd : FuncData} {ps : List Str} {sp : Sp} (h : ∀ vs H Q E, ¬ sp vs H Q E) : FnOk P w K mg base CX k f fd ps sp :=
  ⟨fun vs H Q E q => (h _ _ _ _ q).elim, fun A outer s H args us vs Q E hr he hb hv hs => (h _ _ _ _ hs).elim⟩
end
/-! ### a method in a try: what is wished of an exception hangs on the slots -/
section
variable {X : Cx} {CX : CXT} {k : Nat} {f C : Addr} {fd : FuncData} {ps : List Str} {sp : Sp} {E : L2.St → XK} {m : Str} {pos apos : Pos} {e o : Expr} {es : List Expr} {ta : TE} {t : TA}
def tMethE (C : Addr) (m : Str) (sp : Sp) (E : L2.St → XK) (ta : TE) (t : TA) : TE := fun σ H Q => ta σ H fun x H1 => ∃ a dx fs, x = .ref a ∧ H1 a = some (.ins C dx fs) ∧ fs.lookup m = none ∧ t σ H1 fun vs H2 => sp (x :: vs) H2 Q (E σ)
theorem pe_methE {pl : Sem Bool} (he : PE X o ta) (c : Cls X.K C) (hm : Meth X.K C m f) (F : FnOk X.prog X.w X.K X.mg X.base CX k f fd ps sp) (hr : Room k X.A) (hb : Binds X.K fd ps []) (hx : ∀ σ, PassesAt CX X σ (E σ)) (ha : PA X (e :: es) t)
    (hst : starEach (e :: es) X.env = (false, eval e X.env) :: starEach es X.env := by rfl) (hpl : (backTo pos (starEach es X.env)).any (·.1) = false := by rfl)
    (ht : eval (.Call (.Attribute o m apos) (e :: es) [] pos) X.env =
      (eval o X.env >>= fun ov => standAt apos.atName >>= fun _ => holding [ov] (getMethod ov m pl) >>= fun (g, first) =>
        callWith pos g first (backTo pos (starEach (e :: es) X.env)) (backToKw pos (keywordEach [] X.env))) := by rfl) :
    PE X (.Call (.Attribute o m apos) (e :: es) [] pos) (tMethE C m sp E ta t) := by
  refine ⟨fun pins s σ H Q I h => ?_⟩
  refine PySem.W.methodCall_KW (pl := pl) (thn (he.run pins s σ H _ I h) fun u s1 hh => ?_) ht
  obtain ⟨x, H1, I1, rx, a, dx, fs, ex, ea, l, q⟩ := hh
  subst ex
  obtain rfl : u = Value.ref a := rx
  refine getmeth_ok I1 ea c hm l ?_
  refine PySem.W.callWith_K (first := [.ref a]) (h₀ := X.base) I.ok.mod.kin hm.kp (thn (ha.run pos pins s1 σ H1 _ I1 q) fun us s2 hh => ?_) hst hpl
  obtain ⟨vs, H2, I2, r, q2⟩ := hh
  exact ⟨I2.kIn, run_fnS (us := .ref a :: us) (vs := .ref a :: vs) F hr hb (hx σ) I2 (.cons rfl r) q2⟩
end
/-! ### an item of a list, for o[i] op= e -/
def rGetL (K : PySem.W.Frag) : V → V → Hp → VK → Prop := fun x y H Q => ∃ (p : Addr) (xs : List V) (j : Nat) (z : V), x = .ref p ∧ y = .int j ∧ SqL K H p xs ∧ xs[j]? = some z ∧ Q z H
theorem get_listN {X : Cx} : PGet X (rGetL X.K) := by
  intro pins s σ H o i ov iv Q I ro ri h
  obtain ⟨p, xs, j, z, rfl, rfl, hq, hz, q⟩ := h
  cases ro
  obtain ⟨t, rfl⟩ := ri
  obtain ⟨its, r, pl, hz2⟩ := I.list hq
  obtain ⟨w, ew, rw'⟩ := r.get hz
  have hn := line63
  have hl := r.length
  have hj := (List.getElem?_eq_some_iff.mp hz).1
  exact PySem.wpAny_getItem_list pl.isList (by omega) (by omega) (by simpa using ew) ⟨z, H, I, rw', q⟩
end Mu

/-! TurnDefs: the turnings as plain functions. -/
namespace Mu
def rot (s : Int) (p : Int × Int) : Int × Int := (s - 1 - p.2, p.1)
def rotN (s : Int) : Nat → Int × Int → Int × Int
  | 0, p => p
  | n + 1, p => rot s (rotN s n p)
/-- the cell to which (x, y) goes -/
def goesTo (t : Nat) (s x y : Int) : Int × Int := rotN s (t % 4) (if 4 ≤ t then s - 1 - x else x, y)
def backOf (t : Nat) : Nat := if 4 ≤ t then t else (4 - t) % 4
def afterOf (a b : Nat) : Nat := (if 4 ≤ b then (4 - a % 4) + b else a % 4 + b) % 4 + (if (4 ≤ a) = (4 ≤ b) then 0 else 4)
theorem after_lt (a b : Nat) (hb : b < 8) : afterOf a b < 8 := by
  unfold afterOf
  have h := Nat.mod_lt (if 4 ≤ b then (4 - a % 4) + b else a % 4 + b) (show 0 < 4 by decide)
  have h2 : (if (4 ≤ a) = (4 ≤ b) then 0 else 4) ≤ 4 := by split <;> omega
  omega
end Mu

/-! Pic: pictures as such: depth, cells, counts, turnings. No Python here. -/
namespace Mu
inductive Pic where
  | plain (c : Nat)
  | four (a b c d : Pic)
deriving DecidableEq
namespace Pic
def depth : Pic → Nat
  | plain _ => 0
  | four a b c d => 1 + max (max a.depth b.depth) (max c.depth d.depth)
def isPl : Pic → Bool
  | plain _ => true
  | four _ _ _ _ => false
def quarter : Pic → Nat → Pic
  | plain c, _ => plain c
  | four a b c d, j => match j with
    | 0 => a
    | 1 => b
    | 2 => c
    | _ => d
def mk4 (a b c d : Pic) : Pic := if a = b ∧ a = c ∧ a = d ∧ a.isPl = true then a else four a b c d
inductive Ok : Pic → Prop
  | plain {c : Nat} (h : c < 10) : Ok (plain c)
  | four {a b c d : Pic} (ha : Ok a) (hb : Ok b) (hc : Ok c) (hd : Ok d) (hn : ¬ (a = b ∧ a = c ∧ a = d ∧ a.isPl = true)) : Ok (four a b c d)
theorem ok_mk4 {a b c d : Pic} (ha : Ok a) (hb : Ok b) (hc : Ok c) (hd : Ok d) : Ok (mk4 a b c d) := by
  unfold mk4
  split
  · exact ha
  · exact .four ha hb hc hd (by assumption)
theorem mk4_four {a b c d : Pic} (h : Ok (four a b c d)) : mk4 a b c d = four a b c d := by
  cases h with
  | four ha hb hc hd hn => unfold mk4; rw [if_neg hn]
theorem mk4_plain (c : Nat) : mk4 (plain c) (plain c) (plain c) (plain c) = plain c := by
  unfold mk4
  rw [if_pos ⟨rfl, rfl, rfl, rfl⟩]
theorem mk4_quarters {q : Pic} (h : Ok q) : mk4 (q.quarter 0) (q.quarter 1) (q.quarter 2) (q.quarter 3) = q := by
  cases q with
  | plain c => exact mk4_plain c
  | four a b c d => exact mk4_four h
theorem depth_mk4 (a b c d : Pic) : (mk4 a b c d).depth ≤ 1 + max (max a.depth b.depth) (max c.depth d.depth) := by
  unfold mk4
  split
  · omega
  · exact Nat.le_refl _
theorem mk4_cases (a b c d : Pic) : (mk4 a b c d = a ∧ b = a ∧ c = a ∧ d = a ∧ a.isPl = true) ∨ mk4 a b c d = four a b c d := by
  unfold mk4
  split
  · rename_i h
    obtain ⟨h1, h2, h3, h4⟩ := h
    exact .inl ⟨rfl, h1.symm, h2.symm, h3.symm, h4⟩
  · exact .inr rfl
theorem pl_depth {q : Pic} (h : q.isPl = true) : q.depth = 0 := by
  cases q with
  | plain c => rfl
  | four a b c d => cases h
theorem depth_pl {q : Pic} : q.depth = 0 ↔ q.isPl = true := by
  cases q with
  | plain c => simp [depth, isPl]
  | four a b c d => simp [depth, isPl]
theorem mk4_inj {a b c d a' b' c' d' : Pic} (h : mk4 a b c d = mk4 a' b' c' d') : a = a' ∧ b = b' ∧ c = c' ∧ d = d' := by
  rcases mk4_cases a b c d with ⟨e, rfl, rfl, rfl, p⟩ | e <;> rcases mk4_cases a' b' c' d' with ⟨e', rfl, rfl, rfl, p'⟩ | e'
  · rw [e, e'] at h; exact ⟨h, h, h, h⟩
  · rw [e, e'] at h; rw [h] at p; cases p
  · rw [e, e'] at h; rw [← h] at p'; cases p'
  · rw [e, e'] at h; injection h with h1 h2 h3 h4; exact ⟨h1, h2, h3, h4⟩
theorem quarter_mk4 (a b c d : Pic) : (mk4 a b c d).quarter 0 = a ∧ (mk4 a b c d).quarter 1 = b ∧ (mk4 a b c d).quarter 2 = c ∧ (mk4 a b c d).quarter 3 = d := by
  rcases mk4_cases a b c d with ⟨e, rfl, rfl, rfl, p⟩ | e
  · rw [e]
    have key : ∀ x : Pic, x.isPl = true → x.quarter 0 = x ∧ x.quarter 1 = x ∧ x.quarter 2 = x ∧ x.quarter 3 = x := by
      intro x hx
      cases x with
      | plain c => exact ⟨rfl, rfl, rfl, rfl⟩
      | four _ _ _ _ => cases hx
    exact key _ p
  · rw [e]
    exact ⟨rfl, rfl, rfl, rfl⟩
theorem quarter_ok {q : Pic} (h : Ok q) (j : Nat) : Ok (q.quarter j) := by
  cases h with
  | plain h => exact .plain h
  | four ha hb hc hd hn =>
    match j with
    | 0 => exact ha
    | 1 => exact hb
    | 2 => exact hc
    | _ + 3 => exact hd
theorem quarter_depth (q : Pic) (j : Nat) : (q.quarter j).depth ≤ q.depth - 1 := by
  cases q with
  | plain c => exact Nat.zero_le _
  | four a b c d =>
    match j with
    | 0 => show a.depth ≤ 1 + _ - 1; omega
    | 1 => show b.depth ≤ 1 + _ - 1; omega
    | 2 => show c.depth ≤ 1 + _ - 1; omega
    | _ + 3 => show d.depth ≤ 1 + _ - 1; omega
theorem quarter_lt {q : Pic} (h : q.isPl = false) (j : Nat) : (q.quarter j).depth < q.depth := by
  have h1 := quarter_depth q j
  have h2 : q.depth ≠ 0 := fun z => by
    rw [depth_pl.mp z] at h
    cases h
  omega

/-! ### cells -/
def cell : Pic → Nat → Nat → Nat → Nat
  | plain c, _, _, _ => c
  | four _ _ _ _, 0, _, _ => 0
  | four a b c d, k + 1, x, y =>
    if y / 2 ^ k = 0 then (if x / 2 ^ k = 0 then cell a k (x % 2 ^ k) (y % 2 ^ k) else cell b k (x % 2 ^ k) (y % 2 ^ k))
    else (if x / 2 ^ k = 0 then cell c k (x % 2 ^ k) (y % 2 ^ k) else cell d k (x % 2 ^ k) (y % 2 ^ k))
theorem cell_step {q : Pic} (h : q.isPl = false) {k x y : Nat} (hx : x < 2 ^ (k + 1)) (hy : y < 2 ^ (k + 1)) : q.cell (k + 1) x y = (q.quarter (2 * (y / 2 ^ k) + x / 2 ^ k)).cell k (x % 2 ^ k) (y % 2 ^ k) := by
  cases q with
  | plain c => cases h
  | four a b c d =>
    have e : 2 ^ (k + 1) = 2 ^ k * 2 := Nat.pow_succ 2 k
    have px : x / 2 ^ k < 2 := Nat.div_lt_of_lt_mul (by omega)
    have py : y / 2 ^ k < 2 := Nat.div_lt_of_lt_mul (by omega)
    have two : ∀ u : Nat, u < 2 → u = 0 ∨ u = 1 := by omega
    have cx := two _ px
    have cy := two _ py
    show (if y / 2 ^ k = 0 then _ else _) = _
    rcases cx with cx | cx <;> rcases cy with cy | cy <;> rw [cx, cy] <;> rfl
theorem cell_lt {q : Pic} (h : Ok q) : ∀ k x y, q.depth ≤ k → q.cell k x y < 10 := by
  induction h with
  | plain h => intro k x y _; exact h
  | four ha hb hc hd hn ia ib ic id =>
    intro k x y hk
    unfold depth at hk
    cases k with
    | zero => omega
    | succ k =>
      unfold cell
      split <;> split
      · exact ia _ _ _ (by omega)
      · exact ib _ _ _ (by omega)
      · exact ic _ _ _ (by omega)
      · exact id _ _ _ (by omega)

/-! ### counts -/
def cnt : Pic → Nat → Nat → Nat
  | plain p, k, c => if p = c then 4 ^ k else 0
  | four _ _ _ _, 0, _ => 0
  | four a b c d, k + 1, e => a.cnt k e + b.cnt k e + c.cnt k e + d.cnt k e
theorem cnt_more : ∀ (q : Pic) (k c : Nat), q.depth ≤ k → q.cnt (k + 1) c = 4 * q.cnt k c
  | plain p, k, c, _ => by
    unfold cnt
    split
    · rw [Nat.pow_succ, Nat.mul_comm]
    · rfl
  | four a b c d, 0, e, h => by unfold depth at h; omega
  | four a b c d, k + 1, e, h => by
    unfold depth at h
    have h1 := cnt_more a k e (by omega)
    have h2 := cnt_more b k e (by omega)
    have h3 := cnt_more c k e (by omega)
    have h4 := cnt_more d k e (by omega)
    show a.cnt (k + 1) e + b.cnt (k + 1) e + c.cnt (k + 1) e + d.cnt (k + 1) e = 4 * (a.cnt k e + b.cnt k e + c.cnt k e + d.cnt k e)
    omega
theorem cnt_at (q : Pic) (c : Nat) : ∀ (m k : Nat), k = q.depth + m → q.cnt k c = q.cnt q.depth c * 4 ^ m := by
  intro m
  induction m with
  | zero => intro k h; subst h; simp
  | succ m ih =>
    intro k h
    subst h
    have e := cnt_more q (q.depth + m) c (by omega)
    rw [ih _ rfl] at e
    show q.cnt (q.depth + m + 1) c = _
    rw [e, Nat.pow_succ, ← Nat.mul_assoc, ← Nat.mul_assoc, Nat.mul_comm 4, Nat.mul_assoc, Nat.mul_assoc, Nat.mul_comm 4]

/-! ### turnings -/
def turn (t : Nat) : Pic → Pic
  | plain c => plain c
  | four a b c d =>
    match t with
    | 0 => four (turn t a) (turn t b) (turn t c) (turn t d)
    | 1 => four (turn t c) (turn t a) (turn t d) (turn t b)
    | 2 => four (turn t d) (turn t c) (turn t b) (turn t a)
    | 3 => four (turn t b) (turn t d) (turn t a) (turn t c)
    | 4 => four (turn t b) (turn t a) (turn t d) (turn t c)
    | 5 => four (turn t d) (turn t b) (turn t c) (turn t a)
    | 6 => four (turn t c) (turn t d) (turn t a) (turn t b)
    | _ => four (turn t a) (turn t c) (turn t b) (turn t d)
theorem turn_zero : ∀ q : Pic, turn 0 q = q
  | plain c => rfl
  | four a b c d => by
    show four (turn 0 a) (turn 0 b) (turn 0 c) (turn 0 d) = _
    rw [turn_zero a, turn_zero b, turn_zero c, turn_zero d]
theorem eight {t : Nat} (h : t < 8) : t = 0 ∨ t = 1 ∨ t = 2 ∨ t = 3 ∨ t = 4 ∨ t = 5 ∨ t = 6 ∨ t = 7 := by omega
theorem turn_turn : ∀ (q : Pic) (s t : Nat), s < 8 → t < 8 → turn t (turn s q) = turn (afterOf s t) q
  | plain c, s, t, _, _ => rfl
  | four a b c d, s, t, hs, ht => by
    have ha := turn_turn a s t hs ht
    have hb := turn_turn b s t hs ht
    have hc := turn_turn c s t hs ht
    have hd := turn_turn d s t hs ht
    rcases eight hs with rfl | rfl | rfl | rfl | rfl | rfl | rfl | rfl <;> rcases eight ht with rfl | rfl | rfl | rfl | rfl | rfl | rfl | rfl <;>
      (simp only [afterOf] at ha hb hc hd; simp at ha hb hc hd; simp [turn, afterOf, ha, hb, hc, hd])
theorem turn_pl (t : Nat) : ∀ q : Pic, (turn t q).isPl = q.isPl
  | plain c => rfl
  | four a b c d => by
    unfold turn
    split <;> rfl
theorem turn_plain {t : Nat} {q : Pic} (h : q.isPl = true) : turn t q = q := by
  cases q with
  | plain c => rfl
  | four a b c d => cases h
theorem turn_depth (t : Nat) : ∀ q : Pic, (turn t q).depth = q.depth
  | plain c => rfl
  | four a b c d => by
    have ha := turn_depth t a
    have hb := turn_depth t b
    have hc := turn_depth t c
    have hd := turn_depth t d
    unfold turn
    split <;> (unfold depth; omega)
theorem turn_back (q : Pic) {t : Nat} (h : t < 8) : turn (backOf t) (turn t q) = q := by
  have h2 : backOf t < 8 ∧ afterOf t (backOf t) = 0 := by
    rcases eight h with rfl | rfl | rfl | rfl | rfl | rfl | rfl | rfl <;> decide
  rw [turn_turn q t _ h h2.1, h2.2, turn_zero]
theorem turn_inj {q r : Pic} {t : Nat} (h : t < 8) (e : turn t q = turn t r) : q = r := by
  rw [← turn_back q h, e, turn_back r h]
theorem turn_ok {t : Nat} (h : t < 8) {q : Pic} (k : Ok q) : Ok (turn t q) := by
  induction k with
  | plain h => exact .plain h
  | @four a b c d ka kb kc kd hn ia ib ic id =>
    have key : ∀ x y z u : Pic, (x = y ∧ x = z ∧ x = u) → (turn t x).isPl = true → ∀ p, p ∈ [x, y, z, u] → p = x := by
      intro x y z u e _ p hp
      simp at hp
      obtain ⟨rfl, rfl, rfl⟩ := e
      rcases hp with rfl | rfl | rfl | rfl <;> rfl
    unfold turn
    split <;>
    · refine .four ?_ ?_ ?_ ?_ ?_ <;> try assumption
      rintro ⟨e1, e2, e3, e4⟩
      have f1 := turn_inj h e1
      have f2 := turn_inj h e2
      have f3 := turn_inj h e3
      rw [turn_pl] at e4
      apply hn
      subst f1
      subst f2
      subst f3
      exact ⟨rfl, rfl, rfl, e4⟩
/-- the place to which the quarter i goes -/
def dst (t i : Nat) : Nat := (2 * (goesTo t 2 ((i % 2 : Nat) : Int) ((i / 2 : Nat) : Int)).2 + (goesTo t 2 ((i % 2 : Nat) : Int) ((i / 2 : Nat) : Int)).1).toNat
theorem dst_ok : ∀ t, t < 8 → ∀ i, i < 4 → dst t i < 4 ∧ ((dst t i : Nat) : Int) = 2 * (goesTo t 2 ((i % 2 : Nat) : Int) ((i / 2 : Nat) : Int)).2 + (goesTo t 2 ((i % 2 : Nat) : Int) ((i / 2 : Nat) : Int)).1 := by decide
theorem dst_inj : ∀ t, t < 8 → ∀ i, i < 4 → ∀ j, j < 4 → dst t i = dst t j → i = j := by decide
theorem dst_onto : ∀ t, t < 8 → ∀ k, k < 4 → ∃ i, i < 4 ∧ dst t i = k := by decide
theorem quarter_turn {q : Pic} (h : q.isPl = false) : ∀ t, t < 8 → ∀ i, i < 4 → (q.turn t).quarter (dst t i) = (q.quarter i).turn t := by
  intro t ht i hi
  cases q with
  | plain c => cases h
  | four a b c d =>
    have four : i = 0 ∨ i = 1 ∨ i = 2 ∨ i = 3 := by omega
    rcases eight ht with rfl | rfl | rfl | rfl | rfl | rfl | rfl | rfl <;> rcases four with rfl | rfl | rfl | rfl <;> rfl
/-! ### cells of turned pictures -/
theorem half_lo {h x : Nat} (hx : x < h) : x / h = 0 ∧ x % h = x ∧ (2 * h - 1 - x) / h = 1 ∧ (2 * h - 1 - x) % h = h - 1 - x := by
  refine ⟨Nat.div_eq_of_lt hx, Nat.mod_eq_of_lt hx, ?_, ?_⟩
  · have e : 2 * h - 1 - x = h * 1 + (h - 1 - x) := by omega
    rw [e, Nat.mul_add_div (by omega), Nat.div_eq_of_lt (by omega)]
  · have e : 2 * h - 1 - x = h * 1 + (h - 1 - x) := by omega
    rw [e, Nat.mul_add_mod, Nat.mod_eq_of_lt (by omega)]
theorem half_hi {h x : Nat} (hx : h ≤ x) (hx2 : x < 2 * h) : x / h = 1 ∧ x % h = x - h ∧ (2 * h - 1 - x) / h = 0 ∧ (2 * h - 1 - x) % h = h - 1 - (x - h) := by
  refine ⟨?_, ?_, Nat.div_eq_of_lt (by omega), ?_⟩
  · have e : x = h * 1 + (x - h) := by omega
    rw [e, Nat.mul_add_div (by omega), Nat.div_eq_of_lt (by omega)]
  · have e : x = h * 1 + (x - h) := by omega
    rw [e, Nat.mul_add_mod, Nat.mod_eq_of_lt (by omega)]
    omega
  · rw [Nat.mod_eq_of_lt (by omega)]
    omega
theorem cell_rot : ∀ (q : Pic) (k x y : Nat), q.depth ≤ k → x < 2 ^ k → y < 2 ^ k → (turn 1 q).cell k x y = q.cell k y (2 ^ k - 1 - x)
  | plain c, k, x, y, _, _, _ => rfl
  | four a b c d, 0, x, y, h, _, _ => by unfold depth at h; omega
  | four a b c d, k + 1, x, y, h, hx, hy => by
    unfold depth at h
    have e : 2 ^ (k + 1) = 2 * 2 ^ k := by rw [Nat.pow_succ, Nat.mul_comm]
    have hp : 0 < 2 ^ k := Nat.pow_pos (by decide)
    rw [e] at hx hy ⊢
    have my := Nat.mod_lt y hp
    show (if y / 2 ^ k = 0 then (if x / 2 ^ k = 0 then cell (turn 1 c) k _ _ else cell (turn 1 a) k _ _) else (if x / 2 ^ k = 0 then cell (turn 1 d) k _ _ else cell (turn 1 b) k _ _)) =
      (if (2 * 2 ^ k - 1 - x) / 2 ^ k = 0 then (if y / 2 ^ k = 0 then cell a k _ _ else cell b k _ _) else (if y / 2 ^ k = 0 then cell c k _ _ else cell d k _ _))
    by_cases hx' : x < 2 ^ k
    · obtain ⟨h1, h2, h3, h4⟩ := half_lo hx'
      have i1 := cell_rot c k x (y % 2 ^ k) (by omega) hx' my
      have i2 := cell_rot d k x (y % 2 ^ k) (by omega) hx' my
      by_cases hy0 : y / 2 ^ k = 0
      · simp only [h1, h2, h3, h4, hy0, if_true, if_false, Nat.one_ne_zero, i1]
      · simp only [h1, h2, h3, h4, hy0, if_true, if_false, Nat.one_ne_zero, i2]
    · obtain ⟨h1, h2, h3, h4⟩ := half_hi (Nat.le_of_not_lt hx') hx
      have i1 := cell_rot a k (x - 2 ^ k) (y % 2 ^ k) (by omega) (by omega) my
      have i2 := cell_rot b k (x - 2 ^ k) (y % 2 ^ k) (by omega) (by omega) my
      by_cases hy0 : y / 2 ^ k = 0
      · simp only [h1, h2, h3, h4, hy0, if_true, if_false, Nat.one_ne_zero, i1]
      · simp only [h1, h2, h3, h4, hy0, if_true, if_false, Nat.one_ne_zero, i2]
theorem cell_mir : ∀ (q : Pic) (k x y : Nat), q.depth ≤ k → x < 2 ^ k → y < 2 ^ k → (turn 4 q).cell k x y = q.cell k (2 ^ k - 1 - x) y
  | plain c, k, x, y, _, _, _ => rfl
  | four a b c d, 0, x, y, h, _, _ => by unfold depth at h; omega
  | four a b c d, k + 1, x, y, h, hx, hy => by
    unfold depth at h
    have e : 2 ^ (k + 1) = 2 * 2 ^ k := by rw [Nat.pow_succ, Nat.mul_comm]
    have hp : 0 < 2 ^ k := Nat.pow_pos (by decide)
    rw [e] at hx hy ⊢
    have my := Nat.mod_lt y hp
    show (if y / 2 ^ k = 0 then (if x / 2 ^ k = 0 then cell (turn 4 b) k _ _ else cell (turn 4 a) k _ _) else (if x / 2 ^ k = 0 then cell (turn 4 d) k _ _ else cell (turn 4 c) k _ _)) =
      (if y / 2 ^ k = 0 then (if (2 * 2 ^ k - 1 - x) / 2 ^ k = 0 then cell a k _ _ else cell b k _ _) else (if (2 * 2 ^ k - 1 - x) / 2 ^ k = 0 then cell c k _ _ else cell d k _ _))
    by_cases hx' : x < 2 ^ k
    · obtain ⟨h1, h2, h3, h4⟩ := half_lo hx'
      have i1 := cell_mir b k x (y % 2 ^ k) (by omega) hx' my
      have i2 := cell_mir d k x (y % 2 ^ k) (by omega) hx' my
      by_cases hy0 : y / 2 ^ k = 0
      · simp only [h1, h2, h3, h4, hy0, if_true, if_false, Nat.one_ne_zero, i1]
      · simp only [h1, h2, h3, h4, hy0, if_true, if_false, Nat.one_ne_zero, i2]
    · obtain ⟨h1, h2, h3, h4⟩ := half_hi (Nat.le_of_not_lt hx') hx
      have i1 := cell_mir a k (x - 2 ^ k) (y % 2 ^ k) (by omega) (by omega) my
      have i2 := cell_mir c k (x - 2 ^ k) (y % 2 ^ k) (by omega) (by omega) my
      by_cases hy0 : y / 2 ^ k = 0
      · simp only [h1, h2, h3, h4, hy0, if_true, if_false, Nat.one_ne_zero, i1]
      · simp only [h1, h2, h3, h4, hy0, if_true, if_false, Nat.one_ne_zero, i2]
/-- the cell that comes to (x, y): quarter turns back -/
def backN (s : Nat) : Nat → Nat × Nat → Nat × Nat
  | 0, p => p
  | n + 1, p => ((backN s n p).2, s - 1 - (backN s n p).1)
def fromOf (t s x y : Nat) : Nat × Nat := if 3 < t then (s - 1 - (backN s (t % 4) (x, y)).1, (backN s (t % 4) (x, y)).2) else backN s (t % 4) (x, y)
theorem backN_lt {s x y : Nat} (hx : x < s) (hy : y < s) : ∀ n, (backN s n (x, y)).1 < s ∧ (backN s n (x, y)).2 < s
  | 0 => ⟨hx, hy⟩
  | n + 1 => by
    have h := backN_lt hx hy n
    exact ⟨h.2, by show s - 1 - (backN s n (x, y)).1 < s; omega⟩
theorem fromOf_lt {t s x y : Nat} (hx : x < s) (hy : y < s) : (fromOf t s x y).1 < s ∧ (fromOf t s x y).2 < s := by
  have h := backN_lt hx hy (t % 4)
  unfold fromOf
  split
  · exact ⟨by show s - 1 - _ < s; omega, h.2⟩
  · exact h
theorem cell_turn {q : Pic} {t k x y : Nat} (ht : t < 8) (hd : q.depth ≤ k) (hx : x < 2 ^ k) (hy : y < 2 ^ k) : (turn t q).cell k x y = q.cell k (fromOf t (2 ^ k) x y).1 (fromOf t (2 ^ k) x y).2 := by
  have rots : ∀ (n : Nat) (r : Pic), r.depth ≤ k → n < 4 → (turn n r).cell k x y = r.cell k (backN (2 ^ k) n (x, y)).1 (backN (2 ^ k) n (x, y)).2 := by
    intro n
    induction n with
    | zero => intro r _ _; rw [turn_zero]; rfl
    | succ n ih =>
      intro r hr hn
      have e : turn (n + 1) r = turn n (turn 1 r) := by
        rw [turn_turn r 1 n (by decide) (by omega)]
        have : n = 0 ∨ n = 1 ∨ n = 2 := by omega
        rcases this with rfl | rfl | rfl <;> rfl
      have h := backN_lt hx hy n
      rw [e, ih (turn 1 r) (by rw [turn_depth]; exact hr) (by omega), cell_rot r k _ _ hr h.1 h.2]
      rfl
  by_cases h4 : 3 < t
  · have e : turn t q = turn (t % 4) (turn 4 q) := by
      rw [turn_turn q 4 (t % 4) (by decide) (by omega)]
      rcases eight ht with rfl | rfl | rfl | rfl | rfl | rfl | rfl | rfl <;> first | rfl | omega
    have h := backN_lt hx hy (t % 4)
    unfold fromOf
    rw [if_pos h4, e, rots (t % 4) (turn 4 q) (by rw [turn_depth]; exact hd) (by omega), cell_mir q k _ _ hd h.1 h.2]
  · unfold fromOf
    rw [if_neg h4]
    have e : t % 4 = t := by omega
    rw [e]
    exact rots t q hd (by omega)
end Pic
end Mu

/-! FacesAt: what a store of faces looks like in the heap, told by the list of its pictures. -/
namespace Mu
open PySem L2
/-! ### lists -/
theorem nodup_le {α : Type} [DecidableEq α] : ∀ (l m : List α), l.Nodup → (∀ x, x ∈ l → x ∈ m) → l.length ≤ m.length
  | [], m, _, _ => Nat.zero_le _
  | x :: xs, m, h, hs => by
    obtain ⟨h1, h2⟩ := List.nodup_cons.mp h
    have hx : x ∈ m := hs x List.mem_cons_self
    have ih := nodup_le xs (m.erase x) h2 fun y hy => by
      have hne : y ≠ x := fun e => h1 (e ▸ hy)
      exact (List.mem_erase_of_ne hne).mpr (hs y (List.mem_cons_of_mem _ hy))
    rw [List.length_erase_of_mem hx] at ih
    have hp : 0 < m.length := List.length_pos_of_mem hx
    show xs.length + 1 ≤ m.length
    omega
def Pre (S T : List Pic) : Prop := ∃ U, T = S ++ U
theorem Pre.refl (S : List Pic) : Pre S S := ⟨[], (List.append_nil S).symm⟩
theorem Pre.trans {S T U : List Pic} (a : Pre S T) (b : Pre T U) : Pre S U := by
  obtain ⟨x, rfl⟩ := a
  obtain ⟨y, rfl⟩ := b
  exact ⟨x ++ y, List.append_assoc _ _ _⟩
theorem Pre.snoc (S : List Pic) (q : Pic) : Pre S (S ++ [q]) := ⟨[q], rfl⟩
theorem Pre.at {S T : List Pic} (a : Pre S T) {i : Nat} {q : Pic} (h : S[i]? = some q) : T[i]? = some q := by
  obtain ⟨x, rfl⟩ := a
  rw [List.getElem?_append_left (List.getElem?_eq_some_iff.mp h).1]
  exact h
theorem Pre.len {S T : List Pic} (a : Pre S T) : S.length ≤ T.length := by
  obtain ⟨x, rfl⟩ := a
  rw [List.length_append]
  omega
theorem at_lt {α : Type} {S : List α} {i : Nat} {q : α} (h : S[i]? = some q) : i < S.length := (List.getElem?_eq_some_iff.mp h).1
theorem at_of_lt {α : Type} {S : List α} {i : Nat} (h : i < S.length) : ∃ q, S[i]? = some q := ⟨S[i], List.getElem?_eq_getElem h⟩
theorem at_mem {α : Type} {S : List α} {i : Nat} {q : α} (h : S[i]? = some q) : q ∈ S := List.mem_of_getElem? h
theorem mem_at {α : Type} {S : List α} {q : α} (h : q ∈ S) : ∃ i : Nat, S[i]? = some q := List.getElem?_of_mem h
theorem at_last {α : Type} (S : List α) (q : α) : (S ++ [q])[S.length]? = some q := by simp
theorem at_snoc {α : Type} {S : List α} {q r : α} {i : Nat} (h : (S ++ [q])[i]? = some r) : S[i]? = some r ∨ (i = S.length ∧ r = q) := by
  by_cases hi : i < S.length
  · rw [List.getElem?_append_left hi] at h
    exact .inl h
  · have hl := at_lt h
    rw [List.length_append] at hl
    have : i = S.length := by simp at hl; omega
    subst this
    rw [at_last] at h
    cases h
    exact .inr ⟨rfl, rfl⟩
/-! ### how many there may be -/
def Bd (S : List Pic) (n : Nat) : Prop := ∃ B : List Pic, B.length ≤ n ∧ ∀ q, q ∈ S → ∃ r, r ∈ B ∧ ∃ t, t < 8 ∧ q = r.turn t
theorem flat_len (B : List Pic) : (B.flatMap fun r => (List.range 8).map fun t => r.turn t).length = 8 * B.length := by
  induction B with
  | nil => rfl
  | cons r B ih =>
    rw [List.flatMap_cons, List.length_append, ih, List.length_map, List.length_range, List.length_cons]
    omega
theorem Bd.len {S : List Pic} {n : Nat} (h : Bd S n) (nd : S.Nodup) : S.length ≤ 8 * n := by
  obtain ⟨B, hB, hq⟩ := h
  have h1 := nodup_le S (B.flatMap fun r => (List.range 8).map fun t => r.turn t) nd fun q hm => by
    obtain ⟨r, hr, t, ht, e⟩ := hq q hm
    exact List.mem_flatMap.mpr ⟨r, hr, List.mem_map.mpr ⟨t, List.mem_range.mpr ht, e.symm⟩⟩
  rw [flat_len] at h1
  omega
theorem Bd.more {S : List Pic} {n : Nat} (h : Bd S n) (q : Pic) : Bd (S ++ [q]) (n + 1) := by
  obtain ⟨B, hB, hq⟩ := h
  refine ⟨q :: B, by rw [List.length_cons]; omega, fun r hr => ?_⟩
  rcases List.mem_append.mp hr with h1 | h1
  · obtain ⟨x, hx, t, ht, e⟩ := hq r h1
    exact ⟨x, List.mem_cons_of_mem _ hx, t, ht, e⟩
  · have : r = q := by simpa using h1
    subst this
    exact ⟨r, List.mem_cons_self, 0, by decide, (Pic.turn_zero r).symm⟩
theorem Bd.turned {S : List Pic} {n : Nat} (h : Bd S n) {q : Pic} (hq : q ∈ S) {t : Nat} (ht : t < 8) : Bd (S ++ [q.turn t]) n := by
  obtain ⟨B, hB, hS⟩ := h
  refine ⟨B, hB, fun r hr => ?_⟩
  rcases List.mem_append.mp hr with h1 | h1
  · exact hS r h1
  · have : r = q.turn t := by simpa using h1
    subst this
    obtain ⟨x, hx, s, hs, rfl⟩ := hS q hq
    exact ⟨x, hx, afterOf s t, after_lt s t ht, Pic.turn_turn x s t hs ht⟩
theorem Bd.mono {S : List Pic} {n m : Nat} (h : Bd S n) (hm : n ≤ m) : Bd S m := by
  obtain ⟨B, hB, hS⟩ := h
  exact ⟨B, by omega, hS⟩
structure Good (S : List Pic) (n : Nat) : Prop where
  nd : S.Nodup
  ok : ∀ q, q ∈ S → q.Ok
  dp : ∀ q, q ∈ S → q.depth ≤ 12
  cl : ∀ q, q ∈ S → ∀ j, q.quarter j ∈ S
  bd : Bd S n
theorem Good.len {S : List Pic} {n : Nat} (g : Good S n) : S.length ≤ 8 * n := g.bd.len g.nd
theorem Good.ix {S : List Pic} {n : Nat} (g : Good S n) {i j : Nat} {q : Pic} (a : S[i]? = some q) (b : S[j]? = some q) : i = j := nd_ix g.nd a b
theorem Good.add {S : List Pic} {n m : Nat} (g : Good S n) {q : Pic} (hq : q ∉ S) (ok : q.Ok) (dp : q.depth ≤ 12) (cl : ∀ j, q.quarter j ∈ S ++ [q]) (bd : Bd (S ++ [q]) m) : Good (S ++ [q]) m where
  nd := by
    rw [List.nodup_append]
    refine ⟨g.nd, by simp, fun a ha b hb => ?_⟩
    have : b = q := by simpa using hb
    subst this
    exact fun e => hq (e ▸ ha)
  ok := fun r hr => by
    rcases List.mem_append.mp hr with h | h
    · exact g.ok r h
    · have : r = q := by simpa using h
      rw [this]; exact ok
  dp := fun r hr => by
    rcases List.mem_append.mp hr with h | h
    · exact g.dp r h
    · have : r = q := by simpa using h
      rw [this]; exact dp
  cl := fun r hr j => by
    rcases List.mem_append.mp hr with h | h
    · exact List.mem_append_left _ (g.cl r h j)
    · have : r = q := by simpa using h
      rw [this]; exact cl j
  bd := bd
/-! ### the dicts -/
structure PlsOk (kvs : List (Key × V)) (S : List Pic) : Prop where
  len : kvs.length ≤ S.length
  to : ∀ (k f : Nat), S[f]? = some (.plain k) → valV kvs (Sum.inl (k : Int)) = some (.int f)
  fro : ∀ (c : Int) (v : V), valV kvs (Sum.inl c) = some v → ∃ k f : Nat, c = k ∧ v = .int f ∧ S[f]? = some (.plain k)
def key4 (a b c d : Nat) : List Key := [Sum.inl (a : Int), Sum.inl (b : Int), Sum.inl (c : Int), Sum.inl (d : Int)]
def key2 (a t : Nat) : List Key := [Sum.inl (a : Int), Sum.inl (t : Int)]
theorem key4_inj {a b c d a' b' c' d' : Nat} (h : key4 a b c d = key4 a' b' c' d') : a = a' ∧ b = b' ∧ c = c' ∧ d = d' := by
  unfold key4 at h
  simp at h
  omega
theorem key2_inj {a t a' t' : Nat} (h : key2 a t = key2 a' t') : a = a' ∧ t = t' := by
  unfold key2 at h
  simp at h
  omega
structure FosOk (kvs : List (List Key × V)) (S : List Pic) : Prop where
  len : kvs.length ≤ S.length
  to : ∀ (a b c d f : Nat) (qa qb qc qd : Pic), S[a]? = some qa → S[b]? = some qb → S[c]? = some qc → S[d]? = some qd → S[f]? = some (Pic.mk4 qa qb qc qd) → valV kvs (key4 a b c d) = some (.int f)
  fro : ∀ (a b c d : Nat) (v : V) (qa qb qc qd : Pic), S[a]? = some qa → S[b]? = some qb → S[c]? = some qc → S[d]? = some qd → valV kvs (key4 a b c d) = some v → ∃ f : Nat, v = .int f ∧ S[f]? = some (Pic.mk4 qa qb qc qd)
  bnd : ∀ (a b c d : Nat) (v : V), valV kvs (key4 a b c d) = some v → a < S.length ∧ b < S.length ∧ c < S.length ∧ d < S.length
structure TusOk (kvs : List (List Key × V)) (S : List Pic) : Prop where
  nd : (kvs.map (·.1)).Nodup
  ks : ∀ k, k ∈ kvs.map (·.1) → ∃ f t : Nat, k = key2 f t ∧ f < S.length ∧ t < 8
  fro : ∀ (f t : Nat) (v : V) (q : Pic), valV kvs (key2 f t) = some v → S[f]? = some q → ∃ g : Nat, v = .int g ∧ S[g]? = some (q.turn t)
theorem PlsOk.add_plain {kvs : List (Key × V)} {S : List Pic} (h : PlsOk kvs S) {k : Nat} (hk : Pic.plain k ∉ S) : PlsOk (putK kvs (Sum.inl (k : Int)) (.int S.length)) (S ++ [.plain k]) where
  len := by
    have := length_putK kvs (Sum.inl (k : Int)) (.int S.length)
    have := h.len
    rw [List.length_append]
    simp
    omega
  to := fun j f e => by
    rw [valV_put]
    rcases at_snoc e with e | ⟨rfl, e'⟩
    · have hjk : j ≠ k := fun z => hk (z ▸ at_mem e)
      rw [if_neg (by intro z; apply hjk; injection z with z; omega)]
      exact h.to j f e
    · injection e' with e'
      subst e'
      rw [if_pos rfl]
  fro := fun c v e => by
    rw [valV_put] at e
    split at e
    · rename_i hc
      injection hc with hc
      cases e
      exact ⟨k, S.length, hc, rfl, at_last _ _⟩
    · obtain ⟨j, f, h1, h2, h3⟩ := h.fro c v e
      exact ⟨j, f, h1, h2, (Pre.snoc _ _).at h3⟩
theorem PlsOk.add_four {kvs : List (Key × V)} {S : List Pic} (h : PlsOk kvs S) {q : Pic} (hq : q.isPl = false) : PlsOk kvs (S ++ [q]) where
  len := by
    have := h.len
    rw [List.length_append]
    omega
  to := fun j f e => by
    rcases at_snoc e with e | ⟨rfl, e'⟩
    · exact h.to j f e
    · rw [← e'] at hq
      cases hq
  fro := fun c v e => by
    obtain ⟨j, f, h1, h2, h3⟩ := h.fro c v e
    exact ⟨j, f, h1, h2, (Pre.snoc _ _).at h3⟩
theorem snoc_ix {S : List Pic} (nd : S.Nodup) {q : Pic} (hq : q ∉ S) {i j : Nat} {r : Pic} (e1 : (S ++ [q])[i]? = some r) (e2 : (S ++ [q])[j]? = some r) : i = j := by
  refine nd_ix ?_ e1 e2
  rw [List.nodup_append]
  refine ⟨nd, by simp, fun a ha b hb => ?_⟩
  have : b = q := by simpa using hb
  rw [this]
  exact fun e => hq (e ▸ ha)
theorem snoc_old {S : List Pic} {q : Pic} {x : Nat} {r : Pic} (e : (S ++ [q])[x]? = some r) (hr : r ≠ q) : S[x]? = some r := by
  rcases at_snoc e with e | ⟨_, e⟩
  · exact e
  · exact absurd e hr
theorem FosOk.add {kvs : List (List Key × V)} {S : List Pic} {n : Nat} (g : Good S n) (h : FosOk kvs S) {q : Pic} (hq : q ∉ S) (okq : q.Ok) {a b c d : Nat} (ha : (S ++ [q])[a]? = some (q.quarter 0)) (hb : (S ++ [q])[b]? = some (q.quarter 1)) (hc : (S ++ [q])[c]? = some (q.quarter 2)) (hd : (S ++ [q])[d]? = some (q.quarter 3)) :
    FosOk (putK kvs (key4 a b c d) (.int S.length)) (S ++ [q]) := by
  refine ⟨?_, fun x y z u f qx qy qz qu ex ey ez eu ef => ?_, fun x y z u v qx qy qz qu ex ey ez eu e => ?_, fun x y z u v e => ?_⟩
  · have := length_putK kvs (key4 a b c d) (.int S.length)
    have := h.len
    rw [List.length_append]
    simp
    omega
  · rw [valV_put]
    by_cases hk : key4 x y z u = key4 a b c d
    · obtain ⟨rfl, rfl, rfl, rfl⟩ := key4_inj hk
      rw [if_pos rfl]
      cases ha.symm.trans ex; cases hb.symm.trans ey; cases hc.symm.trans ez; cases hd.symm.trans eu
      rw [Pic.mk4_quarters okq] at ef
      rw [snoc_ix g.nd hq ef (at_last S q)]
    · rw [if_neg hk]
      obtain ⟨m1, m2, m3, m4⟩ := Pic.quarter_mk4 qx qy qz qu
      rcases at_snoc ef with ef' | ⟨_, ef'⟩
      · -- the picture is old: so are its quarters
        have cl := g.cl _ (at_mem ef')
        have n1 : qx ≠ q := fun e => hq (e ▸ m1 ▸ cl 0)
        have n2 : qy ≠ q := fun e => hq (e ▸ m2 ▸ cl 1)
        have n3 : qz ≠ q := fun e => hq (e ▸ m3 ▸ cl 2)
        have n4 : qu ≠ q := fun e => hq (e ▸ m4 ▸ cl 3)
        exact h.to x y z u f qx qy qz qu (snoc_old ex n1) (snoc_old ey n2) (snoc_old ez n3) (snoc_old eu n4) ef'
      · exfalso
        apply hk
        rw [ef'] at m1 m2 m3 m4
        rw [← m1] at ex; rw [← m2] at ey; rw [← m3] at ez; rw [← m4] at eu
        rw [snoc_ix g.nd hq ex ha, snoc_ix g.nd hq ey hb, snoc_ix g.nd hq ez hc, snoc_ix g.nd hq eu hd]
  · rw [valV_put] at e
    by_cases hk : key4 x y z u = key4 a b c d
    · obtain ⟨rfl, rfl, rfl, rfl⟩ := key4_inj hk
      rw [if_pos rfl] at e
      cases e
      cases ha.symm.trans ex; cases hb.symm.trans ey; cases hc.symm.trans ez; cases hd.symm.trans eu
      rw [Pic.mk4_quarters okq]
      exact ⟨S.length, rfl, at_last _ _⟩
    · rw [if_neg hk] at e
      obtain ⟨l1, l2, l3, l4⟩ := h.bnd x y z u v e
      rw [List.getElem?_append_left l1] at ex
      rw [List.getElem?_append_left l2] at ey
      rw [List.getElem?_append_left l3] at ez
      rw [List.getElem?_append_left l4] at eu
      obtain ⟨f, h1, h2⟩ := h.fro x y z u v qx qy qz qu ex ey ez eu e
      exact ⟨f, h1, (Pre.snoc _ _).at h2⟩
  · rw [valV_put] at e
    by_cases hk : key4 x y z u = key4 a b c d
    · obtain ⟨rfl, rfl, rfl, rfl⟩ := key4_inj hk
      exact ⟨at_lt ha, at_lt hb, at_lt hc, at_lt hd⟩
    · rw [if_neg hk] at e
      obtain ⟨l1, l2, l3, l4⟩ := h.bnd x y z u v e
      rw [List.length_append]
      exact ⟨by omega, by omega, by omega, by omega⟩
theorem TusOk.mono {kvs : List (List Key × V)} {S T : List Pic} (h : TusOk kvs S) (p : Pre S T) : TusOk kvs T where
  nd := h.nd
  ks := fun k hk => by
    obtain ⟨f, t, e, h1, h2⟩ := h.ks k hk
    exact ⟨f, t, e, Nat.lt_of_lt_of_le h1 p.len, h2⟩
  fro := fun f t v q e eq => by
    obtain ⟨f', t', e', h1, h2⟩ := h.ks _ (valV_in e)
    obtain ⟨rfl, rfl⟩ := key2_inj e'
    obtain ⟨r, hr⟩ := at_of_lt h1
    cases (p.at hr).symm.trans eq
    obtain ⟨g, hg, hS⟩ := h.fro f t v q e hr
    exact ⟨g, hg, p.at hS⟩
theorem TusOk.add {kvs : List (List Key × V)} {S : List Pic} (h : TusOk kvs S) {f t g : Nat} {q : Pic} (hf : S[f]? = some q) (ht : t < 8) (hg : S[g]? = some (q.turn t)) (hn : valV kvs (key2 f t) = none) : TusOk (putK kvs (key2 f t) (.int g)) S where
  nd := nd_putK _ h.nd hn
  ks := fun k hk => by
    rw [putK_new _ hn, List.map_append] at hk
    rcases List.mem_append.mp hk with hk | hk
    · exact h.ks k hk
    · have : k = key2 f t := by simpa using hk
      exact ⟨f, t, this, at_lt hf, ht⟩
  fro := fun f' t' v q' e e' => by
    rw [valV_put] at e
    by_cases hk : key2 f' t' = key2 f t
    · obtain ⟨rfl, rfl⟩ := key2_inj hk
      rw [if_pos rfl] at e
      cases e
      cases hf.symm.trans e'
      exact ⟨g, rfl, hg⟩
    · rw [if_neg hk] at e
      exact h.fro f' t' v q' e e'
theorem TusOk.put_same {kvs : List (List Key × V)} {S : List Pic} (h : TusOk kvs S) {k : List Key} {v : V} (e : valV kvs k = some v) : TusOk (putK kvs k v) S := by
  have hk : (putK kvs k v).map (·.1) = kvs.map (·.1) := by
    unfold putK
    have ha : (kvs.any fun kv => decide (kv.1 = k)) = true := by rw [valV_any, e]; rfl
    rw [if_pos ha, List.map_map]
    apply List.map_congr_left
    intro kv _
    simp only [Function.comp_apply]
    split <;> rfl
  have hv : ∀ j, valV (putK kvs k v) j = valV kvs j := fun j => by
    rw [valV_put]
    split
    · rename_i hj
      rw [hj, e]
    · rfl
  exact ⟨by rw [hk]; exact h.nd, fun x hx => h.ks x (by rw [← hk]; exact hx), fun f t v q e' => h.fro f t v q (by rw [← hv]; exact e')⟩
theorem TusOk.len {kvs : List (List Key × V)} {S : List Pic} (h : TusOk kvs S) : kvs.length ≤ 8 * S.length := by
  have h1 := nodup_le (kvs.map (·.1)) ((List.range S.length).flatMap fun f => (List.range 8).map fun t => key2 f t) h.nd fun k hk => by
    obtain ⟨f, t, rfl, h1, h2⟩ := h.ks k hk
    exact List.mem_flatMap.mpr ⟨f, List.mem_range.mpr h1, List.mem_map.mpr ⟨t, List.mem_range.mpr h2, rfl⟩⟩
  have h2 : ∀ l : List Nat, (l.flatMap fun f => (List.range 8).map fun t => key2 f t).length = 8 * l.length := by
    intro l
    induction l with
    | nil => rfl
    | cons r B ih =>
      rw [List.flatMap_cons, List.length_append, ih, List.length_map, List.length_range, List.length_cons]
      omega
  rw [h2, List.length_range, List.length_map] at h1
  exact h1
/-! ### the heap -/
structure FL where
  dx : Addr
  dep : Addr
  col : Addr
  fou : Addr
  tal : Addr
  pls : Addr
  fos : Addr
  tus : Addr
def FL.all (L : FL) : List Addr := [L.dep, L.col, L.fou, L.tal, L.pls, L.fos, L.tus]
def flds (L : FL) : List (Str × V) := [("depths", .ref L.dep), ("colours", .ref L.col), ("fours", .ref L.fou), ("tallies", .ref L.tal), ("plain_faces", .ref L.pls), ("four_faces", .ref L.fos), ("turned_faces", .ref L.tus)]
def colV : Pic → V
  | .plain c => .int (c : Nat)
  | .four _ _ _ _ => .non
def QuOk (H : Hp) (S : List Pic) (r : Addr) (q : Pic) : Prop := ∃ a b c d : Nat, H r = some (.tup [.int a, .int b, .int c, .int d]) ∧ S[a]? = some (q.quarter 0) ∧ S[b]? = some (q.quarter 1) ∧ S[c]? = some (q.quarter 2) ∧ S[d]? = some (q.quarter 3)
def talV (q : Pic) : List V := (List.range 10).map fun c => V.int (q.cnt q.depth c : Nat)
structure FacesAt (C : Addr) (H : Hp) (p : Addr) (L : FL) (S : List Pic) (n : Nat) : Prop where
  ob : H p = some (.ins C L.dx (flds L))
  nd : L.all.Nodup
  dep : H L.dep = some (.lst (S.map fun q => V.int (q.depth : Nat)))
  col : H L.col = some (.lst (S.map colV))
  fou : ∃ rs : List Addr, H L.fou = some (.lst (rs.map V.ref)) ∧ rs.length = S.length ∧ ∀ (i : Nat) r q, rs[i]? = some r → S[i]? = some q → QuOk H S r q
  tal : ∃ rs : List Addr, H L.tal = some (.lst (rs.map V.ref)) ∧ rs.length = S.length ∧ ∀ (i : Nat) r q, rs[i]? = some r → S[i]? = some q → H r = some (.tup (talV q))
  pls : ∃ kvs, H L.pls = some (.dK kvs) ∧ PlsOk kvs S
  fos : ∃ kvs, H L.fos = some (.dT kvs) ∧ FosOk kvs S
  tus : ∃ kvs, H L.tus = some (.dT kvs) ∧ TusOk kvs S
  good : Good S n
theorem FacesAt.same {C : Addr} {H H' : Hp} {p : Addr} {L : FL} {S : List Pic} {n : Nat} (F : FacesAt C H p L S n) (e : Same H H') : FacesAt C H' p L S n where
  ob := e _ _ F.ob
  nd := F.nd
  dep := e _ _ F.dep
  col := e _ _ F.col
  fou := by
    obtain ⟨rs, h1, h2, h3⟩ := F.fou
    refine ⟨rs, e _ _ h1, h2, fun i r q hr hq => ?_⟩
    obtain ⟨a, b, c, d, h4, h5⟩ := h3 i r q hr hq
    exact ⟨a, b, c, d, e _ _ h4, h5⟩
  tal := by
    obtain ⟨rs, h1, h2, h3⟩ := F.tal
    exact ⟨rs, e _ _ h1, h2, fun i r q hr hq => e _ _ (h3 i r q hr hq)⟩
  pls := by
    obtain ⟨kvs, h1, h2⟩ := F.pls
    exact ⟨kvs, e _ _ h1, h2⟩
  fos := by
    obtain ⟨kvs, h1, h2⟩ := F.fos
    exact ⟨kvs, e _ _ h1, h2⟩
  tus := by
    obtain ⟨kvs, h1, h2⟩ := F.tus
    exact ⟨kvs, e _ _ h1, h2⟩
  good := F.good
theorem FacesAt.mono {C : Addr} {H : Hp} {p : Addr} {L : FL} {S : List Pic} {n m : Nat} (F : FacesAt C H p L S n) (h : n ≤ m) : FacesAt C H p L S m :=
  { F with good := { F.good with bd := F.good.bd.mono h } }
/-- what else stands: R, none of it the store's own -/
structure Rest (L : FL) (R H : Hp) : Prop where
  le : Same R H
  dj : ∀ b, b ∈ L.all → R b = none
theorem Rest.new {C : Addr} {H R : Hp} {p : Addr} {L : FL} {S : List Pic} {n : Nat} {q : Addr} {o : HO} (r : Rest L R H) (F : FacesAt C H p L S n) (h : H q = none) : Rest L (upd R q o) (upd H q o) where
  le := fun b u e => by
    unfold upd at e ⊢
    split at e
    · rename_i hb
      rw [if_pos hb]; exact e
    · rename_i hb
      rw [if_neg hb]; exact r.le b u e
  dj := fun b hb => by
    have : b ≠ q := by
      rintro rfl
      have hh : ∃ o, H b = some o := by
        obtain ⟨_, h1, _⟩ := F.fou
        obtain ⟨_, h2, _⟩ := F.tal
        obtain ⟨_, h3, _⟩ := F.pls
        obtain ⟨_, h4, _⟩ := F.fos
        obtain ⟨_, h5, _⟩ := F.tus
        simp [FL.all] at hb
        rcases hb with rfl | rfl | rfl | rfl | rfl | rfl | rfl
        · exact ⟨_, F.dep⟩
        · exact ⟨_, F.col⟩
        · exact ⟨_, h1⟩
        · exact ⟨_, h2⟩
        · exact ⟨_, h3⟩
        · exact ⟨_, h4⟩
        · exact ⟨_, h5⟩
      obtain ⟨o, ho⟩ := hh
      rw [h] at ho; cases ho
    rw [upd_ne this]
    exact r.dj b hb
theorem Rest.up {L : FL} {R H H' : Hp} (r : Rest L R H) (e : Same H H') : Rest L R H' := ⟨r.le.trans e, r.dj⟩
/-! ### the empty store -/
structure InitStep (H H2 : Hp) (p l : Addr) (x o : HO) : Prop where
  at_p : H2 p = some x
  at_l : H2 l = some o
  keep : ∀ b u, b ≠ p → H b = some u → H2 b = some u
  ne : l ≠ p
  new : H l = none
theorem init_step {H : Hp} {p l : Addr} {x0 : HO} (x o : HO) (hp : H p = some x0) (hl : H l = none) : ∃ H2, upd (upd H l o) p x = H2 ∧ InitStep H H2 p l x o := by
  have ne : l ≠ p := (ne_of_none hp hl).symm
  exact ⟨_, rfl, upd_same, by rw [upd_ne ne, upd_same], fun b u hb e => by rw [upd_ne hb, upd_ne (ne_of_none e hl)]; exact e, ne, hl⟩
theorem faces_nil {C : Addr} {H : Hp} {p : Addr} {L : FL} (ob : H p = some (.ins C L.dx (flds L))) (nd : L.all.Nodup) (h1 : H L.dep = some (.lst [])) (h2 : H L.col = some (.lst [])) (h3 : H L.fou = some (.lst [])) (h4 : H L.tal = some (.lst []))
    (h5 : H L.pls = some (.dK [])) (h6 : H L.fos = some (.dT [])) (h7 : H L.tus = some (.dT [])) : FacesAt C H p L [] 0 where
  ob := ob
  nd := nd
  dep := h1
  col := h2
  fou := ⟨[], h3, rfl, fun i r q h _ => (by simp at h)⟩
  tal := ⟨[], h4, rfl, fun i r q h _ => (by simp at h)⟩
  pls := ⟨[], h5, ⟨Nat.le_refl _, fun k f h => (by simp at h), fun c v h => (by cases h)⟩⟩
  fos := ⟨[], h6, ⟨Nat.le_refl _, fun a b c d f _ _ _ _ h => (by simp at h), fun a b c d v _ _ _ _ h => (by simp at h), fun a b c d v h => (by cases h)⟩⟩
  tus := ⟨[], h7, ⟨List.nodup_nil, fun k h => (by cases h), fun f t v q h => (by cases h)⟩⟩
  good := ⟨List.nodup_nil, fun q h => (by cases h), fun q h => (by cases h), fun q h => (by cases h), ⟨[], Nat.le_refl _, fun q h => (by cases h)⟩⟩
/-! ### the store while a picture is met -/
structure Cur (H0 H : Hp) (L : FL) (v1 v2 v3 v4 v5 v6 v7 : HO) : Prop where
  nd : L.all.Nodup
  dep : H L.dep = some v1
  col : H L.col = some v2
  fou : H L.fou = some v3
  tal : H L.tal = some v4
  pls : H L.pls = some v5
  fos : H L.fos = some v6
  tus : H L.tus = some v7
  keep : ∀ b o, H0 b = some o → b ∉ L.all → H b = some o
section
variable {H0 H H' : Hp} {L : FL} {v1 v2 v3 v4 v5 v6 v7 : HO}
theorem Cur.same (c : Cur H0 H L v1 v2 v3 v4 v5 v6 v7) (e : Same H H') : Cur H0 H' L v1 v2 v3 v4 v5 v6 v7 :=
  ⟨c.nd, e _ _ c.dep, e _ _ c.col, e _ _ c.fou, e _ _ c.tal, e _ _ c.pls, e _ _ c.fos, e _ _ c.tus, fun b o h1 h2 => e _ _ (c.keep b o h1 h2)⟩
theorem Cur.new {q : Addr} {o : HO} (c : Cur H0 H L v1 v2 v3 v4 v5 v6 v7) (h : H q = none) : Cur H0 (upd H q o) L v1 v2 v3 v4 v5 v6 v7 := c.same (Same.new h)
theorem Cur.base (c : Cur H0 H L v1 v2 v3 v4 v5 v6 v7) : Cur H H L v1 v2 v3 v4 v5 v6 v7 := { c with keep := fun b o e _ => e }
theorem Cur.comp {u1 u2 u3 u4 u5 u6 u7 : HO} (c : Cur H0 H L u1 u2 u3 u4 u5 u6 u7) (d : Cur H H' L v1 v2 v3 v4 v5 v6 v7) : Cur H0 H' L v1 v2 v3 v4 v5 v6 v7 :=
  { d with keep := fun b o e hb => d.keep b o (c.keep b o e hb) hb }
theorem Cur.off (c : Cur H0 H L v1 v2 v3 v4 v5 v6 v7) {q : Addr} (h : H q = none) : q ∉ L.all := fun hb => by
  simp only [FL.all, List.mem_cons, List.not_mem_nil, or_false] at hb
  rcases hb with rfl | rfl | rfl | rfl | rfl | rfl | rfl
  · rw [c.dep] at h; cases h
  · rw [c.col] at h; cases h
  · rw [c.fou] at h; cases h
  · rw [c.tal] at h; cases h
  · rw [c.pls] at h; cases h
  · rw [c.fos] at h; cases h
  · rw [c.tus] at h; cases h
theorem FL.ne {L : FL} (nd : L.all.Nodup) : (L.dep ≠ L.col ∧ L.dep ≠ L.fou ∧ L.dep ≠ L.tal ∧ L.dep ≠ L.pls ∧ L.dep ≠ L.fos ∧ L.dep ≠ L.tus) ∧ (L.col ≠ L.fou ∧ L.col ≠ L.tal ∧ L.col ≠ L.pls ∧ L.col ≠ L.fos ∧ L.col ≠ L.tus) ∧
    (L.fou ≠ L.tal ∧ L.fou ≠ L.pls ∧ L.fou ≠ L.fos ∧ L.fou ≠ L.tus) ∧ (L.tal ≠ L.pls ∧ L.tal ≠ L.fos ∧ L.tal ≠ L.tus) ∧ (L.pls ≠ L.fos ∧ L.pls ≠ L.tus) ∧ L.fos ≠ L.tus := by
  simp only [FL.all, List.nodup_cons, List.mem_cons, List.not_mem_nil, or_false, not_or, List.nodup_nil, and_true, not_false_iff] at nd
  exact nd
theorem keep_upd {a : Addr} {o : HO} (ha : a ∈ L.all) (k : ∀ b o, H0 b = some o → b ∉ L.all → H b = some o) : ∀ b u, H0 b = some u → b ∉ L.all → upd H a o b = some u := fun b u h1 h2 => by
  have hne : b ≠ a := fun e => h2 (by rw [e]; exact ha)
  rw [upd_ne hne]
  exact k b u h1 h2
theorem Cur.dep' {o : HO} (c : Cur H0 H L v1 v2 v3 v4 v5 v6 v7) : Cur H0 (upd H L.dep o) L o v2 v3 v4 v5 v6 v7 := by
  obtain ⟨⟨n2, n3, n4, n5, n6, n7⟩, -⟩ := FL.ne c.nd
  exact ⟨c.nd, upd_same, by rw [upd_ne n2.symm]; exact c.col, by rw [upd_ne n3.symm]; exact c.fou, by rw [upd_ne n4.symm]; exact c.tal, by rw [upd_ne n5.symm]; exact c.pls, by rw [upd_ne n6.symm]; exact c.fos, by rw [upd_ne n7.symm]; exact c.tus, keep_upd (by simp [FL.all]) c.keep⟩
theorem Cur.col' {o : HO} (c : Cur H0 H L v1 v2 v3 v4 v5 v6 v7) : Cur H0 (upd H L.col o) L v1 o v3 v4 v5 v6 v7 := by
  obtain ⟨⟨n2, -⟩, ⟨n3, n4, n5, n6, n7⟩, -⟩ := FL.ne c.nd
  exact ⟨c.nd, by rw [upd_ne n2]; exact c.dep, upd_same, by rw [upd_ne n3.symm]; exact c.fou, by rw [upd_ne n4.symm]; exact c.tal, by rw [upd_ne n5.symm]; exact c.pls, by rw [upd_ne n6.symm]; exact c.fos, by rw [upd_ne n7.symm]; exact c.tus, keep_upd (by simp [FL.all]) c.keep⟩
theorem Cur.fou' {o : HO} (c : Cur H0 H L v1 v2 v3 v4 v5 v6 v7) : Cur H0 (upd H L.fou o) L v1 v2 o v4 v5 v6 v7 := by
  obtain ⟨⟨-, n1, -⟩, ⟨n2, -⟩, ⟨n4, n5, n6, n7⟩, -⟩ := FL.ne c.nd
  exact ⟨c.nd, by rw [upd_ne n1]; exact c.dep, by rw [upd_ne n2]; exact c.col, upd_same, by rw [upd_ne n4.symm]; exact c.tal, by rw [upd_ne n5.symm]; exact c.pls, by rw [upd_ne n6.symm]; exact c.fos, by rw [upd_ne n7.symm]; exact c.tus, keep_upd (by simp [FL.all]) c.keep⟩
theorem Cur.tal' {o : HO} (c : Cur H0 H L v1 v2 v3 v4 v5 v6 v7) : Cur H0 (upd H L.tal o) L v1 v2 v3 o v5 v6 v7 := by
  obtain ⟨⟨-, -, n1, -⟩, ⟨-, n2, -⟩, ⟨n3, -⟩, ⟨n5, n6, n7⟩, -⟩ := FL.ne c.nd
  exact ⟨c.nd, by rw [upd_ne n1]; exact c.dep, by rw [upd_ne n2]; exact c.col, by rw [upd_ne n3]; exact c.fou, upd_same, by rw [upd_ne n5.symm]; exact c.pls, by rw [upd_ne n6.symm]; exact c.fos, by rw [upd_ne n7.symm]; exact c.tus, keep_upd (by simp [FL.all]) c.keep⟩
theorem Cur.pls' {o : HO} (c : Cur H0 H L v1 v2 v3 v4 v5 v6 v7) : Cur H0 (upd H L.pls o) L v1 v2 v3 v4 o v6 v7 := by
  obtain ⟨⟨-, -, -, n1, -⟩, ⟨-, -, n2, -⟩, ⟨-, n3, -⟩, ⟨n4, -⟩, ⟨n6, n7⟩, -⟩ := FL.ne c.nd
  exact ⟨c.nd, by rw [upd_ne n1]; exact c.dep, by rw [upd_ne n2]; exact c.col, by rw [upd_ne n3]; exact c.fou, by rw [upd_ne n4]; exact c.tal, upd_same, by rw [upd_ne n6.symm]; exact c.fos, by rw [upd_ne n7.symm]; exact c.tus, keep_upd (by simp [FL.all]) c.keep⟩
theorem Cur.fos' {o : HO} (c : Cur H0 H L v1 v2 v3 v4 v5 v6 v7) : Cur H0 (upd H L.fos o) L v1 v2 v3 v4 v5 o v7 := by
  obtain ⟨⟨-, -, -, -, n1, -⟩, ⟨-, -, -, n2, -⟩, ⟨-, -, n3, -⟩, ⟨-, n4, -⟩, ⟨n5, -⟩, n7⟩ := FL.ne c.nd
  exact ⟨c.nd, by rw [upd_ne n1]; exact c.dep, by rw [upd_ne n2]; exact c.col, by rw [upd_ne n3]; exact c.fou, by rw [upd_ne n4]; exact c.tal, by rw [upd_ne n5]; exact c.pls, upd_same, by rw [upd_ne n7.symm]; exact c.tus, keep_upd (by simp [FL.all]) c.keep⟩
theorem Cur.tus' {o : HO} (c : Cur H0 H L v1 v2 v3 v4 v5 v6 v7) : Cur H0 (upd H L.tus o) L v1 v2 v3 v4 v5 v6 o := by
  obtain ⟨⟨-, -, -, -, -, n1⟩, ⟨-, -, -, -, n2⟩, ⟨-, -, -, n3⟩, ⟨-, -, n4⟩, ⟨-, n5⟩, n6⟩ := FL.ne c.nd
  exact ⟨c.nd, by rw [upd_ne n1]; exact c.dep, by rw [upd_ne n2]; exact c.col, by rw [upd_ne n3]; exact c.fou, by rw [upd_ne n4]; exact c.tal, by rw [upd_ne n5]; exact c.pls, by rw [upd_ne n6]; exact c.fos, upd_same, keep_upd (by simp [FL.all]) c.keep⟩
end
def depV (q : Pic) : V := V.int (q.depth : Nat)
/-- an address of the seven is a list's or a dict's -/
theorem FacesAt.own {C : Addr} {H : Hp} {p : Addr} {L : FL} {S : List Pic} {n : Nat} (F : FacesAt C H p L S n) {b : Addr} (hb : b ∈ L.all) : (∃ xs, H b = some (.lst xs)) ∨ (∃ kvs, H b = some (.dK kvs)) ∨ ∃ kvs, H b = some (.dT kvs) := by
  obtain ⟨_, h1, _⟩ := F.fou
  obtain ⟨_, h2, _⟩ := F.tal
  obtain ⟨_, h3, _⟩ := F.pls
  obtain ⟨_, h4, _⟩ := F.fos
  obtain ⟨_, h5, _⟩ := F.tus
  simp only [FL.all, List.mem_cons, List.not_mem_nil, or_false] at hb
  rcases hb with rfl | rfl | rfl | rfl | rfl | rfl | rfl
  · exact .inl ⟨_, F.dep⟩
  · exact .inl ⟨_, F.col⟩
  · exact .inl ⟨_, h1⟩
  · exact .inl ⟨_, h2⟩
  · exact .inr (.inl ⟨_, h3⟩)
  · exact .inr (.inr ⟨_, h4⟩)
  · exact .inr (.inr ⟨_, h5⟩)
theorem FacesAt.off_tup {C : Addr} {H : Hp} {p : Addr} {L : FL} {S : List Pic} {n : Nat} (F : FacesAt C H p L S n) {b : Addr} {xs : List V} (h : H b = some (.tup xs)) : b ∉ L.all := fun hb => by
  rcases F.own hb with ⟨_, z⟩ | ⟨_, z⟩ | ⟨_, z⟩ <;> (rw [h] at z; cases z)
theorem FacesAt.off_p {C : Addr} {H : Hp} {p : Addr} {L : FL} {S : List Pic} {n : Nat} (F : FacesAt C H p L S n) : p ∉ L.all := fun hb => by
  rcases F.own hb with ⟨_, z⟩ | ⟨_, z⟩ | ⟨_, z⟩ <;> (rw [F.ob] at z; cases z)
theorem FacesAt.off_new {C : Addr} {H : Hp} {p : Addr} {L : FL} {S : List Pic} {n : Nat} (F : FacesAt C H p L S n) {b : Addr} (h : H b = none) : b ∉ L.all := fun hb => by
  rcases F.own hb with ⟨_, z⟩ | ⟨_, z⟩ | ⟨_, z⟩ <;> (rw [h] at z; cases z)
/-- a picture more -/
theorem FacesAt.add {C : Addr} {H H' : Hp} {p : Addr} {L : FL} {S : List Pic} {n m : Nat} {q : Pic} {rs rt : List Addr} {r4 r10 : Addr} {kp : List (Key × V)} {kf kt : List (List Key × V)} (F : FacesAt C H p L S n)
    (hf : H L.fou = some (.lst (rs.map V.ref))) (ht : H L.tal = some (.lst (rt.map V.ref))) (hu : H L.tus = some (.dT kt))
    (c : Cur H H' L (.lst (S.map depV ++ [depV q])) (.lst (S.map colV ++ [colV q])) (.lst (rs.map V.ref ++ [.ref r4])) (.lst (rt.map V.ref ++ [.ref r10])) (.dK kp) (.dT kf) (.dT kt))
    (hP : PlsOk kp (S ++ [q])) (hF : FosOk kf (S ++ [q])) (h4 : QuOk H' (S ++ [q]) r4 q) (h10 : H' r10 = some (.tup (talV q))) (g : Good (S ++ [q]) m) : FacesAt C H' p L (S ++ [q]) m where
  ob := c.keep _ _ F.ob F.off_p
  nd := F.nd
  dep := by rw [List.map_append]; exact c.dep
  col := by rw [List.map_append]; exact c.col
  fou := by
    obtain ⟨rs', e1, e2, e3⟩ := F.fou
    rw [hf] at e1
    have e1' : rs.map V.ref = rs'.map V.ref := by injection e1 with e1; injection e1
    have e0 : rs = rs' := by
      have := congrArg (List.map fun v => match v with | V.ref a => a | _ => 0) e1'
      simpa [List.map_map, Function.comp_def] using this
    subst e0
    refine ⟨rs ++ [r4], by rw [List.map_append]; exact c.fou, by rw [List.length_append, List.length_append, e2] <;> rfl, fun i r u hr hu' => ?_⟩
    rcases at_snoc hu' with h | ⟨rfl, rfl⟩
    · have hi := at_lt h
      rw [List.getElem?_append_left (by omega)] at hr
      obtain ⟨a, b, c', d, k0, k1, k2, k3, k4⟩ := e3 i r u hr h
      exact ⟨a, b, c', d, c.keep _ _ k0 (F.off_tup k0), (Pre.snoc _ _).at k1, (Pre.snoc _ _).at k2, (Pre.snoc _ _).at k3, (Pre.snoc _ _).at k4⟩
    · rw [← e2, at_last] at hr
      cases hr
      exact h4
  tal := by
    obtain ⟨rs', e1, e2, e3⟩ := F.tal
    rw [ht] at e1
    have e1' : rt.map V.ref = rs'.map V.ref := by injection e1 with e1; injection e1
    have e0 : rt = rs' := by
      have := congrArg (List.map fun v => match v with | V.ref a => a | _ => 0) e1'
      simpa [List.map_map, Function.comp_def] using this
    subst e0
    refine ⟨rt ++ [r10], by rw [List.map_append]; exact c.tal, by rw [List.length_append, List.length_append, e2] <;> rfl, fun i r u hr hu' => ?_⟩
    rcases at_snoc hu' with h | ⟨rfl, rfl⟩
    · have hi := at_lt h
      rw [List.getElem?_append_left (by omega)] at hr
      have k0 := e3 i r u hr h
      exact c.keep _ _ k0 (F.off_tup k0)
    · rw [← e2, at_last] at hr
      cases hr
      exact h10
  pls := ⟨_, c.pls, hP⟩
  fos := ⟨_, c.fos, hF⟩
  tus := by
    obtain ⟨kt', e1, e2⟩ := F.tus
    rw [hu] at e1
    cases e1
    exact ⟨_, c.tus, e2.mono (Pre.snoc _ _)⟩
  good := g
theorem Rest.cur {L : FL} {R H H' : Hp} {v1 v2 v3 v4 v5 v6 v7 : HO} (r : Rest L R H) (c : Cur H H' L v1 v2 v3 v4 v5 v6 v7) : Rest L R H' where
  le := fun b o e => c.keep b o (r.le b o e) fun hb => by rw [r.dj b hb] at e; cases e
  dj := r.dj
/-! ### a turned picture more in the memo -/
theorem FacesAt.tus_upd {C : Addr} {H : Hp} {p : Addr} {L : FL} {S : List Pic} {n : Nat} {kt : List (List Key × V)} (F : FacesAt C H p L S n) (h : TusOk kt S) : FacesAt C (upd H L.tus (.dT kt)) p L S n := by
  have hm : L.tus ∈ L.all := by simp [FL.all]
  obtain ⟨⟨-, -, -, -, -, n1⟩, ⟨-, -, -, -, n2⟩, ⟨-, -, -, n3⟩, ⟨-, -, n4⟩, ⟨-, n5⟩, n6⟩ := FL.ne F.nd
  obtain ⟨rs, h1, l1, k1⟩ := F.fou
  obtain ⟨rt, h2, l2, k2⟩ := F.tal
  obtain ⟨kp, h3, k3⟩ := F.pls
  obtain ⟨kf, h4, k4⟩ := F.fos
  have off : ∀ {b : Addr} {xs : List V}, H b = some (.tup xs) → b ≠ L.tus := fun e z => F.off_tup e (by rw [z]; exact hm)
  have hp : p ≠ L.tus := fun z => F.off_p (by rw [z]; exact hm)
  refine ⟨by rw [upd_ne hp]; exact F.ob, F.nd, by rw [upd_ne n1]; exact F.dep, by rw [upd_ne n2]; exact F.col, ⟨rs, by rw [upd_ne n3]; exact h1, l1, fun i r q hr hq => ?_⟩, ⟨rt, by rw [upd_ne n4]; exact h2, l2, fun i r q hr hq => ?_⟩,
    ⟨kp, by rw [upd_ne n5]; exact h3, k3⟩, ⟨kf, by rw [upd_ne n6]; exact h4, k4⟩, ⟨kt, upd_same, h⟩, F.good⟩
  · obtain ⟨a, b, c, d, e, e'⟩ := k1 i r q hr hq
    exact ⟨a, b, c, d, by rw [upd_ne (off e)]; exact e, e'⟩
  · have e := k2 i r q hr hq
    rw [upd_ne (off e)]
    exact e
theorem Rest.own {L : FL} {R H : Hp} {a : Addr} {o : HO} (r : Rest L R H) (ha : a ∈ L.all) : Rest L R (upd H a o) where
  le := fun b u e => by
    have hne : b ≠ a := fun z => by rw [z, r.dj a ha] at e; cases e
    rw [upd_ne hne]
    exact r.le b u e
  dj := r.dj
theorem Rest.sub {L : FL} {R R2 H : Hp} (r : Rest L R2 H) (e : Same R R2) : Rest L R H where
  le := e.trans r.le
  dj := fun b hb => by
    cases h : R b with
    | none => rfl
    | some o =>
      have := e b o h
      rw [r.dj b hb] at this
      cases this
/-- an object beside the store that changes -/
theorem Rest.set {L : FL} {R H : Hp} {a : Addr} {o o' : HO} (r : Rest L (upd R a o) H) : Rest L (upd R a o') (upd H a o') where
  le := fun b u e => by
    by_cases hb : b = a
    · subst hb
      rw [upd_same] at e ⊢
      exact e
    · rw [upd_ne hb] at e ⊢
      exact r.le b u (by rw [upd_ne hb]; exact e)
  dj := fun b hb => by
    have h := r.dj b hb
    by_cases hba : b = a
    · subst hba
      rw [upd_same] at h
      cases h
    · rw [upd_ne hba] at h ⊢
      exact h
/-- the store does not mind a change elsewhere -/
theorem FacesAt.set {C : Addr} {H R : Hp} {p : Addr} {L : FL} {S : List Pic} {n : Nat} {a : Addr} {o o' : HO} (F : FacesAt C H p L S n) (r : Rest L (upd R a o) H) (ht : ∀ xs, o ≠ .tup xs) (hi : ∀ C dx fs, o ≠ .ins C dx fs) : FacesAt C (upd H a o') p L S n := by
  have ha := r.le a o upd_same
  have hall : ∀ {b : Addr}, b ∈ L.all → b ≠ a := fun {b} hb z => by
    have h := r.dj b hb
    rw [z, upd_same] at h
    cases h
  have all : ∀ {b : Addr} {u : HO}, b ∈ L.all → H b = some u → upd H a o' b = some u := fun {b u} hb e => by rw [upd_ne (hall hb)]; exact e
  have tup : ∀ {b : Addr} {xs : List V}, H b = some (.tup xs) → upd H a o' b = some (.tup xs) := fun {b xs} e => by
    have hne : b ≠ a := fun z => by
      rw [z, ha] at e
      exact ht xs (Option.some.inj e)
    rw [upd_ne hne]; exact e
  obtain ⟨rs, h1, l1, k1⟩ := F.fou
  obtain ⟨rt, h2, l2, k2⟩ := F.tal
  obtain ⟨kp, h3, k3⟩ := F.pls
  obtain ⟨kf, h4, k4⟩ := F.fos
  obtain ⟨kt, h5, k5⟩ := F.tus
  have m : ∀ b, b ∈ [L.dep, L.col, L.fou, L.tal, L.pls, L.fos, L.tus] → b ∈ L.all := fun b h => h
  refine ⟨?_, F.nd, all (m _ (by simp)) F.dep, all (m _ (by simp)) F.col, ⟨rs, all (m _ (by simp)) h1, l1, fun i r q hr hq => ?_⟩, ⟨rt, all (m _ (by simp)) h2, l2, fun i r q hr hq => tup (k2 i r q hr hq)⟩, ⟨kp, all (m _ (by simp)) h3, k3⟩, ⟨kf, all (m _ (by simp)) h4, k4⟩, ⟨kt, all (m _ (by simp)) h5, k5⟩, F.good⟩
  · have hne : p ≠ a := fun z => by
      have e := F.ob
      rw [z, ha] at e
      exact hi _ _ _ (Option.some.inj e)
    rw [upd_ne hne]
    exact F.ob
  · obtain ⟨a', b, c, d, e, e'⟩ := k1 i r q hr hq
    exact ⟨a', b, c, d, tup e, e'⟩
/-! ### all but the store's own stands -/
def Kp (L : FL) (H H' : Hp) : Prop := ∀ b o, H b = some o → b ∉ L.all → H' b = some o
open Classical in
noncomputable def restOf (L : FL) (H : Hp) : Hp := fun b => if b ∈ L.all then none else H b
theorem rest_of (L : FL) (H : Hp) : Rest L (restOf L H) H where
  le := fun b o e => by
    unfold restOf at e
    split at e
    · cases e
    · exact e
  dj := fun b hb => by
    unfold restOf
    rw [if_pos hb]
theorem kp_of {L : FL} {H H' : Hp} (r : Rest L (restOf L H) H') : Kp L H H' := fun b o e hb => r.le b o (by
  unfold restOf
  rw [if_neg hb]
  exact e)
theorem Kp.refl (L : FL) (H : Hp) : Kp L H H := fun _ _ e _ => e
theorem Kp.trans {L : FL} {H1 H2 H3 : Hp} (a : Kp L H1 H2) (b : Kp L H2 H3) : Kp L H1 H3 := fun x o e h => b x o (a x o e h) h
theorem Same.kp {L : FL} {H H' : Hp} (e : Same H H') : Kp L H H' := fun b o h _ => e b o h
theorem Kp.same {L : FL} {H0 H H' : Hp} (e : Same H0 H) (k : Kp L H H') (d : ∀ b, b ∈ L.all → H0 b = none) : Same H0 H' := fun b o h => k b o (e b o h) fun hb => by
  rw [d b hb] at h
  cases h
theorem Same.kp_same {L : FL} {H0 H H' : Hp} (e : Same H0 H) (k : Kp L H H') (d : ∀ b, b ∈ L.all → H0 b = none) : Same H0 H' := Kp.same e k d
/-- a change of an object that is not the store's -/
theorem FacesAt.put {C : Addr} {H : Hp} {p : Addr} {L : FL} {S : List Pic} {n : Nat} {a : Addr} {o : HO} (o' : HO) (F : FacesAt C H p L S n) (h : H a = some o) (ha : a ∉ L.all) (ht : ∀ xs, o ≠ .tup xs) (hi : ∀ C dx fs, o ≠ .ins C dx fs) : FacesAt C (upd H a o') p L S n := by
  have r : Rest L (upd (fun _ => none) a o) H := by
    constructor
    · intro b u e
      by_cases hb : b = a
      · subst hb
        rw [upd_same] at e
        rw [h]; exact e
      · rw [upd_ne hb] at e
        cases e
    · intro b hb
      have hne : b ≠ a := fun z => ha (by rw [← z]; exact hb)
      rw [upd_ne hne]
  exact F.set r ht hi
end Mu

/-! Comps: comprehensions without tests, whose elements leave all that was tracked. -/
namespace Mu
open PySem L2
theorem take_more {α : Type} {l : List α} {i : Nat} {x : α} (h : l[i]? = some x) : l.take (i + 1) = l.take i ++ [x] := by
  obtain ⟨hi, rfl⟩ := List.getElem?_eq_some_iff.mp h
  exact List.take_succ_eq_append_getElem hi
def hide (D : Addr) (H : Hp) : Hp := fun b => if b = D then none else H b
theorem hide_le (D : Addr) (H : Hp) : Same (hide D H) H := fun b o e => by
  unfold hide at e
  split at e
  · cases e
  · exact e
theorem hide_at {D b : Addr} {H : Hp} {o : HO} (hb : b ≠ D) (h : H b = some o) : hide D H b = some o := by
  unfold hide
  rw [if_neg hb]
  exact h
theorem hide_same {D : Addr} {H H' : Hp} (e : Same H H') : Same (hide D H) (hide D H') := fun b o h => by
  unfold hide at h ⊢
  split at h
  · cases h
  · rename_i hb
    rw [if_neg hb]
    exact e b o h
theorem hide_upd {D : Addr} {H : Hp} {o : HO} : hide D (upd H D o) = hide D H := by
  funext b
  unfold hide upd
  split <;> rfl
theorem Same.hid {G H : Hp} {D : Addr} (hD : G D = none) (e : Same G H) : Same G (hide D H) := fun b o h => hide_at (ne_of_none h hD) (e b o h)
theorem Same.upd_off {G H : Hp} {D : Addr} {o : HO} (hD : G D = none) (e : Same G H) : Same G (upd H D o) := fun b u h => by
  rw [upd_ne (ne_of_none h hD)]
  exact e b u h
theorem walk_rng {n : Nat} : Walk (Itr 0 n) n (fun _ => True) (YFn fun i => .int (i : Nat)) :=
  walk_range.mono (fun _ h => h) fun i H x H' _ _ y => ⟨y.1, by
    have e : x = V.int (0 + (i : Nat)) := y.2
    rw [e, Int.zero_add]⟩
theorem lc_all {J : It} {n : Nat} {Gd : Hp → Prop} {Y : Nat → Hp → V → Hp → Prop} {g : TG} {te : TE} {vs : List Nat} {σ : L2.St} {G : Hp} {D : Addr} {Qd : Hp → Prop} (w : Walk J n Gd Y) (P : Nat → V → Hp → Prop) (hP : ∀ (i : Nat) (y : V) (H H' : Hp), P i y H → Same H H' → P i y H')
    (hD : G D = none) (hn : n < sizeLine) (hG : ∀ H, Same G H → Gd H)
    (hs : ∀ (i : Nat) (x : V) (H H' : Hp) (acc : List V) (Z : V → Hp → Prop), i < n → Same G H → H D = some (.lst acc) → Y i H x H' → (∀ y H4, Same H H4 → P i y (hide D H4) → Z y H4) → g x (wipe σ vs) H' fun σ2 H2 => wipe σ2 vs = wipe σ vs ∧ te σ2 H2 Z)
    (hd : ∀ (H : Hp) (ys : List V), ys.length = n → Same G H → H D = some (.lst ys) → (∀ (i : Nat) y, ys[i]? = some y → P i y H) → Qd H) :
    ∃ W : Nat → Nat → Hp → Prop, (∃ m, W 0 m (upd G D (.lst []))) ∧ ∀ i m H, W i m H →
      (J.stop i H ∧ Qd H) ∨ (J.go i H ∧ ∃ Nx : Hp → Prop, (∀ H', Nx H' → ∃ m', m' < m ∧ W (i + 1) m' H') ∧ ∀ x H', J.yld i H x H' → g x (wipe σ vs) H' fun σ2 H2 => wipe σ2 vs = wipe σ vs ∧ tYes σ2 H2 fun b H3 =>
        if b = true then te σ2 H3 fun y H4 => ∃ acc, H4 D = some (.lst acc) ∧ acc.length < sizeLine ∧ Nx (upd H4 D (.lst (acc ++ [y]))) else Nx H3) := by
  refine lc_it w (fun i H => ∃ ys, ys.length = i ∧ Same G H ∧ H D = some (.lst ys) ∧ ∀ (j : Nat) y, ys[j]? = some y → P j y (hide D H)) ⟨[], rfl, Same.new hD, upd_same, fun j y h => by simp at h⟩ (fun i H _ ⟨_, _, e, _⟩ => hG H e) ?_ ?_
  · rintro i x H H' hi ⟨ys, hl, e, hy, hp⟩ hY
    have eq : ∀ (F N : V → Hp → Prop) (M : Hp → Prop), (fun (σ2 : L2.St) H2 => wipe σ2 vs = wipe σ vs ∧ tYes σ2 H2 fun b H3 => if b = true then te σ2 H3 (F) else M H3) = fun σ2 H2 => wipe σ2 vs = wipe σ vs ∧ te σ2 H2 F := by
      intro F N M
      funext σ2 H2
      have : (tYes σ2 H2 fun b H3 => if b = true then te σ2 H3 F else M H3) = te σ2 H2 F := by
        show (if true = true then te σ2 H2 F else M H2) = te σ2 H2 F
        rw [if_pos rfl]
      rw [this]
    rw [eq _ (fun _ _ => True)]
    refine hs i x H H' ys _ hi e hy hY fun y H4 e4 p4 => ?_
    refine ⟨ys, e4 _ _ hy, by omega, ys ++ [y], by rw [List.length_append, hl] <;> rfl, Same.upd_off hD (e.trans e4), upd_same, fun j z hz => ?_⟩
    rw [hide_upd]
    by_cases hj : j < ys.length
    · rw [List.getElem?_append_left hj] at hz
      exact hP j z _ _ (hp j z hz) (hide_same e4)
    · have hl2 := (List.getElem?_eq_some_iff.mp hz).1
      rw [List.length_append] at hl2
      have : j = ys.length := by simp at hl2; omega
      subst this
      rw [List.getElem?_append_right (Nat.le_refl _), Nat.sub_self] at hz
      cases hz
      rw [hl]
      exact p4
  · rintro H ⟨ys, hl, e, hy, hp⟩
    exact hd H ys hl e hy fun i y h => hP i y _ _ (hp i y h) (hide_le D H)
/-- .. whose elements are known ahead -/
theorem lc_pure {J : It} {n : Nat} {Gd : Hp → Prop} {Y : Nat → Hp → V → Hp → Prop} {g : TG} {te : TE} {vs : List Nat} {σ : L2.St} {G : Hp} {D : Addr} {Qd : Hp → Prop} (w : Walk J n Gd Y) (xs : List V) (hx : xs.length = n)
    (hD : G D = none) (hn : n < sizeLine) (hG : ∀ H, Same G H → Gd H)
    (hs : ∀ (i : Nat) (x y : V) (H H' : Hp) (Z : V → Hp → Prop), i < n → xs[i]? = some y → Same G H → Y i H x H' → (∀ H4, Same H H4 → Z y H4) → g x (wipe σ vs) H' fun σ2 H2 => wipe σ2 vs = wipe σ vs ∧ te σ2 H2 Z)
    (hd : ∀ H : Hp, Same G H → H D = some (.lst xs) → Qd H) :
    ∃ W : Nat → Nat → Hp → Prop, (∃ m, W 0 m (upd G D (.lst []))) ∧ ∀ i m H, W i m H →
      (J.stop i H ∧ Qd H) ∨ (J.go i H ∧ ∃ Nx : Hp → Prop, (∀ H', Nx H' → ∃ m', m' < m ∧ W (i + 1) m' H') ∧ ∀ x H', J.yld i H x H' → g x (wipe σ vs) H' fun σ2 H2 => wipe σ2 vs = wipe σ vs ∧ tYes σ2 H2 fun b H3 =>
        if b = true then te σ2 H3 fun y H4 => ∃ acc, H4 D = some (.lst acc) ∧ acc.length < sizeLine ∧ Nx (upd H4 D (.lst (acc ++ [y]))) else Nx H3) := by
  refine lc_all w (fun i y _ => xs[i]? = some y) (fun i y H H' h _ => h) hD hn hG (fun i x H H' acc Z hi e hy hY hz => ?_) fun H ys hl e hy hp => ?_
  · have hi' : i < xs.length := by omega
    exact hs i x xs[i] H H' Z hi (List.getElem?_eq_getElem hi') e hY fun H4 e4 => hz _ _ e4 (List.getElem?_eq_getElem hi')
  · have : ys = xs := by
      apply List.ext_getElem?
      intro i
      cases h : ys[i]? with
      | none =>
        rw [List.getElem?_eq_none_iff] at h
        exact (List.getElem?_eq_none (by omega)).symm
      | some y => exact (hp i y h).symm
    subst this
    exact hd H e hy
end Mu

/-! TextLib: words that are numbers. -/
namespace Mu
open PySem L2 PySem.Spec PyProof.Rows NumText TL
def digL (cs : List Nat) : Bool := cs.all fun c => decide (48 ≤ c) && decide (c ≤ 57)
/-- a number in figures, without a needless nought ahead, of at most 18 figures -/
def numW (w : Str) : Bool := decide (w.cps.toList.length ≤ 18) && !w.cps.toList.isEmpty && digL w.cps.toList && (decide (w.cps.toList = [48]) || !decide (w.cps.toList.head? = some 48))
theorem digL_all {cs : List Nat} (h : digL cs = true) : AllDigits cs := fun c hc => by
  have := List.all_eq_true.mp h c hc
  simpa using this
theorem digitsVal_lt : ∀ (n : Nat) (cs : List Nat), cs.length = n → AllDigits cs → digitsVal cs < 10 ^ n
  | 0, cs, h, _ => by
    rw [List.length_eq_zero_iff] at h
    subst h
    decide
  | n + 1, cs, h, hd => by
    rcases List.eq_nil_or_concat cs with rfl | ⟨l, c, rfl⟩
    · cases h
    · rw [List.concat_eq_append] at h hd ⊢
      have hc := hd c (by simp)
      have := digitsVal_lt n l (by simpa using h) (fun x hx => hd x (List.mem_append_left _ hx))
      rw [digitsVal_snoc, Nat.pow_succ]
      omega
def valW (w : Str) : Int := ((digitsVal w.cps.toList : Nat) : Int)
theorem numW_int {w : Str} (h : numW w = true) : intText? w = some (valW w) ∧ 0 ≤ valW w ∧ valW w < 1000000000000000000 ∧ w.length ≤ 18 := by
  unfold numW at h
  simp only [Bool.and_eq_true, decide_eq_true_eq, Bool.not_eq_true'] at h
  obtain ⟨⟨⟨h1, h2⟩, h3⟩, _⟩ := h
  have hl : w.cps.toList.length = w.length := Array.length_toList
  have hd := digL_all h3
  refine ⟨intText_digits hd (fun e => by rw [e] at h2; cases h2) (by omega), Int.natCast_nonneg _, ?_, by omega⟩
  have := digitsVal_lt _ _ rfl hd
  have h10 : 10 ^ w.cps.toList.length ≤ 10 ^ 18 := Nat.pow_le_pow_right (by decide) h1
  unfold valW
  have e : (10 : Nat) ^ 18 = 1000000000000000000 := by decide
  omega
/-! ### what the program and the law ask of a word -/
theorem dig_ascii : ∀ c, c < 128 → Unicode.isDigit c = (decide (48 ≤ c) && decide (c ≤ 57)) := by decide +kernel
theorem word_asks (w : Str) : numW w = (!(decide (18 < (w.length : Int)) || !Txt.isascii w || !Txt.isdigit w) && (decide (w = "0") || !Txt.startswith w "0")) := by
  have hl : w.cps.toList.length = w.length := Array.length_toList
  have ha : (Txt.isascii w && Txt.isdigit w) = (!w.cps.toList.isEmpty && digL w.cps.toList) := by
    unfold Txt.isascii Txt.isdigit digL
    rw [← Array.all_toList, ← Array.all_toList, ← hl]
    generalize w.cps.toList = cs
    have e1 : decide (cs.length > 0) = !cs.isEmpty := by cases cs <;> simp
    rw [e1]
    cases hc : cs.isEmpty with
    | true => simp
    | false =>
      simp only [Bool.not_false, Bool.true_and]
      rw [Bool.eq_iff_iff, Bool.and_eq_true, List.all_eq_true, List.all_eq_true, List.all_eq_true]
      constructor
      · rintro ⟨h1, h2⟩ c hc
        have h3 := of_decide_eq_true (h1 c hc)
        rw [← dig_ascii c h3]
        exact h2 c hc
      · intro h
        have h4 : ∀ c ∈ cs, 48 ≤ c ∧ c ≤ 57 := fun c hc => by simpa using h c hc
        refine ⟨fun c hc => decide_eq_true (by have := h4 c hc; omega), fun c hc => ?_⟩
        rw [dig_ascii c (by have := h4 c hc; omega)]
        exact h c hc
  have h0 : decide (w = "0") = decide (w.cps.toList = [48]) := by
    by_cases e : w = "0"
    · subst e; decide +kernel
    · rw [decide_eq_false e, decide_eq_false]
      intro z
      apply e
      have : w.cps = #[48] := by rw [← Array.toArray_toList (xs := w.cps), z]
      cases w
      simp only at this
      subst this
      decide +kernel
  have hs : Txt.startswith w "0" = decide (w.cps.toList.head? = some 48) := by
    unfold Txt.startswith
    rw [StrLaws.subAt_eq]
    have e1 : (Str.ofString "0").cps.toList = [48] := by decide +kernel
    have e2 : (Str.ofString "0").length = 1 := by decide +kernel
    rw [e2, List.drop_zero, e1, ← hl]
    cases w.cps.toList with
    | nil => rfl
    | cons c cs =>
      simp
      rfl
  unfold numW
  rw [h0, hs]
  have h18 : decide (w.cps.toList.length ≤ 18) = !decide (18 < (w.length : Int)) := by
    rw [hl, ← decide_not]
    congr 1
    rw [eq_iff_iff]
    omega
  rw [h18, Bool.and_assoc (!decide (18 < (w.length : Int))), ← ha]
  cases decide (18 < (w.length : Int)) <;> cases Txt.isascii w <;> cases Txt.isdigit w <;> simp
theorem num_numW (n : Nat) (h : n < 1000000000000000000) : numW (Str.ofString (toString ((n : Nat) : Int))) = true ∧ valW (Str.ofString (toString ((n : Nat) : Int))) = n := by
  have e : (Str.ofString (toString ((n : Nat) : Int))).cps.toList = numL n := tl_num n
  have hd := numL_digits n
  have hl := numL_len (n := n) (k := 18) (by decide) (by
    have : (10 : Nat) ^ 18 = 1000000000000000000 := by decide
    omega)
  have hne := numL_ne n
  refine ⟨?_, ?_⟩
  · unfold numW
    rw [e]
    have h1 : digL (numL n) = true := List.all_eq_true.mpr fun c hc => by
      have := hd c hc
      simp [this.1, this.2]
    have h2 : (numL n).isEmpty = false := by
      cases hh : numL n with
      | nil => exact absurd hh hne
      | cons _ _ => rfl
    have h3 : (decide (numL n = [48]) || !decide ((numL n).head? = some 48)) = true := by
      have aux : ∀ k n : Nat, n < k → n ≠ 0 → (numL n).head? ≠ some 48 := fun k => by
        induction k with
        | zero => intro n h; omega
        | succ k ih =>
          intro n hn h0
          by_cases h10 : n < 10
          · rw [numL_lt h10]
            intro z
            simp at z
            omega
          · rw [numL_step (by omega)]
            intro z
            refine ih (n / 10) (by omega) (by omega) ?_
            cases hh : numL (n / 10) with
            | nil => exact absurd hh (numL_ne _)
            | cons c cs => rw [hh] at z; simpa using z
      by_cases h0 : n = 0
      · subst h0
        rw [numL_lt (by decide)]
        rfl
      · rw [decide_eq_false (aux (n + 1) n (Nat.lt_succ_self _) h0)]
        simp
    rw [h1, h2, h3, decide_eq_true hl]
    rfl
  · unfold valW
    rw [e, numL_val]
/-! ### the words of a line -/
theorem joinL_len (S : List Nat) : ∀ parts : List (List Nat), (∀ p ∈ parts, p.length ≤ (joinL S parts).length) ∧ (1 ≤ S.length → parts.length ≤ (joinL S parts).length + 1)
  | [] => ⟨(fun p h => by cases h), fun _ => by simp⟩
  | [p] => ⟨(fun x h => by rw [List.mem_singleton] at h; subst h; exact Nat.le_refl _), fun _ => by simp⟩
  | p :: q :: r => by
    obtain ⟨h1, h2⟩ := joinL_len S (q :: r)
    have e : (joinL S (p :: q :: r)).length = p.length + (S.length + (joinL S (q :: r)).length) := by
      show (p ++ (S ++ joinL S (q :: r))).length = _
      rw [List.length_append, List.length_append]
    refine ⟨fun x hx => ?_, fun hS => ?_⟩
    · rw [e]
      rcases List.mem_cons.mp hx with rfl | hx
      · omega
      · have := h1 x hx
        omega
    · have := h2 hS
      rw [e, List.length_cons]
      omega
theorem split_len (z : Str) : (∀ w ∈ Txt.split z " ", w.length ≤ z.length) ∧ (Txt.split z " ").length ≤ z.length + 1 := by
  have h := joinL_len (tl (Str.ofString " ")) ((Txt.split z " ").map tl)
  rw [← tl_join, StrLaws.join_split] at h
  have e1 : (tl (Str.ofString " ")).length = 1 := by decide +kernel
  rw [List.length_map, e1] at h
  refine ⟨fun w hw => ?_, ?_⟩
  · rw [len_tl, len_tl]
    exact h.1 (tl w) (List.mem_map.mpr ⟨w, hw, rfl⟩)
  · rw [len_tl]
    exact h.2 (Nat.le_refl _)
theorem spl_ne (S : List Nat) : ∀ (l : List Nat) (k : Nat) (acc : List Nat), spl S k acc l ≠ []
  | [], k, acc => by cases k <;> simp [spl]
  | c :: r, 0, acc => by
    unfold spl
    split
    · simp
    · exact spl_ne S r 0 _
  | c :: r, k + 1, acc => spl_ne S r k acc
theorem split_ne (z : Str) : Txt.split z " " ≠ [] := fun e => by
  have h := split_spl z " " (by decide +kernel) (kind_ok (by decide +kernel))
  rw [e] at h
  exact spl_ne _ _ _ _ h.symm
theorem app_len (x y : Str) : (x ++ y).length = x.length + y.length := by
  rw [len_tl, len_tl, len_tl, tl_append, List.length_append]
theorem joinL_le (S : List Nat) : ∀ parts : List (List Nat), (joinL S parts).length ≤ (parts.map List.length).sum + parts.length * S.length
  | [] => by simp [joinL]
  | [p] => by simp [joinL]
  | p :: q :: r => by
    have ih := joinL_le S (q :: r)
    show (p ++ (S ++ joinL S (q :: r))).length ≤ _
    rw [List.length_append, List.length_append, List.map_cons, List.sum_cons, List.length_cons, Nat.succ_mul]
    omega
theorem join_len_le (a : Str) (ys : List Str) : (Txt.join a ys).length ≤ (ys.map (·.length)).sum + ys.length * a.length := by
  rw [join_eq, len_tl, tl_join]
  have h := joinL_le (tl a) (ys.map tl)
  rw [List.map_map, List.length_map, ← len_tl] at h
  have e : (List.length ∘ tl) = fun z : Str => z.length := by
    funext z
    exact (len_tl z).symm
  rw [e] at h
  exact h
end Mu

/-! DeedLib: a dict of the module's top with texts as keys and whole numbers as values. -/
namespace Mu
open PySem L2 PySem.Spec PyProof.Rows
def LitVals : List DictEntry → List (Str × Int) → Prop
  | [], [] => True
  | e :: r, (k, i) :: kvs => (∃ t u, e.key = .str k t ∧ e.val = .int i u) ∧ LitVals r kvs
  | _, _ => False
/-- at d: a written dict of these pairs -/
structure KDS (K : PySem.W.Frag) (ps : Params) (d : Addr) (kvs : List (Str × Int)) : Prop where
  ex : ∃ es n, K.lookup d = some ⟨.type "dict", none, .dict es n, #[]⟩ ∧ PySem.W.KeysLit ps es.toList ∧ LitVals es.toList kvs
  low : (d == sysModules) = false
theorem isStr_lit (k z : Str) (t : Tok) : (Value.str k t).isStr z = decide (z = k) := by
  have h : (Value.str k t).isStr z = Value.isStrOf z (.str k t) := PySem.W.isStr_of z _
  rw [h]
  by_cases e : z = k
  · subst e
    simp [Value.isStrOf]
  · rw [decide_eq_false e]
    cases hh : Value.isStrOf z (.str k t) with
    | false => rfl
    | true =>
      obtain ⟨u, hu⟩ := Value.isStrOf_shape hh
      injection hu with h1
      exact absurd h1.symm e
theorem lit_find (z : Str) : ∀ (l : List DictEntry) (kvs : List (Str × Int)), LitVals l kvs → (l.any (·.refKey)) = false ∧ (match kvs.lookup z with
    | some i => ∃ e u, l.find? (·.key.isStr z) = some e ∧ e.val = .int i u
    | none => l.find? (·.key.isStr z) = none)
  | [], [], _ => ⟨rfl, rfl⟩
  | e :: r, (k, i) :: kvs, ⟨⟨t, u, h1, h2⟩, h3⟩ => by
    obtain ⟨ih1, ih2⟩ := lit_find z r kvs h3
    refine ⟨by
      rw [List.any_cons, ih1]
      unfold DictEntry.refKey
      rw [h1]
      rfl, ?_⟩
    rw [List.find?_cons, h1, isStr_lit, List.lookup_cons]
    by_cases e' : z = k
    · subst e'
      rw [decide_eq_true rfl]
      simp only [beq_self_eq_true]
      exact ⟨e, u, rfl, h2⟩
    · rw [decide_eq_false e']
      have : (z == k) = false := beq_eq_false_iff_ne.mpr e'
      rw [this]
      exact ih2
  | [], _ :: _, h => h.elim
  | _ :: _, [], h => h.elim
theorem KDS.nsIn {K : PySem.W.Frag} {ps : Params} {d : Addr} {kvs : List (Str × Int)} (D : KDS K ps d kvs) (z : Str) :
    (kvs.lookup z = none → PySem.W.nsIn K d z = some none) ∧ ∀ i, kvs.lookup z = some i → ∃ u, PySem.W.nsIn K d z = some (some (.int i u)) := by
  obtain ⟨es, n, hl, _, lv⟩ := D.ex
  obtain ⟨h1, h2⟩ := lit_find z _ _ lv
  refine ⟨fun e => ?_, fun i e => ?_⟩
  · rw [e] at h2
    unfold PySem.W.nsIn
    rw [hl]
    dsimp only
    rw [h2]
    dsimp only
    rw [if_neg (by rw [h1]; exact Bool.false_ne_true)]
  · rw [e] at h2
    obtain ⟨en, u, h3, h4⟩ := h2
    refine ⟨u, ?_⟩
    unfold PySem.W.nsIn
    rw [hl]
    dsimp only
    rw [h3]
    dsimp only
    rw [h4]
theorem KDS.get {K : PySem.W.Frag} {w : World} {d : Addr} {kvs : List (Str × Int)} (D : KDS K w.params d kvs) {z : Str} {i : Int} (e : kvs.lookup z = some i) : KDct K w d z (.int i) := by
  obtain ⟨u, h⟩ := (D.nsIn z).2 i e
  obtain ⟨es, n, hl, hk, _⟩ := D.ex
  exact ⟨es, n, _, hl, hk, h, ⟨u, rfl⟩⟩
/-- k not in d, any text or whole number -/
def rKNotIn (K : PySem.W.Frag) (ps : Params) : R2 := fun x y H Q => ∃ d kvs, y = .ref d ∧ KDS K ps d kvs ∧ ((∃ z, x = .str z ∧ Q (.bl (!(kvs.lookup z).isSome)) H) ∨ ∃ i, x = .int i ∧ Q (.bl true) H)
theorem op_notIn_kds {X : Cx} : OpR X (compareOp .NotIn) (rKNotIn X.K X.w.params) := by
  intro pins s σ H x y v u Q I rx ry h
  obtain ⟨d, kvs, rfl, D, h⟩ := h
  obtain ⟨es, n, hl, hk, lv⟩ := D.ex
  cases ry
  rcases h with ⟨z, rfl, q⟩ | ⟨i, rfl, q⟩
  · obtain ⟨t, rfl⟩ := rx
    refine wpAny_notIn_of (PySem.strKind_is X.prog X.w z t) D.low (PySem.W.mapOf_K (prog := X.prog) I.kIn hl hk) ?_
    have e : (findBy Value.isStrOf es z).isSome = (kvs.lookup z).isSome := by
      cases e : kvs.lookup z with
      | none => rw [PySem.W.find_K hl ((D.nsIn z).1 e)]; rfl
      | some i =>
        obtain ⟨u, hu⟩ := (D.nsIn z).2 i e
        rw [PySem.W.find_K hl hu]; rfl
    rw [e]
    exact ⟨.bl _, H, I.tok _, rfl, q⟩
  · obtain ⟨t, rfl⟩ := rx
    have hm : s.heap.MapOf (leafKind X.prog X.w) d (fun k => findBy Leaf.isOf es k) := ⟨_, es, n, I.kIn _ _ hl, ⟨rfl, rfl, rfl⟩, rfl, fun e he => by
      obtain ⟨x, t, e1, e2⟩ := hk.all e (Array.mem_toList_iff.mpr he)
      exact ⟨.text x, by rw [e1]; exact PySem.strKind_is X.prog X.w x t, e2⟩, fun _ => rfl⟩
    have hi : (leafKind X.prog X.w).is (.num i) (.int i t) = true := by
      show Leaf.isOf (.num i) (.int i t) = true
      simp [Leaf.isOf]
    refine wpAny_notIn_of hi D.low hm ?_
    have e : findBy Leaf.isOf es (.num i) = none := by
      unfold findBy
      have : es.find? (fun e => Leaf.isOf (.num i) e.key) = none := by
        rw [Array.find?_eq_none]
        intro e he
        obtain ⟨x, t, e1, _⟩ := hk.all e (Array.mem_toList_iff.mpr he)
        rw [e1]
        simp [Leaf.isOf]
      rw [this]
      rfl
    rw [e]
    exact ⟨.bl true, H, I.tok _, rfl, q⟩
/-! ### slices and sums of tuples, whole or empty or not -/
theorem cutV_whole {xs : List V} {lo hi : Option Int} (h : HT.sIx xs.length 0 lo = 0 ∧ HT.sIx xs.length xs.length hi = xs.length) : cutV xs lo hi = xs := by
  unfold cutV
  rw [h.1, h.2]
  simp
theorem cutV_mem {xs : List V} {lo hi : Option Int} {x : V} (h : x ∈ cutV xs lo hi) : x ∈ xs := by
  unfold cutV at h
  exact List.mem_of_mem_drop (List.mem_of_mem_take h)
theorem sl_two {K : PySem.W.Frag} {a : Addr} {xs : List V} {lo hi : Option Int} {H : Hp} {Q : VK} (h : SqT K H a xs) (q : ∀ p H', Same H H' → SqT K H' p (cutV xs lo hi) → Q (.ref p) H') :
    (HT.sIx xs.length 0 lo = 0 ∧ HT.sIx xs.length xs.length hi = xs.length → Q (.ref a) H) ∧ (¬ (HT.sIx xs.length 0 lo = 0 ∧ HT.sIx xs.length xs.length hi = xs.length) → ∀ p, H p = none → Q (.ref p) (upd H p (.tup (cutV xs lo hi)))) :=
  ⟨fun w => q a H (Same.refl _) (by rw [cutV_whole w]; exact h), fun _ p np => q p _ (Same.new np) (.inl (.inl upd_same))⟩
theorem cat_two {K : PySem.W.Frag} {a b : Addr} {xs ys : List V} {H : Hp} {Q : VK} (h : SqT K H a xs) (h2 : SqT K H b ys) (q : ∀ p H', Same H H' → SqT K H' p (xs ++ ys) → Q (.ref p) H') :
    (xs = [] → Q (.ref b) H) ∧ (xs ≠ [] → ys = [] → Q (.ref a) H) ∧ (xs ≠ [] → ys ≠ [] → ∀ p, H p = none → Q (.ref p) (upd H p (.tup (xs ++ ys)))) :=
  ⟨fun e => q b H (Same.refl _) (by rw [e, List.nil_append]; exact h2), fun _ e => q a H (Same.refl _) (by rw [e, List.append_nil]; exact h), fun _ _ p np => q p _ (Same.new np) (.inl (.inl upd_same))⟩
def rSlU (K : PySem.W.Frag) : V → Option Int → Option Int → Hp → VK → Prop := fun x lo hi H Q => ∃ a xs, x = .ref a ∧ SqT K H a xs ∧ ∀ p H', Same H H' → SqT K H' p (cutV xs lo hi) → Q (.ref p) H'
theorem sl_tupU {X : Cx} : SlR X (rSlU X.K) := by
  intro pins s σ H x v vl vu lo hi sl Q I rx hs pl pu h
  obtain ⟨a, xs, ex, hx, q⟩ := h
  exact sl_tupA pins s σ H x v vl vu lo hi sl Q I rx hs pl pu ⟨a, xs, ex, hx, sl_two hx q⟩
def rCatU (K : PySem.W.Frag) : R2 := fun x y H Q => ∃ a b xs ys, x = .ref a ∧ y = .ref b ∧ SqT K H a xs ∧ SqT K H b ys ∧ xs.length + ys.length ≤ sizeLine ∧ ∀ p H', Same H H' → SqT K H' p (xs ++ ys) → Q (.ref p) H'
theorem op_catU {X : Cx} : OpR X (binaryOp .Add) (rCatU X.K) := by
  intro pins s σ H x y v u Q I rx ry h
  obtain ⟨a, b, xs, ys, e1, e2, ha, hb, hz, q⟩ := h
  exact op_catA pins s σ H x y v u Q I rx ry ⟨a, b, xs, ys, e1, e2, ha, hb, hz, cat_two ha hb q⟩
theorem cutV_tail (x : V) (r : List V) : cutV (x :: r) (some 1) none = r := by
  unfold cutV
  have h1 : HT.sIx (x :: r).length 0 (some 1) = 1 := by
    have := HT.sIx_nat (x :: r).length 0 1
    rw [show ((1 : Nat) : Int) = 1 from rfl] at this
    rw [this, List.length_cons]
    omega
  have h2 : HT.sIx (x :: r).length (x :: r).length none = (x :: r).length := rfl
  rw [h1, h2, List.length_cons]
  simp
theorem call_str_atom {X : Cx} : CallR X (.type "str") (fun xs H Q => (∃ i, xs = [.int i] ∧ i.natAbs.log2 < 1920 ∧ Q (.str (Str.ofString (toString i))) H) ∨ ∃ a, xs = [.str a] ∧ Q (.str a) H) := by
  intro pins s σ H xs us Q I r h
  rcases h with h | h
  · exact call_str_int pins s σ H xs us Q I r h
  · exact SkE.call_str_str pins s σ H xs us Q I r h
end Mu

namespace Mu
open PySem L2
def top (i : Nat) : Stmt := PySem.Challenge.pw_murrine_k16_deeds_written.main.body.getD i (.Pass ⟨0, 0, 0, 0⟩)
abbrev s_is_deed : Stmt := top 8
abbrev s_written : Stmt := top 9
abbrev s_read : Stmt := top 10
abbrev s_is_deed_number : Stmt := top 11
abbrev s_is_number_word : Stmt := top 12
abbrev s_law_cell : Stmt := top 14
abbrev s_law_tuple : Stmt := top 15
abbrev s_law_whole : Stmt := top 16
abbrev s_law_like : Stmt := top 17
abbrev s_law_row : Stmt := top 18
abbrev s_law_word : Stmt := top 19
abbrev s_law_cut : Stmt := top 20
abbrev s_law_spoilt_deed : Stmt := top 21
abbrev s_law_fault : Stmt := top 22
abbrev s_law_refused : Stmt := top 23
abbrev s_law : Stmt := top 24
abbrev N_is_deed : List Str := ["deed", "numbers", "number"]
theorem sc_is_deed : FnScope ["deed", "numbers", "number"] ["deed"] (defScope s_is_deed) := ⟨rfl, rfl, rfl, by decide +kernel, rfl, by decide +kernel, by decide +kernel⟩
abbrev N_written : List Str := ["deed", "told"]
theorem sc_written : FnScope ["deed", "told"] ["deed"] (defScope s_written) := ⟨rfl, rfl, rfl, by decide +kernel, rfl, by decide +kernel, by decide +kernel⟩
abbrev N_read : List Str := ["line", "words", "word", "deed"]
theorem sc_read : FnScope ["line", "words", "word", "deed"] ["line"] (defScope s_read) := ⟨rfl, rfl, rfl, by decide +kernel, rfl, by decide +kernel, by decide +kernel⟩
abbrev N_is_deed_number : List Str := ["told"]
theorem sc_is_deed_number : FnScope ["told"] ["told"] (defScope s_is_deed_number) := ⟨rfl, rfl, rfl, by decide +kernel, rfl, by decide +kernel, by decide +kernel⟩
abbrev N_is_number_word : List Str := ["word"]
theorem sc_is_number_word : FnScope ["word"] ["word"] (defScope s_is_number_word) := ⟨rfl, rfl, rfl, by decide +kernel, rfl, by decide +kernel, by decide +kernel⟩
abbrev N_law_cell : List Str := ["_law_script", "_law_k"]
theorem sc_law_cell : FnScope ["_law_script", "_law_k"] ["_law_script", "_law_k"] (defScope s_law_cell) := ⟨rfl, rfl, rfl, by decide +kernel, rfl, by decide +kernel, by decide +kernel⟩
abbrev N_law_tuple : List Str := ["_law_script", "_law_words", "_law_at", "_law_told", "_law_k", "_law_cell_here"]
theorem sc_law_tuple : FnScope ["_law_script", "_law_words", "_law_at", "_law_told", "_law_k", "_law_cell_here"] ["_law_script"] (defScope s_law_tuple) := ⟨rfl, rfl, rfl, by decide +kernel, rfl, by decide +kernel, by decide +kernel⟩
abbrev N_law_whole : List Str := ["_law_found"]
theorem sc_law_whole : FnScope ["_law_found"] ["_law_found"] (defScope s_law_whole) := ⟨rfl, rfl, rfl, by decide +kernel, rfl, by decide +kernel, by decide +kernel⟩
abbrev N_law_like : List Str := ["_law_found", "_law_due", "_law_one", "_law_other"]
theorem sc_law_like : FnScope ["_law_found", "_law_due", "_law_one", "_law_other"] ["_law_found", "_law_due"] (defScope s_law_like) := ⟨rfl, rfl, rfl, by decide +kernel, rfl, by decide +kernel, by decide +kernel⟩
abbrev N_law_row : List Str := ["_law_cell_here", "_law_many", "_law_base", "_law_found", "_law_k", "_law_turn"]
theorem sc_law_row : FnScope ["_law_cell_here", "_law_many", "_law_base", "_law_found", "_law_k", "_law_turn"] ["_law_cell_here", "_law_many", "_law_base"] (defScope s_law_row) := ⟨rfl, rfl, rfl, by decide +kernel, rfl, by decide +kernel, by decide +kernel⟩
abbrev N_law_word : List Str := ["_law_cell_here", "_law_signs", "_law_figure"]
theorem sc_law_word : FnScope ["_law_cell_here", "_law_signs", "_law_figure"] ["_law_cell_here"] (defScope s_law_word) := ⟨rfl, rfl, rfl, by decide +kernel, rfl, by decide +kernel, by decide +kernel⟩
abbrev N_law_cut : List Str := ["_law_cell_here"]
theorem sc_law_cut : FnScope ["_law_cell_here"] ["_law_cell_here"] (defScope s_law_cut) := ⟨rfl, rfl, rfl, by decide +kernel, rfl, by decide +kernel, by decide +kernel⟩
abbrev N_law_spoilt_deed : List Str := ["_law_script", "_law_deed", "_law_way", "_law_at", "_law_cell_here", "_law_part"]
theorem sc_law_spoilt_deed : FnScope ["_law_script", "_law_deed", "_law_way", "_law_at", "_law_cell_here", "_law_part"] ["_law_script"] (defScope s_law_spoilt_deed) := ⟨rfl, rfl, rfl, by decide +kernel, rfl, by decide +kernel, by decide +kernel⟩
abbrev N_law_fault : List Str := ["_law_deed", "_law_names", "_law_part"]
theorem sc_law_fault : FnScope ["_law_deed", "_law_names", "_law_part"] ["_law_deed"] (defScope s_law_fault) := ⟨rfl, rfl, rfl, by decide +kernel, rfl, by decide +kernel, by decide +kernel⟩
abbrev N_law_refused : List Str := ["_law_deed", "_law_word_here"]
theorem sc_law_refused : FnScope ["_law_deed", "_law_word_here"] ["_law_deed"] (defScope s_law_refused) := ⟨rfl, rfl, rfl, by decide +kernel, rfl, by decide +kernel, by decide +kernel⟩
abbrev N_law : List Str := ["_law_script", "_law_deed", "_law_line", "_law_part", "_law_other"]
theorem sc_law : FnScope ["_law_script", "_law_deed", "_law_line", "_law_part", "_law_other"] ["_law_script"] (defScope s_law) := ⟨rfl, rfl, rfl, by decide +kernel, rfl, by decide +kernel, by decide +kernel⟩
/-- where the defs and the classes stand -/
structure Ad where
  f_is_deed : Addr
  d_is_deed : FuncData
  f_written : Addr
  d_written : FuncData
  f_read : Addr
  d_read : FuncData
  f_is_deed_number : Addr
  d_is_deed_number : FuncData
  f_is_number_word : Addr
  d_is_number_word : FuncData
  f_law_cell : Addr
  d_law_cell : FuncData
  f_law_tuple : Addr
  d_law_tuple : FuncData
  f_law_whole : Addr
  d_law_whole : FuncData
  f_law_like : Addr
  d_law_like : FuncData
  f_law_row : Addr
  d_law_row : FuncData
  f_law_word : Addr
  d_law_word : FuncData
  f_law_cut : Addr
  d_law_cut : FuncData
  f_law_spoilt_deed : Addr
  d_law_spoilt_deed : FuncData
  f_law_fault : Addr
  d_law_fault : FuncData
  f_law_refused : Addr
  d_law_refused : FuncData
  f_law : Addr
  d_law : FuncData
  c_BadDeed : Addr
  c_BadLine : Addr
  r_NUMBERS : Addr
  ps : Params
structure Txt (K : PySem.W.Frag) (mg : Str → Option Value) (A : Ad) : Prop where
  F_is_deed : Fun K "is_deed" "is_deed" s_is_deed A.f_is_deed A.d_is_deed
  bi_is_deed : Binds K A.d_is_deed ["deed"] []
  g_is_deed : mg "is_deed" = some (.ref A.f_is_deed)
  kp_is_deed : PySem.W.keepIn K (.ref A.f_is_deed) = true
  F_written : Fun K "written" "written" s_written A.f_written A.d_written
  bi_written : Binds K A.d_written ["deed"] []
  g_written : mg "written" = some (.ref A.f_written)
  kp_written : PySem.W.keepIn K (.ref A.f_written) = true
  F_read : Fun K "read" "read" s_read A.f_read A.d_read
  bi_read : Binds K A.d_read ["line"] []
  g_read : mg "read" = some (.ref A.f_read)
  kp_read : PySem.W.keepIn K (.ref A.f_read) = true
  F_is_deed_number : Fun K "is_deed_number" "is_deed_number" s_is_deed_number A.f_is_deed_number A.d_is_deed_number
  bi_is_deed_number : Binds K A.d_is_deed_number ["told"] []
  g_is_deed_number : mg "is_deed_number" = some (.ref A.f_is_deed_number)
  kp_is_deed_number : PySem.W.keepIn K (.ref A.f_is_deed_number) = true
  F_is_number_word : Fun K "is_number_word" "is_number_word" s_is_number_word A.f_is_number_word A.d_is_number_word
  bi_is_number_word : Binds K A.d_is_number_word ["word"] []
  g_is_number_word : mg "is_number_word" = some (.ref A.f_is_number_word)
  kp_is_number_word : PySem.W.keepIn K (.ref A.f_is_number_word) = true
  F_law_cell : Fun K "_law_cell" "_law_cell" s_law_cell A.f_law_cell A.d_law_cell
  bi_law_cell : Binds K A.d_law_cell ["_law_script", "_law_k"] []
  g_law_cell : mg "_law_cell" = some (.ref A.f_law_cell)
  kp_law_cell : PySem.W.keepIn K (.ref A.f_law_cell) = true
  F_law_tuple : Fun K "_law_tuple" "_law_tuple" s_law_tuple A.f_law_tuple A.d_law_tuple
  bi_law_tuple : Binds K A.d_law_tuple ["_law_script"] []
  g_law_tuple : mg "_law_tuple" = some (.ref A.f_law_tuple)
  kp_law_tuple : PySem.W.keepIn K (.ref A.f_law_tuple) = true
  F_law_whole : Fun K "_law_whole" "_law_whole" s_law_whole A.f_law_whole A.d_law_whole
  bi_law_whole : Binds K A.d_law_whole ["_law_found"] []
  g_law_whole : mg "_law_whole" = some (.ref A.f_law_whole)
  kp_law_whole : PySem.W.keepIn K (.ref A.f_law_whole) = true
  F_law_like : Fun K "_law_like" "_law_like" s_law_like A.f_law_like A.d_law_like
  bi_law_like : Binds K A.d_law_like ["_law_found", "_law_due"] []
  g_law_like : mg "_law_like" = some (.ref A.f_law_like)
  kp_law_like : PySem.W.keepIn K (.ref A.f_law_like) = true
  F_law_row : Fun K "_law_row" "_law_row" s_law_row A.f_law_row A.d_law_row
  bi_law_row : Binds K A.d_law_row ["_law_cell_here", "_law_many", "_law_base"] []
  g_law_row : mg "_law_row" = some (.ref A.f_law_row)
  kp_law_row : PySem.W.keepIn K (.ref A.f_law_row) = true
  F_law_word : Fun K "_law_word" "_law_word" s_law_word A.f_law_word A.d_law_word
  bi_law_word : Binds K A.d_law_word ["_law_cell_here"] []
  g_law_word : mg "_law_word" = some (.ref A.f_law_word)
  kp_law_word : PySem.W.keepIn K (.ref A.f_law_word) = true
  F_law_cut : Fun K "_law_cut" "_law_cut" s_law_cut A.f_law_cut A.d_law_cut
  bi_law_cut : Binds K A.d_law_cut ["_law_cell_here"] []
  g_law_cut : mg "_law_cut" = some (.ref A.f_law_cut)
  kp_law_cut : PySem.W.keepIn K (.ref A.f_law_cut) = true
  F_law_spoilt_deed : Fun K "_law_spoilt_deed" "_law_spoilt_deed" s_law_spoilt_deed A.f_law_spoilt_deed A.d_law_spoilt_deed
  bi_law_spoilt_deed : Binds K A.d_law_spoilt_deed ["_law_script"] []
  g_law_spoilt_deed : mg "_law_spoilt_deed" = some (.ref A.f_law_spoilt_deed)
  kp_law_spoilt_deed : PySem.W.keepIn K (.ref A.f_law_spoilt_deed) = true
  F_law_fault : Fun K "_law_fault" "_law_fault" s_law_fault A.f_law_fault A.d_law_fault
  bi_law_fault : Binds K A.d_law_fault ["_law_deed"] []
  g_law_fault : mg "_law_fault" = some (.ref A.f_law_fault)
  kp_law_fault : PySem.W.keepIn K (.ref A.f_law_fault) = true
  F_law_refused : Fun K "_law_refused" "_law_refused" s_law_refused A.f_law_refused A.d_law_refused
  bi_law_refused : Binds K A.d_law_refused ["_law_deed"] []
  g_law_refused : mg "_law_refused" = some (.ref A.f_law_refused)
  kp_law_refused : PySem.W.keepIn K (.ref A.f_law_refused) = true
  F_law : Fun K "law" "law" s_law A.f_law A.d_law
  bi_law : Binds K A.d_law ["_law_script"] []
  g_law : mg "law" = some (.ref A.f_law)
  kp_law : PySem.W.keepIn K (.ref A.f_law) = true
  g_BadDeed : mg "BadDeed" = some (.ref A.c_BadDeed)
  x_BadDeed : PySem.W.excIn K A.c_BadDeed [.type "ValueError", .type "Exception", .type "BaseException", .type "object"] "ValueError.__new__" = true
  kp_BadDeed : PySem.W.keepIn K (.ref A.c_BadDeed) = true
  b_BadDeed : PySem.W.subIn K (.ref A.c_BadDeed) (.type "BaseException") = some true
  t_BadDeed : PySem.W.typeIn K (.ref A.c_BadDeed) = some (.type "type")
  e_BadDeed : PySem.W.exmOne K (.ref A.c_BadDeed) (.ref A.c_BadDeed) = some true
  g_BadLine : mg "BadLine" = some (.ref A.c_BadLine)
  x_BadLine : PySem.W.excIn K A.c_BadLine [.type "ValueError", .type "Exception", .type "BaseException", .type "object"] "ValueError.__new__" = true
  kp_BadLine : PySem.W.keepIn K (.ref A.c_BadLine) = true
  b_BadLine : PySem.W.subIn K (.ref A.c_BadLine) (.type "BaseException") = some true
  t_BadLine : PySem.W.typeIn K (.ref A.c_BadLine) = some (.type "type")
  e_BadLine : PySem.W.exmOne K (.ref A.c_BadLine) (.ref A.c_BadLine) = some true
  c_GREATEST : GInt mg "GREATEST" 999999999999999999
  c_MOST_FIGURES : GInt mg "MOST_FIGURES" 18
  g_NUMBERS : mg "NUMBERS" = some (.ref A.r_NUMBERS)
  D_NUMBERS : KDS K A.ps A.r_NUMBERS [("gather", 3), ("pull", 2), ("bundle", 4), ("turn", 2), ("cut", 2), ("fuse", 2), ("sell", 1), ("waste", 1)]
  nb_abs : mg "abs" = none
  nb_all : mg "all" = none
  nb_bool : mg "bool" = none
  nb_int : mg "int" = none
  nb_isinstance : mg "isinstance" = none
  nb_len : mg "len" = none
  nb_list : mg "list" = none
  nb_range : mg "range" = none
  nb_str : mg "str" = none
  nb_tuple : mg "tuple" = none
  nb_zip : mg "zip" = none
end Mu

/-! Like: the laws' own small helpers: a cell of the script, a whole number, two data alike. -/
namespace Mu
open PySem L2
section
variable {P : Program} {w : World} {K : PySem.W.Frag} {mg : Str → Option Value} {base : Heap} {A : Ad}
def sp_law_cell (K : PySem.W.Frag) : Sp := fun vs H Q _ => ∃ (a : Addr) (ns : List Int) (j : Nat), vs = [.ref a, .int j] ∧ SqL K H a (ns.map V.int) ∧ Q (.int (ns.getD j 0)) H
theorem ok_law_cell (T : Txt K mg A) : FnOk P w K mg base CX0 1 A.f_law_cell A.d_law_cell ["_law_script", "_law_k"] (sp_law_cell K) := by
  refine T.F_law_cell.ok sc_law_cell (fun vs H Q E h => ?_) (fun cdv A outer s H vs Q E hr h => ?_)
  · obtain ⟨a, ns, j, rfl, _⟩ := h
    rfl
  · obtain ⟨a, ns, j, rfl, hS, k⟩ := h
    refine ⟨_, (pss_cons (ps_if (pt_cmpR op_lt (pv 1) (pe_callB (id := "len") call_len_seq (by rfl) T.nb_len (by decide +kernel) (pa_cons (pv 0) pa_nil)) (nomark _))
    (pss_one (ps_ret (pe_ix ix_list (pv 0) (pv 1) (fun _ _ => rfl))))
    pss_nil)
  (pss_one (ps_ret pe_int))), ?_⟩
    refine ⟨_, rfl, _, rfl, _, _, rfl, .inl hS, _, _, rfl, rfl, _, rfl, ?_⟩
    refine ifD2 (fun h => ?_) (fun h => ?_)
    · have hj : j < ns.length := by simpa using h
      refine ⟨_, rfl, _, rfl, a, _, _, _, rfl, rfl, hS, atI_nat (v := .int ns[j]) (by simp [hj]), ?_⟩
      rw [List.getD_eq_getElem?_getD, List.getElem?_eq_getElem hj] at k
      exact k
    · have hj : ¬ j < ns.length := by simpa using h
      have e : ns.getD j 0 = 0 := by simp [List.getD_eq_getElem?_getD, List.getElem?_eq_none (Nat.le_of_not_lt hj)]
      rw [e] at k
      exact k

def sp_law_whole : Sp := fun vs H Q _ => ∃ i : Int, vs = [.int i] ∧ Q (.bl true) H
theorem ok_law_whole (T : Txt K mg A) : FnOk P w K mg base CX0 1 A.f_law_whole A.d_law_whole ["_law_found"] sp_law_whole := by
  refine T.F_law_whole.ok sc_law_whole (fun vs H Q E h => ?_) (fun cdv A outer s H vs Q E hr h => ?_)
  · obtain ⟨i, rfl, _⟩ := h
    rfl
  · obtain ⟨i, rfl, k⟩ := h
    refine ⟨_, (pss_one (ps_ret (pe_and (pe_callB (id := "isinstance") call_isi (by rfl) T.nb_isinstance (by decide +kernel) (pa_cons (pv 0) (pa_cons (pe_ty (T := "int") T.nb_int (by decide +kernel)) pa_nil))) (pe_one (pe_not (pe_callB (id := "isinstance") call_isi (by rfl) T.nb_isinstance (by decide +kernel) (pa_cons (pv 0) (pa_cons (pe_ty (T := "bool") T.nb_bool (by decide +kernel)) pa_nil)))))))), ?_⟩
    exact ⟨_, rfl, ⟨_, _, _, _, _, rfl, .ty _, (.base (.int i)), by rfl, true, rfl, ifT rfl ⟨_, rfl, ⟨_, _, _, _, _, rfl, .ty _, (.base (.int i)), by rfl, false, rfl, k⟩⟩⟩⟩

def sp_law_like (K : PySem.W.Frag) (n : Nat) : Sp := fun vs H Q _ => ∃ (x y : V) (d : Dt), vs = [x, y] ∧ DtAt K H x d ∧ DtAt K H y d ∧ d.dep < n ∧ ∀ H', Same H H' → Q (.bl true) H'
theorem ok_law_like (T : Txt K mg A) : ∀ n, FnOk P w K mg base CX0 (n + 2) A.f_law_like A.d_law_like ["_law_found", "_law_due"] (sp_law_like K n)
  | 0 => fn_never fun vs H Q E h => by
    obtain ⟨x, y, d, _, _, _, z, _⟩ := h
    exact absurd z (Nat.not_lt_zero _)
  | n + 1 => by
    have G_law_like := ok_law_like T n
    have G_law_whole := ok_law_whole (P := P) (w := w) (base := base) T
    refine T.F_law_like.ok sc_law_like (fun vs H Q E h => ?_) (fun cdv A outer s H vs Q E hr h => ?_)
    · obtain ⟨x, y, d, rfl, _⟩ := h
      rfl
    · obtain ⟨x, y, d, rfl, hx, hy, hd, k⟩ := h
      refine ⟨_, (pss_cons (ps_if (pt_cmp (pc_isN (pv 1)))
    (pss_one (ps_ret (pe_cmp (pc_isN (pv 0)))))
    pss_nil)
  (pss_cons (ps_if (pt_cmpR op_isV (pv 1) pe_bl (nomark _))
    (pss_one (ps_ret (pe_cmpR op_isV (pv 0) pe_bl (nomark _))))
    pss_nil)
  (pss_cons (ps_if (pt_cmpR op_isV (pv 1) pe_bl (nomark _))
    (pss_one (ps_ret (pe_cmpR op_isV (pv 0) pe_bl (nomark _))))
    pss_nil)
  (pss_cons (ps_if (pt_val (pe_callB (id := "isinstance") call_isi (by rfl) T.nb_isinstance (by decide +kernel) (pa_cons (pv 1) (pa_cons (pe_ty (T := "int") T.nb_int (by decide +kernel)) pa_nil))))
    (pss_one (ps_ret (pe_and (pe_call G_law_whole (hr.mono (by omega)) rfl T.g_law_whole T.kp_law_whole T.bi_law_whole .nil pass0 (pa_cons (pv 0) pa_nil)) (pe_one (pe_cmpR op_eq (pv 0) (pv 1) (nomark _))))))
    pss_nil)
  (pss_cons (ps_if (pt_val (pe_callB (id := "isinstance") call_isi (by rfl) T.nb_isinstance (by decide +kernel) (pa_cons (pv 1) (pa_cons (pe_ty (T := "str") T.nb_str (by decide +kernel)) pa_nil))))
    (pss_one (ps_ret (pe_and (pe_callB (id := "isinstance") call_isi (by rfl) T.nb_isinstance (by decide +kernel) (pa_cons (pv 0) (pa_cons (pe_ty (T := "str") T.nb_str (by decide +kernel)) pa_nil))) (pe_one (pe_cmpR op_eq (pv 0) (pv 1) (nomark _))))))
    pss_nil)
  (pss_cons (ps_if (PW.pt (pw_and (pt_val (pe_callB (id := "isinstance") call_isi (by rfl) T.nb_isinstance (by decide +kernel) (pa_cons (pv 1) (pa_cons (pe_ty (T := "tuple") T.nb_tuple (by decide +kernel)) pa_nil)))) (pw_and1 (pt_not (pt_val (pe_callB (id := "isinstance") call_isi (by rfl) T.nb_isinstance (by decide +kernel) (pa_cons (pv 0) (pa_cons (pe_ty (T := "tuple") T.nb_tuple (by decide +kernel)) pa_nil))))))))
    (pss_one (ps_ret pe_bl))
    pss_nil)
  (pss_cons (ps_if (PW.pt (pw_and (pt_val (pe_callB (id := "isinstance") call_isi (by rfl) T.nb_isinstance (by decide +kernel) (pa_cons (pv 1) (pa_cons (pe_ty (T := "list") T.nb_list (by decide +kernel)) pa_nil)))) (pw_and1 (pt_not (pt_val (pe_callB (id := "isinstance") call_isi (by rfl) T.nb_isinstance (by decide +kernel) (pa_cons (pv 0) (pa_cons (pe_ty (T := "list") T.nb_list (by decide +kernel)) pa_nil))))))))
    (pss_one (ps_ret pe_bl))
    pss_nil)
  (pss_cons (ps_if (pt_cmpR op_ne (pe_callB (id := "len") call_len_seq (by rfl) T.nb_len (by decide +kernel) (pa_cons (pv 0) pa_nil)) (pe_callB (id := "len") call_len_seq (by rfl) T.nb_len (by decide +kernel) (pa_cons (pv 1) pa_nil)) (nomark _))
    (pss_one (ps_ret pe_bl))
    pss_nil)
  (pss_cons (ps_for PassesOwn.never rfl (RZ.pi_zipA rfl T.nb_zip (pa_cons (pv 0) (pa_cons (pv 1) pa_nil))) (pg_tup rfl (pgs_cons (pg_name (i := 2) sc_law_like.nd rfl (Or.inl rfl)) (pgs_cons (pg_name (i := 3) sc_law_like.nd rfl (Or.inl rfl)) pgs_nil)))
    (pss_one (ps_if (pt_not (pt_val (pe_call G_law_like (hr.mono (by omega)) rfl T.g_law_like T.kp_law_like T.bi_law_like .nil pass0 (pa_cons (pv 2) (pa_cons (pv 3) pa_nil)))))
        (pss_one (ps_ret pe_bl))
        pss_nil)))
  (pss_one (ps_ret pe_bl))))))))))), ?_⟩
      cases d with
      | non =>
        cases hx; cases hy
        exact ⟨_, rfl, _, rfl, ifD rfl ⟨_, rfl, k _ (Same.refl _)⟩⟩
      | bl b =>
        cases hx; cases hy
        refine ⟨_, rfl, _, rfl, ifN (fun z => nomatch z) ⟨_, rfl, true, rfl, _, rfl, ?_⟩⟩
        cases b with
        | true => exact ifD rfl ⟨_, rfl, true, rfl, k _ (Same.refl _)⟩
        | false => exact ifN (by decide) ⟨_, rfl, false, rfl, _, rfl, ifD rfl ⟨_, rfl, false, rfl, k _ (Same.refl _)⟩⟩
      | int i =>
        cases hx; cases hy
        refine ⟨_, rfl, _, rfl, ifN (fun z => nomatch z) ⟨_, rfl, true, rfl, _, rfl, ifN (fun z => nomatch z) ⟨_, rfl, false, rfl, _, rfl, ifN (fun z => nomatch z) ⟨_, rfl, ⟨_, _, _, _, _, rfl, .ty _, (.base (.int i)), by rfl, _, rfl, ifT rfl ?_⟩⟩⟩⟩⟩
        refine ⟨_, rfl, i, rfl, true, rfl, ifT rfl ⟨_, rfl, _, rfl, rfl, ?_⟩⟩
        rw [decide_eq_true rfl]
        exact k _ (Same.refl _)
      | str z =>
        cases hx; cases hy
        refine ⟨_, rfl, _, rfl, ifN (fun z => nomatch z) ⟨_, rfl, true, rfl, _, rfl, ifN (fun z => nomatch z) ⟨_, rfl, false, rfl, _, rfl, ifN (fun z => nomatch z) ⟨_, rfl, ⟨_, _, _, _, _, rfl, .ty _, (.base (.str z)), by rfl, _, rfl, ifF rfl ?_⟩⟩⟩⟩⟩
        refine ⟨_, rfl, ⟨_, _, _, _, _, rfl, .ty _, (.base (.str z)), by rfl, _, rfl, ifT rfl ?_⟩⟩
        refine ⟨_, rfl, ⟨_, _, _, _, _, rfl, .ty _, (.base (.str z)), by rfl, true, rfl, ifT rfl ⟨_, rfl, _, rfl, rfl, ?_⟩⟩⟩
        rw [decide_eq_true rfl]
        exact k _ (Same.refl _)
      | tup xs =>
        cases hx with
        | @tup a us _ ha da =>
        cases hy with
        | @tup b vs _ hb db =>
        have hl : us.length = vs.length := da.len.trans db.len.symm
        refine ⟨_, rfl, _, rfl, ifN (fun z => nomatch z) ⟨_, rfl, true, rfl, _, rfl, ifN (fun z => nomatch z) ⟨_, rfl, false, rfl, _, rfl, ifN (fun z => nomatch z) ⟨_, rfl, ⟨_, _, _, _, _, rfl, .ty _, (tyx_t hb), by rfl, _, rfl, ifF rfl ?_⟩⟩⟩⟩⟩
        refine ⟨_, rfl, ⟨_, _, _, _, _, rfl, .ty _, (tyx_t hb), by rfl, _, rfl, ifF rfl ?_⟩⟩
        refine ⟨_, rfl, ⟨_, _, _, _, _, rfl, .ty _, (tyx_t hb), by rfl, _, rfl, ifT rfl ⟨_, rfl, ⟨_, _, _, _, _, rfl, .ty _, (tyx_t ha), by rfl, _, rfl, ifF rfl ?_⟩⟩⟩⟩
        refine ⟨_, rfl, ⟨_, _, _, _, _, rfl, .ty _, (tyx_t hb), by rfl, _, rfl, ifF rfl ?_⟩⟩
        refine ifF rfl ?_
        refine ⟨_, rfl, _, _, rfl, .inr ha, _, rfl, _, _, rfl, .inr hb, rfl, _, rfl, ?_⟩
        refine iteNS (by rw [hl]) ?_
        refine ⟨_, rfl, _, rfl, a, b, us, vs, rfl, .inr ⟨ha, hb, RZ.for_zipT hl (fun _ σ H' => ∃ v2 v3, σ = [some (.ref a), some (.ref b), v2, v3] ∧ Same H H') ⟨_, _, rfl, Same.refl _⟩ (fun i σ H' ⟨_, _, _, e⟩ => ⟨Same.tup e ha, Same.tup e hb⟩) ?_ ?_⟩⟩
        · rintro i x y Tp σ H' hxi hyi ⟨v2, v3, rfl, e⟩ hT
          refine ⟨Tp, _, rfl, .inl (.inl upd_same), rfl, _, _, rfl, _, _, rfl, rfl, ?_⟩
          obtain ⟨z, z1, z2, z3⟩ := da.at hxi
          obtain ⟨z', y1, y2, _⟩ := db.at hyi
          obtain rfl : z' = z := Option.some.inj (y1.symm.trans z1)
          have e2 := e.trans (Same.new (o := .tup [x, y]) hT)
          refine ⟨_, rfl, _, rfl, x, y, z', rfl, z2.same e2, y2.same e2, ?_, fun H2 e3 => ⟨_, rfl, ifF rfl ?_⟩⟩
          · have : Dt.dep (.tup xs) = Dt.deps xs + 1 := by unfold Dt.dep; rfl
            omega
          · exact ⟨_, _, rfl, e2.trans e3⟩
        · rintro σ H' ⟨v2, v3, rfl, e⟩
          exact k _ e
      | lst xs =>
        cases hx with
        | @lst a us _ ha da =>
        cases hy with
        | @lst b vs _ hb db =>
        have hl : us.length = vs.length := da.len.trans db.len.symm
        refine ⟨_, rfl, _, rfl, ifN (fun z => nomatch z) ⟨_, rfl, true, rfl, _, rfl, ifN (fun z => nomatch z) ⟨_, rfl, false, rfl, _, rfl, ifN (fun z => nomatch z) ⟨_, rfl, ⟨_, _, _, _, _, rfl, .ty _, (tyx_l hb), by rfl, _, rfl, ifF rfl ?_⟩⟩⟩⟩⟩
        refine ⟨_, rfl, ⟨_, _, _, _, _, rfl, .ty _, (tyx_l hb), by rfl, _, rfl, ifF rfl ?_⟩⟩
        refine ⟨_, rfl, ⟨_, _, _, _, _, rfl, .ty _, (tyx_l hb), by rfl, _, rfl, ifF rfl ?_⟩⟩
        refine ifF rfl ?_
        refine ⟨_, rfl, ⟨_, _, _, _, _, rfl, .ty _, (tyx_l hb), by rfl, _, rfl, ifT rfl ⟨_, rfl, ⟨_, _, _, _, _, rfl, .ty _, (tyx_l ha), by rfl, _, rfl, ifF rfl ?_⟩⟩⟩⟩
        refine ⟨_, rfl, _, _, rfl, .inl ha, _, rfl, _, _, rfl, .inl hb, rfl, _, rfl, ?_⟩
        refine iteNS (by rw [hl]) ?_
        refine ⟨_, rfl, _, rfl, a, b, us, vs, rfl, .inl ⟨ha, hb, RZ.for_zipL hl (fun _ σ H' => ∃ v2 v3, σ = [some (.ref a), some (.ref b), v2, v3] ∧ Same H H') ⟨_, _, rfl, Same.refl _⟩ (fun i σ H' ⟨_, _, _, e⟩ => ⟨e.seq ha, e.seq hb⟩) ?_ ?_⟩⟩
        · rintro i x y Tp σ H' hxi hyi ⟨v2, v3, rfl, e⟩ hT
          refine ⟨Tp, _, rfl, .inl (.inl upd_same), rfl, _, _, rfl, _, _, rfl, rfl, ?_⟩
          obtain ⟨z, z1, z2, z3⟩ := da.at hxi
          obtain ⟨z', y1, y2, _⟩ := db.at hyi
          obtain rfl : z' = z := Option.some.inj (y1.symm.trans z1)
          have e2 := e.trans (Same.new (o := .tup [x, y]) hT)
          refine ⟨_, rfl, _, rfl, x, y, z', rfl, z2.same e2, y2.same e2, ?_, fun H2 e3 => ⟨_, rfl, ifF rfl ?_⟩⟩
          · have : Dt.dep (.lst xs) = Dt.deps xs + 1 := by unfold Dt.dep; rfl
            omega
          · exact ⟨_, _, rfl, e2.trans e3⟩
        · rintro σ H' ⟨v2, v3, rfl, e⟩
          exact k _ e
end
end Mu

/-! Row: figures drawn of a number. -/
namespace Mu
open PySem L2
theorem at_snoc' {α : Type} {S : List α} {q r : α} {i : Nat} (h : (S ++ [q])[i]? = some r) : S[i]? = some r ∨ (i = S.length ∧ r = q) := at_snoc h
def bigAt (b : Int) : Nat → Int → Int
  | 0, a => a
  | k + 1, a => bigAt b k a / b
def turnAt (t0 : Int) : Nat → Int
  | 0 => t0
  | k + 1 => (turnAt t0 k * 48271 + 9973 * (k : Int) + 11) % 2147483647
def absI (z : Int) : Int := if z < 0 then -z else z
def rowOf (z : Int) (m : Nat) (b : Int) : List Int :=
  if 1000000000000000000 ≤ absI z then (List.range m).map fun k => bigAt b k (absI z) % b
  else (List.range m).map fun k => turnAt ((absI z % 1000003 + 17) * 69621 % 2147483647) (k + 1) / 1021 % b
theorem rowOf_len (z : Int) (m : Nat) (b : Int) : (rowOf z m b).length = m := by
  unfold rowOf
  split <;> simp
theorem rowOf_at (z : Int) {m k : Nat} {b : Int} (hb : 0 < b) (hk : k < m) : ∃ r : Int, (rowOf z m b)[k]? = some r ∧ 0 ≤ r ∧ r < b := by
  unfold rowOf
  split
  · exact ⟨_, by rw [List.getElem?_map, List.getElem?_range hk]; rfl, Int.emod_nonneg _ (by omega), Int.emod_lt_of_pos _ hb⟩
  · exact ⟨_, by rw [List.getElem?_map, List.getElem?_range hk]; rfl, Int.emod_nonneg _ (by omega), Int.emod_lt_of_pos _ hb⟩
section
variable {P : Program} {w : World} {K : PySem.W.Frag} {mg : Str → Option Value} {base : Heap} {A : Ad}
def sp_law_row : Sp := fun vs H Q _ => ∃ (z : Int) (m : Nat) (b : Int), vs = [.int z, .int m, .int b] ∧ m ≤ 1000 ∧ 0 < b ∧ b < 1073741824 ∧ ∀ l H', Same H H' → H l = none → H' l = some (.lst ((rowOf z m b).map V.int)) → Q (.ref l) H'
theorem ok_law_row (T : Txt K mg A) : FnOk P w K mg base CX0 1 A.f_law_row A.d_law_row ["_law_cell_here", "_law_many", "_law_base"] sp_law_row := by
  refine T.F_law_row.ok sc_law_row (fun vs H Q E h => ?_) (fun cdv A' outer s H vs Q E hr h => ?_)
  · obtain ⟨z, m, b, rfl, _⟩ := h
    rfl
  · obtain ⟨z, m, b, rfl, hm, hb, hb2, kQ⟩ := h
    refine ⟨_, (pss_cons (ps_set (i := 3) sc_law_row.nd rfl (Or.inl rfl) (pe_lst pa_nil))
  (pss_cons (ps_set (i := 0) sc_law_row.nd rfl (Or.inl rfl) (pe_callB (id := "abs") call_abs (by rfl) T.nb_abs (by decide +kernel) (pa_cons (pv 0) pa_nil)))
  (pss_cons (ps_if (pt_cmpR op_ge (pv 0) (pe_op op_pow pe_int pe_int) (nomark _))
    (pss_cons (ps_for PassesOwn.never rfl (pi_range1 rfl T.nb_range (pa_cons (pv 1) pa_nil)) (pg_name (i := 4) sc_law_row.nd rfl (Or.inl rfl))
        (pss_cons (ps_expr (pe_bm PySem.F.plainAttrs_list PySem.F.slot_list_append PySem.F.type_list_append mt_append (pv 3) (pa_cons (pe_op op_mod (pv 0) (pv 2)) pa_nil)))
          (pss_one (ps_set (i := 0) sc_law_row.nd rfl (Or.inl rfl) (pe_op op_fdiv (pv 0) (pv 2))))))
      (pss_one (ps_ret (pv 3))))
    pss_nil)
  (pss_cons (ps_set (i := 5) sc_law_row.nd rfl (Or.inl rfl) (pe_op op_mod (pe_op op_mul (pe_op op_add (pe_op op_mod (pv 0) pe_int) pe_int) pe_int) pe_int))
  (pss_cons (ps_for PassesOwn.never rfl (pi_range1 rfl T.nb_range (pa_cons (pv 1) pa_nil)) (pg_name (i := 4) sc_law_row.nd rfl (Or.inl rfl))
    (pss_cons (ps_set (i := 5) sc_law_row.nd rfl (Or.inl rfl) (pe_op op_mod (pe_op op_add (pe_op op_add (pe_op op_mul (pv 5) pe_int) (pe_op op_mul pe_int (pv 4))) pe_int) pe_int))
      (pss_one (ps_expr (pe_bm PySem.F.plainAttrs_list PySem.F.slot_list_append PySem.F.type_list_append mt_append (pv 3) (pa_cons (pe_op op_mod (pe_op op_fdiv (pv 5) pe_int) (pv 2)) pa_nil))))))
  (pss_one (ps_ret (pv 3)))))))), ?_⟩
    refine ⟨Nat.zero_le _, fun D nD => ?_⟩
    refine ⟨_, rfl, _, rfl, ?_⟩
    obtain ⟨a, ha⟩ : ∃ a : Int, a = absI z := ⟨_, rfl⟩
    have ha' : (if z < 0 then -z else z) = a := by rw [ha]; rfl
    rw [ha']
    have hrow : rowOf z m b = if 1000000000000000000 ≤ a then (List.range m).map fun k => bigAt b k a % b else (List.range m).map fun k => turnAt ((a % 1000003 + 17) * 69621 % 2147483647) (k + 1) / 1021 % b := by
      unfold rowOf
      rw [← ha]
    rw [hrow] at kQ
    have sD := Same.new (o := .lst []) nD
    have keepD : ∀ {H' : Hp} {xs : List V}, Same H H' → Same H (upd H' D (.lst xs)) := fun e => Same.upd_off nD e
    have e18 : (10 : Int) ^ (18 : Int).toNat = 1000000000000000000 := by decide
    refine ⟨_, rfl, _, _, rfl, rfl, ⟨by decide, by decide, by decide⟩, _, _, rfl, rfl, _, rfl, ifD2 (fun h => ?_) (fun h => ?_)⟩
    · rw [e18] at h
      rw [if_pos h] at kQ
      refine ⟨_, rfl, m, rfl, by omega, by omega, for_range (fun i σ H' => ∃ v4 v5, σ = [some (.int (bigAt b i a)), some (.int m), some (.int b), some (.ref D), v4, v5] ∧ Same H H' ∧ H' D = some (.lst (((List.range i).map fun k => bigAt b k a % b).map V.int)))
        ⟨_, _, rfl, sD, upd_same⟩ ?_ ?_⟩
      · rintro i σ H' hi ⟨v4, v5, rfl, e, hD⟩
        have hi' : i < m := by simpa using hi
        refine ⟨_, rfl, .inl ⟨rfl, _, .inl (.inl hD)⟩, _, rfl, _, rfl, _, _, rfl, rfl, hb, _, _, _, rfl, rfl, hD, (by rw [List.length_map, List.length_map, List.length_range]; exact small1000 (by omega)), ?_⟩
        refine ⟨_, rfl, _, rfl, _, _, rfl, rfl, ⟨hb, hb2⟩, ?_⟩
        refine ⟨_, _, rfl, keepD e, ?_⟩
        rw [upd_same, List.range_succ, List.map_append, List.map_append]
        rfl
      · rintro σ H' ⟨v4, v5, rfl, e, hD⟩
        have em : ((m : Nat) : Int).toNat = m := Int.toNat_natCast m
        rw [em] at hD
        exact ⟨_, rfl, kQ D H' e nD hD⟩
    · rw [e18] at h
      rw [if_neg h] at kQ
      refine ⟨_, rfl, _, _, rfl, rfl, (by show (0 : Int) < 1000003; decide), _, _, rfl, rfl, _, _, rfl, rfl, .inr ⟨by decide, by decide⟩, _, _, rfl, rfl, (by show (0 : Int) < 2147483647; decide), ?_⟩
      dsimp only
      generalize (a % 1000003 + 17) * 69621 % 2147483647 = t0 at kQ ⊢
      refine ⟨_, rfl, m, rfl, by omega, by omega, for_range (fun i σ H' => ∃ v4, σ = [some (.int a), some (.int m), some (.int b), some (.ref D), v4, some (.int (turnAt t0 i))] ∧ Same H H' ∧ H' D = some (.lst (((List.range i).map fun k => turnAt t0 (k + 1) / 1021 % b).map V.int)))
        ⟨_, rfl, sD, upd_same⟩ ?_ ?_⟩
      · rintro i σ H' hi ⟨v4, rfl, e, hD⟩
        have hi' : i < m := by simpa using hi
        rw [Int.zero_add]
        refine ⟨_, rfl, _, _, rfl, rfl, .inr ⟨by decide, by decide⟩, _, rfl, _, _, rfl, rfl, .inl ⟨by decide, by decide⟩, _, _, rfl, rfl, _, _, rfl, rfl, _, _, rfl, rfl, (by show (0 : Int) < 2147483647; decide), ?_⟩
        refine ⟨_, rfl, .inl ⟨rfl, _, .inl (.inl hD)⟩, _, rfl, _, _, rfl, rfl, ⟨by decide, by decide⟩, _, rfl, _, _, rfl, rfl, hb, _, _, _, rfl, rfl, hD, (by rw [List.length_map, List.length_map, List.length_range]; exact small1000 (by omega)), ?_⟩
        refine ⟨_, rfl, keepD e, ?_⟩
        rw [upd_same, List.range_succ, List.map_append, List.map_append]
        rfl
      · rintro σ H' ⟨v4, rfl, e, hD⟩
        have em : ((m : Nat) : Int).toNat = m := Int.toNat_natCast m
        rw [em] at hD
        exact ⟨_, rfl, kQ D H' e nD hD⟩
/-- the place that the law picks -/
def pickOf (f o m : Int) : Int := if f % 2 = 0 ∧ m > 10 then max 10 (m - 1 - o % 4) else o
theorem pickOf_at {f o : Int} {m : Nat} (hm : 10 ≤ m) (h0 : 0 ≤ o) (h1 : o < 10) : 0 ≤ pickOf f o m ∧ pickOf f o m < m := by
  unfold pickOf
  split <;> omega
def sp_law_picked : Sp := fun vs H Q _ => ∃ f o m : Int, vs = [.int f, .int o, .int m] ∧ Q (.int (pickOf f o m)) H
end
end Mu

/-! Deeds: the program's deeds. -/
namespace Mu
open PySem L2
/-! ### deeds as such -/
def kvsN : List (Str × Int) := [("gather", 3), ("pull", 2), ("bundle", 4), ("turn", 2), ("cut", 2), ("fuse", 2), ("sell", 1), ("waste", 1)]
def Atom (v : V) : Prop := (∃ i, v = .int i) ∨ ∃ z, v = .str z
def okNum : V → Bool
  | .int i => decide (0 ≤ i) && decide (i ≤ 999999999999999999)
  | _ => false
def deedB : List V → Bool
  | .str z :: r => (match kvsN.lookup z with
    | some n => decide ((r.length : Int) = n) && r.all okNum
    | none => false)
  | _ => false
/-- a part as text -/
def atomS : V → Str
  | .int i => Str.ofString (toString i)
  | .str z => z
  | _ => ""
/-- what the words of a line tell -/
def wordsB (ws : List Str) : List V := .str (ws.headD "") :: ws.tail.map fun x => V.int (valW x)
def readB (z : Str) : Option (List V) := if (Txt.split z " ").tail.all numW = true ∧ deedB (wordsB (Txt.split z " ")) = true then some (wordsB (Txt.split z " ")) else none
theorem log_small {i : Int} (h0 : 0 ≤ i) (h1 : i < 1000000000000000000) : i.natAbs.log2 < 1920 := by
  have h2 : i.natAbs.log2 < 60 := by
    by_cases h : i.natAbs = 0
    · rw [h]; decide
    · exact (Nat.log2_lt h).mpr (by omega)
  omega
def Part (x : V) : Prop := (∃ i, x = .int i ∧ 0 ≤ i ∧ i < 1000000000000000000) ∨ ∃ z : Str, x = .str z ∧ z.length ≤ 6
theorem part_len {x : V} (h : Part x) : (atomS x).length ≤ 18 := by
  rcases h with ⟨i, rfl, h0, h1⟩ | ⟨z, rfl, hz⟩
  · obtain ⟨n, rfl⟩ : ∃ n : Nat, i = n := ⟨i.toNat, by omega⟩
    exact (numW_int (num_numW n (by omega)).1).2.2.2
  · exact Nat.le_trans hz (by decide)
theorem names_small : ∀ q, q ∈ kvsN → q.1.length ≤ 6 ∧ q.2 ≤ 4 := by decide +kernel
theorem lookup_mem {z : Str} {n : Int} (h : kvsN.lookup z = some n) : (z, n) ∈ kvsN := by
  obtain ⟨l1, l2, e, _⟩ := List.lookup_eq_some_iff.mp h
  rw [e]
  simp
theorem deedB_cases {xs : List V} (h : deedB xs = true) : ∃ (z : Str) (n : Int) (r : List V), xs = .str z :: r ∧ kvsN.lookup z = some n ∧ (r.length : Int) = n ∧ r.all okNum = true := by
  cases xs with
  | nil => cases h
  | cons x r =>
    cases x with
    | str z =>
      cases hz : kvsN.lookup z with
      | none => simp [deedB, hz] at h
      | some n =>
        simp [deedB, hz] at h
        exact ⟨z, n, r, rfl, hz, h.1, by rw [List.all_eq_true]; exact h.2⟩
    | _ => simp [deedB] at h
theorem deedB_parts {xs : List V} (h : deedB xs = true) : xs.length ≤ 5 ∧ ∀ x, x ∈ xs → Part x := by
  obtain ⟨z, n, r, rfl, hz, hn, hr⟩ := deedB_cases h
  obtain ⟨h1, h2⟩ := names_small _ (lookup_mem hz)
  refine ⟨by rw [List.length_cons]; simp only at h2; omega, fun x hx => ?_⟩
  rcases List.mem_cons.mp hx with rfl | hx
  · exact .inr ⟨z, rfl, h1⟩
  · have := List.all_eq_true.mp hr x hx
    cases x with
    | int i =>
      simp [okNum] at this
      exact .inl ⟨i, rfl, by omega, by omega⟩
    | _ => simp [okNum] at this
theorem sum_le (l : List Str) (b : Nat) (h : ∀ z, z ∈ l → z.length ≤ b) : (l.map (·.length)).sum ≤ l.length * b := by
  induction l with
  | nil => simp
  | cons z l ih =>
    rw [List.map_cons, List.sum_cons, List.length_cons, Nat.succ_mul]
    have h1 := ih (fun x hx => h x (List.mem_cons_of_mem _ hx))
    have h2 := h z (List.mem_cons_self)
    omega
section
variable {P : Program} {w : World} {K : PySem.W.Frag} {mg : Str → Option Value} {base : Heap} {A : Ad}
def sp_is_deed_number : Sp := fun vs H Q _ => ∃ v, vs = [v] ∧ Atom v ∧ Q (.bl (okNum v)) H
theorem ok_is_deed_number (T : Txt K mg A) : FnOk P w K mg base CX0 1 A.f_is_deed_number A.d_is_deed_number ["told"] sp_is_deed_number := by
  refine T.F_is_deed_number.ok sc_is_deed_number (fun vs H Q E h => ?_) (fun cdv A' outer s H vs Q E hr h => ?_)
  · obtain ⟨v, rfl, _⟩ := h
    rfl
  · obtain ⟨v, rfl, hv, kQ⟩ := h
    refine ⟨_, (pss_one (ps_ret (pe_and (pe_callB (id := "isinstance") call_isi (by rfl) T.nb_isinstance (by decide +kernel) (pa_cons (pv 0) (pa_cons (pe_ty (T := "int") T.nb_int (by decide +kernel)) pa_nil))) (pe_and (pe_cmpR op_ge (pv 0) pe_int (nomark _)) (pe_one (pe_cmpR op_le (pv 0) (pe_gint T.c_GREATEST) (nomark _))))))), ?_⟩
    rcases hv with ⟨i, rfl⟩ | ⟨z, rfl⟩
    · refine ⟨_, rfl, ⟨_, _, _, _, _, rfl, .ty _, (.base (.int i)), by rfl, true, rfl, ifT rfl ?_⟩⟩
      refine ⟨_, rfl, _, _, rfl, rfl, _, rfl, ifD2 (fun h0 => ⟨_, rfl, _, _, rfl, rfl, ?_⟩) (fun h0 => ?_)⟩
      · have e : okNum (.int i) = decide (i ≤ 999999999999999999) := by simp [okNum, h0]
        rw [e] at kQ
        exact kQ
      · have e : okNum (.int i) = false := by simp [okNum, h0]
        rw [e] at kQ
        exact kQ
    · exact ⟨_, rfl, ⟨_, _, _, _, _, rfl, .ty _, (.base (.str z)), by rfl, false, rfl, ifF rfl kQ⟩⟩
def sp_is_deed (K : PySem.W.Frag) : Sp := fun vs H Q _ => ∃ (u : Addr) (xs : List V), vs = [.ref u] ∧ SqT K H u xs ∧ (∀ x, x ∈ xs → Atom x) ∧ xs.length ≤ 2000000 ∧ ∀ H', Same H H' → Q (.bl (deedB xs)) H'
theorem ok_is_deed (T : Txt K mg A) (hw : A.ps = w.params) : FnOk P w K mg base CX0 2 A.f_is_deed A.d_is_deed ["deed"] (sp_is_deed K) := by
  have G_is_deed_number := ok_is_deed_number (P := P) (w := w) (base := base) T
  refine T.F_is_deed.ok sc_is_deed (fun vs H Q E h => ?_) (fun cdv A' outer s H vs Q E hr h => ?_)
  · obtain ⟨u, xs, rfl, _⟩ := h
    rfl
  · obtain ⟨u, xs, rfl, hu, ha, hl, kQ⟩ := h
    refine ⟨_, (pss_cons (ps_if (PW.pt (pw_or (pt_cmpR op_eq (pe_callB (id := "len") call_len_seq (by rfl) T.nb_len (by decide +kernel) (pa_cons (pv 0) pa_nil)) pe_int (nomark _)) (pw_or1 (pt_cmpR op_notIn_kds (pe_ix ix_tup (pv 0) pe_int (fun _ _ => rfl)) (pe_glob (v := .ref A.r_NUMBERS) rfl T.g_NUMBERS rfl) (by rfl)))))
    (pss_one (ps_ret pe_bl))
    pss_nil)
  (pss_cons (ps_set (i := 1) sc_is_deed.nd rfl (Or.inl rfl) (pe_slice sl_tupU (pv 0) (po_some pe_int) po_none))
  (pss_one (ps_ret (pe_and (pe_cmpR op_eq (pe_callB (id := "len") call_len_seq (by rfl) T.nb_len (by decide +kernel) (pa_cons (pv 1) pa_nil)) (pe_ix ix_kdict (pe_glob (v := .ref A.r_NUMBERS) rfl T.g_NUMBERS rfl) (pe_ix ix_tup (pv 0) pe_int (fun _ _ => rfl)) (fun _ _ => rfl)) (nomark _)) (pe_one (pe_callB (id := "all") (cr_all rfl) (by rfl) T.nb_all (by decide +kernel) (pa_cons (pe_lc (own := [("number", 2)]) (g := gName 2) (te := (tCall (sp_is_deed_number) [] E0 (tCons (tVar 2) tNil))) (tt := tYes) rfl sc_is_deed.nd (pi_tup (pv 1)) (blkOk_by (N := N_is_deed) (sc := defScope s_is_deed) (by decide +kernel)) (fun _ _ _ _ _ => (pg_name (i := 2) sc_is_deed.nd rfl (Or.inl rfl))) (fun _ _ _ _ _ => pts_nil) (fun _ _ _ _ _ => (pe_call G_is_deed_number (hr.mono (by omega)) rfl T.g_is_deed_number T.kp_is_deed_number T.bi_is_deed_number .nil pass0 (pa_cons (pv 2) pa_nil)))) pa_nil)))))))), ?_⟩
    have D : KDS K w.params A.r_NUMBERS kvsN := by
      rw [← hw]
      exact T.D_NUMBERS
    refine ⟨_, rfl, u, xs, rfl, .inr hu, rfl, _, rfl, ?_⟩
    cases xs with
    | nil => exact ifT rfl (kQ H (Same.refl _))
    | cons x r =>
      refine ifF (by simp; omega) ⟨_, rfl, u, _, _, _, rfl, rfl, hu, atI_nat (j := 0) rfl, A.r_NUMBERS, kvsN, rfl, D, ?_⟩
      rcases ha x (List.mem_cons_self) with ⟨i, rfl⟩ | ⟨z, rfl⟩
      · refine .inr ⟨i, rfl, _, rfl, ifT rfl (kQ H (Same.refl _))⟩
      · refine .inl ⟨z, rfl, _, rfl, ?_⟩
        cases hz : kvsN.lookup z with
        | none =>
          refine ifT rfl ?_
          have e : deedB (.str z :: r) = false := by simp [deedB, hz]
          rw [e] at kQ
          exact kQ H (Same.refl _)
        | some n =>
          refine ifF rfl ?_
          refine ⟨_, rfl, _, rfl, u, _, rfl, hu, fun p H1 e1 hp => ?_⟩
          rw [cutV_tail] at hp
          have e : deedB (.str z :: r) = (decide ((r.length : Int) = n) && r.all okNum) := by simp [deedB, hz]
          rw [e] at kQ
          refine ⟨_, rfl, p, r, rfl, .inr hp, _, rfl, u, _, _, _, rfl, rfl, Same.tup e1 hu, atI_nat (j := 0) rfl, A.r_NUMBERS, z, .int n, rfl, rfl, D.get hz, rfl, _, rfl, ?_⟩
          by_cases hn : ((r.length : Nat) : Int) = n
          · have hd : decide (V.int ((r.length : Nat) : Int) = V.int n) = true := decide_eq_true (by rw [hn])
            rw [decide_eq_true hn, Bool.true_and] at kQ
            refine ifT hd ⟨_, rfl, p, rfl, ⟨_, hp⟩, fun W nW => ?_⟩
            refine lc_pure (walk_tup (xs := r)) (r.map fun v => V.bl (okNum v)) (by rw [List.length_map]) nW (Nat.lt_of_le_of_lt (by simpa using Nat.le_of_succ_le hl) (by decide : 2000000 < sizeLine)) (fun H9 e9 => Same.tup e9 hp) ?_ ?_
            · rintro j x2 y2 H9 H9' Zk hj hy2 e9 ⟨rfl, hx2⟩ hZk
              rw [List.getElem?_map] at hy2
              rw [hx2] at hy2
              obtain rfl : V.bl (okNum x2) = y2 := Option.some.inj hy2
              exact ⟨rfl, _, rfl, x2, rfl, ha x2 (List.mem_cons_of_mem _ (at_mem hx2)), hZk _ (Same.refl _)⟩
            · rintro H9 e9 hW
              refine ⟨W, r.map okNum, rfl, .inl (.inl (by rw [List.map_map]; exact hW)), ?_⟩
              have e2 : (r.map okNum).all id = r.all okNum := by rw [List.all_map]; rfl
              rw [e2]
              exact kQ H9 (e1.trans e9)
          · have hd : decide (V.int ((r.length : Nat) : Int) = V.int n) = false := decide_eq_false (fun z => hn (by injection z))
            rw [decide_eq_false hn, Bool.false_and] at kQ
            exact ifF hd (kQ H1 e1)
/-! ### written, read -/
def sp_written (K : PySem.W.Frag) (A : Ad) : Sp := fun vs H Q E => ∃ (u : Addr) (xs : List V), vs = [.ref u] ∧ SqT K H u xs ∧ (∀ x, x ∈ xs → Atom x) ∧ xs.length ≤ 5000 ∧
  (deedB xs = true → ∀ H', Same H H' → Q (.str (Txt.join " " (xs.map atomS))) H') ∧ (deedB xs = false → ∀ H', Same H H' → E (.ref A.c_BadDeed) none H')
theorem ok_written (T : Txt K mg A) (hw : A.ps = w.params) : FnOk P w K mg base (L2.CX P w) 3 A.f_written A.d_written ["deed"] (sp_written K A) := by
  have G_is_deed := ok_is_deed (P := P) (w := w) (base := base) T hw
  refine T.F_written.okX sc_written (fun vs H Q E h => ?_) (fun cdv A' outer s H vs Q E hr h => ?_)
  · obtain ⟨u, xs, rfl, _⟩ := h
    rfl
  · obtain ⟨u, xs, rfl, hu, ha, hl, kQ, kE⟩ := h
    refine ⟨_, (pss_cons (ps_if (pt_not (pt_val (pe_call G_is_deed (hr.mono (by omega)) rfl T.g_is_deed T.kp_is_deed T.bi_is_deed .nil pass0 (pa_cons (pv 0) pa_nil))))
    (pss_one (ps_raise rfl (takes_of rfl rfl rfl rfl) (pmk_own PySem.F.excBase_ValueError T.x_BadDeed T.g_BadDeed T.kp_BadDeed (raises_own T.b_BadDeed T.t_BadDeed) rfl)))
    pss_nil)
  (pss_one (ps_ret (pe_join pe_str (pe_lc (own := [("told", 1)]) (g := gName 1) (tt := tYes) rfl sc_written.nd (pi_tup (pv 0)) (blkOk_by (N := N_written) (sc := defScope s_written) (by decide +kernel)) (fun _ _ _ _ _ => (pg_name (i := 1) sc_written.nd rfl (Or.inl rfl))) (fun _ _ _ _ _ => pts_nil) (fun _ _ _ _ _ => (pe_callTy call_str_atom (by rfl) T.nb_str (by decide +kernel) (pa_cons (pv 1) pa_nil)))))))), ?_⟩
    refine ⟨_, rfl, u, xs, rfl, hu, ha, by omega, fun H1 e1 => ⟨_, rfl, ?_⟩⟩
    cases hd : deedB xs with
    | false => exact ifT rfl (kE hd H1 e1)
    | true =>
      obtain ⟨hl5, hp⟩ := deedB_parts hd
      have hu1 := Same.tup e1 hu
      refine ifF rfl ⟨⟨_, rfl⟩, _, rfl, u, rfl, ⟨_, hu1⟩, fun W nW => ?_⟩
      refine lc_pure (walk_tup (xs := xs)) (xs.map fun v => V.str (atomS v)) (by rw [List.length_map]) nW (small1000 (by omega)) (fun H9 e9 => Same.tup e9 hu1) ?_ ?_
      · rintro j x2 y2 H9 H9' Zk hj hy2 e9 ⟨rfl, hx2⟩ hZk
        rw [List.getElem?_map, hx2] at hy2
        obtain rfl : V.str (atomS x2) = y2 := Option.some.inj hy2
        refine ⟨rfl, _, rfl, ?_⟩
        rcases hp x2 (at_mem hx2) with ⟨i, rfl, h0, h1⟩ | ⟨z, rfl, _⟩
        · exact .inl ⟨i, rfl, log_small h0 h1, hZk _ (Same.refl _)⟩
        · exact .inr ⟨z, rfl, hZk _ (Same.refl _)⟩
      · rintro H9 e9 hW
        refine ⟨_, W, xs.map atomS, rfl, rfl, .inl (.inl (.inl (by rw [List.map_map]; exact hW))), ?_, kQ hd H9 (e1.trans e9)⟩
        have h1 := sum_le (xs.map atomS) 18 (fun z hz => by
          obtain ⟨x, hx, rfl⟩ := List.mem_map.mp hz
          exact part_len (hp x hx))
        rw [List.length_map] at h1 ⊢
        have e0 : (Str.ofString " ").length = 1 := by decide +kernel
        rw [e0]
        omega
def sp_is_number_word : Sp := fun vs H Q _ => ∃ z : Str, vs = [.str z] ∧ z.length ≤ sizeLine ∧ Q (.bl (numW z)) H
theorem ok_is_number_word (T : Txt K mg A) : FnOk P w K mg base CX0 1 A.f_is_number_word A.d_is_number_word ["word"] sp_is_number_word := by
  refine T.F_is_number_word.ok sc_is_number_word (fun vs H Q E h => ?_) (fun cdv A' outer s H vs Q E hr h => ?_)
  · obtain ⟨z, rfl, _⟩ := h
    rfl
  · obtain ⟨z, rfl, hz, kQ⟩ := h
    refine ⟨_, (pss_cons (ps_if (PW.pt (pw_or (pt_cmpR op_gt (pe_callB (id := "len") call_len_str (by rfl) T.nb_len (by decide +kernel) (pa_cons (pv 0) pa_nil)) (pe_gint T.c_MOST_FIGURES) (nomark _)) (pw_or (pt_not (pt_val (pe_m0 PySem.F.slot_str_isascii PySem.F.type_str_isascii mt_isascii (pv 0)))) (pw_or1 (pt_not (pt_val (pe_m0 PySem.F.slot_str_isdigit PySem.F.type_str_isdigit mt_isdigit (pv 0))))))))
    (pss_one (ps_ret pe_bl))
    pss_nil)
  (pss_one (ps_ret (pe_or (pe_cmpR op_eq (pv 0) pe_str (nomark _)) (pe_one (pe_not (pe_m1 PySem.F.slot_str_startswith PySem.F.type_str_startswith mt_startswith (pv 0) pe_str))))))), ?_⟩
    rw [word_asks] at kQ
    refine ⟨_, rfl, z, rfl, hz, _, _, rfl, rfl, _, rfl, ?_⟩
    cases h1 : decide (18 < (z.length : Int)) with
    | true =>
      rw [h1] at kQ
      have k1 : Q (.bl false) H := by simpa using kQ
      exact ifT rfl k1
    | false =>
      rw [h1] at kQ
      refine ifF rfl ⟨_, rfl, ⟨_, rfl⟩, z, rfl, rfl, trivial, _, rfl, ?_⟩
      cases h2 : Txt.isascii z with
      | false =>
        rw [h2] at kQ
        have k1 : Q (.bl false) H := by simpa using kQ
        exact ifT rfl k1
      | true =>
        rw [h2] at kQ
        refine ifF rfl ⟨_, rfl, ⟨_, rfl⟩, z, rfl, rfl, trivial, _, rfl, ?_⟩
        cases h3 : Txt.isdigit z with
        | false =>
          rw [h3] at kQ
          have k1 : Q (.bl false) H := by simpa using kQ
          exact ifT rfl k1
        | true =>
          rw [h3] at kQ
          refine ifF rfl ⟨_, rfl, rfl, _, rfl, ?_⟩
          have e0 : decide (V.str z = V.str "0") = decide (z = "0") := by
            by_cases e : z = "0"
            · subst e; simp
            · rw [decide_eq_false e, decide_eq_false (fun q => e (by injection q))]
          rw [e0]
          cases h4 : decide (z = "0") with
          | true =>
            rw [h4] at kQ
            exact ifT rfl (by simpa using kQ)
          | false =>
            rw [h4] at kQ
            exact ifF rfl ⟨_, rfl, ⟨_, rfl⟩, z, _, rfl, rfl, _, rfl, by simpa using kQ⟩
def sp_read (K : PySem.W.Frag) (A : Ad) : Sp := fun vs H Q E => ∃ z : Str, vs = [.str z] ∧ z.length ≤ 1000000 ∧
  (∀ xs u H', readB z = some xs → Same H H' → SqT K H' u xs → Q (.ref u) H') ∧ (readB z = none → ∀ H', Same H H' → E (.ref A.c_BadLine) none H')
theorem ok_read (T : Txt K mg A) (hw : A.ps = w.params) : FnOk P w K mg base (L2.CX P w) 3 A.f_read A.d_read ["line"] (sp_read K A) := by
  have G_is_deed := ok_is_deed (P := P) (w := w) (base := base) T hw
  have G_is_number_word := ok_is_number_word (P := P) (w := w) (base := base) T
  refine T.F_read.okX sc_read (fun vs H Q E h => ?_) (fun cdv A' outer s H vs Q E hr h => ?_)
  · obtain ⟨z, rfl, _⟩ := h
    rfl
  · obtain ⟨z, rfl, hz, kQ, kE⟩ := h
    refine ⟨_, (pss_cons (ps_set (i := 1) sc_read.nd rfl (Or.inl rfl) (pe_m1 PySem.F.slot_str_split PySem.F.type_str_split mt_split (pv 0) pe_str))
  (pss_cons (ps_if (pt_not (pt_val (pe_callB (id := "all") (cr_all rfl) (by rfl) T.nb_all (by decide +kernel) (pa_cons (pe_lc (own := [("word", 2)]) (g := gName 2) (te := (tCall (sp_is_number_word) [] E0 (tCons (tVar 2) tNil))) (tt := tYes) rfl sc_read.nd (pi_list (pe_slice sl_list (pv 1) (po_some pe_int) po_none)) (blkOk_by (N := N_read) (sc := defScope s_read) (by decide +kernel)) (fun _ _ _ _ _ => (pg_name (i := 2) sc_read.nd rfl (Or.inl rfl))) (fun _ _ _ _ _ => pts_nil) (fun _ _ _ _ _ => (pe_call G_is_number_word (hr.mono (by omega)) rfl T.g_is_number_word T.kp_is_number_word T.bi_is_number_word .nil pass0 (pa_cons (pv 2) pa_nil)))) pa_nil))))
    (pss_one (ps_raise rfl (takes_of rfl rfl rfl rfl) (pmk_own PySem.F.excBase_ValueError T.x_BadLine T.g_BadLine T.kp_BadLine (raises_own T.b_BadLine T.t_BadLine) rfl)))
    pss_nil)
  (pss_cons (ps_set (i := 3) sc_read.nd rfl (Or.inl rfl) (pe_tupleOf rfl T.nb_tuple (pe_op op_cat (pe_lst (pa_cons (pe_ix ix_list (pv 1) pe_int (fun _ _ => rfl)) pa_nil)) (pe_lc (own := [("word", 2)]) (g := gName 2) (tt := tYes) rfl sc_read.nd (pi_list (pe_slice sl_list (pv 1) (po_some pe_int) po_none)) (blkOk_by (N := N_read) (sc := defScope s_read) (by decide +kernel)) (fun _ _ _ _ _ => (pg_name (i := 2) sc_read.nd rfl (Or.inl rfl))) (fun _ _ _ _ _ => pts_nil) (fun _ _ _ _ _ => (pe_callTy call_int_str (by rfl) T.nb_int (by decide +kernel) (pa_cons (pv 2) pa_nil)))))))
  (pss_cons (ps_if (pt_not (pt_val (pe_call G_is_deed (hr.mono (by omega)) rfl T.g_is_deed T.kp_is_deed T.bi_is_deed .nil pass0 (pa_cons (pv 3) pa_nil))))
    (pss_one (ps_raise rfl (takes_of rfl rfl rfl rfl) (pmk_own PySem.F.excBase_ValueError T.x_BadLine T.g_BadLine T.kp_BadLine (raises_own T.b_BadLine T.t_BadLine) rfl)))
    pss_nil)
  (pss_one (ps_ret (pv 3))))))), ?_⟩
    have sl : 16000000 < sizeLine := by decide
    obtain ⟨wl1, wl2⟩ := split_len z
    obtain ⟨w0, wr, hws⟩ : ∃ w0 wr, Txt.split z " " = w0 :: wr := by
      cases hh : Txt.split z " " with
      | nil => exact absurd hh (split_ne z)
      | cons w0 wr => exact ⟨w0, wr, rfl⟩
    have hrd : readB z = if wr.all numW = true ∧ deedB (.str w0 :: wr.map fun x => V.int (valW x)) = true then some (.str w0 :: wr.map fun x => V.int (valW x)) else none := by
      unfold readB wordsB
      rw [hws]
      rfl
    rw [hws] at wl1 wl2
    rw [List.length_cons] at wl2
    refine ⟨_, rfl, ⟨_, rfl⟩, z, _, rfl, rfl, by decide +kernel, by omega, fun p np => ?_⟩
    rw [hws]
    have e1 := Same.new (o := .lst ((w0 :: wr).map V.str)) np
    have hp1 : upd H p (.lst ((w0 :: wr).map V.str)) p = some (.lst (V.str w0 :: wr.map V.str)) := upd_same
    generalize upd H p (.lst ((w0 :: wr).map V.str)) = H1 at e1 hp1 ⊢
    refine ⟨_, rfl, _, rfl, p, _, rfl, .inl (.inl hp1), fun p2 np2 => ?_⟩
    rw [cutV_tail]
    have e2 := Same.new (o := .lst (wr.map V.str)) np2
    have hp2 : upd H1 p2 (.lst (wr.map V.str)) p2 = some (.lst (wr.map V.str)) := upd_same
    generalize upd H1 p2 (.lst (wr.map V.str)) = H2 at e2 hp2 ⊢
    refine ⟨p2, rfl, ⟨_, .inl (.inl hp2)⟩, fun W nW => ?_⟩
    refine lc_pure (walk_list (xs := wr.map V.str)) (wr.map fun v => V.bl (numW v)) (by rw [List.length_map, List.length_map]) nW (by rw [List.length_map]; omega) (fun H9 e9 => .inl (.inl (e9 _ _ hp2))) ?_ ?_
    · rintro j x2 y2 H9 H9' Zk hj hy2 e9 ⟨rfl, hx2⟩ hZk
      rw [List.length_map] at hj
      obtain ⟨v, hv⟩ := at_of_lt hj
      rw [List.getElem?_map, hv] at hx2 hy2
      obtain rfl : V.str v = x2 := Option.some.inj hx2
      obtain rfl : V.bl (numW v) = y2 := Option.some.inj hy2
      have := wl1 v (List.mem_cons_of_mem _ (at_mem hv))
      exact ⟨rfl, _, rfl, v, rfl, by omega, hZk _ (Same.refl _)⟩
    rintro H3 e3 hW
    refine ⟨W, wr.map numW, rfl, .inl (.inl (by rw [List.map_map]; exact hW)), _, rfl, ?_⟩
    have ea : (wr.map numW).all id = wr.all numW := by rw [List.all_map]; rfl
    rw [ea]
    have e13 := e1.trans (e2.trans e3)
    cases hall : wr.all numW with
    | false => exact ifT rfl (kE (by rw [hrd, hall]; simp) H3 e13)
    | true =>
      refine ifF rfl ?_
      have hp3 := e3 _ _ (e2 _ _ hp1)
      refine ⟨_, rfl, p, _, _, _, rfl, rfl, .inl (.inl hp3), atI_nat (j := 0) rfl, (by show 1 ≤ sizeLine; decide), fun l nl => ?_⟩
      have e4 := Same.new (o := .lst [V.str w0]) nl
      have hl4 : upd H3 l (.lst [V.str w0]) l = some (.lst [V.str w0]) := upd_same
      generalize upd H3 l (.lst [V.str w0]) = H4 at e4 hl4 ⊢
      refine ⟨_, rfl, _, rfl, p, _, rfl, .inl (.inl (e4 _ _ hp3)), fun p5 np5 => ?_⟩
      rw [cutV_tail]
      have e5 := Same.new (o := .lst (wr.map V.str)) np5
      have hp5 : upd H4 p5 (.lst (wr.map V.str)) p5 = some (.lst (wr.map V.str)) := upd_same
      generalize upd H4 p5 (.lst (wr.map V.str)) = H5 at e5 hp5 ⊢
      refine ⟨p5, rfl, ⟨_, .inl (.inl hp5)⟩, fun W2 nW2 => ?_⟩
      refine lc_pure (walk_list (xs := wr.map V.str)) (wr.map fun v => V.int (valW v)) (by rw [List.length_map, List.length_map]) nW2 (by rw [List.length_map]; omega) (fun H9 e9 => .inl (.inl (e9 _ _ hp5))) ?_ ?_
      · rintro j x2 y2 H9 H9' Zk hj hy2 e9 ⟨rfl, hx2⟩ hZk
        rw [List.length_map] at hj
        obtain ⟨v, hv⟩ := at_of_lt hj
        rw [List.getElem?_map, hv] at hx2 hy2
        obtain rfl : V.str v = x2 := Option.some.inj hx2
        obtain rfl : V.int (valW v) = y2 := Option.some.inj hy2
        obtain ⟨n1, _, _, n4⟩ := numW_int (List.all_eq_true.mp hall v (at_mem hv))
        exact ⟨rfl, _, rfl, v, _, rfl, n1, by omega, hZk _ (Same.refl _)⟩
      rintro H6 e6 hW6
      refine ⟨l, W2, _, _, rfl, rfl, e6 _ _ (e5 _ _ hl4), hW6, by rw [List.length_map, List.length_singleton]; omega, fun q nq => .inl ⟨q, _, rfl, .inl (.inl upd_same), fun t nt => ?_⟩⟩
      have e7 := (Same.new (o := .lst ([V.str w0] ++ wr.map fun v => V.int (valW v))) nq).trans (Same.new (o := .tup ([V.str w0] ++ wr.map fun v => V.int (valW v))) nt)
      have ht7 : SqT K (upd (upd H6 q (.lst ([V.str w0] ++ wr.map fun v => V.int (valW v)))) t (.tup ([V.str w0] ++ wr.map fun v => V.int (valW v)))) t (V.str w0 :: wr.map fun v => V.int (valW v)) := .inl (.inl upd_same)
      generalize upd (upd H6 q (.lst ([V.str w0] ++ wr.map fun v => V.int (valW v)))) t (.tup ([V.str w0] ++ wr.map fun v => V.int (valW v))) = H7 at e7 ht7 ⊢
      have e17 := e13.trans (e4.trans (e5.trans (e6.trans e7)))
      refine ⟨_, rfl, t, _, rfl, ht7, fun x hx => ?_, by rw [List.length_cons, List.length_map]; omega, fun H8 e8 => ⟨_, rfl, ?_⟩⟩
      · rcases List.mem_cons.mp hx with rfl | hx
        · exact .inr ⟨_, rfl⟩
        · obtain ⟨v, _, rfl⟩ := List.mem_map.mp hx
          exact .inl ⟨_, rfl⟩
      · cases hd : deedB (V.str w0 :: wr.map fun v => V.int (valW v)) with
        | false => exact ifT rfl (kE (by rw [hrd, hall, hd]; simp) H8 (e17.trans e8))
        | true => exact ifF rfl ⟨_, rfl, kQ _ t H8 (by rw [hrd, hall, hd]; simp) (e17.trans e8) (Same.tup e8 ht7)⟩
end
end Mu

/-! DeedTup: the laws' tuples and words. -/
namespace Mu
open PySem L2
section
variable {P : Program} {w : World} {K : PySem.W.Frag} {mg : Str → Option Value} {base : Heap} {A : Ad}
theorem names_at {z : Str} {n : Int} (h : kvsN.lookup z = some n) : ∃ j : Nat, (kvsN.map fun q => V.str q.1)[j]? = some (.str z) ∧ (∀ (m : Nat) (z' : V), m < j → (kvsN.map fun q => V.str q.1)[m]? = some z' → eqV z' (.str z) = false) ∧ (kvsN.map fun q => V.int q.2)[j]? = some (.int n) := by
  have hm : (z, n) ∈ kvsN := by
    have := List.lookup_eq_some_iff.mp h
    obtain ⟨l1, l2, e, _⟩ := this
    rw [e]
    simp
  simp only [kvsN, List.mem_cons, Prod.mk.injEq, List.not_mem_nil, or_false] at hm
  have fin : ∀ (j : Nat) (zz : Str) (nn : Int), (kvsN.map fun q => V.str q.1)[j]? = some (.str zz) → (kvsN.map fun q => V.int q.2)[j]? = some (.int nn) → ((List.range j).all fun m => match (kvsN.map fun q => V.str q.1)[m]? with
      | some z' => !eqV z' (.str zz)
      | none => true) = true → ∃ j : Nat, (kvsN.map fun q => V.str q.1)[j]? = some (.str zz) ∧ (∀ (m : Nat) (z' : V), m < j → (kvsN.map fun q => V.str q.1)[m]? = some z' → eqV z' (.str zz) = false) ∧ (kvsN.map fun q => V.int q.2)[j]? = some (.int nn) := fun j zz nn h1 h2 h3 =>
    ⟨j, h1, fun m z' hm hz => by
      have := List.all_eq_true.mp h3 m (List.mem_range.mpr hm)
      rw [hz] at this
      simpa using this, h2⟩
  rcases hm with ⟨rfl, rfl⟩ | ⟨rfl, rfl⟩ | ⟨rfl, rfl⟩ | ⟨rfl, rfl⟩ | ⟨rfl, rfl⟩ | ⟨rfl, rfl⟩ | ⟨rfl, rfl⟩ | ⟨rfl, rfl⟩
  · exact fin 0 _ _ rfl rfl (by decide +kernel)
  · exact fin 1 _ _ rfl rfl (by decide +kernel)
  · exact fin 2 _ _ rfl rfl (by decide +kernel)
  · exact fin 3 _ _ rfl rfl (by decide +kernel)
  · exact fin 4 _ _ rfl rfl (by decide +kernel)
  · exact fin 5 _ _ rfl rfl (by decide +kernel)
  · exact fin 6 _ _ rfl rfl (by decide +kernel)
  · exact fin 7 _ _ rfl rfl (by decide +kernel)
theorem inV_names (z : Str) : ∀ l : List (Str × Int), inV (.str z) (l.map fun q => V.str q.1) = (l.lookup z).isSome
  | [] => rfl
  | (k, i) :: l => by
    have ih := inV_names z l
    unfold inV at ih ⊢
    rw [List.map_cons, List.any_cons, ih, List.lookup_cons]
    by_cases e : z = k
    · subst e
      simp [eqV]
    · have h1 : (z == k) = false := beq_eq_false_iff_ne.mpr e
      have h2 : (k == z) = false := beq_eq_false_iff_ne.mpr (Ne.symm e)
      simp [eqV, h1, h2]
theorem names_ix : ∀ m : Nat, m < 8 → ∃ (z : Str) (n : Nat), (kvsN.map fun q => V.str q.1)[m]? = some (.str z) ∧ (kvsN.map fun q => V.int q.2)[m]? = some (.int (n : Int)) ∧ kvsN.lookup z = some (n : Int) ∧ n ≤ 4
  | 0, _ => ⟨"gather", 3, rfl, rfl, rfl, by decide⟩
  | 1, _ => ⟨"pull", 2, rfl, rfl, rfl, by decide⟩
  | 2, _ => ⟨"bundle", 4, rfl, rfl, rfl, by decide⟩
  | 3, _ => ⟨"turn", 2, rfl, rfl, rfl, by decide⟩
  | 4, _ => ⟨"cut", 2, rfl, rfl, rfl, by decide⟩
  | 5, _ => ⟨"fuse", 2, rfl, rfl, rfl, by decide⟩
  | 6, _ => ⟨"sell", 1, rfl, rfl, rfl, by decide⟩
  | 7, _ => ⟨"waste", 1, rfl, rfl, rfl, by decide⟩
  | m + 8, h => absurd h (by omega)
def sp_law_tuple (K : PySem.W.Frag) : Sp := fun vs H Q _ => ∃ (a : Addr) (ns : List Int), vs = [.ref a] ∧ SqL K H a (ns.map V.int) ∧ ∀ (u : Addr) (z : Str) (is : List Int) H', Same H H' → SqT K H' u (.str z :: is.map V.int) → kvsN.lookup z = some (is.length : Int) → is.length ≤ 4 → (∀ i, i ∈ is → 0 ≤ i ∧ i < 1000000000000000000) → Q (.ref u) H'
theorem ok_law_tuple (T : Txt K mg A) : FnOk P w K mg base CX0 2 A.f_law_tuple A.d_law_tuple ["_law_script"] (sp_law_tuple K) := by
  have G_law_cell := ok_law_cell (P := P) (w := w) (base := base) T
  refine T.F_law_tuple.ok sc_law_tuple (fun vs H Q E h => ?_) (fun cdv A' outer s H vs Q E hr h => ?_)
  · obtain ⟨a, ns, rfl, _⟩ := h
    rfl
  · obtain ⟨a, ns, rfl, hS, kQ⟩ := h
    refine ⟨_, (pss_cons (ps_set (i := 1) sc_law_tuple.nd rfl (Or.inl rfl) (pe_lst (pa_cons pe_str (pa_cons pe_str (pa_cons pe_str (pa_cons pe_str (pa_cons pe_str (pa_cons pe_str (pa_cons pe_str (pa_cons pe_str pa_nil))))))))))
  (pss_cons (ps_set (i := 2) sc_law_tuple.nd rfl (Or.inl rfl) (pe_op op_mod (pe_call G_law_cell (hr.mono (by omega)) rfl T.g_law_cell T.kp_law_cell T.bi_law_cell .nil pass0 (pa_cons (pv 0) (pa_cons pe_int pa_nil))) pe_int))
  (pss_cons (ps_set (i := 3) sc_law_tuple.nd rfl (Or.inl rfl) (pe_lst (pa_cons (pe_ix ix_list (pv 1) (pv 2) (fun _ _ => rfl)) pa_nil)))
  (pss_cons (ps_for PassesOwn.never rfl (pi_range1 rfl T.nb_range (pa_cons (pe_ix ix_tup (pe_tup (pa_cons pe_int (pa_cons pe_int (pa_cons pe_int (pa_cons pe_int (pa_cons pe_int (pa_cons pe_int (pa_cons pe_int (pa_cons pe_int pa_nil))))))))) (pv 2) (fun _ _ => rfl)) pa_nil)) (pg_name (i := 4) sc_law_tuple.nd rfl (Or.inl rfl))
    (pss_cons (ps_set (i := 5) sc_law_tuple.nd rfl (Or.inl rfl) (pe_call G_law_cell (hr.mono (by omega)) rfl T.g_law_cell T.kp_law_cell T.bi_law_cell .nil pass0 (pa_cons (pv 0) (pa_cons (pe_op op_add pe_int (pv 4)) pa_nil))))
      (pss_one (ps_if (pt_cmpR op_eq (pe_op op_mod (pv 5) pe_int) pe_int (nomark _))
        (pss_one (ps_expr (pe_bm PySem.F.plainAttrs_list PySem.F.slot_list_append PySem.F.type_list_append mt_append (pv 3) (pa_cons (pe_op op_mod (pe_op op_fdiv (pv 5) pe_int) (pe_op op_pow pe_int pe_int)) pa_nil))))
        (pss_one (ps_expr (pe_bm PySem.F.plainAttrs_list PySem.F.slot_list_append PySem.F.type_list_append mt_append (pv 3) (pa_cons (pe_op op_mod (pe_op op_fdiv (pv 5) pe_int) pe_int) pa_nil))))))))
  (pss_one (ps_ret (pe_tupleOf rfl T.nb_tuple (pv 3)))))))), ?_⟩
    refine ⟨(by show 8 ≤ sizeLine; decide), fun l nl => ?_⟩
    have e1 := Same.new (o := .lst [V.str "gather", .str "pull", .str "bundle", .str "turn", .str "cut", .str "fuse", .str "sell", .str "waste"]) nl
    have hl1 : upd H l (.lst [V.str "gather", .str "pull", .str "bundle", .str "turn", .str "cut", .str "fuse", .str "sell", .str "waste"]) l = some (.lst (kvsN.map fun q => V.str q.1)) := upd_same
    generalize upd H l (.lst [V.str "gather", .str "pull", .str "bundle", .str "turn", .str "cut", .str "fuse", .str "sell", .str "waste"]) = H1 at e1 hl1 ⊢
    refine ⟨_, rfl, a, ns, 0, rfl, e1.seq hS, _, _, rfl, rfl, (by show (0 : Int) < 8; decide), ?_⟩
    obtain ⟨m, hm, hm8⟩ : ∃ m : Nat, (ns.getD 0 0) % 8 = m ∧ m < 8 := ⟨((ns.getD 0 0) % 8).toNat, by omega⟩
    obtain ⟨z, n, hz, hn, hlk, hn4⟩ := names_ix m hm8
    refine ⟨_, rfl, _, rfl, l, _, m, _, rfl, congrArg V.int hm, .inl (.inl hl1), atI_nat hz, (by show 1 ≤ sizeLine; decide), fun q nq => ?_⟩
    have hq2 : upd H1 q (.lst [V.str z]) q = some (.lst (V.str z :: ([] : List Int).map V.int)) := upd_same
    have e2 : Same H1 (upd H1 q (.lst [V.str z])) := Same.new nq
    generalize upd H1 q (.lst [V.str z]) = H2 at e2 hq2 ⊢
    have nqH : H q = none := e1.free nq
    refine ⟨(by show 8 ≤ sizeLine; decide), fun t nt => ?_⟩
    have e3 := Same.new (o := .tup [V.int 3, .int 2, .int 4, .int 2, .int 2, .int 2, .int 1, .int 1]) nt
    have ht3 : upd H2 t (.tup [V.int 3, .int 2, .int 4, .int 2, .int 2, .int 2, .int 1, .int 1]) t = some (.tup (kvsN.map fun q => V.int q.2)) := upd_same
    generalize upd H2 t (.tup [V.int 3, .int 2, .int 4, .int 2, .int 2, .int 2, .int 1, .int 1]) = H3 at e3 ht3 ⊢
    have hq3 := e3 _ _ hq2
    have e13 := e1.trans (e2.trans e3)
    refine ⟨_, rfl, t, _, m, _, rfl, congrArg V.int hm, .inl (.inl ht3), atI_nat hn, _, rfl, by omega, by omega, for_range (fun i σ H' => ∃ (v4 v5 : Option V) (is : List Int), σ = [some (.ref a), some (.ref l), some (.int (ns.getD 0 0 % 8)), some (.ref q), v4, v5] ∧ Same H H' ∧ H' q = some (.lst (V.str z :: is.map V.int)) ∧ is.length = i ∧ ∀ j, j ∈ is → 0 ≤ j ∧ j < 1000000000000000000)
      ⟨_, _, [], rfl, e13, hq3, rfl, fun j h => by cases h⟩ ?_ ?_⟩
    · rintro i σ H4 hi ⟨v4, v5, is, rfl, e4, hq4, his, hb⟩
      rw [Int.zero_add]
      refine ⟨_, rfl, _, rfl, _, _, rfl, rfl, a, ns, 1 + i, congrArg (fun t => [V.ref a, V.int t]) (by omega : (1 : Int) + (i : Nat) = ((1 + i : Nat) : Int)), e4.seq hS, ?_⟩
      generalize ns.getD (1 + i) 0 = c
      have fin : ∀ v : Int, 0 ≤ v → v < 1000000000000000000 → Same H (upd H4 q (.lst (V.str z :: is.map V.int ++ [V.int v]))) ∧ upd H4 q (.lst (V.str z :: is.map V.int ++ [V.int v])) q = some (.lst (V.str z :: (is ++ [v]).map V.int)) ∧ (is ++ [v]).length = i + 1 ∧ ∀ j, j ∈ is ++ [v] → 0 ≤ j ∧ j < 1000000000000000000 := fun v h0 h1 => by
        refine ⟨Same.upd_off nqH e4, by rw [upd_same, List.map_append]; rfl, by rw [List.length_append, his]; rfl, fun j hj => ?_⟩
        rcases List.mem_append.mp hj with h | h
        · exact hb j h
        · rw [List.mem_singleton] at h
          subst h
          exact ⟨h0, h1⟩
      have hlen : (V.str z :: is.map V.int).length < sizeLine := by
        rw [List.length_cons, List.length_map]
        exact small1000 (by omega)
      refine ⟨_, rfl, _, _, rfl, rfl, (by show (0 : Int) < 5; decide), rfl, _, rfl, ifD2 (fun h => ?_) (fun h => ?_)⟩
      · refine ⟨_, rfl, .inl ⟨rfl, _, .inl (.inl hq4)⟩, _, rfl, _, _, rfl, rfl, ⟨by decide, by decide⟩, _, _, rfl, rfl, ⟨by decide, by decide, by decide⟩, _, _, rfl, rfl, (by show (0 : Int) < 10 ^ 18; decide), q, _, _, rfl, rfl, hq4, hlen, ?_⟩
        exact ⟨_, _, _, rfl, fin (c / 5 % (10 ^ 18)) (by omega) (by omega)⟩
      · refine ⟨_, rfl, .inl ⟨rfl, _, .inl (.inl hq4)⟩, _, rfl, _, _, rfl, rfl, ⟨by decide, by decide⟩, _, _, rfl, rfl, (by show (0 : Int) < 12; decide), q, _, _, rfl, rfl, hq4, hlen, ?_⟩
        exact ⟨_, _, _, rfl, fin (c / 5 % 12) (by omega) (by omega)⟩
    · rintro σ H4 ⟨v4, v5, is, rfl, e4, hq4, his, hb⟩
      refine ⟨_, rfl, .inl ⟨q, _, rfl, .inl (.inl hq4), fun u nu => ?_⟩⟩
      have hln : is.length = n := by rw [his]; omega
      exact kQ u z is _ (e4.trans (Same.new nu)) (.inl (.inl upd_same)) (by rw [hln]; exact hlk) (by omega) hb
theorem all_strs {p : Str → Prop} : ∀ ys : List V, (∀ y, y ∈ ys → ∃ z, y = V.str z ∧ p z) → ∃ zs : List Str, ys = zs.map V.str ∧ ∀ z, z ∈ zs → p z
  | [], _ => ⟨[], rfl, fun z h => by cases h⟩
  | y :: ys, h => by
    obtain ⟨z, rfl, hz⟩ := h y (List.mem_cons_self)
    obtain ⟨zs, rfl, hzs⟩ := all_strs ys (fun y hy => h y (List.mem_cons_of_mem _ hy))
    refine ⟨z :: zs, rfl, fun x hx => ?_⟩
    rcases List.mem_cons.mp hx with rfl | hx
    · exact hz
    · exact hzs x hx
def sp_law_word : Sp := fun vs H Q _ => ∃ c : Int, vs = [.int c] ∧ ∀ z H', Same H H' → z.length ≤ 6 → Q (.str z) H'
theorem ok_law_word (T : Txt K mg A) : FnOk P w K mg base CX0 2 A.f_law_word A.d_law_word ["_law_cell_here"] sp_law_word := by
  have G_law_row := ok_law_row (P := P) (w := w) (base := base) T
  refine T.F_law_word.ok sc_law_word (fun vs H Q E h => ?_) (fun cdv A' outer s H vs Q E hr h => ?_)
  · obtain ⟨c, rfl, _⟩ := h
    rfl
  · obtain ⟨c, rfl, kQ⟩ := h
    refine ⟨_, (pss_cons (ps_set (i := 1) sc_law_word.nd rfl (Or.inr rfl) pe_str)
  (pss_one (ps_ret (pe_join pe_str (pe_lc (own := [("_law_figure", 2)]) (g := gName 2) (te := (tOp (rIxS) (tVar 1) (tVar 2))) (tt := tYes) rfl sc_law_word.nd (pi_list (pe_call G_law_row (hr.mono (by omega)) rfl T.g_law_row T.kp_law_row T.bi_law_row .nil pass0 (pa_cons (pv 0) (pa_cons (pe_op op_add pe_int (pe_op op_mod (pe_callB (id := "abs") call_abs (by rfl) T.nb_abs (by decide +kernel) (pa_cons (pv 0) pa_nil)) pe_int)) (pa_cons pe_int pa_nil))))) (blkOk_by (N := N_law_word) (sc := defScope s_law_word) (by decide +kernel)) (fun _ _ _ _ _ => (pg_name (i := 2) sc_law_word.nd rfl (Or.inl rfl))) (fun _ _ _ _ _ => pts_nil) (fun _ _ _ _ _ => (pe_ix ix_str (pv 1) (pv 2) (fun _ _ => rfl)))))))), ?_⟩
    obtain ⟨m, hm, hm6⟩ : ∃ m : Nat, 3 + (if c < 0 then -c else c) % 4 = m ∧ m ≤ 6 := ⟨(3 + (if c < 0 then -c else c) % 4).toNat, by omega, by omega⟩
    refine ⟨⟨_, rfl⟩, _, rfl, _, rfl, _, rfl, _, _, rfl, rfl, (by show (0 : Int) < 4; decide), _, _, rfl, rfl, c, m, 26, congrArg (fun t => [V.int c, V.int t, V.int 26]) hm, by omega, by decide, by decide, fun l H1 e1 nl hl => ?_⟩
    refine ⟨l, rfl, ⟨_, .inl (.inl hl)⟩, fun W nW => ?_⟩
    refine lc_all (walk_list (xs := (rowOf c m 26).map V.int)) (fun i y _ => ∃ z : Str, y = .str z ∧ z.length = 1) (fun i y H H' h _ => h) nW (by rw [List.length_map, rowOf_len]; exact small1000 (by omega)) (fun H9 e9 => .inl (.inl (e9 _ _ hl))) ?_ ?_
    · rintro i x H2 H2' acc Z hi e2 hacc ⟨rfl, hx⟩ hZ
      rw [List.length_map, rowOf_len] at hi
      obtain ⟨r, hr', h0, h1⟩ := rowOf_at c (b := 26) (by decide) hi
      rw [List.getElem?_map, hr'] at hx
      obtain rfl : V.int r = x := Option.some.inj hx
      obtain ⟨rn, rfl⟩ : ∃ n : Nat, r = n := ⟨r.toNat, by omega⟩
      have h26 : (Str.ofString "abcdefghijklmnopqrstuvwxyz").cps.toList.length = 26 := by decide +kernel
      obtain ⟨ch, hch⟩ := at_of_lt (show rn < (Str.ofString "abcdefghijklmnopqrstuvwxyz").cps.toList.length by omega)
      exact ⟨rfl, _, rfl, _, rfl, _, _, ch, rfl, rfl, by decide +kernel, atI_nat hch, hZ _ _ (Same.refl _) ⟨_, rfl, rfl⟩⟩
    · rintro H2 ys hys e2 hW hP
      obtain ⟨zs, rfl, hz1⟩ := all_strs ys (fun y hy => by
        obtain ⟨i, hi⟩ := mem_at hy
        exact hP i y hi)
      rw [List.length_map, List.length_map, rowOf_len] at hys
      have hjl := join_len_le "" zs
      have hsum : ∀ l : List Str, (∀ z, z ∈ l → z.length = 1) → (l.map (·.length)).sum = l.length := fun l => by
        induction l with
        | nil => intro _; rfl
        | cons z l ih =>
          intro h
          rw [List.map_cons, List.sum_cons, ih (fun z hz => h z (List.mem_cons_of_mem _ hz)), h z (List.mem_cons_self), List.length_cons]
          omega
      have h0 : (Str.ofString "").length = 0 := by decide +kernel
      have hs := hsum zs hz1
      rw [hs, h0] at hjl
      exact ⟨_, W, zs, rfl, rfl, .inl (.inl (.inl hW)), by rw [hs, h0]; omega, kQ _ _ (e1.trans e2) (by omega)⟩
end
end Mu

/-! DeedSpoil: the laws' spoilt tuples, and their own walk for a fault. -/
namespace Mu
open PySem L2
section
variable {P : Program} {w : World} {K : PySem.W.Frag} {mg : Str → Option Value} {base : Heap} {A : Ad}
def sp_law_cut : Sp := fun vs H Q _ => ∃ c : Int, vs = [.int c] ∧ ∀ j, Q (.int j) H
theorem ok_law_cut (T : Txt K mg A) : FnOk P w K mg base CX0 1 A.f_law_cut A.d_law_cut ["_law_cell_here"] sp_law_cut := by
  refine T.F_law_cut.ok sc_law_cut (fun vs H Q E h => ?_) (fun cdv A' outer s H vs Q E hr h => ?_)
  · obtain ⟨c, rfl, _⟩ := h
    rfl
  · obtain ⟨c, rfl, kQ⟩ := h
    refine ⟨_, (pss_cons (ps_if (pt_cmpR op_lt (pv 0) pe_int (nomark _))
    (pss_one (ps_ret (pe_op op_sub pe_int (pe_op op_mod (pe_op op_sub pe_int (pv 0)) (pe_op op_pow pe_int pe_int)))))
    pss_nil)
  (pss_one (ps_ret (pe_op op_mod (pv 0) (pe_op op_pow pe_int pe_int))))), ?_⟩
    refine ⟨_, rfl, _, _, rfl, rfl, _, rfl, ifD2 (fun h => ?_) (fun h => ?_)⟩
    · exact ⟨_, rfl, _, _, rfl, rfl, _, _, rfl, rfl, ⟨by decide, by decide, by decide⟩, _, _, rfl, rfl, (by show (0 : Int) < 10 ^ 30; decide), _, _, rfl, rfl, kQ _⟩
    · exact ⟨_, rfl, _, _, rfl, rfl, ⟨by decide, by decide, by decide⟩, _, _, rfl, rfl, (by show (0 : Int) < 10 ^ 30; decide), kQ _⟩
def sp_law_spoilt_deed (K : PySem.W.Frag) : Sp := fun vs H Q _ => ∃ (a : Addr) (ns : List Int), vs = [.ref a] ∧ SqL K H a (ns.map V.int) ∧ ∀ (u : Addr) (xs : List V) H', Same H H' → SqT K H' u xs → (∀ x, x ∈ xs → Atom x) → xs.length ≤ 2000 → Q (.ref u) H'
theorem five_at (l : List Str) (hl : l.length = 5) (c : Int) : ∃ (j : Nat) (y : Str), c % 5 = (j : Nat) ∧ (l.map V.str)[j]? = some (.str y) := by
  have h1 : (c % 5).toNat < l.length := by omega
  exact ⟨(c % 5).toNat, l[(c % 5).toNat], by omega, by rw [List.getElem?_map, List.getElem?_eq_getElem h1]; rfl⟩
def Atoms (xs : List V) : Prop := ∀ x, x ∈ xs → Atom x
theorem Atoms.cut {xs : List V} {lo hi : Option Int} (h : Atoms xs) : Atoms (cutV xs lo hi) := fun x hx => h x (cutV_mem hx)
theorem Atoms.app {xs ys : List V} (h : Atoms xs) (h2 : Atoms ys) : Atoms (xs ++ ys) := fun x hx => (List.mem_append.mp hx).elim (h x) (h2 x)
theorem Atoms.one {v : V} (h : Atom v) : Atoms [v] := fun x hx => by
  rw [List.mem_singleton] at hx
  subst hx
  exact h
def Spo (K : PySem.W.Frag) (a : Addr) (way at_ c : Int) (H : Hp) (b : Nat) (σ : L2.St) (H' : Hp) : Prop := ∃ (u : Addr) (xs : List V) (v5 : Option V), σ = [some (.ref a), some (.ref u), some (.int way), some (.int at_), some (.int c), v5] ∧ Same H H' ∧ SqT K H' u xs ∧ Atoms xs ∧ xs.length < b ∧ (way = 8 → ∃ (z : Str) (is : List Int), xs = .str z :: is.map V.int ∧ ∀ i, i ∈ is → 0 ≤ i ∧ i < 1000000000000000000)
theorem ok_law_spoilt_deed (T : Txt K mg A) : FnOk P w K mg base CX0 4 A.f_law_spoilt_deed A.d_law_spoilt_deed ["_law_script"] (sp_law_spoilt_deed K) := by
  have G_law_cell := ok_law_cell (P := P) (w := w) (base := base) T
  have G_law_tuple := ok_law_tuple (P := P) (w := w) (base := base) T
  have G_law_word := ok_law_word (P := P) (w := w) (base := base) T
  have G_law_cut := ok_law_cut (P := P) (w := w) (base := base) T
  refine T.F_law_spoilt_deed.ok sc_law_spoilt_deed (fun vs H Q E h => ?_) (fun cdv A' outer s H vs Q E hr h => ?_)
  · obtain ⟨a, ns, rfl, _⟩ := h
    rfl
  · obtain ⟨a, ns, rfl, hS, kQ⟩ := h
    refine ⟨_, (pss_cons (ps_set (i := 1) sc_law_spoilt_deed.nd rfl (Or.inl rfl) (pe_call G_law_tuple (hr.mono (by omega)) rfl T.g_law_tuple T.kp_law_tuple T.bi_law_tuple .nil pass0 (pa_cons (pv 0) pa_nil)))
  (pss_cons (ps_set (i := 2) sc_law_spoilt_deed.nd rfl (Or.inl rfl) (pe_op op_mod (pe_call G_law_cell (hr.mono (by omega)) rfl T.g_law_cell T.kp_law_cell T.bi_law_cell .nil pass0 (pa_cons (pv 0) (pa_cons pe_int pa_nil))) pe_int))
  (pss_cons (ps_set (i := 3) sc_law_spoilt_deed.nd rfl (Or.inl rfl) (pe_op op_mod (pe_op op_fdiv (pe_call G_law_cell (hr.mono (by omega)) rfl T.g_law_cell T.kp_law_cell T.bi_law_cell .nil pass0 (pa_cons (pv 0) (pa_cons pe_int pa_nil))) pe_int) (pe_callB (id := "len") call_len_seq (by rfl) T.nb_len (by decide +kernel) (pa_cons (pv 1) pa_nil))))
  (pss_cons (ps_set (i := 4) sc_law_spoilt_deed.nd rfl (Or.inl rfl) (pe_call G_law_cell (hr.mono (by omega)) rfl T.g_law_cell T.kp_law_cell T.bi_law_cell .nil pass0 (pa_cons (pv 0) (pa_cons pe_int pa_nil))))
  (pss_join (ps_if (pt_cmpR op_eq (pv 2) pe_int (nomark _))
    (pss_one (ps_set (i := 1) sc_law_spoilt_deed.nd rfl (Or.inl rfl) (pe_op op_catU (pe_slice sl_tupU (pv 1) po_none (po_some (pv 3))) (pe_slice sl_tupU (pv 1) (po_some (pe_op op_add (pv 3) pe_int)) po_none))))
    pss_nil)
  (pss_join (ps_if (pt_cmpR op_eq (pv 2) pe_int (nomark _))
    (pss_one (ps_set (i := 1) sc_law_spoilt_deed.nd rfl (Or.inl rfl) (pe_op op_catU (pe_op op_catU (pe_slice sl_tupU (pv 1) po_none (po_some (pe_op op_add (pv 3) pe_int))) (pe_tup (pa_cons (pe_op op_mod (pv 4) pe_int) pa_nil))) (pe_slice sl_tupU (pv 1) (po_some (pe_op op_add (pv 3) pe_int)) po_none))))
    pss_nil)
  (pss_join (ps_if (pt_cmpR op_eq (pv 2) pe_int (nomark _))
    (pss_one (ps_set (i := 1) sc_law_spoilt_deed.nd rfl (Or.inl rfl) (pe_op op_catU (pe_tup (pa_cons (pe_ix ix_list (pe_lst (pa_cons pe_str (pa_cons pe_str (pa_cons pe_str (pa_cons pe_str (pa_cons pe_str pa_nil)))))) (pe_op op_mod (pv 4) pe_int) (fun _ _ => rfl)) pa_nil)) (pe_slice sl_tupU (pv 1) (po_some pe_int) po_none))))
    pss_nil)
  (pss_join (ps_if (pt_cmpR op_eq (pv 2) pe_int (nomark _))
    (pss_one (ps_set (i := 1) sc_law_spoilt_deed.nd rfl (Or.inl rfl) (pe_op op_catU (pe_op op_catU (pe_slice sl_tupU (pv 1) po_none (po_some (pv 3))) (pe_tup (pa_cons (pe_call G_law_cut (hr.mono (by omega)) rfl T.g_law_cut T.kp_law_cut T.bi_law_cut .nil pass0 (pa_cons (pv 4) pa_nil)) pa_nil))) (pe_slice sl_tupU (pv 1) (po_some (pe_op op_add (pv 3) pe_int)) po_none))))
    pss_nil)
  (pss_join (ps_if (pt_cmpR op_eq (pv 2) pe_int (nomark _))
    (pss_one (ps_set (i := 1) sc_law_spoilt_deed.nd rfl (Or.inl rfl) (pe_op op_catU (pe_op op_catU (pe_slice sl_tupU (pv 1) po_none (po_some (pv 3))) (pe_tup (pa_cons (pe_op op_sub (pe_op op_pow pe_int pe_int) (pe_op op_mod (pv 4) pe_int)) pa_nil))) (pe_slice sl_tupU (pv 1) (po_some (pe_op op_add (pv 3) pe_int)) po_none))))
    pss_nil)
  (pss_join (ps_if (pt_cmpR op_eq (pv 2) pe_int (nomark _))
    (pss_one (ps_set (i := 1) sc_law_spoilt_deed.nd rfl (Or.inl rfl) (pe_op op_catU (pe_op op_catU (pe_slice sl_tupU (pv 1) po_none (po_some (pv 3))) (pe_tup (pa_cons (pe_ix ix_list (pe_lst (pa_cons pe_str (pa_cons pe_str (pa_cons pe_str (pa_cons pe_str (pa_cons pe_str pa_nil)))))) (pe_op op_mod (pv 4) pe_int) (fun _ _ => rfl)) pa_nil))) (pe_slice sl_tupU (pv 1) (po_some (pe_op op_add (pv 3) pe_int)) po_none))))
    pss_nil)
  (pss_join (ps_if (pt_cmpR op_eq (pv 2) pe_int (nomark _))
    (pss_one (ps_set (i := 1) sc_law_spoilt_deed.nd rfl (Or.inl rfl) (pe_op op_catU (pe_tup (pa_cons (pe_call G_law_word (hr.mono (by omega)) rfl T.g_law_word T.kp_law_word T.bi_law_word .nil pass0 (pa_cons (pv 4) pa_nil)) pa_nil)) (pe_slice sl_tupU (pv 1) (po_some pe_int) po_none))))
    pss_nil)
  (pss_join (ps_if (pt_cmpR op_eq (pv 2) pe_int (nomark _))
    (pss_one (ps_set (i := 1) sc_law_spoilt_deed.nd rfl (Or.inl rfl) (pe_op op_catU (pe_slice sl_tupU (pv 1) po_none (po_some pe_int)) (pe_tupleOf rfl T.nb_tuple (pe_lc (own := [("_law_part", 5)]) (g := gName 5) (tt := tYes) rfl sc_law_spoilt_deed.nd (pi_tup (pe_slice sl_tupU (pv 1) (po_some pe_int) po_none)) (blkOk_by (N := N_law_spoilt_deed) (sc := defScope s_law_spoilt_deed) (by decide +kernel)) (fun _ _ _ _ _ => (pg_name (i := 5) sc_law_spoilt_deed.nd rfl (Or.inl rfl))) (fun _ _ _ _ _ => pts_nil) (fun _ _ _ _ _ => (pe_callTy call_str_int (by rfl) T.nb_str (by decide +kernel) (pa_cons (pv 5) pa_nil))))))))
    pss_nil)
  (pss_one (ps_ret (pv 1))))))))))))))), ?_⟩
    refine ⟨_, rfl, a, ns, rfl, hS, fun u0 z is H1 e1 hu0 hlk hl4 hb => ?_⟩
    refine ⟨_, rfl, a, ns, 5, rfl, e1.seq hS, _, _, rfl, rfl, (by show (0 : Int) < 9; decide), ?_⟩
    refine ⟨_, rfl, a, ns, 5, rfl, e1.seq hS, _, _, rfl, rfl, ⟨by decide, by decide⟩, _, rfl, u0, _, rfl, .inr hu0, _, _, rfl, rfl, (by show (0 : Int) < _; rw [List.length_cons]; omega), ?_⟩
    refine ⟨_, rfl, a, ns, 6, rfl, e1.seq hS, ?_⟩
    dsimp only
    generalize ns.getD 5 0 % 9 = way
    generalize ns.getD 5 0 / 9 % (((V.str z :: is.map V.int).length : Nat) : Int) = at_
    generalize ns.getD 6 0 = c
    have big : 20000 ≤ sizeLine := by decide
    have m2 : ∀ (xs : List V) (lo hi lo' hi' : Option Int) (b : Nat), xs.length < b → b ≤ 4000 → (cutV xs lo hi).length + (cutV xs lo' hi').length ≤ sizeLine ∧ (cutV xs lo hi ++ cutV xs lo' hi').length < 2 * b := fun xs lo hi lo' hi' b h h4 => by
      have h1 := cutV_length xs lo hi
      have h2 := cutV_length xs lo' hi'
      rw [List.length_append]
      exact ⟨by omega, by omega⟩
    have m3 : ∀ (xs : List V) (lo hi lo' hi' : Option Int) (b : Nat) (v : V), xs.length < b → b ≤ 4000 → (cutV xs lo hi).length + [v].length ≤ sizeLine ∧ (cutV xs lo hi ++ [v]).length + (cutV xs lo' hi').length ≤ sizeLine ∧ (cutV xs lo hi ++ [v] ++ cutV xs lo' hi').length < 2 * b := fun xs lo hi lo' hi' b v h h4 => by
      have h1 := cutV_length xs lo hi
      have h2 := cutV_length xs lo' hi'
      simp only [List.length_append, List.length_singleton]
      exact ⟨by omega, by omega, by omega⟩
    have m1 : ∀ (xs : List V) (lo hi : Option Int) (b : Nat) (v : V), xs.length < b → b ≤ 4000 → [v].length + (cutV xs lo hi).length ≤ sizeLine ∧ ([v] ++ cutV xs lo hi).length < 2 * b := fun xs lo hi b v h h4 => by
      have h1 := cutV_length xs lo hi
      rw [List.length_append, List.length_singleton]
      exact ⟨by omega, by omega⟩
    have hat : Atoms (V.str z :: is.map V.int) := fun x hx => by
      rcases List.mem_cons.mp hx with rfl | hx
      · exact .inr ⟨_, rfl⟩
      · obtain ⟨i, _, rfl⟩ := List.mem_map.mp hx
        exact .inl ⟨_, rfl⟩
    have hl : (V.str z :: is.map V.int).length < 6 := by rw [List.length_cons, List.length_map]; omega
    have h8 : way = 8 → ∃ (z' : Str) (is' : List Int), V.str z :: is.map V.int = .str z' :: is'.map V.int ∧ ∀ i, i ∈ is' → 0 ≤ i ∧ i < 1000000000000000000 := fun _ => ⟨z, is, rfl, hb⟩
    generalize V.str z :: is.map V.int = xs at hu0 hat hl h8
    have hu := hu0
    have eH := e1
    obtain ⟨u, hu'⟩ : ∃ u, u = u0 := ⟨_, rfl⟩
    subst hu'
    -- 1
    refine ⟨Spo K a way at_ c H 12, ?_, ?_⟩
    · refine ⟨_, rfl, rfl, _, rfl, ifD2 (fun h => ?_) (fun h => ⟨u, xs, _, rfl, eH, hu, hat, by omega, h8⟩)⟩
      have hw : way ≠ 8 := fun z => by rw [z] at h; revert h; decide
      obtain ⟨l1, l2⟩ := m2 xs none (some at_) (some (at_ + 1)) none 6 hl (by decide)
      refine ⟨_, rfl, _, rfl, _, rfl, u, xs, rfl, hu, fun p1 H2 e2 h1 => ?_⟩
      refine ⟨_, rfl, _, rfl, _, _, rfl, rfl, _, rfl, u, xs, rfl, Same.tup e2 hu, fun p2 H3 e3 h2 => ?_⟩
      exact ⟨p1, p2, _, _, rfl, rfl, Same.tup e3 h1, h2, l1, fun p3 H4 e4 h3 => ⟨p3, _, _, rfl, eH.trans (e2.trans (e3.trans e4)), h3, hat.cut.app hat.cut, l2, fun z => absurd z hw⟩⟩
    rintro σ H' ⟨u, xs, v5, rfl, eH, hu, hat, hl, h8⟩
    -- 2
    refine ⟨Spo K a way at_ c H 24, ?_, ?_⟩
    · refine ⟨_, rfl, rfl, _, rfl, ifD2 (fun h => ?_) (fun h => ⟨u, xs, _, rfl, eH, hu, hat, by omega, h8⟩)⟩
      have hw : way ≠ 8 := fun z => by rw [z] at h; revert h; decide
      have l3 := fun v => m3 xs none (some (at_ + 1)) (some (at_ + 1)) none 12 v hl (by decide)
      refine ⟨_, rfl, _, rfl, _, _, rfl, rfl, _, rfl, u, xs, rfl, hu, fun p1 H2 e2 h1 => ?_⟩
      refine ⟨_, rfl, _, _, rfl, rfl, (by show (0 : Int) < 12; decide), (by show 1 ≤ sizeLine; decide), fun t nt => ?_⟩
      refine ⟨p1, t, _, _, rfl, rfl, Same.tup (Same.new nt) h1, .inl (.inl upd_same), (l3 _).1, fun p2 H3 e3 h2 => ?_⟩
      have e4 := e2.trans ((Same.new nt).trans e3)
      refine ⟨_, rfl, _, rfl, _, _, rfl, rfl, _, rfl, u, xs, rfl, Same.tup e4 hu, fun p3 H4 e5 h3 => ?_⟩
      exact ⟨p2, p3, _, _, rfl, rfl, Same.tup e5 h2, h3, (l3 _).2.1, fun p4 H5 e6 h4 => ⟨p4, _, _, rfl, eH.trans (e4.trans (e5.trans e6)), h4, (hat.cut.app (Atoms.one (.inl ⟨_, rfl⟩))).app hat.cut, (l3 _).2.2, fun z => absurd z hw⟩⟩
    rintro σ H' ⟨u, xs, v5, rfl, eH, hu, hat, hl, h8⟩
    -- 3
    refine ⟨Spo K a way at_ c H 48, ?_, ?_⟩
    · refine ⟨_, rfl, rfl, _, rfl, ifD2 (fun h => ?_) (fun h => ⟨u, xs, _, rfl, eH, hu, hat, by omega, h8⟩)⟩
      have hw : way ≠ 8 := fun z => by rw [z] at h; revert h; decide
      have l3 := fun v => m1 xs (some 1) none 24 v hl (by decide)
      obtain ⟨j, y, hj, hjy⟩ := five_at (["", "Cut", "cut ", "bundles", "fus"]) rfl c
      refine ⟨(by show 5 ≤ sizeLine; decide), fun l nl => ⟨_, rfl, _, _, rfl, rfl, (by show (0 : Int) < 5; decide), l, _, j, _, rfl, congrArg V.int hj, .inl (.inl upd_same), atI_nat hjy, (by show 1 ≤ sizeLine; decide), fun t nt => ?_⟩⟩
      have e2 := (Same.new nl).trans (Same.new (o := .tup [V.str y]) nt)
      refine ⟨_, rfl, _, rfl, u, xs, rfl, Same.tup e2 hu, fun p1 H3 e3 h1 => ?_⟩
      exact ⟨t, p1, _, _, rfl, rfl, Same.tup e3 (.inl (.inl upd_same)), h1, (l3 _).1, fun p4 H5 e6 h4 => ⟨p4, _, _, rfl, eH.trans (e2.trans (e3.trans e6)), h4, (Atoms.one (.inr ⟨_, rfl⟩)).app hat.cut, (l3 _).2, fun z => absurd z hw⟩⟩
    rintro σ H' ⟨u, xs, v5, rfl, eH, hu, hat, hl, h8⟩
    -- 4
    refine ⟨Spo K a way at_ c H 96, ?_, ?_⟩
    · refine ⟨_, rfl, rfl, _, rfl, ifD2 (fun h => ?_) (fun h => ⟨u, xs, _, rfl, eH, hu, hat, by omega, h8⟩)⟩
      have hw : way ≠ 8 := fun z => by rw [z] at h; revert h; decide
      have l3 := fun v => m3 xs none (some at_) (some (at_ + 1)) none 48 v hl (by decide)
      refine ⟨_, rfl, _, rfl, _, rfl, u, xs, rfl, hu, fun p1 H2 e2 h1 => ?_⟩
      refine ⟨_, rfl, c, rfl, fun j => ⟨(by show 1 ≤ sizeLine; decide), fun t nt => ?_⟩⟩
      refine ⟨p1, t, _, _, rfl, rfl, Same.tup (Same.new nt) h1, .inl (.inl upd_same), (l3 _).1, fun p2 H3 e3 h2 => ?_⟩
      have e4 := e2.trans ((Same.new nt).trans e3)
      refine ⟨_, rfl, _, rfl, _, _, rfl, rfl, _, rfl, u, xs, rfl, Same.tup e4 hu, fun p3 H4 e5 h3 => ?_⟩
      exact ⟨p2, p3, _, _, rfl, rfl, Same.tup e5 h2, h3, (l3 _).2.1, fun p4 H5 e6 h4 => ⟨p4, _, _, rfl, eH.trans (e4.trans (e5.trans e6)), h4, (hat.cut.app (Atoms.one (.inl ⟨_, rfl⟩))).app hat.cut, (l3 _).2.2, fun z => absurd z hw⟩⟩
    rintro σ H' ⟨u, xs, v5, rfl, eH, hu, hat, hl, h8⟩
    -- 5
    refine ⟨Spo K a way at_ c H 192, ?_, ?_⟩
    · refine ⟨_, rfl, rfl, _, rfl, ifD2 (fun h => ?_) (fun h => ⟨u, xs, _, rfl, eH, hu, hat, by omega, h8⟩)⟩
      have hw : way ≠ 8 := fun z => by rw [z] at h; revert h; decide
      have l3 := fun v => m3 xs none (some at_) (some (at_ + 1)) none 96 v hl (by decide)
      refine ⟨_, rfl, _, rfl, _, rfl, u, xs, rfl, hu, fun p1 H2 e2 h1 => ?_⟩
      refine ⟨_, _, rfl, rfl, ⟨by decide, by decide, by decide⟩, _, rfl, _, _, rfl, rfl, (by show (0 : Int) < 2; decide), _, _, rfl, rfl, (by show 1 ≤ sizeLine; decide), fun t nt => ?_⟩
      refine ⟨p1, t, _, _, rfl, rfl, Same.tup (Same.new nt) h1, .inl (.inl upd_same), (l3 _).1, fun p2 H3 e3 h2 => ?_⟩
      have e4 := e2.trans ((Same.new nt).trans e3)
      refine ⟨_, rfl, _, rfl, _, _, rfl, rfl, _, rfl, u, xs, rfl, Same.tup e4 hu, fun p3 H4 e5 h3 => ?_⟩
      exact ⟨p2, p3, _, _, rfl, rfl, Same.tup e5 h2, h3, (l3 _).2.1, fun p4 H5 e6 h4 => ⟨p4, _, _, rfl, eH.trans (e4.trans (e5.trans e6)), h4, (hat.cut.app (Atoms.one (.inl ⟨_, rfl⟩))).app hat.cut, (l3 _).2.2, fun z => absurd z hw⟩⟩
    rintro σ H' ⟨u, xs, v5, rfl, eH, hu, hat, hl, h8⟩
    -- 6
    refine ⟨Spo K a way at_ c H 384, ?_, ?_⟩
    · refine ⟨_, rfl, rfl, _, rfl, ifD2 (fun h => ?_) (fun h => ⟨u, xs, _, rfl, eH, hu, hat, by omega, h8⟩)⟩
      have hw : way ≠ 8 := fun z => by rw [z] at h; revert h; decide
      have l3 := fun v => m3 xs none (some at_) (some (at_ + 1)) none 192 v hl (by decide)
      refine ⟨_, rfl, _, rfl, _, rfl, u, xs, rfl, hu, fun p1 H2 e2 h1 => ?_⟩
      obtain ⟨j, y, hj, hjy⟩ := five_at (["cut", "7", "0", "12", ""]) rfl c
      refine ⟨(by show 5 ≤ sizeLine; decide), fun l nl => ⟨_, rfl, _, _, rfl, rfl, (by show (0 : Int) < 5; decide), l, _, j, _, rfl, congrArg V.int hj, .inl (.inl upd_same), atI_nat hjy, (by show 1 ≤ sizeLine; decide), fun t nt => ?_⟩⟩
      refine ⟨p1, t, _, _, rfl, rfl, Same.tup ((Same.new nl).trans (Same.new nt)) h1, .inl (.inl upd_same), (l3 _).1, fun p2 H3 e3 h2 => ?_⟩
      have e4 := e2.trans (((Same.new nl).trans (Same.new nt)).trans e3)
      refine ⟨_, rfl, _, rfl, _, _, rfl, rfl, _, rfl, u, xs, rfl, Same.tup e4 hu, fun p3 H4 e5 h3 => ?_⟩
      exact ⟨p2, p3, _, _, rfl, rfl, Same.tup e5 h2, h3, (l3 _).2.1, fun p4 H5 e6 h4 => ⟨p4, _, _, rfl, eH.trans (e4.trans (e5.trans e6)), h4, (hat.cut.app (Atoms.one (.inr ⟨_, rfl⟩))).app hat.cut, (l3 _).2.2, fun z => absurd z hw⟩⟩
    rintro σ H' ⟨u, xs, v5, rfl, eH, hu, hat, hl, h8⟩
    -- 7
    refine ⟨Spo K a way at_ c H 768, ?_, ?_⟩
    · refine ⟨_, rfl, rfl, _, rfl, ifD2 (fun h => ?_) (fun h => ⟨u, xs, _, rfl, eH, hu, hat, by omega, h8⟩)⟩
      have hw : way ≠ 8 := fun z => by rw [z] at h; revert h; decide
      have l3 := fun v => m1 xs (some 1) none 384 v hl (by decide)
      refine ⟨_, rfl, c, rfl, fun y H2 e1 _ => ⟨(by show 1 ≤ sizeLine; decide), fun t nt => ?_⟩⟩
      have e2 := e1.trans (Same.new (o := .tup [V.str y]) nt)
      refine ⟨_, rfl, _, rfl, u, xs, rfl, Same.tup e2 hu, fun p1 H3 e3 h1 => ?_⟩
      exact ⟨t, p1, _, _, rfl, rfl, Same.tup e3 (.inl (.inl upd_same)), h1, (l3 _).1, fun p4 H5 e6 h4 => ⟨p4, _, _, rfl, eH.trans (e2.trans (e3.trans e6)), h4, (Atoms.one (.inr ⟨_, rfl⟩)).app hat.cut, (l3 _).2, fun z => absurd z hw⟩⟩
    rintro σ H' ⟨u, xs, v5, rfl, eH, hu, hat, hl, h8⟩
    -- 8
    refine ⟨fun σ H' => ∃ (u : Addr) (xs : List V) (v5 : Option V), σ = [some (.ref a), some (.ref u), some (.int way), some (.int at_), some (.int c), v5] ∧ Same H H' ∧ SqT K H' u xs ∧ Atoms xs ∧ xs.length < 1536, ?_, ?_⟩
    · refine ⟨_, rfl, rfl, _, rfl, ifD2 (fun h => ?_) (fun h => ⟨u, xs, _, rfl, eH, hu, hat, by omega⟩)⟩
      obtain ⟨z, is, rfl, hb⟩ := h8 (by injection h)
      refine ⟨_, rfl, _, rfl, u, _, rfl, hu, fun p1 H2 e2 h1 => ?_⟩
      refine ⟨_, rfl, _, rfl, u, _, rfl, Same.tup e2 hu, fun p2 H3 e3 h2 => ?_⟩
      rw [cutV_tail] at h2
      rw [List.length_cons, List.length_map] at hl
      refine ⟨p2, rfl, ⟨_, h2⟩, fun W nW => lc_all (walk_tup (xs := is.map V.int)) (fun i y _ => ∃ z : Str, y = .str z) (fun i y H H' h _ => h) nW (by rw [List.length_map]; omega) (fun H9 e9 => Same.tup e9 h2) ?_ ?_⟩
      · rintro i x H4 H4' acc Z hi e4 hacc ⟨rfl, hx⟩ hZ
        rw [List.getElem?_map] at hx
        obtain ⟨m, hm⟩ := at_of_lt (show i < is.length by rw [List.length_map] at hi; exact hi)
        rw [hm] at hx
        obtain rfl : V.int m = x := Option.some.inj hx
        obtain ⟨b0, b1⟩ := hb m (at_mem hm)
        refine ⟨rfl, _, rfl, m, rfl, ?_, hZ _ _ (Same.refl _) ⟨_, rfl⟩⟩
        have h1 : m.natAbs.log2 < 60 := by
          by_cases h0 : m.natAbs = 0
          · rw [h0]; decide
          · exact (Nat.log2_lt h0).mpr (by omega)
        omega
      · rintro H4 ys hys e4 hW hP
        obtain ⟨zs, rfl, _⟩ := all_strs (p := fun _ => True) ys (fun y hy => by
          obtain ⟨i, hi⟩ := mem_at hy
          obtain ⟨z, hz⟩ := hP i y hi
          exact ⟨z, hz, trivial⟩)
        rw [List.length_map, List.length_map] at hys
        have c1 := cutV_length (V.str z :: is.map V.int) none (some 1)
        rw [List.length_cons, List.length_map] at c1
        refine .inl ⟨W, _, rfl, .inl (.inl hW), fun q nq => ?_⟩
        have e5 := e3.trans (e4.trans (Same.new (o := .tup (zs.map V.str)) nq))
        refine ⟨p1, q, _, _, rfl, rfl, Same.tup e5 h1, .inl (.inl upd_same), by rw [List.length_map]; omega, fun p3 H6 e6 h3 => ⟨p3, _, _, rfl, eH.trans (e2.trans (e5.trans e6)), h3, hat.cut.app (fun x hx => ?_), by rw [List.length_append, List.length_map]; omega⟩⟩
        obtain ⟨y, _, rfl⟩ := List.mem_map.mp hx
        exact .inr ⟨_, rfl⟩
    rintro σ H' ⟨u, xs, v5, rfl, eH, hu, hat, hl⟩
    exact ⟨_, rfl, kQ u xs H' eH hu hat (by omega)⟩
def sp_law_fault (K : PySem.W.Frag) : Sp := fun vs H Q _ => ∃ (u : Addr) (xs : List V), vs = [.ref u] ∧ SqT K H u xs ∧ (∀ x, x ∈ xs → Atom x) ∧ xs.length ≤ 5000 ∧ ∀ H', Same H H' → Q (.bl (!deedB xs)) H'
theorem ok_law_fault (T : Txt K mg A) : FnOk P w K mg base CX0 2 A.f_law_fault A.d_law_fault ["_law_deed"] (sp_law_fault K) := by
  refine T.F_law_fault.ok sc_law_fault (fun vs H Q E h => ?_) (fun cdv A' outer s H vs Q E hr h => ?_)
  · obtain ⟨u, xs, rfl, _⟩ := h
    rfl
  · obtain ⟨u, xs, rfl, hu, ha, hl, kQ⟩ := h
    refine ⟨_, (pss_cons (ps_set (i := 1) sc_law_fault.nd rfl (Or.inl rfl) (pe_lst (pa_cons pe_str (pa_cons pe_str (pa_cons pe_str (pa_cons pe_str (pa_cons pe_str (pa_cons pe_str (pa_cons pe_str (pa_cons pe_str pa_nil))))))))))
  (pss_cons (ps_if (PW.pt (pw_or (pt_cmpR op_eq (pe_callB (id := "len") call_len_seq (by rfl) T.nb_len (by decide +kernel) (pa_cons (pv 0) pa_nil)) pe_int (nomark _)) (pw_or (pt_not (pt_val (pe_callB (id := "isinstance") call_isi (by rfl) T.nb_isinstance (by decide +kernel) (pa_cons (pe_ix ix_tup (pv 0) pe_int (fun _ _ => rfl)) (pa_cons (pe_ty (T := "str") T.nb_str (by decide +kernel)) pa_nil))))) (pw_or1 (pt_cmpR op_notIn_seq (pe_ix ix_tup (pv 0) pe_int (fun _ _ => rfl)) (pv 1) (by rfl))))))
    (pss_one (ps_ret pe_bl))
    pss_nil)
  (pss_cons (ps_if (pt_cmpR op_ne (pe_op op_sub (pe_callB (id := "len") call_len_seq (by rfl) T.nb_len (by decide +kernel) (pa_cons (pv 0) pa_nil)) pe_int) (pe_ix ix_tup (pe_tup (pa_cons pe_int (pa_cons pe_int (pa_cons pe_int (pa_cons pe_int (pa_cons pe_int (pa_cons pe_int (pa_cons pe_int (pa_cons pe_int pa_nil))))))))) (pe_bm PySem.F.plainAttrs_list PySem.F.slot_list_index PySem.F.type_list_index mt_index (pv 1) (pa_cons (pe_ix ix_tup (pv 0) pe_int (fun _ _ => rfl)) pa_nil)) (fun _ _ => rfl)) (nomark _))
    (pss_one (ps_ret pe_bl))
    pss_nil)
  (pss_cons (ps_for PassesOwn.never rfl (pi_tup (pe_slice sl_tupU (pv 0) (po_some pe_int) po_none)) (pg_name (i := 2) sc_law_fault.nd rfl (Or.inl rfl))
    (pss_one (ps_if (PW.pt (pw_or (pt_not (pt_val (pe_callB (id := "isinstance") call_isi (by rfl) T.nb_isinstance (by decide +kernel) (pa_cons (pv 2) (pa_cons (pe_ty (T := "int") T.nb_int (by decide +kernel)) pa_nil))))) (pw_or1 (pt_not (pt_chain op_le op_lt pe_int (pv 2) (pe_op op_pow pe_int pe_int))))))
        (pss_one (ps_ret pe_bl))
        pss_nil)))
  (pss_one (ps_ret pe_bl)))))), ?_⟩
    refine ⟨(by show 8 ≤ sizeLine; decide), fun l nl => ?_⟩
    have e1 := Same.new (o := .lst [V.str "gather", .str "pull", .str "bundle", .str "turn", .str "cut", .str "fuse", .str "sell", .str "waste"]) nl
    have hl1 : upd H l (.lst [V.str "gather", .str "pull", .str "bundle", .str "turn", .str "cut", .str "fuse", .str "sell", .str "waste"]) l = some (.lst (kvsN.map fun q => V.str q.1)) := upd_same
    generalize upd H l (.lst [V.str "gather", .str "pull", .str "bundle", .str "turn", .str "cut", .str "fuse", .str "sell", .str "waste"]) = H1 at e1 hl1 ⊢
    have hu1 := Same.tup e1 hu
    refine ⟨_, rfl, u, xs, rfl, .inr hu1, rfl, _, rfl, ?_⟩
    cases xs with
    | nil => exact ifT rfl (kQ H1 e1)
    | cons x r =>
      refine ifF (by simp; omega) ⟨_, rfl, u, _, _, _, rfl, rfl, hu1, atI_nat (j := 0) rfl, ?_⟩
      rcases ha x (List.mem_cons_self) with ⟨i, rfl⟩ | ⟨z, rfl⟩
      · exact ⟨_, _, _, _, _, rfl, .ty _, (.base (.int i)), by rfl, false, rfl, ifT rfl (kQ H1 e1)⟩
      · refine ⟨_, _, _, _, _, rfl, .ty _, (.base (.str z)), by rfl, true, rfl, ifF rfl ?_⟩
        refine ⟨_, rfl, u, _, _, _, rfl, rfl, hu1, atI_nat (j := 0) rfl, _, rfl, l, _, rfl, .inl (.inl (.inl hl1)), rfl, by rfl, _, rfl, ?_⟩
        cases hz : kvsN.lookup z with
        | none =>
          refine ifT (by rw [inV_names, hz]; rfl) ?_
          have e : deedB (.str z :: r) = false := by simp [deedB, hz]
          rw [e] at kQ
          exact kQ H1 e1
        | some n =>
          refine ifF (by rw [inV_names, hz]; rfl) ?_
          have e : deedB (.str z :: r) = (decide ((r.length : Int) = n) && r.all okNum) := by simp [deedB, hz]
          rw [e] at kQ
          obtain ⟨j, j1, j2, j3⟩ := names_at hz
          refine ⟨_, rfl, u, _, rfl, .inr hu1, _, _, rfl, rfl, (by show 8 ≤ sizeLine; decide), fun t nt => ?_⟩
          have e2 := Same.new (o := .tup [V.int 3, .int 2, .int 4, .int 2, .int 2, .int 2, .int 1, .int 1]) nt
          have ht2 : upd H1 t (.tup [V.int 3, .int 2, .int 4, .int 2, .int 2, .int 2, .int 1, .int 1]) t = some (.tup (kvsN.map fun q => V.int q.2)) := upd_same
          generalize upd H1 t (.tup [V.int 3, .int 2, .int 4, .int 2, .int 2, .int 2, .int 1, .int 1]) = H2 at e2 ht2 ⊢
          have hu2 := Same.tup e2 hu1
          have hl2 := e2 _ _ hl1
          refine ⟨_, rfl, .inl ⟨rfl, _, .inl (.inl hl2)⟩, _, rfl, u, _, _, _, rfl, rfl, hu2, atI_nat (j := 0) rfl, l, _, _, j, _, rfl, rfl, .inl (.inl hl2), rfl, by rfl, j1, by simp [eqV], j2, t, _, _, _, rfl, rfl, .inl (.inl ht2), atI_nat j3, rfl, _, rfl, ?_⟩
          have el : (((V.str z :: r).length : Nat) : Int) - 1 = (r.length : Nat) := by rw [List.length_cons]; omega
          by_cases hn : ((r.length : Nat) : Int) = n
          · rw [decide_eq_true hn, Bool.true_and] at kQ
            have hd : decide (V.int ((((V.str z :: r).length : Nat) : Int) - 1) = V.int n) = true := decide_eq_true (by rw [el, hn])
            refine ifF (by show (!decide (V.int ((((V.str z :: r).length : Nat) : Int) - 1) = V.int n)) = false; rw [hd]; rfl) ?_
            have e12 := e1.trans e2
            refine ⟨_, rfl, _, rfl, u, _, rfl, hu2, fun p H3 e3 hp => ?_⟩
            rw [cutV_tail] at hp
            refine ⟨p, rfl, ⟨_, hp⟩, for_tup (K := K) (a := p) (xs := r) (fun i σ H' => ∃ v2, σ = [some (.ref u), some (.ref l), v2] ∧ Same H3 H' ∧ (r.take i).all okNum = true) ⟨_, rfl, Same.refl _, rfl⟩ (fun i σ H' _ ⟨_, _, e, _⟩ => Same.tup e hp) ?_ ?_⟩
            · rintro i x σ H4 hx ⟨v2, rfl, e34, hall⟩
              have e4 := (e12.trans e3).trans e34
              have hax := ha x (List.mem_cons_of_mem _ (at_mem hx))
              have hlt := at_lt hx
              have step : okNum x = true → (r.take (i + 1)).all okNum = true := fun ho => by
                rw [take_more hx, List.all_append, hall]
                simp [ho]
              have bad : okNum x = false → r.all okNum = false := fun ho => by
                rw [← Bool.not_eq_true, List.all_eq_true]
                intro z
                have := z x (at_mem hx)
                rw [ho] at this
                cases this
              rcases hax with ⟨m, rfl⟩ | ⟨y, rfl⟩
              · refine ⟨_, rfl, ⟨_, _, _, _, _, rfl, .ty _, (.base (.int m)), by rfl, true, rfl, ifF rfl ?_⟩⟩
                refine ⟨_, rfl, _, _, rfl, rfl, _, rfl, ifD2 (fun h0 => ⟨_, _, rfl, rfl, ⟨by decide, by decide, by decide⟩, _, _, rfl, rfl, _, rfl, ?_⟩) (fun h0 => ⟨_, rfl, ?_⟩)⟩
                · by_cases h1 : m < 1000000000000000000
                  · have hd : decide (m < (10 : Int) ^ (18 : Int).toNat) = true := decide_eq_true (by show m < (10 : Int) ^ 18; omega)
                    refine ifF (by show (!decide (m < (10 : Int) ^ (18 : Int).toNat)) = false; rw [hd]; rfl) ?_
                    exact ⟨_, rfl, e34, step (by simp [okNum, h0]; omega)⟩
                  · have hd : decide (m < (10 : Int) ^ (18 : Int).toNat) = false := decide_eq_false (by show ¬ m < (10 : Int) ^ 18; omega)
                    refine ifT (by show (!decide (m < (10 : Int) ^ (18 : Int).toNat)) = true; rw [hd]; rfl) ?_
                    rw [bad (by simp [okNum]; omega)] at kQ
                    exact kQ H4 e4
                · refine ifT rfl ?_
                  rw [bad (by simp [okNum]; omega)] at kQ
                  exact kQ H4 e4
              · refine ⟨_, rfl, ⟨_, _, _, _, _, rfl, .ty _, (.base (.str y)), by rfl, false, rfl, ifT rfl ?_⟩⟩
                rw [bad rfl] at kQ
                exact kQ H4 e4
            · rintro σ H4 ⟨v2, rfl, e34, hall⟩
              have e4 := (e12.trans e3).trans e34
              rw [List.take_length] at hall
              rw [hall] at kQ
              exact kQ H4 e4
          · rw [decide_eq_false hn, Bool.false_and] at kQ
            have hd : decide (V.int ((((V.str z :: r).length : Nat) : Int) - 1) = V.int n) = false := decide_eq_false (fun q => hn (by rw [el] at q; injection q))
            exact ifT (by show (!decide (V.int ((((V.str z :: r).length : Nat) : Int) - 1) = V.int n)) = true; rw [hd]; rfl) (kQ H2 (e1.trans e2))
end
end Mu

/-! K16: deeds written. -/
namespace Mu
open PySem L2 TL
theorem cutV_one (x : V) (r : List V) : cutV (x :: r) none (some 1) = [x] := by
  unfold cutV
  have h1 : HT.sIx (x :: r).length (x :: r).length (some 1) = 1 := by
    have := HT.sIx_nat (x :: r).length (x :: r).length 1
    rw [show ((1 : Nat) : Int) = 1 from rfl] at this
    rw [this, List.length_cons]
    omega
  have h2 : HT.sIx (x :: r).length 0 none = 0 := rfl
  rw [h1, h2]
  simp
def numT (i : Int) : Str := Str.ofString (toString i)
/-- the line up to a part -/
def lineAt (z : Str) (is : List Int) : Str := is.foldl (fun l m => l ++ " " ++ numT m) z
theorem tl_line : ∀ (is : List Int) (z : Str), tl (lineAt z is) = tl z ++ (is.map fun m => 32 :: tl (numT m)).flatten
  | [], z => by simp [lineAt]
  | m :: is, z => by
    have ih := tl_line is (z ++ " " ++ numT m)
    unfold lineAt at ih ⊢
    rw [List.foldl_cons, ih, tl_append, tl_append, List.map_cons, List.flatten_cons]
    have e : tl (Str.ofString " ") = [32] := by decide +kernel
    rw [e]
    simp
theorem joinL_flat (S : List Nat) : ∀ (l : List (List Nat)) (a : List Nat), joinL S (a :: l) = a ++ (l.map fun p => S ++ p).flatten
  | [], a => by simp [joinL]
  | b :: l, a => by
    show a ++ (S ++ joinL S (b :: l)) = _
    rw [joinL_flat S l b, List.map_cons, List.flatten_cons, List.append_assoc]
theorem line_join (z : Str) (is : List Int) : lineAt z is = Txt.join " " (z :: is.map numT) := by
  apply ext_tl
  have e : tl (Str.ofString " ") = [32] := by decide +kernel
  rw [tl_line, join_eq, tl_join, List.map_cons, joinL_flat, e, List.map_map, List.map_map]
  rfl
theorem names_more : ∀ q, q ∈ kvsN → 32 ∉ tl q.1 ∧ kvsN.lookup (q.1 ++ "s") = none ∧ 1 ≤ q.2 := by decide +kernel
theorem num_free (n : Nat) : 32 ∉ tl (numT (n : Int)) := by
  unfold numT
  rw [tl_num]
  exact numL_free (.inl (by decide))
theorem read_line {z : Str} {is : List Int} (hz : kvsN.lookup z = some (is.length : Int)) (hb : ∀ i, i ∈ is → 0 ≤ i ∧ i < 1000000000000000000) : readB (lineAt z is) = some (.str z :: is.map V.int) ∧ deedB (.str z :: is.map V.int) = true := by
  obtain ⟨h1, _, _⟩ := names_more _ (lookup_mem hz)
  have hdB : deedB (.str z :: is.map V.int) = true := by
    simp only [deedB, hz, List.length_map, decide_true, Bool.true_and]
    rw [List.all_eq_true]
    intro x hx
    obtain ⟨i, hi, rfl⟩ := List.mem_map.mp hx
    have := hb i hi
    simp [okNum]
    omega
  refine ⟨?_, hdB⟩
  have hsp : Txt.split (Txt.join " " (z :: is.map numT)) " " = z :: is.map numT := by
    refine split_join (y := " ") (s := 32) (S := []) (by decide +kernel) (by decide +kernel) (by simp) fun p hp => ?_
    rcases List.mem_cons.mp hp with rfl | hp
    · exact h1
    · obtain ⟨i, hi, rfl⟩ := List.mem_map.mp hp
      obtain ⟨n, rfl⟩ : ∃ n : Nat, i = n := ⟨i.toNat, by have := hb i hi; omega⟩
      exact num_free n
  have hall : (is.map numT).all numW = true := by
    rw [List.all_eq_true]
    intro x hx
    obtain ⟨i, hi, rfl⟩ := List.mem_map.mp hx
    obtain ⟨n, rfl⟩ : ∃ n : Nat, i = n := ⟨i.toNat, by have := hb i hi; omega⟩
    exact (num_numW n (by have := hb _ hi; omega)).1
  have hval : ((is.map numT).map fun x => V.int (valW x)) = is.map V.int := by
    rw [List.map_map]
    apply List.map_congr_left
    intro i hi
    obtain ⟨n, rfl⟩ : ∃ n : Nat, i = n := ⟨i.toNat, by have := hb i hi; omega⟩
    show V.int (valW (numT (n : Int))) = _
    rw [show valW (numT (n : Int)) = (n : Int) from (num_numW n (by have := hb _ hi; omega)).2]
  unfold readB
  rw [line_join, hsp]
  have hw : wordsB (z :: is.map numT) = .str z :: is.map V.int := by
    unfold wordsB
    rw [List.tail_cons, hval]
    rfl
  rw [hw, if_pos ⟨hall, hdB⟩]
theorem numT_len {i : Int} (h0 : 0 ≤ i) (h1 : i < 1000000000000000000) : (numT i).length ≤ 18 := by
  obtain ⟨n, rfl⟩ : ∃ n : Nat, i = n := ⟨i.toNat, by omega⟩
  exact (numW_int (num_numW n (by omega)).1).2.2.2
theorem dts_ints {K : PySem.W.Frag} {H : Hp} : ∀ is : List Int, DtsAt K H (is.map V.int) (is.map Dt.int)
  | [] => .nil
  | x :: xs => .cons (.int x) (dts_ints xs)
theorem deps_ints : ∀ is : List Int, Dt.deps (is.map Dt.int) = 0
  | [] => rfl
  | x :: xs => by
    show max (Dt.int x).dep (Dt.deps (xs.map Dt.int)) = 0
    rw [deps_ints xs]
    rfl
section
variable {P : Program} {w : World} {K : PySem.W.Frag} {mg : Str → Option Value} {base : Heap} {A : Ad}
def sp_law_refused (K : PySem.W.Frag) : Sp := fun vs H Q _ => ∃ (u : Addr) (xs : List V), vs = [.ref u] ∧ SqT K H u xs ∧ (∀ x, x ∈ xs → Atom x) ∧ xs.length ≤ 5000 ∧ ∀ H', Same H H' → Q (.bl (!deedB xs)) H'
theorem ok_law_refused (T : Txt K mg A) (hw : A.ps = w.params) : FnOk P w K mg base CX0 4 A.f_law_refused A.d_law_refused ["_law_deed"] (sp_law_refused K) := by
  have G_written := ok_written (P := P) (w := w) (base := base) T hw
  refine T.F_law_refused.ok sc_law_refused (fun vs H Q E h => ?_) (fun cdv A' outer s H vs Q E hr h => ?_)
  · obtain ⟨u, xs, rfl, _⟩ := h
    rfl
  · obtain ⟨u, xs, rfl, hu, ha, hl, kQ⟩ := h
    refine ⟨_, (pss_cons (ps_set (i := 1) sc_law_refused.nd rfl (Or.inl rfl) pe_str)
  (pss_cons (ps_try_only rfl rfl ⟨rfl, by decide, .inl T.g_BadDeed⟩ takes0
    (fun W pn xe tk _ => (pss_one (ps_expr (pe_callS G_written (hr.mono (by omega)) rfl T.g_written T.kp_written T.bi_written (fun σ => passAt tk σ) (pa_cons (pv 0) pa_nil)))))
    (fun a oe cls d pn _ _ => (pss_one (ps_set (i := 1) sc_law_refused.nd rfl (Or.inl rfl) pe_str))))
  (pss_one (ps_ret (pe_cmpR op_eq (pv 1) pe_str (nomark _)))))), ?_⟩
    refine ⟨_, rfl, u, xs, rfl, hu, ha, hl, fun hd H1 e1 => ?_, fun hd H1 e1 => ?_⟩
    · rw [hd] at kQ
      exact ⟨_, rfl, rfl, kQ H1 e1⟩
    · rw [hd] at kQ
      exact ⟨true, T.e_BadDeed, fun _ a _ => ⟨_, rfl, rfl, kQ H1 e1⟩, fun q => Bool.noConfusion q⟩
def sp_law (K : PySem.W.Frag) : Sp := fun vs H Q _ => ∃ (a : Addr) (ns : List Int), vs = [.ref a] ∧ SqL K H a (ns.map V.int) ∧ ns.length ≤ 63 ∧ ∀ H', Q (.bl true) H'
theorem ok_law (T : Txt K mg A) (hw : A.ps = w.params) : FnOk P w K mg base CX0 20 A.f_law A.d_law ["_law_script"] (sp_law K) := by
  have G_law_tuple := ok_law_tuple (P := P) (w := w) (base := base) T
  have G_law_spoilt_deed := ok_law_spoilt_deed (P := P) (w := w) (base := base) T
  have G_law_fault := ok_law_fault (P := P) (w := w) (base := base) T
  have G_law_refused := ok_law_refused (P := P) (w := w) (base := base) T hw
  have G_law_like := ok_law_like (P := P) (w := w) (base := base) T 4
  have G_written := ok_written (P := P) (w := w) (base := base) T hw
  have G_read := ok_read (P := P) (w := w) (base := base) T hw
  refine T.F_law.ok sc_law (fun vs H Q E h => ?_) (fun cdv A' outer s H vs Q E hr h => ?_)
  · obtain ⟨a, ns, rfl, _⟩ := h
    rfl
  · obtain ⟨a, ns, rfl, hS, hlen, k⟩ := h
    refine ⟨_, (pss_cons (ps_set (i := 1) sc_law.nd rfl (Or.inl rfl) (pe_call G_law_tuple (hr.mono (by omega)) rfl T.g_law_tuple T.kp_law_tuple T.bi_law_tuple .nil pass0 (pa_cons (pv 0) pa_nil)))
  (pss_cons (ps_set (i := 2) sc_law.nd rfl (Or.inl rfl) (pe_ix ix_tup (pv 1) pe_int (fun _ _ => rfl)))
  (pss_cons (ps_for PassesOwn.never rfl (pi_tup (pe_slice sl_tupU (pv 1) (po_some pe_int) po_none)) (pg_name (i := 3) sc_law.nd rfl (Or.inl rfl))
    (pss_one (ps_set (i := 2) sc_law.nd rfl (Or.inl rfl) (pe_op op_add_str (pe_op op_add_str (pv 2) pe_str) (pe_callTy call_str_int (by rfl) T.nb_str (by decide +kernel) (pa_cons (pv 3) pa_nil))))))
  (pss_cons (ps_if (PW.pt (pw_or (pt_not (pt_val (pe_call G_law_like (hr.mono (by omega)) rfl T.g_law_like T.kp_law_like T.bi_law_like .nil pass0 (pa_cons (pe_call G_written (hr.mono (by omega)) rfl T.g_written T.kp_written T.bi_written .nil passL (pa_cons (pv 1) pa_nil)) (pa_cons (pv 2) pa_nil))))) (pw_or1 (pt_not (pt_val (pe_call G_law_like (hr.mono (by omega)) rfl T.g_law_like T.kp_law_like T.bi_law_like .nil pass0 (pa_cons (pe_call G_read (hr.mono (by omega)) rfl T.g_read T.kp_read T.bi_read .nil passL (pa_cons (pv 2) pa_nil)) (pa_cons (pv 1) pa_nil))))))))
    (pss_one (ps_ret pe_bl))
    pss_nil)
  (pss_cons (ps_if (PW.pt (pw_or (pt_not (pt_val (pe_call G_law_refused (hr.mono (by omega)) rfl T.g_law_refused T.kp_law_refused T.bi_law_refused .nil pass0 (pa_cons (pe_op op_catU (pv 1) (pe_tup (pa_cons pe_int pa_nil))) pa_nil)))) (pw_or (pt_not (pt_val (pe_call G_law_refused (hr.mono (by omega)) rfl T.g_law_refused T.kp_law_refused T.bi_law_refused .nil pass0 (pa_cons (pe_op op_catU (pe_tup (pa_cons (pe_op op_add_str (pe_ix ix_tup (pv 1) pe_int (fun _ _ => rfl)) pe_str) pa_nil)) (pe_slice sl_tupU (pv 1) (po_some pe_int) po_none)) pa_nil)))) (pw_or1 (pt_not (pt_val (pe_call G_law_refused (hr.mono (by omega)) rfl T.g_law_refused T.kp_law_refused T.bi_law_refused .nil pass0 (pa_cons (pe_tup pa_nil) pa_nil))))))))
    (pss_one (ps_ret pe_bl))
    pss_nil)
  (pss_cons (ps_set (i := 4) sc_law.nd rfl (Or.inl rfl) (pe_call G_law_spoilt_deed (hr.mono (by omega)) rfl T.g_law_spoilt_deed T.kp_law_spoilt_deed T.bi_law_spoilt_deed .nil pass0 (pa_cons (pv 0) pa_nil)))
  (pss_cons (ps_if (pt_cmpR op_ne (pe_call G_law_fault (hr.mono (by omega)) rfl T.g_law_fault T.kp_law_fault T.bi_law_fault .nil pass0 (pa_cons (pv 4) pa_nil)) (pe_call G_law_refused (hr.mono (by omega)) rfl T.g_law_refused T.kp_law_refused T.bi_law_refused .nil pass0 (pa_cons (pv 4) pa_nil)) (nomark _))
    (pss_one (ps_ret pe_bl))
    pss_nil)
  (pss_one (ps_ret (pe_call G_law_refused (hr.mono (by omega)) rfl T.g_law_refused T.kp_law_refused T.bi_law_refused .nil pass0 (pa_cons (pe_op op_catU (pe_op op_catU (pe_slice sl_tupU (pv 1) po_none (po_some pe_int)) (pe_tup (pa_cons (pe_op op_sub pe_int pe_int) pa_nil))) (pe_slice sl_tupU (pv 1) (po_some pe_int) po_none)) pa_nil))))))))))), ?_⟩
    have sl : 16000000 < sizeLine := by decide
    refine ⟨_, rfl, a, ns, rfl, hS, fun u z is H1 e1 hu hlk hl4 hb => ?_⟩
    obtain ⟨hrd, hdB⟩ := read_line hlk hb
    obtain ⟨hz6, _⟩ := names_small _ (lookup_mem hlk)
    obtain ⟨_, hns, hn1⟩ := names_more _ (lookup_mem hlk)
    simp only at hz6 hns hn1
    have hat : ∀ x, x ∈ V.str z :: is.map V.int → Atom x := fun x hx => by
      rcases List.mem_cons.mp hx with rfl | hx
      · exact .inr ⟨_, rfl⟩
      · obtain ⟨v, _, rfl⟩ := List.mem_map.mp hx
        exact .inl ⟨_, rfl⟩
    have hlen5 : (V.str z :: is.map V.int).length ≤ 5 := by rw [List.length_cons, List.length_map]; omega
    refine ⟨_, rfl, u, _, _, _, rfl, rfl, hu, atI_nat (j := 0) rfl, ?_⟩
    refine ⟨_, rfl, _, rfl, u, _, rfl, hu, fun p H2 e2 hp => ?_⟩
    rw [cutV_tail] at hp
    refine ⟨p, rfl, ⟨_, hp⟩, for_tup (K := K) (a := p) (xs := is.map V.int) (fun i σ H' => ∃ v3 v4, σ = [some (.ref a), some (.ref u), some (.str (lineAt z (is.take i))), v3, v4] ∧ Same H2 H' ∧ (lineAt z (is.take i)).length ≤ 6 + 19 * i)
      ⟨_, _, rfl, Same.refl _, hz6⟩ (fun i σ H' _ ⟨_, _, _, e, _⟩ => Same.tup e hp) ?_ ?_⟩
    · rintro i x σ H3 hx ⟨v3, v4, rfl, e3, hli⟩
      rw [List.getElem?_map] at hx
      obtain ⟨m, hm⟩ : ∃ m, is[i]? = some m := by
        cases hh : is[i]? with
        | none => rw [hh] at hx; cases hx
        | some m => exact ⟨m, rfl⟩
      rw [hm] at hx
      obtain rfl : V.int m = x := Option.some.inj hx
      obtain ⟨b0, b1⟩ := hb m (at_mem hm)
      have hi4 : i < 4 := by have := at_lt hm; omega
      have e0 : (Str.ofString " ").length = 1 := by decide +kernel
      have l1 := app_len (lineAt z (is.take i)) " "
      have l2 := app_len (lineAt z (is.take i) ++ " ") (numT m)
      have l3 := numT_len b0 b1
      rw [e0] at l1
      have hst : lineAt z (is.take (i + 1)) = lineAt z (is.take i) ++ " " ++ numT m := by
        rw [take_more hm]
        unfold lineAt
        rw [List.foldl_append]
        rfl
      refine ⟨_, rfl, _, _, rfl, rfl, by omega, _, rfl, m, rfl, log_small b0 b1, _, _, rfl, rfl, by unfold numT at l3; omega, ?_⟩
      exact ⟨_, _, by rw [hst]; rfl, e3, by rw [hst]; omega⟩
    · rintro σ H3 ⟨v3, v4, rfl, e3, hli⟩
      rw [List.length_map] at hli ⊢
      rw [List.take_length] at hli ⊢
      have e23 := e2.trans e3
      have hu3 := Same.tup e23 hu
      have hjoin : Txt.join " " ((V.str z :: is.map V.int).map atomS) = lineAt z is := by
        rw [line_join, List.map_cons, List.map_map]
        rfl
      refine ⟨_, rfl, u, _, rfl, hu3, hat, by omega, fun _ H4 e4 => ?_, fun h => by rw [hdB] at h; cases h⟩
      rw [hjoin]
      refine ⟨_, rfl, _, _, .str (lineAt z is), rfl, .str _, .str _, by simp [Dt.dep], fun H5 e5 => ⟨_, rfl, ifF rfl ?_⟩⟩
      refine ⟨_, rfl, _, rfl, by omega, fun xs u6 H6 h e6 hu6 => ?_, fun h => by rw [hrd] at h; cases h⟩
      rw [hrd] at h
      cases h
      have e36 := e4.trans (e5.trans e6)
      have dd : ∀ {H : Hp} {q : Addr}, SqT K H q (V.str z :: is.map V.int) → DtAt K H (.ref q) (.tup (.str z :: is.map Dt.int)) := fun h => .tup h (.cons (.str z) (dts_ints is))
      refine ⟨_, rfl, _, _, _, rfl, dd hu6, dd (Same.tup e36 hu3), by unfold Dt.dep; show max (Dt.str z).dep (Dt.deps (is.map Dt.int)) + 1 < 4; rw [deps_ints]; simp [Dt.dep], fun H7 e7 => ⟨_, rfl, ifF rfl ?_⟩⟩
      have hu7 := Same.tup (e36.trans e7) hu3
      have e17 := e1.trans (e23.trans (e36.trans e7))
      clear hu6 dd
      -- a number more
      refine ⟨_, rfl, (by show 1 ≤ sizeLine; decide), fun t8 n8 => ⟨u, t8, _, _, rfl, rfl, Same.tup (Same.new n8) hu7, .inl (.inl upd_same), by simp only [List.length_cons, List.length_map, List.length_nil]; omega, fun p9 H9 e9 h9 => ?_⟩⟩
      have hd9 : deedB (V.str z :: is.map V.int ++ [V.int 0]) = false := by
        show deedB (V.str z :: (is.map V.int ++ [V.int 0])) = false
        simp only [deedB, hlk, List.length_append, List.length_map, List.length_singleton]
        rw [decide_eq_false (by omega)]
        rfl
      refine ⟨p9, _, rfl, h9, fun x hx => ?_, by rw [List.length_append, List.length_singleton]; omega, fun H10 e10 => ⟨_, rfl, ifF (by rw [hd9]; rfl) ?_⟩⟩
      · rcases List.mem_append.mp hx with hx | hx
        · exact hat x hx
        · rw [List.mem_singleton] at hx
          subst hx
          exact .inl ⟨_, rfl⟩
      have e7a := (Same.new (o := .tup [V.int 0]) n8).trans (e9.trans e10)
      have hu10 := Same.tup e7a hu7
      -- another name
      have e0 : (Str.ofString "s").length = 1 := by decide +kernel
      refine ⟨_, rfl, u, _, _, _, rfl, rfl, hu10, atI_nat (j := 0) rfl, _, _, rfl, rfl, by omega, (by show 1 ≤ sizeLine; decide), fun t11 n11 => ?_⟩
      have e11 := Same.new (o := .tup [V.str (z ++ "s")]) n11
      refine ⟨_, rfl, _, rfl, u, _, rfl, Same.tup e11 hu10, fun p12 H12 e12 h12 => ?_⟩
      rw [cutV_tail] at h12
      refine ⟨t11, p12, _, _, rfl, rfl, Same.tup e12 (.inl (.inl upd_same)), h12, by simp only [List.length_cons, List.length_map, List.length_nil]; omega, fun p13 H13 e13 h13 => ?_⟩
      have hd13 : deedB ([V.str (z ++ "s")] ++ is.map V.int) = false := by
        show deedB (V.str (z ++ "s") :: is.map V.int) = false
        simp only [deedB, hns]
      refine ⟨p13, _, rfl, h13, fun x hx => ?_, by simp only [List.length_append, List.length_map, List.length_singleton]; omega, fun H14 e14 => ⟨_, rfl, ifF (by rw [hd13]; rfl) ?_⟩⟩
      · rcases List.mem_append.mp hx with hx | hx
        · rw [List.mem_singleton] at hx
          subst hx
          exact .inr ⟨_, rfl⟩
        · obtain ⟨v, _, rfl⟩ := List.mem_map.mp hx
          exact .inl ⟨_, rfl⟩
      -- none
      refine ⟨Nat.zero_le _, fun t15 n15 => ⟨t15, [], rfl, .inl (.inl upd_same), (fun x h => by cases h), by simp, fun H16 e16 => ⟨_, rfl, ifF rfl ?_⟩⟩⟩
      have e10a := (e11.trans (e12.trans (e13.trans e14))).trans ((Same.new (o := .tup []) n15).trans e16)
      have hu16 := Same.tup e10a hu10
      have e1a := e17.trans (e7a.trans e10a)
      -- spoilt
      refine ⟨_, rfl, a, ns, rfl, e1a.seq hS, fun us xs H17 e17' hus hax hlx => ?_⟩
      refine ⟨_, rfl, us, xs, rfl, hus, hax, by omega, fun H18 e18 => ?_⟩
      refine ⟨_, rfl, us, xs, rfl, Same.tup e18 hus, hax, by omega, fun H19 e19 => ⟨rfl, _, rfl, ifF (by simp) ?_⟩⟩
      have hu19 := Same.tup (e17'.trans (e18.trans e19)) hu16
      -- below nought
      refine ⟨_, rfl, _, rfl, u, _, rfl, hu19, fun p20 H20 e20 h20 => ?_⟩
      refine ⟨_, _, rfl, rfl, (by show 1 ≤ sizeLine; decide), fun t21 n21 => ?_⟩
      have e21 := Same.new (o := .tup [V.int (0 - 1)]) n21
      have c1 := cutV_length (V.str z :: is.map V.int) none (some 1)
      have c2 := cutV_length (V.str z :: is.map V.int) (some 2) none
      refine ⟨p20, t21, _, _, rfl, rfl, Same.tup e21 h20, .inl (.inl upd_same), by rw [List.length_singleton]; omega, fun p22 H22 e22 h22 => ?_⟩
      refine ⟨_, rfl, _, rfl, u, _, rfl, Same.tup (e20.trans (e21.trans e22)) hu19, fun p23 H23 e23' h23 => ?_⟩
      refine ⟨p22, p23, _, _, rfl, rfl, Same.tup e23' h22, h23, by rw [List.length_append, List.length_singleton]; omega, fun p24 H24 e24 h24 => ?_⟩
      have hc1 : cutV (V.str z :: is.map V.int) none (some 1) = [V.str z] := cutV_one _ _
      have hd24 : deedB (cutV (V.str z :: is.map V.int) none (some 1) ++ [V.int (0 - 1)] ++ cutV (V.str z :: is.map V.int) (some 2) none) = false := by
        rw [hc1]
        show deedB (V.str z :: V.int (-1) :: cutV (V.str z :: is.map V.int) (some 2) none) = false
        simp [deedB, hlk, okNum]
      refine ⟨p24, _, rfl, h24, fun x hx => ?_, by simp only [List.length_append, List.length_singleton]; omega, fun H25 e25 => by rw [hd24]; exact k H25⟩
      rcases List.mem_append.mp hx with hx | hx
      · rcases List.mem_append.mp hx with hx | hx
        · exact hat x (cutV_mem hx)
        · rw [List.mem_singleton] at hx
          subst hx
          exact .inl ⟨_, rfl⟩
      · exact hat x (cutV_mem hx)
end
end Mu

namespace Mu
open PySem L2
theorem all_mk {P : Program} {w : World} {K : PySem.W.Frag} {h : Heap} {mg : Str → Option Value} {fa : Addr} (X : K.In h) (G : h.Ns mainGlobals mg) (hfa : mg "law" = some (.ref fa))
    {od0 an0 : Option Addr} {sl0 : Array (Option Value)} {oc0 kV0 dc0 pm0 cd0 ct0 : Value} {f0 : Addr}
    {od1 an1 : Option Addr} {sl1 : Array (Option Value)} {oc1 kV1 dc1 pm1 cd1 ct1 : Value} {f1 : Addr}
    {od2 an2 : Option Addr} {sl2 : Array (Option Value)} {oc2 kV2 dc2 pm2 cd2 ct2 : Value} {f2 : Addr}
    {od3 an3 : Option Addr} {sl3 : Array (Option Value)} {oc3 kV3 dc3 pm3 cd3 ct3 : Value} {f3 : Addr}
    {od4 an4 : Option Addr} {sl4 : Array (Option Value)} {oc4 kV4 dc4 pm4 cd4 ct4 : Value} {f4 : Addr}
    {od5 an5 : Option Addr} {sl5 : Array (Option Value)} {oc5 kV5 dc5 pm5 cd5 ct5 : Value} {f5 : Addr}
    {od6 an6 : Option Addr} {sl6 : Array (Option Value)} {oc6 kV6 dc6 pm6 cd6 ct6 : Value} {f6 : Addr}
    {od7 an7 : Option Addr} {sl7 : Array (Option Value)} {oc7 kV7 dc7 pm7 cd7 ct7 : Value} {f7 : Addr}
    {od8 an8 : Option Addr} {sl8 : Array (Option Value)} {oc8 kV8 dc8 pm8 cd8 ct8 : Value} {f8 : Addr}
    {od9 an9 : Option Addr} {sl9 : Array (Option Value)} {oc9 kV9 dc9 pm9 cd9 ct9 : Value} {f9 : Addr}
    {od10 an10 : Option Addr} {sl10 : Array (Option Value)} {oc10 kV10 dc10 pm10 cd10 ct10 : Value} {f10 : Addr}
    {od11 an11 : Option Addr} {sl11 : Array (Option Value)} {oc11 kV11 dc11 pm11 cd11 ct11 : Value} {f11 : Addr}
    {od12 an12 : Option Addr} {sl12 : Array (Option Value)} {oc12 kV12 dc12 pm12 cd12 ct12 : Value} {f12 : Addr}
    {od13 an13 : Option Addr} {sl13 : Array (Option Value)} {oc13 kV13 dc13 pm13 cd13 ct13 : Value} {f13 : Addr}
    {od14 an14 : Option Addr} {sl14 : Array (Option Value)} {oc14 kV14 dc14 pm14 cd14 ct14 : Value} {f14 : Addr}
    {od15 an15 : Option Addr} {sl15 : Array (Option Value)} {oc15 kV15 dc15 pm15 cd15 ct15 : Value} {f15 : Addr}
    {C_BadDeed : Addr}
    {C_BadLine : Addr}
    {t_GREATEST : Tok}
    {t_MOST_FIGURES : Tok}
    {R_NUMBERS : Addr} {n_NUMBERS : Nat} {h_NUMBERS0 h_NUMBERS1 h_NUMBERS2 h_NUMBERS3 h_NUMBERS4 h_NUMBERS5 h_NUMBERS6 h_NUMBERS7 : Int} {t_NUMBERS0 u_NUMBERS0 t_NUMBERS1 u_NUMBERS1 t_NUMBERS2 u_NUMBERS2 t_NUMBERS3 u_NUMBERS3 t_NUMBERS4 u_NUMBERS4 t_NUMBERS5 u_NUMBERS5 t_NUMBERS6 u_NUMBERS6 t_NUMBERS7 u_NUMBERS7 : Tok}
    (a0 : PySem.W.nsIn K mainGlobals "is_deed" = some (some (.ref f0)))
    (l0 : K.lookup f0 = some ⟨oc0, od0, .func (PySem.W.fnOf "is_deed" "is_deed" (defArgs s_is_deed) (defBody s_is_deed) (defScope s_is_deed) .none kV0 dc0 pm0 an0 cd0 ct0), sl0⟩)
    (c0 : PySem.W.codeIn K cd0 "is_deed" = true)
    (k0 : PySem.W.keepIn K (.ref f0) = true)
    (a1 : PySem.W.nsIn K mainGlobals "written" = some (some (.ref f1)))
    (l1 : K.lookup f1 = some ⟨oc1, od1, .func (PySem.W.fnOf "written" "written" (defArgs s_written) (defBody s_written) (defScope s_written) .none kV1 dc1 pm1 an1 cd1 ct1), sl1⟩)
    (c1 : PySem.W.codeIn K cd1 "written" = true)
    (k1 : PySem.W.keepIn K (.ref f1) = true)
    (a2 : PySem.W.nsIn K mainGlobals "read" = some (some (.ref f2)))
    (l2 : K.lookup f2 = some ⟨oc2, od2, .func (PySem.W.fnOf "read" "read" (defArgs s_read) (defBody s_read) (defScope s_read) .none kV2 dc2 pm2 an2 cd2 ct2), sl2⟩)
    (c2 : PySem.W.codeIn K cd2 "read" = true)
    (k2 : PySem.W.keepIn K (.ref f2) = true)
    (a3 : PySem.W.nsIn K mainGlobals "is_deed_number" = some (some (.ref f3)))
    (l3 : K.lookup f3 = some ⟨oc3, od3, .func (PySem.W.fnOf "is_deed_number" "is_deed_number" (defArgs s_is_deed_number) (defBody s_is_deed_number) (defScope s_is_deed_number) .none kV3 dc3 pm3 an3 cd3 ct3), sl3⟩)
    (c3 : PySem.W.codeIn K cd3 "is_deed_number" = true)
    (k3 : PySem.W.keepIn K (.ref f3) = true)
    (a4 : PySem.W.nsIn K mainGlobals "is_number_word" = some (some (.ref f4)))
    (l4 : K.lookup f4 = some ⟨oc4, od4, .func (PySem.W.fnOf "is_number_word" "is_number_word" (defArgs s_is_number_word) (defBody s_is_number_word) (defScope s_is_number_word) .none kV4 dc4 pm4 an4 cd4 ct4), sl4⟩)
    (c4 : PySem.W.codeIn K cd4 "is_number_word" = true)
    (k4 : PySem.W.keepIn K (.ref f4) = true)
    (a5 : PySem.W.nsIn K mainGlobals "_law_cell" = some (some (.ref f5)))
    (l5 : K.lookup f5 = some ⟨oc5, od5, .func (PySem.W.fnOf "_law_cell" "_law_cell" (defArgs s_law_cell) (defBody s_law_cell) (defScope s_law_cell) .none kV5 dc5 pm5 an5 cd5 ct5), sl5⟩)
    (c5 : PySem.W.codeIn K cd5 "_law_cell" = true)
    (k5 : PySem.W.keepIn K (.ref f5) = true)
    (a6 : PySem.W.nsIn K mainGlobals "_law_tuple" = some (some (.ref f6)))
    (l6 : K.lookup f6 = some ⟨oc6, od6, .func (PySem.W.fnOf "_law_tuple" "_law_tuple" (defArgs s_law_tuple) (defBody s_law_tuple) (defScope s_law_tuple) .none kV6 dc6 pm6 an6 cd6 ct6), sl6⟩)
    (c6 : PySem.W.codeIn K cd6 "_law_tuple" = true)
    (k6 : PySem.W.keepIn K (.ref f6) = true)
    (a7 : PySem.W.nsIn K mainGlobals "_law_whole" = some (some (.ref f7)))
    (l7 : K.lookup f7 = some ⟨oc7, od7, .func (PySem.W.fnOf "_law_whole" "_law_whole" (defArgs s_law_whole) (defBody s_law_whole) (defScope s_law_whole) .none kV7 dc7 pm7 an7 cd7 ct7), sl7⟩)
    (c7 : PySem.W.codeIn K cd7 "_law_whole" = true)
    (k7 : PySem.W.keepIn K (.ref f7) = true)
    (a8 : PySem.W.nsIn K mainGlobals "_law_like" = some (some (.ref f8)))
    (l8 : K.lookup f8 = some ⟨oc8, od8, .func (PySem.W.fnOf "_law_like" "_law_like" (defArgs s_law_like) (defBody s_law_like) (defScope s_law_like) .none kV8 dc8 pm8 an8 cd8 ct8), sl8⟩)
    (c8 : PySem.W.codeIn K cd8 "_law_like" = true)
    (k8 : PySem.W.keepIn K (.ref f8) = true)
    (a9 : PySem.W.nsIn K mainGlobals "_law_row" = some (some (.ref f9)))
    (l9 : K.lookup f9 = some ⟨oc9, od9, .func (PySem.W.fnOf "_law_row" "_law_row" (defArgs s_law_row) (defBody s_law_row) (defScope s_law_row) .none kV9 dc9 pm9 an9 cd9 ct9), sl9⟩)
    (c9 : PySem.W.codeIn K cd9 "_law_row" = true)
    (k9 : PySem.W.keepIn K (.ref f9) = true)
    (a10 : PySem.W.nsIn K mainGlobals "_law_word" = some (some (.ref f10)))
    (l10 : K.lookup f10 = some ⟨oc10, od10, .func (PySem.W.fnOf "_law_word" "_law_word" (defArgs s_law_word) (defBody s_law_word) (defScope s_law_word) .none kV10 dc10 pm10 an10 cd10 ct10), sl10⟩)
    (c10 : PySem.W.codeIn K cd10 "_law_word" = true)
    (k10 : PySem.W.keepIn K (.ref f10) = true)
    (a11 : PySem.W.nsIn K mainGlobals "_law_cut" = some (some (.ref f11)))
    (l11 : K.lookup f11 = some ⟨oc11, od11, .func (PySem.W.fnOf "_law_cut" "_law_cut" (defArgs s_law_cut) (defBody s_law_cut) (defScope s_law_cut) .none kV11 dc11 pm11 an11 cd11 ct11), sl11⟩)
    (c11 : PySem.W.codeIn K cd11 "_law_cut" = true)
    (k11 : PySem.W.keepIn K (.ref f11) = true)
    (a12 : PySem.W.nsIn K mainGlobals "_law_spoilt_deed" = some (some (.ref f12)))
    (l12 : K.lookup f12 = some ⟨oc12, od12, .func (PySem.W.fnOf "_law_spoilt_deed" "_law_spoilt_deed" (defArgs s_law_spoilt_deed) (defBody s_law_spoilt_deed) (defScope s_law_spoilt_deed) .none kV12 dc12 pm12 an12 cd12 ct12), sl12⟩)
    (c12 : PySem.W.codeIn K cd12 "_law_spoilt_deed" = true)
    (k12 : PySem.W.keepIn K (.ref f12) = true)
    (a13 : PySem.W.nsIn K mainGlobals "_law_fault" = some (some (.ref f13)))
    (l13 : K.lookup f13 = some ⟨oc13, od13, .func (PySem.W.fnOf "_law_fault" "_law_fault" (defArgs s_law_fault) (defBody s_law_fault) (defScope s_law_fault) .none kV13 dc13 pm13 an13 cd13 ct13), sl13⟩)
    (c13 : PySem.W.codeIn K cd13 "_law_fault" = true)
    (k13 : PySem.W.keepIn K (.ref f13) = true)
    (a14 : PySem.W.nsIn K mainGlobals "_law_refused" = some (some (.ref f14)))
    (l14 : K.lookup f14 = some ⟨oc14, od14, .func (PySem.W.fnOf "_law_refused" "_law_refused" (defArgs s_law_refused) (defBody s_law_refused) (defScope s_law_refused) .none kV14 dc14 pm14 an14 cd14 ct14), sl14⟩)
    (c14 : PySem.W.codeIn K cd14 "_law_refused" = true)
    (k14 : PySem.W.keepIn K (.ref f14) = true)
    (a15 : PySem.W.nsIn K mainGlobals "law" = some (some (.ref f15)))
    (l15 : K.lookup f15 = some ⟨oc15, od15, .func (PySem.W.fnOf "law" "law" (defArgs s_law) (defBody s_law) (defScope s_law) .none kV15 dc15 pm15 an15 cd15 ct15), sl15⟩)
    (c15 : PySem.W.codeIn K cd15 "law" = true)
    (k15 : PySem.W.keepIn K (.ref f15) = true)
    (g_BadDeed : PySem.W.nsIn K mainGlobals "BadDeed" = some (some (.ref C_BadDeed)))
    (x_BadDeed : PySem.W.excIn K C_BadDeed [.type "ValueError", .type "Exception", .type "BaseException", .type "object"] "ValueError.__new__" = true)
    (kp_BadDeed : PySem.W.keepIn K (.ref C_BadDeed) = true)
    (b_BadDeed : PySem.W.subIn K (.ref C_BadDeed) (.type "BaseException") = some true)
    (t_BadDeed : PySem.W.typeIn K (.ref C_BadDeed) = some (.type "type"))
    (ic_BadDeed : PySem.W.isClsIn K C_BadDeed = true)
    (s_BadDeed : PySem.W.subIn K (.ref C_BadDeed) (.ref C_BadDeed) = some true)
    (g_BadLine : PySem.W.nsIn K mainGlobals "BadLine" = some (some (.ref C_BadLine)))
    (x_BadLine : PySem.W.excIn K C_BadLine [.type "ValueError", .type "Exception", .type "BaseException", .type "object"] "ValueError.__new__" = true)
    (kp_BadLine : PySem.W.keepIn K (.ref C_BadLine) = true)
    (b_BadLine : PySem.W.subIn K (.ref C_BadLine) (.type "BaseException") = some true)
    (t_BadLine : PySem.W.typeIn K (.ref C_BadLine) = some (.type "type"))
    (ic_BadLine : PySem.W.isClsIn K C_BadLine = true)
    (s_BadLine : PySem.W.subIn K (.ref C_BadLine) (.ref C_BadLine) = some true)
    (v_GREATEST : PySem.W.nsIn K mainGlobals "GREATEST" = some (some (.int 999999999999999999 t_GREATEST)))
    (v_MOST_FIGURES : PySem.W.nsIn K mainGlobals "MOST_FIGURES" = some (some (.int 18 t_MOST_FIGURES)))
    (g_NUMBERS : PySem.W.nsIn K mainGlobals "NUMBERS" = some (some (.ref R_NUMBERS)))
    (o_NUMBERS : K.lookup R_NUMBERS = some ⟨.type "dict", none, .dict #[⟨h_NUMBERS0, .str "gather" t_NUMBERS0, .int 3 u_NUMBERS0⟩, ⟨h_NUMBERS1, .str "pull" t_NUMBERS1, .int 2 u_NUMBERS1⟩, ⟨h_NUMBERS2, .str "bundle" t_NUMBERS2, .int 4 u_NUMBERS2⟩, ⟨h_NUMBERS3, .str "turn" t_NUMBERS3, .int 2 u_NUMBERS3⟩, ⟨h_NUMBERS4, .str "cut" t_NUMBERS4, .int 2 u_NUMBERS4⟩, ⟨h_NUMBERS5, .str "fuse" t_NUMBERS5, .int 2 u_NUMBERS5⟩, ⟨h_NUMBERS6, .str "sell" t_NUMBERS6, .int 1 u_NUMBERS6⟩, ⟨h_NUMBERS7, .str "waste" t_NUMBERS7, .int 1 u_NUMBERS7⟩] n_NUMBERS, #[]⟩)
    (lo_NUMBERS : (R_NUMBERS == sysModules) = false)
    (hh_NUMBERS0 : h_NUMBERS0 = PyData.keyHash w.params "gather")
    (hh_NUMBERS1 : h_NUMBERS1 = PyData.keyHash w.params "pull")
    (hh_NUMBERS2 : h_NUMBERS2 = PyData.keyHash w.params "bundle")
    (hh_NUMBERS3 : h_NUMBERS3 = PyData.keyHash w.params "turn")
    (hh_NUMBERS4 : h_NUMBERS4 = PyData.keyHash w.params "cut")
    (hh_NUMBERS5 : h_NUMBERS5 = PyData.keyHash w.params "fuse")
    (hh_NUMBERS6 : h_NUMBERS6 = PyData.keyHash w.params "sell")
    (hh_NUMBERS7 : h_NUMBERS7 = PyData.keyHash w.params "waste")
    (z_abs : PySem.W.nsIn K mainGlobals "abs" = some none)
    (z_all : PySem.W.nsIn K mainGlobals "all" = some none)
    (z_bool : PySem.W.nsIn K mainGlobals "bool" = some none)
    (z_int : PySem.W.nsIn K mainGlobals "int" = some none)
    (z_isinstance : PySem.W.nsIn K mainGlobals "isinstance" = some none)
    (z_len : PySem.W.nsIn K mainGlobals "len" = some none)
    (z_list : PySem.W.nsIn K mainGlobals "list" = some none)
    (z_range : PySem.W.nsIn K mainGlobals "range" = some none)
    (z_str : PySem.W.nsIn K mainGlobals "str" = some none)
    (z_tuple : PySem.W.nsIn K mainGlobals "tuple" = some none)
    (z_zip : PySem.W.nsIn K mainGlobals "zip" = some none) :
    ∃ fd : FuncData, (∀ (s : Shared) (v : Value), BindsTo s fd ⟨[v], []⟩ [("_law_script", v)]) ∧ ∀ base : Heap, K.In base → base.Ns mainGlobals mg → FnOk P w K mg base CX0 20 fa fd ["_law_script"] (sp_law K) := by
  have e := hfa.symm.trans (PySem.W.mg_of X G a15)
  cases e
  have T : Txt K mg ⟨f0, PySem.W.fnOf "is_deed" "is_deed" (defArgs s_is_deed) (defBody s_is_deed) (defScope s_is_deed) .none kV0 dc0 pm0 an0 cd0 ct0, f1, PySem.W.fnOf "written" "written" (defArgs s_written) (defBody s_written) (defScope s_written) .none kV1 dc1 pm1 an1 cd1 ct1, f2, PySem.W.fnOf "read" "read" (defArgs s_read) (defBody s_read) (defScope s_read) .none kV2 dc2 pm2 an2 cd2 ct2, f3, PySem.W.fnOf "is_deed_number" "is_deed_number" (defArgs s_is_deed_number) (defBody s_is_deed_number) (defScope s_is_deed_number) .none kV3 dc3 pm3 an3 cd3 ct3, f4, PySem.W.fnOf "is_number_word" "is_number_word" (defArgs s_is_number_word) (defBody s_is_number_word) (defScope s_is_number_word) .none kV4 dc4 pm4 an4 cd4 ct4, f5, PySem.W.fnOf "_law_cell" "_law_cell" (defArgs s_law_cell) (defBody s_law_cell) (defScope s_law_cell) .none kV5 dc5 pm5 an5 cd5 ct5, f6, PySem.W.fnOf "_law_tuple" "_law_tuple" (defArgs s_law_tuple) (defBody s_law_tuple) (defScope s_law_tuple) .none kV6 dc6 pm6 an6 cd6 ct6, f7, PySem.W.fnOf "_law_whole" "_law_whole" (defArgs s_law_whole) (defBody s_law_whole) (defScope s_law_whole) .none kV7 dc7 pm7 an7 cd7 ct7, f8, PySem.W.fnOf "_law_like" "_law_like" (defArgs s_law_like) (defBody s_law_like) (defScope s_law_like) .none kV8 dc8 pm8 an8 cd8 ct8, f9, PySem.W.fnOf "_law_row" "_law_row" (defArgs s_law_row) (defBody s_law_row) (defScope s_law_row) .none kV9 dc9 pm9 an9 cd9 ct9, f10, PySem.W.fnOf "_law_word" "_law_word" (defArgs s_law_word) (defBody s_law_word) (defScope s_law_word) .none kV10 dc10 pm10 an10 cd10 ct10, f11, PySem.W.fnOf "_law_cut" "_law_cut" (defArgs s_law_cut) (defBody s_law_cut) (defScope s_law_cut) .none kV11 dc11 pm11 an11 cd11 ct11, f12, PySem.W.fnOf "_law_spoilt_deed" "_law_spoilt_deed" (defArgs s_law_spoilt_deed) (defBody s_law_spoilt_deed) (defScope s_law_spoilt_deed) .none kV12 dc12 pm12 an12 cd12 ct12, f13, PySem.W.fnOf "_law_fault" "_law_fault" (defArgs s_law_fault) (defBody s_law_fault) (defScope s_law_fault) .none kV13 dc13 pm13 an13 cd13 ct13, f14, PySem.W.fnOf "_law_refused" "_law_refused" (defArgs s_law_refused) (defBody s_law_refused) (defScope s_law_refused) .none kV14 dc14 pm14 an14 cd14 ct14, fa, PySem.W.fnOf "law" "law" (defArgs s_law) (defBody s_law) (defScope s_law) .none kV15 dc15 pm15 an15 cd15 ct15, C_BadDeed, C_BadLine, R_NUMBERS, w.params⟩ :=
    { F_is_deed := fun_mk (st := s_is_deed) l0 c0 k0,
      bi_is_deed := (fun_mk (st := s_is_deed) l0 c0 k0).binds (ps := ["deed"]) fun _ _ _ _ _ _ us hl => match us, hl with | [_], _ => rfl,
      g_is_deed := PySem.W.mg_of X G a0,
      kp_is_deed := k0,
      F_written := fun_mk (st := s_written) l1 c1 k1,
      bi_written := (fun_mk (st := s_written) l1 c1 k1).binds (ps := ["deed"]) fun _ _ _ _ _ _ us hl => match us, hl with | [_], _ => rfl,
      g_written := PySem.W.mg_of X G a1,
      kp_written := k1,
      F_read := fun_mk (st := s_read) l2 c2 k2,
      bi_read := (fun_mk (st := s_read) l2 c2 k2).binds (ps := ["line"]) fun _ _ _ _ _ _ us hl => match us, hl with | [_], _ => rfl,
      g_read := PySem.W.mg_of X G a2,
      kp_read := k2,
      F_is_deed_number := fun_mk (st := s_is_deed_number) l3 c3 k3,
      bi_is_deed_number := (fun_mk (st := s_is_deed_number) l3 c3 k3).binds (ps := ["told"]) fun _ _ _ _ _ _ us hl => match us, hl with | [_], _ => rfl,
      g_is_deed_number := PySem.W.mg_of X G a3,
      kp_is_deed_number := k3,
      F_is_number_word := fun_mk (st := s_is_number_word) l4 c4 k4,
      bi_is_number_word := (fun_mk (st := s_is_number_word) l4 c4 k4).binds (ps := ["word"]) fun _ _ _ _ _ _ us hl => match us, hl with | [_], _ => rfl,
      g_is_number_word := PySem.W.mg_of X G a4,
      kp_is_number_word := k4,
      F_law_cell := fun_mk (st := s_law_cell) l5 c5 k5,
      bi_law_cell := (fun_mk (st := s_law_cell) l5 c5 k5).binds (ps := ["_law_script", "_law_k"]) fun _ _ _ _ _ _ us hl => match us, hl with | [_, _], _ => rfl,
      g_law_cell := PySem.W.mg_of X G a5,
      kp_law_cell := k5,
      F_law_tuple := fun_mk (st := s_law_tuple) l6 c6 k6,
      bi_law_tuple := (fun_mk (st := s_law_tuple) l6 c6 k6).binds (ps := ["_law_script"]) fun _ _ _ _ _ _ us hl => match us, hl with | [_], _ => rfl,
      g_law_tuple := PySem.W.mg_of X G a6,
      kp_law_tuple := k6,
      F_law_whole := fun_mk (st := s_law_whole) l7 c7 k7,
      bi_law_whole := (fun_mk (st := s_law_whole) l7 c7 k7).binds (ps := ["_law_found"]) fun _ _ _ _ _ _ us hl => match us, hl with | [_], _ => rfl,
      g_law_whole := PySem.W.mg_of X G a7,
      kp_law_whole := k7,
      F_law_like := fun_mk (st := s_law_like) l8 c8 k8,
      bi_law_like := (fun_mk (st := s_law_like) l8 c8 k8).binds (ps := ["_law_found", "_law_due"]) fun _ _ _ _ _ _ us hl => match us, hl with | [_, _], _ => rfl,
      g_law_like := PySem.W.mg_of X G a8,
      kp_law_like := k8,
      F_law_row := fun_mk (st := s_law_row) l9 c9 k9,
      bi_law_row := (fun_mk (st := s_law_row) l9 c9 k9).binds (ps := ["_law_cell_here", "_law_many", "_law_base"]) fun _ _ _ _ _ _ us hl => match us, hl with | [_, _, _], _ => rfl,
      g_law_row := PySem.W.mg_of X G a9,
      kp_law_row := k9,
      F_law_word := fun_mk (st := s_law_word) l10 c10 k10,
      bi_law_word := (fun_mk (st := s_law_word) l10 c10 k10).binds (ps := ["_law_cell_here"]) fun _ _ _ _ _ _ us hl => match us, hl with | [_], _ => rfl,
      g_law_word := PySem.W.mg_of X G a10,
      kp_law_word := k10,
      F_law_cut := fun_mk (st := s_law_cut) l11 c11 k11,
      bi_law_cut := (fun_mk (st := s_law_cut) l11 c11 k11).binds (ps := ["_law_cell_here"]) fun _ _ _ _ _ _ us hl => match us, hl with | [_], _ => rfl,
      g_law_cut := PySem.W.mg_of X G a11,
      kp_law_cut := k11,
      F_law_spoilt_deed := fun_mk (st := s_law_spoilt_deed) l12 c12 k12,
      bi_law_spoilt_deed := (fun_mk (st := s_law_spoilt_deed) l12 c12 k12).binds (ps := ["_law_script"]) fun _ _ _ _ _ _ us hl => match us, hl with | [_], _ => rfl,
      g_law_spoilt_deed := PySem.W.mg_of X G a12,
      kp_law_spoilt_deed := k12,
      F_law_fault := fun_mk (st := s_law_fault) l13 c13 k13,
      bi_law_fault := (fun_mk (st := s_law_fault) l13 c13 k13).binds (ps := ["_law_deed"]) fun _ _ _ _ _ _ us hl => match us, hl with | [_], _ => rfl,
      g_law_fault := PySem.W.mg_of X G a13,
      kp_law_fault := k13,
      F_law_refused := fun_mk (st := s_law_refused) l14 c14 k14,
      bi_law_refused := (fun_mk (st := s_law_refused) l14 c14 k14).binds (ps := ["_law_deed"]) fun _ _ _ _ _ _ us hl => match us, hl with | [_], _ => rfl,
      g_law_refused := PySem.W.mg_of X G a14,
      kp_law_refused := k14,
      F_law := fun_mk (st := s_law) l15 c15 k15,
      bi_law := (fun_mk (st := s_law) l15 c15 k15).binds (ps := ["_law_script"]) fun _ _ _ _ _ _ us hl => match us, hl with | [_], _ => rfl,
      g_law := PySem.W.mg_of X G a15,
      kp_law := k15,
      g_BadDeed := PySem.W.mg_of X G g_BadDeed,
      x_BadDeed := x_BadDeed,
      kp_BadDeed := kp_BadDeed,
      b_BadDeed := b_BadDeed,
      t_BadDeed := t_BadDeed,
      e_BadDeed := exm_self b_BadDeed ic_BadDeed t_BadDeed s_BadDeed,
      g_BadLine := PySem.W.mg_of X G g_BadLine,
      x_BadLine := x_BadLine,
      kp_BadLine := kp_BadLine,
      b_BadLine := b_BadLine,
      t_BadLine := t_BadLine,
      e_BadLine := exm_self b_BadLine ic_BadLine t_BadLine s_BadLine,
      c_GREATEST := ⟨_, PySem.W.mg_of X G v_GREATEST⟩,
      c_MOST_FIGURES := ⟨_, PySem.W.mg_of X G v_MOST_FIGURES⟩,
      g_NUMBERS := PySem.W.mg_of X G g_NUMBERS,
      D_NUMBERS := ⟨⟨_, _, o_NUMBERS, ⟨⟨_, _, rfl, hh_NUMBERS0⟩, ⟨⟨_, _, rfl, hh_NUMBERS1⟩, ⟨⟨_, _, rfl, hh_NUMBERS2⟩, ⟨⟨_, _, rfl, hh_NUMBERS3⟩, ⟨⟨_, _, rfl, hh_NUMBERS4⟩, ⟨⟨_, _, rfl, hh_NUMBERS5⟩, ⟨⟨_, _, rfl, hh_NUMBERS6⟩, ⟨⟨_, _, rfl, hh_NUMBERS7⟩, True.intro⟩⟩⟩⟩⟩⟩⟩⟩, ⟨⟨_, _, rfl, rfl⟩, ⟨⟨_, _, rfl, rfl⟩, ⟨⟨_, _, rfl, rfl⟩, ⟨⟨_, _, rfl, rfl⟩, ⟨⟨_, _, rfl, rfl⟩, ⟨⟨_, _, rfl, rfl⟩, ⟨⟨_, _, rfl, rfl⟩, ⟨⟨_, _, rfl, rfl⟩, True.intro⟩⟩⟩⟩⟩⟩⟩⟩⟩, lo_NUMBERS⟩,
      nb_abs := PySem.W.mg_none_of X G z_abs,
      nb_all := PySem.W.mg_none_of X G z_all,
      nb_bool := PySem.W.mg_none_of X G z_bool,
      nb_int := PySem.W.mg_none_of X G z_int,
      nb_isinstance := PySem.W.mg_none_of X G z_isinstance,
      nb_len := PySem.W.mg_none_of X G z_len,
      nb_list := PySem.W.mg_none_of X G z_list,
      nb_range := PySem.W.mg_none_of X G z_range,
      nb_str := PySem.W.mg_none_of X G z_str,
      nb_tuple := PySem.W.mg_none_of X G z_tuple,
      nb_zip := PySem.W.mg_none_of X G z_zip }
  exact ⟨PySem.W.fnOf "law" "law" (defArgs s_law) (defBody s_law) (defScope s_law) .none kV15 dc15 pm15 an15 cd15 ct15, fun s v => .of_eq rfl, fun base _ _ => ok_law T rfl⟩
theorem walk {l : PySem.W.OpenLaw} {q : Program} {loose : List Str} {XP : (Str → Option Value) → Heap → Prop} {YP : World → Heap → Prop} {d : DefRec} {K : Params → PySem.W.Frag} (hn : l.most = some 63) (hdf : d.params.defaults = [])
    (hY : ∀ (w : World) (h : Heap), YP w h → (K w.params).In h)
    (F : ∀ (w : World) (mg : Str → Option Value) (fa : Addr) (h : Heap), (K w.params).In h → h.Ns mainGlobals mg → mg d.name = some (.ref fa) →
      ∃ fd : FuncData, (∀ (s : Shared) (u : Value), BindsTo s fd ⟨[u], []⟩ [("_law_script", u)]) ∧ ∀ base : Heap, (K w.params).In base → base.Ns mainGlobals mg → FnOk l.prog w (K w.params) mg base CX0 20 fa fd ["_law_script"] (sp_law (K w.params))) :
    PySem.W.WalkO q loose XP YP l.row.toRowW d [] (fun f vs => PySem.call f vs) :=
  L2.walk_of (n := 63) (k := 20) (x := "_law_script") (CX := fun _ => CX0) (sp := fun w => sp_law (K w.params)) hn (by decide) hdf ⟨rfl, by decide, by decide⟩ hY F (fun _ _ a ns hl _ hS => ⟨a, ns, rfl, hS, hl, fun _ => rfl⟩) fun _ _ _ _ _ z => z
end Mu
open PySem PySem.W PyProof.Rows
set_option maxRecDepth 100000 in
set_option maxHeartbeats 0 in
theorem PySem.Challenge.cw_murrine_k16_deeds_written_holds : PySem.Challenge.rw_murrine_k16_deeds_written.Holds := by
  w_on; o_law; k_head; (case hw => w_witness2)
  k_fill
  refine Mu.walk (l := PySem.Challenge.rw_murrine_k16_deeds_written) rfl rfl (fun w h Y => PySem.W.kIn_of Y) ?F
  case F =>
    intro w mg fa h KX G hmg
    refine' Mu.all_mk KX G hmg ?a0 ?l0 ?c0 ?k0 ?a1 ?l1 ?c1 ?k1 ?a2 ?l2 ?c2 ?k2 ?a3 ?l3 ?c3 ?k3 ?a4 ?l4 ?c4 ?k4 ?a5 ?l5 ?c5 ?k5 ?a6 ?l6 ?c6 ?k6 ?a7 ?l7 ?c7 ?k7 ?a8 ?l8 ?c8 ?k8 ?a9 ?l9 ?c9 ?k9 ?a10 ?l10 ?c10 ?k10 ?a11 ?l11 ?c11 ?k11 ?a12 ?l12 ?c12 ?k12 ?a13 ?l13 ?c13 ?k13 ?a14 ?l14 ?c14 ?k14 ?a15 ?l15 ?c15 ?k15 ?g_BadDeed ?x_BadDeed ?kp_BadDeed ?b_BadDeed ?t_BadDeed ?ic_BadDeed ?s_BadDeed ?g_BadLine ?x_BadLine ?kp_BadLine ?b_BadLine ?t_BadLine ?ic_BadLine ?s_BadLine ?v_GREATEST ?v_MOST_FIGURES ?g_NUMBERS ?o_NUMBERS ?lo_NUMBERS ?hh_NUMBERS0 ?hh_NUMBERS1 ?hh_NUMBERS2 ?hh_NUMBERS3 ?hh_NUMBERS4 ?hh_NUMBERS5 ?hh_NUMBERS6 ?hh_NUMBERS7 ?z_abs ?z_all ?z_bool ?z_int ?z_isinstance ?z_len ?z_list ?z_range ?z_str ?z_tuple ?z_zip
    (case g_BadDeed => k_is)
    (case g_BadLine => k_is)
    (case g_NUMBERS => k_is)
    (case a0 => k_is)
    (case l0 => k_is)
    (case c0 => k_is)
    (case k0 => k_is)
    (case a1 => k_is)
    (case l1 => k_is)
    (case c1 => k_is)
    (case k1 => k_is)
    (case a2 => k_is)
    (case l2 => k_is)
    (case c2 => k_is)
    (case k2 => k_is)
    (case a3 => k_is)
    (case l3 => k_is)
    (case c3 => k_is)
    (case k3 => k_is)
    (case a4 => k_is)
    (case l4 => k_is)
    (case c4 => k_is)
    (case k4 => k_is)
    (case a5 => k_is)
    (case l5 => k_is)
    (case c5 => k_is)
    (case k5 => k_is)
    (case a6 => k_is)
    (case l6 => k_is)
    (case c6 => k_is)
    (case k6 => k_is)
    (case a7 => k_is)
    (case l7 => k_is)
    (case c7 => k_is)
    (case k7 => k_is)
    (case a8 => k_is)
    (case l8 => k_is)
    (case c8 => k_is)
    (case k8 => k_is)
    (case a9 => k_is)
    (case l9 => k_is)
    (case c9 => k_is)
    (case k9 => k_is)
    (case a10 => k_is)
    (case l10 => k_is)
    (case c10 => k_is)
    (case k10 => k_is)
    (case a11 => k_is)
    (case l11 => k_is)
    (case c11 => k_is)
    (case k11 => k_is)
    (case a12 => k_is)
    (case l12 => k_is)
    (case c12 => k_is)
    (case k12 => k_is)
    (case a13 => k_is)
    (case l13 => k_is)
    (case c13 => k_is)
    (case k13 => k_is)
    (case a14 => k_is)
    (case l14 => k_is)
    (case c14 => k_is)
    (case k14 => k_is)
    (case a15 => k_is)
    (case l15 => k_is)
    (case c15 => k_is)
    (case k15 => k_is)
    (case x_BadDeed => k_exc)
    (case kp_BadDeed => k_is)
    (case b_BadDeed => k_is)
    (case t_BadDeed => k_is)
    (case ic_BadDeed => k_is)
    (case s_BadDeed => first | rfl | k_is)
    (case x_BadLine => k_exc)
    (case kp_BadLine => k_is)
    (case b_BadLine => k_is)
    (case t_BadLine => k_is)
    (case ic_BadLine => k_is)
    (case s_BadLine => first | rfl | k_is)
    (case v_GREATEST => k_is)
    (case v_MOST_FIGURES => k_is)
    (case o_NUMBERS => k_is)
    (case lo_NUMBERS => first | rfl | k_is)
    (case hh_NUMBERS0 => first | rfl | k_is)
    (case hh_NUMBERS1 => first | rfl | k_is)
    (case hh_NUMBERS2 => first | rfl | k_is)
    (case hh_NUMBERS3 => first | rfl | k_is)
    (case hh_NUMBERS4 => first | rfl | k_is)
    (case hh_NUMBERS5 => first | rfl | k_is)
    (case hh_NUMBERS6 => first | rfl | k_is)
    (case hh_NUMBERS7 => first | rfl | k_is)
    (case z_abs => k_is)
    (case z_all => k_is)
    (case z_bool => k_is)
    (case z_int => k_is)
    (case z_isinstance => k_is)
    (case z_len => k_is)
    (case z_list => k_is)
    (case z_range => k_is)
    (case z_str => k_is)
    (case z_tuple => k_is)
    (case z_zip => k_is)
#print axioms PySem.Challenge.cw_murrine_k16_deeds_written_holds
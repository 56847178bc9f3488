import PyProof.Rows.All
import Wide.All
import OpenK.AllK
import Wide.FinOn
import HandS.ForMost
import HandS.ForExc
import HandS.IsInst
import HandS.Style
import HandS.Zip
import HandS.Wide
import HandS.Conv
import PySem.Challenge.RW_murrine_k02_turnings_make_a_group
set_option Elab.async false
set_option linter.all false
set_option maxRecDepth 100000
set_option maxHeartbeats 4000000
/-! Lib: what every proof of ours takes: names of the module, tests, the data that the laws compare. -/
namespace Mu
open PySem L2

structure GInt (mg : Str → Option Value) (x : Str) (n : Int) : Prop where
  ex : ∃ t, mg x = some (.int n t)
theorem pe_gint {X : Cx} {x : Str} {n : Int} {pos : Pos} (g : GInt X.mg x n) (hg : Gl X x := by rfl) (hd : (x == ("__debug__" : Str)) = false := by decide) : PE X (.Name x pos) (tC (.int n)) := by
  obtain ⟨t, h⟩ := g.ex
  exact pe_glob hg h ⟨t, rfl⟩ hd
theorem pe_ty {X : Cx} {x : Str} {T : String} {pos : Pos} (hm : X.mg x = none) (hv : bootBuiltins x = some (.type T)) (hg : Gl X x := by rfl) (hn : x ≠ "__name__" := by decide) (hd : (x == ("__debug__" : Str)) = false := by decide) :
    PE X (.Name x pos) (tC (.ty T)) := pe_bltn hg hm hv rfl hn hd

/-! ### tests -/
theorem ifT {c : Bool} {A B : Prop} (hc : c = true) (h : A) : if c = true then A else B := by
  rw [if_pos hc]
  exact h
theorem ifF {c : Bool} {A B : Prop} (hc : c = false) (h : B) : if c = true then A else B := by
  rw [hc, if_neg Bool.false_ne_true]
  exact h
theorem ifD {c A B : Prop} [Decidable c] (hc : c) (h : A) : if decide c = true then A else B := ifT (decide_eq_true hc) h
theorem ifN {c A B : Prop} [Decidable c] (hc : ¬ c) (h : B) : if decide c = true then A else B := ifF (decide_eq_false hc) h
theorem ifD2 {c A B : Prop} [Decidable c] (h1 : c → A) (h2 : ¬ c → B) : if decide c = true then A else B := by
  by_cases h : c
  · exact ifD h (h1 h)
  · exact ifN h (h2 h)

/-- x is True, x is False, x anything -/
theorem op_isV {X : Cx} : OpR X (compareOp .Is) (fun x y H Q => ∃ b : Bool, y = .bl b ∧ Q (.bl (decide (x = .bl b))) H) := by
  intro pins s σ H x y v u Q I rx ry h
  obtain ⟨b, rfl, q⟩ := h
  cases (show u = Value.bool b from ry)
  have other : ∀ {v : Value}, plainIs v (.bool b) = true → (v ≠ Value.bool b) → x ≠ .bl b → wpAny (model X.prog X.w) X.A (compareOp .Is v (.bool b)) (EP X pins σ Q) X.xe s := fun h1 h2 h3 =>
    wpAny_is_other h1 h2 ⟨.bl false, H, I, rfl, by simpa [h3] using q⟩
  cases x with
  | bl a =>
    cases (show v = Value.bool a from rx)
    by_cases e : a = b
    · subst e
      exact wpAny_is_self rfl ⟨.bl true, H, I, rfl, by simpa using q⟩
    · exact wpAny_is_other rfl (fun z => e (Value.bool.inj z)) ⟨.bl false, H, I, rfl, by simpa [e] using q⟩
  | ref a => cases (show v = Value.ref a from rx); exact other rfl (fun z => nomatch z) (fun z => nomatch z)
  | non => cases (show v = Value.none from rx); exact other rfl (fun z => nomatch z) (fun z => nomatch z)
  | int i => obtain ⟨t, rfl⟩ := (show ∃ t, v = Value.int i t from rx); exact other rfl (fun z => nomatch z) (fun z => nomatch z)
  | str i => obtain ⟨t, rfl⟩ := (show ∃ t, v = Value.str i t from rx); exact other rfl (fun z => nomatch z) (fun z => nomatch z)
  | byt i => obtain ⟨t, rfl⟩ := (show ∃ t, v = Value.bytes i t from rx); exact other rfl (fun z => nomatch z) (fun z => nomatch z)
  | flt i => obtain ⟨t, rfl⟩ := (show ∃ t, v = Value.float i t from rx); exact other rfl (fun z => nomatch z) (fun z => nomatch z)
  | ty n => cases (show v = Value.type n from rx); exact other rfl (fun z => nomatch z) (fun z => nomatch z)

/-! ### isinstance -/
theorem rd_isi {K : PySem.W.Frag} {x : V} {t n : String} {b : Bool} {H : Hp} {Q : VK} (ty : TyX K H x (.type t)) (hk : PySem.W.kitOne K (.type t) (.type n) = some b) (q : Q (.bl b) H) : rIsi K [x, .ty n] H Q :=
  ⟨x, .ty n, .type t, .type n, b, rfl, .ty n, ty, hk, q⟩
theorem tyx_l {K : PySem.W.Frag} {H : Hp} {a : Addr} {xs : List V} (h : SqL K H a xs) : TyX K H (.ref a) (.type "list") := by
  rcases h with (h | ⟨o, h⟩) | ⟨o, us, n, e, c, _⟩
  · exact .base (.lst h)
  · exact .base (.frz h)
  · exact .kList e c
theorem tyx_t {K : PySem.W.Frag} {H : Hp} {a : Addr} {xs : List V} (h : SqT K H a xs) : TyX K H (.ref a) (.type "tuple") := by
  rcases h with (h | ⟨o, h⟩) | ⟨o, us, n, e, c, _⟩
  · exact .base (.tup h)
  · exact .fTuple h
  · exact .kTuple e c

/-! ### data: what the laws compare -/
inductive Dt where
  | non | bl (b : Bool) | int (i : Int) | str (s : Str) | tup (xs : List Dt) | lst (xs : List Dt)
mutual
inductive DtAt (K : PySem.W.Frag) (H : Hp) : V → Dt → Prop
  | non : DtAt K H .non .non
  | bl (b : Bool) : DtAt K H (.bl b) (.bl b)
  | int (i : Int) : DtAt K H (.int i) (.int i)
  | str (s : Str) : DtAt K H (.str s) (.str s)
  | tup {a : Addr} {vs : List V} {xs : List Dt} (h : SqT K H a vs) (d : DtsAt K H vs xs) : DtAt K H (.ref a) (.tup xs)
  | lst {a : Addr} {vs : List V} {xs : List Dt} (h : SqL K H a vs) (d : DtsAt K H vs xs) : DtAt K H (.ref a) (.lst xs)
inductive DtsAt (K : PySem.W.Frag) (H : Hp) : List V → List Dt → Prop
  | nil : DtsAt K H [] []
  | cons {v : V} {vs : List V} {x : Dt} {xs : List Dt} (h : DtAt K H v x) (t : DtsAt K H vs xs) : DtsAt K H (v :: vs) (x :: xs)
end
mutual
def Dt.dep : Dt → Nat
  | .tup xs => Dt.deps xs + 1
  | .lst xs => Dt.deps xs + 1
  | _ => 0
def Dt.deps : List Dt → Nat
  | [] => 0
  | x :: xs => max x.dep (Dt.deps xs)
end
theorem Same.tup {K : PySem.W.Frag} {H H' : Hp} {a : Addr} {xs : List V} (e : Same H H') (h : SqT K H a xs) : SqT K H' a xs := by
  rcases h with (h | ⟨o, h⟩) | h
  · exact .inl (.inl (e _ _ h))
  · exact .inl (.inr ⟨o, e _ _ h⟩)
  · exact .inr h
mutual
theorem DtAt.same {K : PySem.W.Frag} {H H' : Hp} (e : Same H H') : ∀ {v : V} {x : Dt}, DtAt K H v x → DtAt K H' v x
  | _, _, .non => .non
  | _, _, .bl b => .bl b
  | _, _, .int b => .int b
  | _, _, .str b => .str b
  | _, _, .tup h d => .tup (Same.tup e h) (DtsAt.same e d)
  | _, _, .lst h d => .lst (e.seq h) (DtsAt.same e d)
theorem DtsAt.same {K : PySem.W.Frag} {H H' : Hp} (e : Same H H') : ∀ {vs : List V} {xs : List Dt}, DtsAt K H vs xs → DtsAt K H' vs xs
  | _, _, .nil => .nil
  | _, _, .cons h t => .cons (DtAt.same e h) (DtsAt.same e t)
end
theorem DtsAt.len {K : PySem.W.Frag} {H : Hp} : ∀ {vs : List V} {xs : List Dt}, DtsAt K H vs xs → vs.length = xs.length
  | _, _, .nil => rfl
  | _, _, .cons _ t => congrArg (· + 1) t.len
theorem DtsAt.at {K : PySem.W.Frag} {H : Hp} : ∀ {vs : List V} {xs : List Dt} {i : Nat} {v : V}, DtsAt K H vs xs → vs[i]? = some v → ∃ x, xs[i]? = some x ∧ DtAt K H v x ∧ x.dep ≤ Dt.deps xs
  | _, _, i, v, .nil, e => by simp at e
  | _, _, 0, v, .cons (x := x) (xs := xs) h t, e => by
    cases e
    exact ⟨x, rfl, h, by unfold Dt.deps; omega⟩
  | _, _, i + 1, v, .cons (x := x) (xs := xs) h t, e => by
    obtain ⟨y, h1, h2, h3⟩ := t.at (i := i) (v := v) e
    exact ⟨y, h1, h2, by unfold Dt.deps; omega⟩
theorem Same.new {H : Hp} {p : Addr} {o : HO} (h : H p = none) : Same H (upd H p o) := fun a u e => by
  rw [upd_ne (ne_of_none e h)]
  exact e

/-! ### a meeting of ways: one word for what holds behind a statement -/
def tJoin (t u : TS) : TS := fun D σ H => ∃ R : L2.St → Hp → Prop, t { D with nx := R } σ H ∧ ∀ σ' H', R σ' H' → u D σ' H'
theorem pss_join {X : Cx} {st : Stmt} {rest : List Stmt} {t u : TS} (h1 : PS X st t) (h2 : PSs X rest u) : PSs X (st :: rest) (tJoin t u) := by
  refine ⟨fun pins s σ H D I h => ?_⟩
  obtain ⟨R, h, hR⟩ := h
  refine wpAny_execs_cons (thn (h1.run pins s σ H { D with nx := R } I h) fun f s1 q => ?_)
  cases f with
  | next =>
    obtain ⟨σ', H', I', q⟩ := q
    exact h2.run pins s1 σ' H' D I' (hR _ _ q)
  | ret v => exact q
  | brk => exact q
  | cont => exact q
def tCut (t : TE) : TE := fun σ H Q => ∃ R : V → Hp → Prop, t σ H R ∧ ∀ v H', R v H' → Q v H'
theorem pe_cut {X : Cx} {e : Expr} {t : TE} (h : PE X e t) : PE X e (tCut t) := by
  refine ⟨fun pins s σ H Q I hq => ?_⟩
  obtain ⟨R, h1, h2⟩ := hq
  refine thn (h.run pins s σ H R I h1) fun u s1 q => ?_
  obtain ⟨v, H', I', r, q⟩ := q
  exact ⟨v, H', I', r, h2 _ _ q⟩
end Mu

namespace Mu
open PySem L2
def top (i : Nat) : Stmt := PySem.Challenge.pw_murrine_k02_turnings_make_a_group.main.body.getD i (.Pass ⟨0, 0, 0, 0⟩)
abbrev s_goes_to : Stmt := top 2
abbrev s_after : Stmt := top 3
abbrev s_back_of : Stmt := top 4
abbrev s_law_cell : Stmt := top 6
abbrev s_law_whole : Stmt := top 7
abbrev s_law_like : Stmt := top 8
abbrev s_law : Stmt := top 9
abbrev N_goes_to : List Str := ["turning", "size", "x", "y", "step"]
theorem sc_goes_to : FnScope ["turning", "size", "x", "y", "step"] ["turning", "size", "x", "y"] (defScope s_goes_to) := ⟨rfl, rfl, rfl, by decide +kernel, rfl, by decide +kernel, by decide +kernel⟩
abbrev N_after : List Str := ["one", "other", "turns", "mirrored"]
theorem sc_after : FnScope ["one", "other", "turns", "mirrored"] ["one", "other"] (defScope s_after) := ⟨rfl, rfl, rfl, by decide +kernel, rfl, by decide +kernel, by decide +kernel⟩
abbrev N_back_of : List Str := ["turning"]
theorem sc_back_of : FnScope ["turning"] ["turning"] (defScope s_back_of) := ⟨rfl, rfl, rfl, by decide +kernel, rfl, by decide +kernel, by decide +kernel⟩
abbrev N_law_cell : List Str := ["_law_script", "_law_k"]
theorem sc_law_cell : FnScope ["_law_script", "_law_k"] ["_law_script", "_law_k"] (defScope s_law_cell) := ⟨rfl, rfl, rfl, by decide +kernel, rfl, by decide +kernel, by decide +kernel⟩
abbrev N_law_whole : List Str := ["_law_found"]
theorem sc_law_whole : FnScope ["_law_found"] ["_law_found"] (defScope s_law_whole) := ⟨rfl, rfl, rfl, by decide +kernel, rfl, by decide +kernel, by decide +kernel⟩
abbrev N_law_like : List Str := ["_law_found", "_law_due", "_law_one", "_law_other"]
theorem sc_law_like : FnScope ["_law_found", "_law_due", "_law_one", "_law_other"] ["_law_found", "_law_due"] (defScope s_law_like) := ⟨rfl, rfl, rfl, by decide +kernel, rfl, by decide +kernel, by decide +kernel⟩
abbrev N_law : List Str := ["_law_script", "_law_size", "_law_x", "_law_y", "_law_one", "_law_other", "_law_both", "_law_u", "_law_v"]
theorem sc_law : FnScope ["_law_script", "_law_size", "_law_x", "_law_y", "_law_one", "_law_other", "_law_both", "_law_u", "_law_v"] ["_law_script"] (defScope s_law) := ⟨rfl, rfl, rfl, by decide +kernel, rfl, by decide +kernel, by decide +kernel⟩
/-- where the defs and the classes stand -/
structure Ad where
  f_goes_to : Addr
  d_goes_to : FuncData
  f_after : Addr
  d_after : FuncData
  f_back_of : Addr
  d_back_of : FuncData
  f_law_cell : Addr
  d_law_cell : FuncData
  f_law_whole : Addr
  d_law_whole : FuncData
  f_law_like : Addr
  d_law_like : FuncData
  f_law : Addr
  d_law : FuncData
structure Txt (K : PySem.W.Frag) (mg : Str → Option Value) (A : Ad) : Prop where
  F_goes_to : Fun K "goes_to" "goes_to" s_goes_to A.f_goes_to A.d_goes_to
  bi_goes_to : Binds K A.d_goes_to ["turning", "size", "x", "y"] []
  g_goes_to : mg "goes_to" = some (.ref A.f_goes_to)
  kp_goes_to : PySem.W.keepIn K (.ref A.f_goes_to) = true
  F_after : Fun K "after" "after" s_after A.f_after A.d_after
  bi_after : Binds K A.d_after ["one", "other"] []
  g_after : mg "after" = some (.ref A.f_after)
  kp_after : PySem.W.keepIn K (.ref A.f_after) = true
  F_back_of : Fun K "back_of" "back_of" s_back_of A.f_back_of A.d_back_of
  bi_back_of : Binds K A.d_back_of ["turning"] []
  g_back_of : mg "back_of" = some (.ref A.f_back_of)
  kp_back_of : PySem.W.keepIn K (.ref A.f_back_of) = true
  F_law_cell : Fun K "_law_cell" "_law_cell" s_law_cell A.f_law_cell A.d_law_cell
  bi_law_cell : Binds K A.d_law_cell ["_law_script", "_law_k"] []
  g_law_cell : mg "_law_cell" = some (.ref A.f_law_cell)
  kp_law_cell : PySem.W.keepIn K (.ref A.f_law_cell) = true
  F_law_whole : Fun K "_law_whole" "_law_whole" s_law_whole A.f_law_whole A.d_law_whole
  bi_law_whole : Binds K A.d_law_whole ["_law_found"] []
  g_law_whole : mg "_law_whole" = some (.ref A.f_law_whole)
  kp_law_whole : PySem.W.keepIn K (.ref A.f_law_whole) = true
  F_law_like : Fun K "_law_like" "_law_like" s_law_like A.f_law_like A.d_law_like
  bi_law_like : Binds K A.d_law_like ["_law_found", "_law_due"] []
  g_law_like : mg "_law_like" = some (.ref A.f_law_like)
  kp_law_like : PySem.W.keepIn K (.ref A.f_law_like) = true
  F_law : Fun K "law" "law" s_law A.f_law A.d_law
  bi_law : Binds K A.d_law ["_law_script"] []
  g_law : mg "law" = some (.ref A.f_law)
  kp_law : PySem.W.keepIn K (.ref A.f_law) = true
  c_MIRROR : GInt mg "MIRROR" 4
  nb_bool : mg "bool" = none
  nb_int : mg "int" = none
  nb_isinstance : mg "isinstance" = none
  nb_len : mg "len" = none
  nb_list : mg "list" = none
  nb_range : mg "range" = none
  nb_str : mg "str" = none
  nb_tuple : mg "tuple" = none
  nb_zip : mg "zip" = none
end Mu

/-! Like: the laws' own small helpers: a cell of the script, a whole number, two data alike. -/
namespace Mu
open PySem L2
section
variable {P : Program} {w : World} {K : PySem.W.Frag} {mg : Str → Option Value} {base : Heap} {A : Ad}
/-- a promise that is never asked -/
theorem fn_never {CX : CXT} {k : Nat} {f : Addr} {fd : FuncData} {ps : List Str} {sp : Sp} (h : ∀ vs H Q E, ¬ sp vs H Q E) : FnOk P w K mg base CX k f fd ps sp :=
  ⟨fun vs H Q E q => (h _ _ _ _ q).elim, fun A outer s H args us vs Q E hr he hb hv hs => (h _ _ _ _ hs).elim⟩

def sp_law_cell (K : PySem.W.Frag) : Sp := fun vs H Q _ => ∃ (a : Addr) (ns : List Int) (j : Nat), vs = [.ref a, .int j] ∧ SqL K H a (ns.map V.int) ∧ Q (.int (ns.getD j 0)) H
theorem ok_law_cell (T : Txt K mg A) : FnOk P w K mg base CX0 1 A.f_law_cell A.d_law_cell ["_law_script", "_law_k"] (sp_law_cell K) := by
  refine T.F_law_cell.ok sc_law_cell (fun vs H Q E h => ?_) (fun cdv A outer s H vs Q E hr h => ?_)
  · obtain ⟨a, ns, j, rfl, _⟩ := h
    rfl
  · obtain ⟨a, ns, j, rfl, hS, k⟩ := h
    refine ⟨_, (pss_cons (ps_if (pt_cmpR op_lt (pv 1) (pe_callB call_len_seq (by rfl) T.nb_len (by decide +kernel) (pa_cons (pv 0) pa_nil)) (nomark _))
    (pss_one (ps_ret (pe_ix ix_list (pv 0) (pv 1) (fun _ _ => rfl))))
    pss_nil)
  (pss_one (ps_ret pe_int))), ?_⟩
    refine ⟨_, rfl, _, rfl, _, _, rfl, .inl hS, _, _, rfl, rfl, _, rfl, ?_⟩
    refine ifD2 (fun h => ?_) (fun h => ?_)
    · have hj : j < ns.length := by simpa using h
      refine ⟨_, rfl, _, rfl, a, _, _, _, rfl, rfl, hS, atI_nat (v := .int ns[j]) (by simp [hj]), ?_⟩
      rw [List.getD_eq_getElem?_getD, List.getElem?_eq_getElem hj] at k
      exact k
    · have hj : ¬ j < ns.length := by simpa using h
      have e : ns.getD j 0 = 0 := by simp [List.getD_eq_getElem?_getD, List.getElem?_eq_none (Nat.le_of_not_lt hj)]
      rw [e] at k
      exact k

def sp_law_whole : Sp := fun vs H Q _ => ∃ i : Int, vs = [.int i] ∧ Q (.bl true) H
theorem ok_law_whole (T : Txt K mg A) : FnOk P w K mg base CX0 1 A.f_law_whole A.d_law_whole ["_law_found"] sp_law_whole := by
  refine T.F_law_whole.ok sc_law_whole (fun vs H Q E h => ?_) (fun cdv A outer s H vs Q E hr h => ?_)
  · obtain ⟨i, rfl, _⟩ := h
    rfl
  · obtain ⟨i, rfl, k⟩ := h
    refine ⟨_, (pss_one (ps_ret (pe_and (pe_callB call_isi (by rfl) T.nb_isinstance (by decide +kernel) (pa_cons (pv 0) (pa_cons (pe_ty (T := "int") T.nb_int (by decide +kernel)) pa_nil))) (pe_one (pe_not (pe_callB call_isi (by rfl) T.nb_isinstance (by decide +kernel) (pa_cons (pv 0) (pa_cons (pe_ty (T := "bool") T.nb_bool (by decide +kernel)) pa_nil)))))))), ?_⟩
    exact ⟨_, rfl, ⟨_, _, _, _, _, rfl, .ty _, (.base (.int i)), by rfl, true, rfl, ifT rfl ⟨_, rfl, ⟨_, _, _, _, _, rfl, .ty _, (.base (.int i)), by rfl, false, rfl, k⟩⟩⟩⟩

def sp_law_like (K : PySem.W.Frag) (n : Nat) : Sp := fun vs H Q _ => ∃ (x y : V) (d : Dt), vs = [x, y] ∧ DtAt K H x d ∧ DtAt K H y d ∧ d.dep < n ∧ ∀ H', Same H H' → Q (.bl true) H'
theorem ok_law_like (T : Txt K mg A) : ∀ n, FnOk P w K mg base CX0 (n + 2) A.f_law_like A.d_law_like ["_law_found", "_law_due"] (sp_law_like K n)
  | 0 => fn_never fun vs H Q E h => by
    obtain ⟨x, y, d, _, _, _, z, _⟩ := h
    exact absurd z (Nat.not_lt_zero _)
  | n + 1 => by
    have G_law_like := ok_law_like T n
    have G_law_whole := ok_law_whole (P := P) (w := w) (base := base) T
    refine T.F_law_like.ok sc_law_like (fun vs H Q E h => ?_) (fun cdv A outer s H vs Q E hr h => ?_)
    · obtain ⟨x, y, d, rfl, _⟩ := h
      rfl
    · obtain ⟨x, y, d, rfl, hx, hy, hd, k⟩ := h
      refine ⟨_, (pss_cons (ps_if (pt_cmp (pc_isN (pv 1)))
    (pss_one (ps_ret (pe_cmp (pc_isN (pv 0)))))
    pss_nil)
  (pss_cons (ps_if (pt_cmpR op_isV (pv 1) pe_bl (nomark _))
    (pss_one (ps_ret (pe_cmpR op_isV (pv 0) pe_bl (nomark _))))
    pss_nil)
  (pss_cons (ps_if (pt_cmpR op_isV (pv 1) pe_bl (nomark _))
    (pss_one (ps_ret (pe_cmpR op_isV (pv 0) pe_bl (nomark _))))
    pss_nil)
  (pss_cons (ps_if (pt_val (pe_callB call_isi (by rfl) T.nb_isinstance (by decide +kernel) (pa_cons (pv 1) (pa_cons (pe_ty (T := "int") T.nb_int (by decide +kernel)) pa_nil))))
    (pss_one (ps_ret (pe_and (pe_call G_law_whole (hr.mono (by omega)) rfl T.g_law_whole T.kp_law_whole T.bi_law_whole .nil pass0 (pa_cons (pv 0) pa_nil)) (pe_one (pe_cmpR op_eq (pv 0) (pv 1) (nomark _))))))
    pss_nil)
  (pss_cons (ps_if (pt_val (pe_callB call_isi (by rfl) T.nb_isinstance (by decide +kernel) (pa_cons (pv 1) (pa_cons (pe_ty (T := "str") T.nb_str (by decide +kernel)) pa_nil))))
    (pss_one (ps_ret (pe_and (pe_callB call_isi (by rfl) T.nb_isinstance (by decide +kernel) (pa_cons (pv 0) (pa_cons (pe_ty (T := "str") T.nb_str (by decide +kernel)) pa_nil))) (pe_one (pe_cmpR op_eq (pv 0) (pv 1) (nomark _))))))
    pss_nil)
  (pss_cons (ps_if (PW.pt (pw_and (pt_val (pe_callB call_isi (by rfl) T.nb_isinstance (by decide +kernel) (pa_cons (pv 1) (pa_cons (pe_ty (T := "tuple") T.nb_tuple (by decide +kernel)) pa_nil)))) (pw_and1 (pt_not (pt_val (pe_callB call_isi (by rfl) T.nb_isinstance (by decide +kernel) (pa_cons (pv 0) (pa_cons (pe_ty (T := "tuple") T.nb_tuple (by decide +kernel)) pa_nil))))))))
    (pss_one (ps_ret pe_bl))
    pss_nil)
  (pss_cons (ps_if (PW.pt (pw_and (pt_val (pe_callB call_isi (by rfl) T.nb_isinstance (by decide +kernel) (pa_cons (pv 1) (pa_cons (pe_ty (T := "list") T.nb_list (by decide +kernel)) pa_nil)))) (pw_and1 (pt_not (pt_val (pe_callB call_isi (by rfl) T.nb_isinstance (by decide +kernel) (pa_cons (pv 0) (pa_cons (pe_ty (T := "list") T.nb_list (by decide +kernel)) pa_nil))))))))
    (pss_one (ps_ret pe_bl))
    pss_nil)
  (pss_cons (ps_if (pt_cmpR op_ne (pe_callB call_len_seq (by rfl) T.nb_len (by decide +kernel) (pa_cons (pv 0) pa_nil)) (pe_callB call_len_seq (by rfl) T.nb_len (by decide +kernel) (pa_cons (pv 1) pa_nil)) (nomark _))
    (pss_one (ps_ret pe_bl))
    pss_nil)
  (pss_cons (ps_for PassesOwn.never rfl (RZ.pi_zipA rfl T.nb_zip (pa_cons (pv 0) (pa_cons (pv 1) pa_nil))) (pg_tup rfl (pgs_cons (pg_name (i := 2) sc_law_like.nd rfl (Or.inl rfl)) (pgs_cons (pg_name (i := 3) sc_law_like.nd rfl (Or.inl rfl)) pgs_nil)))
    (pss_one (ps_if (pt_not (pt_val (pe_call G_law_like (hr.mono (by omega)) rfl T.g_law_like T.kp_law_like T.bi_law_like .nil pass0 (pa_cons (pv 2) (pa_cons (pv 3) pa_nil)))))
        (pss_one (ps_ret pe_bl))
        pss_nil)))
  (pss_one (ps_ret pe_bl))))))))))), ?_⟩
      cases d with
      | non =>
        cases hx; cases hy
        exact ⟨_, rfl, _, rfl, ifD rfl ⟨_, rfl, k _ (Same.refl _)⟩⟩
      | bl b =>
        cases hx; cases hy
        refine ⟨_, rfl, _, rfl, ifN (fun z => nomatch z) ⟨_, rfl, true, rfl, _, rfl, ?_⟩⟩
        cases b with
        | true => exact ifD rfl ⟨_, rfl, true, rfl, k _ (Same.refl _)⟩
        | false => exact ifN (by decide) ⟨_, rfl, false, rfl, _, rfl, ifD rfl ⟨_, rfl, false, rfl, k _ (Same.refl _)⟩⟩
      | int i =>
        cases hx; cases hy
        refine ⟨_, rfl, _, rfl, ifN (fun z => nomatch z) ⟨_, rfl, true, rfl, _, rfl, ifN (fun z => nomatch z) ⟨_, rfl, false, rfl, _, rfl, ifN (fun z => nomatch z) ⟨_, rfl, ⟨_, _, _, _, _, rfl, .ty _, (.base (.int i)), by rfl, _, rfl, ifT rfl ?_⟩⟩⟩⟩⟩
        refine ⟨_, rfl, i, rfl, true, rfl, ifT rfl ⟨_, rfl, _, rfl, rfl, ?_⟩⟩
        rw [decide_eq_true rfl]
        exact k _ (Same.refl _)
      | str z =>
        cases hx; cases hy
        refine ⟨_, rfl, _, rfl, ifN (fun z => nomatch z) ⟨_, rfl, true, rfl, _, rfl, ifN (fun z => nomatch z) ⟨_, rfl, false, rfl, _, rfl, ifN (fun z => nomatch z) ⟨_, rfl, ⟨_, _, _, _, _, rfl, .ty _, (.base (.str z)), by rfl, _, rfl, ifF rfl ?_⟩⟩⟩⟩⟩
        refine ⟨_, rfl, ⟨_, _, _, _, _, rfl, .ty _, (.base (.str z)), by rfl, _, rfl, ifT rfl ?_⟩⟩
        refine ⟨_, rfl, ⟨_, _, _, _, _, rfl, .ty _, (.base (.str z)), by rfl, true, rfl, ifT rfl ⟨_, rfl, _, rfl, rfl, ?_⟩⟩⟩
        rw [decide_eq_true rfl]
        exact k _ (Same.refl _)
      | tup xs =>
        cases hx with
        | @tup a us _ ha da =>
        cases hy with
        | @tup b vs _ hb db =>
        have hl : us.length = vs.length := da.len.trans db.len.symm
        refine ⟨_, rfl, _, rfl, ifN (fun z => nomatch z) ⟨_, rfl, true, rfl, _, rfl, ifN (fun z => nomatch z) ⟨_, rfl, false, rfl, _, rfl, ifN (fun z => nomatch z) ⟨_, rfl, ⟨_, _, _, _, _, rfl, .ty _, (tyx_t hb), by rfl, _, rfl, ifF rfl ?_⟩⟩⟩⟩⟩
        refine ⟨_, rfl, ⟨_, _, _, _, _, rfl, .ty _, (tyx_t hb), by rfl, _, rfl, ifF rfl ?_⟩⟩
        refine ⟨_, rfl, ⟨_, _, _, _, _, rfl, .ty _, (tyx_t hb), by rfl, _, rfl, ifT rfl ⟨_, rfl, ⟨_, _, _, _, _, rfl, .ty _, (tyx_t ha), by rfl, _, rfl, ifF rfl ?_⟩⟩⟩⟩
        refine ⟨_, rfl, ⟨_, _, _, _, _, rfl, .ty _, (tyx_t hb), by rfl, _, rfl, ifF rfl ?_⟩⟩
        refine ifF rfl ?_
        refine ⟨_, rfl, _, _, rfl, .inr ha, _, rfl, _, _, rfl, .inr hb, rfl, _, rfl, ?_⟩
        refine iteNS (by rw [hl]) ?_
        refine ⟨_, rfl, _, rfl, a, b, us, vs, rfl, .inr ⟨ha, hb, RZ.for_zipT hl (fun _ σ H' => ∃ v2 v3, σ = [some (.ref a), some (.ref b), v2, v3] ∧ Same H H') ⟨_, _, rfl, Same.refl _⟩ (fun i σ H' ⟨_, _, _, e⟩ => ⟨Same.tup e ha, Same.tup e hb⟩) ?_ ?_⟩⟩
        · rintro i x y Tp σ H' hxi hyi ⟨v2, v3, rfl, e⟩ hT
          refine ⟨Tp, _, rfl, .inl (.inl upd_same), rfl, _, _, rfl, _, _, rfl, rfl, ?_⟩
          obtain ⟨z, z1, z2, z3⟩ := da.at hxi
          obtain ⟨z', y1, y2, _⟩ := db.at hyi
          obtain rfl : z' = z := Option.some.inj (y1.symm.trans z1)
          have e2 := e.trans (Same.new (o := .tup [x, y]) hT)
          refine ⟨_, rfl, _, rfl, x, y, z', rfl, z2.same e2, y2.same e2, ?_, fun H2 e3 => ⟨_, rfl, ifF rfl ?_⟩⟩
          · have : Dt.dep (.tup xs) = Dt.deps xs + 1 := by unfold Dt.dep; rfl
            omega
          · exact ⟨_, _, rfl, e2.trans e3⟩
        · rintro σ H' ⟨v2, v3, rfl, e⟩
          exact k _ e
      | lst xs =>
        cases hx with
        | @lst a us _ ha da =>
        cases hy with
        | @lst b vs _ hb db =>
        have hl : us.length = vs.length := da.len.trans db.len.symm
        refine ⟨_, rfl, _, rfl, ifN (fun z => nomatch z) ⟨_, rfl, true, rfl, _, rfl, ifN (fun z => nomatch z) ⟨_, rfl, false, rfl, _, rfl, ifN (fun z => nomatch z) ⟨_, rfl, ⟨_, _, _, _, _, rfl, .ty _, (tyx_l hb), by rfl, _, rfl, ifF rfl ?_⟩⟩⟩⟩⟩
        refine ⟨_, rfl, ⟨_, _, _, _, _, rfl, .ty _, (tyx_l hb), by rfl, _, rfl, ifF rfl ?_⟩⟩
        refine ⟨_, rfl, ⟨_, _, _, _, _, rfl, .ty _, (tyx_l hb), by rfl, _, rfl, ifF rfl ?_⟩⟩
        refine ifF rfl ?_
        refine ⟨_, rfl, ⟨_, _, _, _, _, rfl, .ty _, (tyx_l hb), by rfl, _, rfl, ifT rfl ⟨_, rfl, ⟨_, _, _, _, _, rfl, .ty _, (tyx_l ha), by rfl, _, rfl, ifF rfl ?_⟩⟩⟩⟩
        refine ⟨_, rfl, _, _, rfl, .inl ha, _, rfl, _, _, rfl, .inl hb, rfl, _, rfl, ?_⟩
        refine iteNS (by rw [hl]) ?_
        refine ⟨_, rfl, _, rfl, a, b, us, vs, rfl, .inl ⟨ha, hb, RZ.for_zipL hl (fun _ σ H' => ∃ v2 v3, σ = [some (.ref a), some (.ref b), v2, v3] ∧ Same H H') ⟨_, _, rfl, Same.refl _⟩ (fun i σ H' ⟨_, _, _, e⟩ => ⟨e.seq ha, e.seq hb⟩) ?_ ?_⟩⟩
        · rintro i x y Tp σ H' hxi hyi ⟨v2, v3, rfl, e⟩ hT
          refine ⟨Tp, _, rfl, .inl (.inl upd_same), rfl, _, _, rfl, _, _, rfl, rfl, ?_⟩
          obtain ⟨z, z1, z2, z3⟩ := da.at hxi
          obtain ⟨z', y1, y2, _⟩ := db.at hyi
          obtain rfl : z' = z := Option.some.inj (y1.symm.trans z1)
          have e2 := e.trans (Same.new (o := .tup [x, y]) hT)
          refine ⟨_, rfl, _, rfl, x, y, z', rfl, z2.same e2, y2.same e2, ?_, fun H2 e3 => ⟨_, rfl, ifF rfl ?_⟩⟩
          · have : Dt.dep (.lst xs) = Dt.deps xs + 1 := by unfold Dt.dep; rfl
            omega
          · exact ⟨_, _, rfl, e2.trans e3⟩
        · rintro σ H' ⟨v2, v3, rfl, e⟩
          exact k _ e
end
end Mu

/-! Turning: goes_to, back_of by their mirrors. -/
namespace Mu
open PySem L2
def rot (s : Int) (p : Int × Int) : Int × Int := (s - 1 - p.2, p.1)
def rotN (s : Int) : Nat → Int × Int → Int × Int
  | 0, p => p
  | n + 1, p => rot s (rotN s n p)
/-- the cell to which (x, y) goes -/
def goesTo (t : Nat) (s x y : Int) : Int × Int := rotN s (t % 4) (if 4 ≤ t then s - 1 - x else x, y)
def backOf (t : Nat) : Nat := if 4 ≤ t then t else (4 - t) % 4
def afterOf (a b : Nat) : Nat := (if 4 ≤ b then (4 - a % 4) + b else a % 4 + b) % 4 + (if (4 ≤ a) = (4 ≤ b) then 0 else 4)
section
variable {P : Program} {w : World} {K : PySem.W.Frag} {mg : Str → Option Value} {base : Heap} {A : Ad}
def sp_goes_to : Sp := fun vs H Q _ => ∃ (t : Nat) (s x y : Int), vs = [.int t, .int s, .int x, .int y] ∧
  ∀ p, H p = none → Q (.ref p) (upd H p (.tup [.int (goesTo t s x y).1, .int (goesTo t s x y).2]))
theorem ok_goes_to (T : Txt K mg A) : FnOk P w K mg base CX0 1 A.f_goes_to A.d_goes_to ["turning", "size", "x", "y"] sp_goes_to := by
  refine T.F_goes_to.ok sc_goes_to (fun vs H Q E h => ?_) (fun cdv A outer s H vs Q E hr h => ?_)
  · obtain ⟨t, s, x, y, rfl, _⟩ := h
    rfl
  · obtain ⟨t, s, x, y, rfl, k⟩ := h
    refine ⟨_, (pss_cons (ps_if (pt_cmpR op_ge (pv 0) (pe_gint T.c_MIRROR) (nomark _))
    (pss_one (ps_set (i := 2) sc_goes_to.nd rfl (Or.inl rfl) (pe_op op_sub (pe_op op_sub (pv 1) pe_int) (pv 2))))
    pss_nil)
  (pss_cons (ps_for PassesOwn.never rfl (pi_range1 rfl T.nb_range (pa_cons (pe_op op_mod (pv 0) (pe_gint T.c_MIRROR)) pa_nil)) (pg_name (i := 4) sc_goes_to.nd rfl (Or.inl rfl))
    (pss_one (ps_par (i := 2) (j := 3) rfl sc_goes_to.nd rfl rfl (by decide) rfl rfl (pa_cons (pe_op op_sub (pe_op op_sub (pv 1) pe_int) (pv 3)) (pa_cons (pv 2) pa_nil)) rfl)))
  (pss_one (ps_ret (pe_tup (pa_cons (pv 2) (pa_cons (pv 3) pa_nil))))))), ?_⟩
    have e1 : (((t : Nat) : Int) % 4).toNat = t % 4 := by omega
    refine ⟨_, rfl, _, _, rfl, rfl, _, rfl, ifD2 (fun h => ?_) (fun h => ?_)⟩
    · have h4 : 4 ≤ t := by omega
      have e : goesTo t s x y = rotN s (t % 4) (s - 1 - x, y) := by unfold goesTo; rw [if_pos h4]
      rw [e] at k
      refine ⟨_, rfl, _, _, rfl, rfl, _, rfl, _, _, rfl, rfl, ?_⟩
      refine ⟨_, rfl, _, _, rfl, rfl, (by show (0 : Int) < 4; decide), _, rfl, by omega, by omega, for_range (fun i σ H' => ∃ v, H' = H ∧ σ = [some (.int t), some (.int s), some (.int (rotN s i (s - 1 - x, y)).1), some (.int (rotN s i (s - 1 - x, y)).2), v]) ⟨_, rfl, rfl⟩ ?_ ?_⟩
      · rintro i σ H' hi ⟨v, rfl, rfl⟩
        refine ⟨_, rfl, _, _, rfl, rfl, _, rfl, _, _, rfl, rfl, _, rfl, _, _, rfl, ?_⟩
        exact ⟨_, rfl, rfl⟩
      · rintro σ H' ⟨v, rfl, rfl⟩
        rw [e1]
        refine ⟨_, rfl, _, rfl, (by show 2 ≤ sizeLine; decide), k⟩
    · have h4 : ¬ 4 ≤ t := by omega
      have e : goesTo t s x y = rotN s (t % 4) (x, y) := by unfold goesTo; rw [if_neg h4]
      rw [e] at k
      refine ⟨_, rfl, _, _, rfl, rfl, (by show (0 : Int) < 4; decide), _, rfl, by omega, by omega, for_range (fun i σ H' => ∃ v, H' = H ∧ σ = [some (.int t), some (.int s), some (.int (rotN s i (x, y)).1), some (.int (rotN s i (x, y)).2), v]) ⟨_, rfl, rfl⟩ ?_ ?_⟩
      · rintro i σ H' hi ⟨v, rfl, rfl⟩
        refine ⟨_, rfl, _, _, rfl, rfl, _, rfl, _, _, rfl, rfl, _, rfl, _, _, rfl, ?_⟩
        exact ⟨_, rfl, rfl⟩
      · rintro σ H' ⟨v, rfl, rfl⟩
        rw [e1]
        refine ⟨_, rfl, _, rfl, (by show 2 ≤ sizeLine; decide), k⟩
def sp_back_of : Sp := fun vs H Q _ => ∃ t : Nat, vs = [.int t] ∧ t < 8 ∧ Q (.int (backOf t)) H
theorem ok_back_of (T : Txt K mg A) : FnOk P w K mg base CX0 1 A.f_back_of A.d_back_of ["turning"] sp_back_of := by
  refine T.F_back_of.ok sc_back_of (fun vs H Q E h => ?_) (fun cdv A outer s H vs Q E hr h => ?_)
  · obtain ⟨t, rfl, _⟩ := h
    rfl
  · obtain ⟨t, rfl, h8, k⟩ := h
    refine ⟨_, (pss_cons (ps_if (pt_cmpR op_ge (pv 0) (pe_gint T.c_MIRROR) (nomark _))
    (pss_one (ps_ret (pv 0)))
    pss_nil)
  (pss_one (ps_ret (pe_op op_mod (pe_un un_neg (pv 0)) (pe_gint T.c_MIRROR))))), ?_⟩
    refine ⟨_, rfl, _, _, rfl, rfl, _, rfl, ifD2 (fun h => ?_) (fun h => ?_)⟩
    · have e : backOf t = t := by unfold backOf; rw [if_pos (by omega)]
      rw [e] at k
      exact ⟨_, rfl, k⟩
    · have e : ((backOf t : Nat) : Int) = -(t : Int) % 4 := by unfold backOf; rw [if_neg (by omega)]; omega
      rw [e] at k
      exact ⟨_, rfl, _, rfl, _, _, rfl, rfl, (by show (0 : Int) < 4; decide), k⟩
end
end Mu

/-! After: after by its mirror. -/
namespace Mu
open PySem L2
section
variable {P : Program} {w : World} {K : PySem.W.Frag} {mg : Str → Option Value} {base : Heap} {A : Ad}
theorem after_lt (a b : Nat) (hb : b < 8) : afterOf a b < 8 := by
  unfold afterOf
  have h := Nat.mod_lt (if 4 ≤ b then (4 - a % 4) + b else a % 4 + b) (show 0 < 4 by decide)
  have h2 : (if (4 ≤ a) = (4 ≤ b) then 0 else 4) ≤ 4 := by split <;> omega
  omega
def sp_after : Sp := fun vs H Q _ => ∃ a b : Nat, vs = [.int a, .int b] ∧ a < 8 ∧ b < 8 ∧ Q (.int (afterOf a b)) H
theorem ok_after (T : Txt K mg A) : FnOk P w K mg base CX0 1 A.f_after A.d_after ["one", "other"] sp_after := by
  refine T.F_after.ok sc_after (fun vs H Q E h => ?_) (fun cdv A outer s H vs Q E hr h => ?_)
  · obtain ⟨a, b, rfl, _⟩ := h
    rfl
  · obtain ⟨a, b, rfl, ha, hb, k⟩ := h
    refine ⟨_, (pss_cons (ps_set (i := 2) sc_after.nd rfl (Or.inl rfl) (pe_op op_mod (pv 0) (pe_gint T.c_MIRROR)))
  (pss_join (ps_if (pt_cmpR op_ge (pv 1) (pe_gint T.c_MIRROR) (nomark _))
    (pss_one (ps_set (i := 2) sc_after.nd rfl (Or.inl rfl) (pe_un un_neg (pv 2))))
    pss_nil)
  (pss_cons (ps_set (i := 3) sc_after.nd rfl (Or.inl rfl) (pe_cmpR op_ne (pe_cmpR op_ge (pv 0) (pe_gint T.c_MIRROR) (nomark _)) (pe_cmpR op_ge (pv 1) (pe_gint T.c_MIRROR) (nomark _)) (nomark _)))
  (pss_one (ps_ret (pe_op op_add (pe_op op_mod (pe_op op_add (pv 2) (pv 1)) (pe_gint T.c_MIRROR)) (pe_ifExp (pt_val (pv 3)) (pe_gint T.c_MIRROR) pe_int))))))), ?_⟩
    refine ⟨_, rfl, _, _, rfl, rfl, (by show (0 : Int) < 4; decide), ?_⟩
    refine ⟨fun σ H' => ∃ z : Int, (z + b) % 4 = (((if 4 ≤ b then (4 - a % 4) + b else a % 4 + b) % 4 : Nat) : Int) ∧ H' = H ∧ σ = [some (.int a), some (.int b), some (.int z), none], ?_, ?_⟩
    · refine ⟨_, rfl, _, _, rfl, rfl, _, rfl, ifD2 (fun h => ?_) (fun h => ?_)⟩
      · refine ⟨_, rfl, _, rfl, _, ?_, rfl, rfl⟩
        rw [if_pos (by omega)]
        show (-((a : Int) % 4) + b) % 4 = _
        omega
      · refine ⟨_, ?_, rfl, rfl⟩
        rw [if_neg (by omega)]
        show ((a : Int) % 4 + b) % 4 = _
        omega
    · rintro σ H' ⟨z, hz, rfl, rfl⟩
      refine ⟨_, rfl, _, _, rfl, rfl, _, rfl, _, _, rfl, rfl, rfl, ?_⟩
      refine ⟨_, rfl, _, rfl, _, _, rfl, rfl, _, _, rfl, rfl, (by show (0 : Int) < 4; decide), ?_⟩
      have e : ((afterOf a b : Nat) : Int) = (z + b) % 4 + (if (4 ≤ a) = (4 ≤ b) then 0 else 4) := by
        unfold afterOf
        rw [Int.natCast_add, hz]
        congr 1
        split <;> rfl
      by_cases h1 : 4 ≤ a <;> by_cases h2 : 4 ≤ b
      · have c : (!decide (V.bl (decide ((4 : Int) ≤ a)) = V.bl (decide ((4 : Int) ≤ b)))) = false := by
          rw [decide_eq_true (show (4 : Int) ≤ a by omega), decide_eq_true (show (4 : Int) ≤ b by omega)]; rfl
        refine ⟨_, rfl, _, rfl, ifF c ⟨_, _, rfl, rfl, ?_⟩⟩
        rw [if_pos (by simp [h1, h2])] at e
        rw [e] at k
        exact k
      · have c : (!decide (V.bl (decide ((4 : Int) ≤ a)) = V.bl (decide ((4 : Int) ≤ b)))) = true := by
          rw [decide_eq_true (show (4 : Int) ≤ a by omega), decide_eq_false (show ¬ (4 : Int) ≤ b by omega)]; rfl
        refine ⟨_, rfl, _, rfl, ifT c ⟨_, _, rfl, rfl, ?_⟩⟩
        rw [if_neg (by simp [h1, h2])] at e
        rw [e] at k
        exact k
      · have c : (!decide (V.bl (decide ((4 : Int) ≤ a)) = V.bl (decide ((4 : Int) ≤ b)))) = true := by
          rw [decide_eq_false (show ¬ (4 : Int) ≤ a by omega), decide_eq_true (show (4 : Int) ≤ b by omega)]; rfl
        refine ⟨_, rfl, _, rfl, ifT c ⟨_, _, rfl, rfl, ?_⟩⟩
        rw [if_neg (by simp [h1, h2])] at e
        rw [e] at k
        exact k
      · have c : (!decide (V.bl (decide ((4 : Int) ≤ a)) = V.bl (decide ((4 : Int) ≤ b)))) = false := by
          rw [decide_eq_false (show ¬ (4 : Int) ≤ a by omega), decide_eq_false (show ¬ (4 : Int) ≤ b by omega)]; rfl
        refine ⟨_, rfl, _, rfl, ifF c ⟨_, _, rfl, rfl, ?_⟩⟩
        rw [if_pos (by simp [h1, h2])] at e
        rw [e] at k
        exact k
end
end Mu

/-! The law k02. -/
namespace Mu
open PySem L2
theorem goes_after : ∀ a, a < 8 → ∀ b, b < 8 → ∀ s x y, goesTo (afterOf a b) s x y = goesTo b s (goesTo a s x y).1 (goesTo a s x y).2 := by
  intro a ha b hb s x y
  have h : a = 0 ∨ a = 1 ∨ a = 2 ∨ a = 3 ∨ a = 4 ∨ a = 5 ∨ a = 6 ∨ a = 7 := by omega
  have h2 : b = 0 ∨ b = 1 ∨ b = 2 ∨ b = 3 ∨ b = 4 ∨ b = 5 ∨ b = 6 ∨ b = 7 := by omega
  rcases h with rfl | rfl | rfl | rfl | rfl | rfl | rfl | rfl <;> rcases h2 with rfl | rfl | rfl | rfl | rfl | rfl | rfl | rfl <;> simp [goesTo, afterOf, rotN, rot] <;> omega
theorem after_back (a : Nat) (h : a < 8) : afterOf a (backOf a) = 0 ∧ afterOf (backOf a) a = 0 ∧ backOf a < 8 := by
  have h : a = 0 ∨ a = 1 ∨ a = 2 ∨ a = 3 ∨ a = 4 ∨ a = 5 ∨ a = 6 ∨ a = 7 := by omega
  rcases h with rfl | rfl | rfl | rfl | rfl | rfl | rfl | rfl <;> decide
theorem eqv_pair (i j : Int) : PyData.eqv (.tuple [.int i, .int j]) (.tuple [.int i, .int j]) = true := by
  simp [PyData.eqv, PyData.eqvAll]
theorem dp_pair {K : PySem.W.Frag} {H : Hp} {p : Addr} {i j : Int} {u : Int × Int} (h : H p = some (.tup [.int u.1, .int u.2])) (e : u = (i, j)) : Dp K H (.ref p) (.tuple [.int i, .int j]) := by
  subst e
  exact .tup (.inl (.inl h)) (.cons (.int i) (.cons (.int j) .nil))
section
variable {P : Program} {w : World} {K : PySem.W.Frag} {mg : Str → Option Value} {base : Heap} {A : Ad}
def sp_law (K : PySem.W.Frag) : Sp := fun vs H Q _ => ∃ (a : Addr) (ns : List Int), vs = [.ref a] ∧ SqL K H a (ns.map V.int) ∧ ns.length ≤ 63 ∧ ∀ H', Q (.bl true) H'
theorem ok_law (T : Txt K mg A) : FnOk P w K mg base CX0 8 A.f_law A.d_law ["_law_script"] (sp_law K) := by
  have G_law_cell := ok_law_cell (P := P) (w := w) (base := base) T
  have G_law_whole := ok_law_whole (P := P) (w := w) (base := base) T
  have G_law_like := ok_law_like (P := P) (w := w) (base := base) T 4
  have G_after := ok_after (P := P) (w := w) (base := base) T
  have G_goes_to := ok_goes_to (P := P) (w := w) (base := base) T
  have G_back_of := ok_back_of (P := P) (w := w) (base := base) T
  refine T.F_law.ok sc_law (fun vs H Q E h => ?_) (fun cdv A outer s H vs Q E hr h => ?_)
  · obtain ⟨a, ns, rfl, _⟩ := h
    rfl
  · obtain ⟨a, ns, rfl, hS, hlen, k⟩ := h
    refine ⟨_, (pss_cons (ps_set (i := 1) sc_law.nd rfl (Or.inl rfl) (pe_op op_add pe_int (pe_op op_mod (pe_call G_law_cell (hr.mono (by omega)) rfl T.g_law_cell T.kp_law_cell T.bi_law_cell .nil pass0 (pa_cons (pv 0) (pa_cons pe_int pa_nil))) pe_int)))
  (pss_cons (ps_set (i := 2) sc_law.nd rfl (Or.inl rfl) (pe_op op_mod (pe_call G_law_cell (hr.mono (by omega)) rfl T.g_law_cell T.kp_law_cell T.bi_law_cell .nil pass0 (pa_cons (pv 0) (pa_cons pe_int pa_nil))) (pv 1)))
  (pss_cons (ps_set (i := 3) sc_law.nd rfl (Or.inl rfl) (pe_op op_mod (pe_call G_law_cell (hr.mono (by omega)) rfl T.g_law_cell T.kp_law_cell T.bi_law_cell .nil pass0 (pa_cons (pv 0) (pa_cons pe_int pa_nil))) (pv 1)))
  (pss_cons (ps_for PassesOwn.never rfl (pi_range1 rfl T.nb_range (pa_cons pe_int pa_nil)) (pg_name (i := 4) sc_law.nd rfl (Or.inl rfl))
    (pss_cons (ps_if (PW.pt (pw_or (pt_not (pt_val (pe_call G_law_like (hr.mono (by omega)) rfl T.g_law_like T.kp_law_like T.bi_law_like .nil pass0 (pa_cons (pe_call G_after (hr.mono (by omega)) rfl T.g_after T.kp_after T.bi_after .nil pass0 (pa_cons (pv 4) (pa_cons (pe_call G_back_of (hr.mono (by omega)) rfl T.g_back_of T.kp_back_of T.bi_back_of .nil pass0 (pa_cons (pv 4) pa_nil)) pa_nil))) (pa_cons pe_int pa_nil))))) (pw_or1 (pt_not (pt_val (pe_call G_law_like (hr.mono (by omega)) rfl T.g_law_like T.kp_law_like T.bi_law_like .nil pass0 (pa_cons (pe_call G_after (hr.mono (by omega)) rfl T.g_after T.kp_after T.bi_after .nil pass0 (pa_cons (pe_call G_back_of (hr.mono (by omega)) rfl T.g_back_of T.kp_back_of T.bi_back_of .nil pass0 (pa_cons (pv 4) pa_nil)) (pa_cons (pv 4) pa_nil))) (pa_cons pe_int pa_nil))))))))
        (pss_one (ps_ret pe_bl))
        pss_nil)
      (pss_one (ps_for PassesOwn.never rfl (pi_range1 rfl T.nb_range (pa_cons pe_int pa_nil)) (pg_name (i := 5) sc_law.nd rfl (Or.inl rfl))
        (pss_cons (ps_set (i := 6) sc_law.nd rfl (Or.inl rfl) (pe_call G_after (hr.mono (by omega)) rfl T.g_after T.kp_after T.bi_after .nil pass0 (pa_cons (pv 4) (pa_cons (pv 5) pa_nil))))
          (pss_cons (ps_if (PW.pt (pw_or (pt_not (pt_val (pe_call G_law_whole (hr.mono (by omega)) rfl T.g_law_whole T.kp_law_whole T.bi_law_whole .nil pass0 (pa_cons (pv 6) pa_nil)))) (pw_or1 (pt_not (pt_chain op_le op_lt pe_int (pv 6) pe_int)))))
            (pss_one (ps_ret pe_bl))
            pss_nil)
          (pss_cons (ps_asg (pe_call G_goes_to (hr.mono (by omega)) rfl T.g_goes_to T.kp_goes_to T.bi_goes_to .nil pass0 (pa_cons (pv 4) (pa_cons (pv 1) (pa_cons (pv 2) (pa_cons (pv 3) pa_nil))))) (pg_tup rfl (pgs_cons (pg_name (i := 7) sc_law.nd rfl (Or.inl rfl)) (pgs_cons (pg_name (i := 8) sc_law.nd rfl (Or.inl rfl)) pgs_nil))))
          (pss_one (ps_if (pt_cmpR (op_neD hr.units) (pe_call G_goes_to (hr.mono (by omega)) rfl T.g_goes_to T.kp_goes_to T.bi_goes_to .nil pass0 (pa_cons (pv 6) (pa_cons (pv 1) (pa_cons (pv 2) (pa_cons (pv 3) pa_nil))))) (pe_call G_goes_to (hr.mono (by omega)) rfl T.g_goes_to T.kp_goes_to T.bi_goes_to .nil pass0 (pa_cons (pv 5) (pa_cons (pv 1) (pa_cons (pv 7) (pa_cons (pv 8) pa_nil))))) (nomark _))
            (pss_one (ps_ret pe_bl))
            pss_nil)))))))))
  (pss_one (ps_ret pe_bl)))))), ?_⟩
    refine ⟨_, rfl, a, ns, 0, rfl, hS, _, _, rfl, rfl, (by show (0 : Int) < 59; decide), _, _, rfl, rfl, ?_⟩
    have hz : (0 : Int) < 2 + ns.getD 0 0 % 59 := by omega
    refine ⟨_, rfl, a, ns, 1, rfl, hS, _, rfl, _, _, rfl, rfl, hz, _, rfl, a, ns, 2, rfl, hS, _, rfl, _, _, rfl, rfl, hz, ?_⟩
    obtain ⟨z, hz0⟩ : ∃ z : Int, z = 2 + ns.getD 0 0 % 59 := ⟨_, rfl⟩
    refine ⟨_, rfl, by decide, by decide, for_range (fun i σ H2 => ∃ v1 v2 v3 v4 v5, σ = [some (.ref a), some (.int (2 + ns.getD 0 0 % 59)), some (.int (ns.getD 1 0 % (2 + ns.getD 0 0 % 59))), some (.int (ns.getD 2 0 % (2 + ns.getD 0 0 % 59))), v1, v2, v3, v4, v5] ∧ Same H H2) ⟨_, _, _, _, _, rfl, Same.refl _⟩ ?_ ?_⟩
    · rintro i σ H2 hi ⟨v1, v2, v3, v4, v5, rfl, e2⟩
      have h8 : i < 8 := hi
      obtain ⟨b1, b2, b3⟩ := after_back i h8
      rw [Int.zero_add, ← hz0]
      have d0 : ∀ H, DtAt K H (.int ((0 : Nat) : Int)) (.int 0) := fun H => .int 0
      have dd : (Dt.int 0).dep < 4 := by unfold Dt.dep; decide
      -- one and back, back and one
      refine ⟨_, rfl, _, rfl, i, rfl, h8, ⟨i, backOf i, rfl, h8, b3, ?_⟩⟩
      rw [b1]
      refine ⟨_, _, _, rfl, d0 _, .int 0, dd, fun H3 e3 => ⟨_, rfl, ifF rfl ?_⟩⟩
      refine ⟨_, rfl, i, rfl, h8, _, rfl, backOf i, i, rfl, b3, h8, ?_⟩
      rw [b2]
      refine ⟨_, _, _, rfl, d0 _, .int 0, dd, fun H4 e4 => ⟨_, rfl, ifF rfl ?_⟩⟩
      have e24 := (e2.trans e3).trans e4
      refine ⟨_, rfl, by decide, by decide, for_range (fun j σ H5 => ∃ v2 v3 v4 v5, σ = [some (.ref a), some (.int z), some (.int (ns.getD 1 0 % z)), some (.int (ns.getD 2 0 % z)), some (.int i), v2, v3, v4, v5] ∧ Same H H5) ⟨_, _, _, _, rfl, e24⟩ ?_ ?_⟩
      · rintro j σ H5 hj ⟨v2, v3, v4, v5, rfl, e5⟩
        have hj8 : j < 8 := hj
        rw [Int.zero_add]
        have hb := after_lt i j hj8
        refine ⟨_, rfl, _, rfl, i, j, rfl, h8, hj8, ?_⟩
        -- a whole number from 0 to 7
        refine ⟨_, rfl, _, rfl, _, rfl, ifF rfl ?_⟩
        refine ⟨_, rfl, _, _, rfl, rfl, _, rfl, ifD (by omega) ⟨_, _, rfl, rfl, _, rfl, ?_⟩⟩
        rw [decide_eq_true (show ((afterOf i j : Nat) : Int) < 8 by omega)]
        refine ifF rfl ?_
        refine ⟨_, rfl, _, rfl, _, rfl, _, rfl, i, z, _, _, rfl, fun p np => ⟨p, _, rfl, .inl (.inl upd_same), rfl, _, _, rfl, _, _, rfl, rfl, ?_⟩⟩
        refine ⟨_, rfl, _, rfl, _, rfl, _, rfl, afterOf i j, z, _, _, rfl, fun q nq => ?_⟩
        refine ⟨_, rfl, _, rfl, _, rfl, _, rfl, j, z, _, _, rfl, fun r nr => ?_⟩
        have hq := Same.new (o := .tup [V.int (goesTo j z (goesTo i z (ns.getD 1 0 % z) (ns.getD 2 0 % z)).1 (goesTo i z (ns.getD 1 0 % z) (ns.getD 2 0 % z)).2).1, V.int (goesTo j z (goesTo i z (ns.getD 1 0 % z) (ns.getD 2 0 % z)).1 (goesTo i z (ns.getD 1 0 % z) (ns.getD 2 0 % z)).2).2]) nr q _ upd_same
        refine ⟨_, _, dp_pair hq (goes_after i h8 j hj8 _ _ _), dp_pair upd_same rfl, rfl, rfl, ?_⟩
        rw [eqv_pair]
        refine ⟨_, rfl, ifF rfl ?_⟩
        exact ⟨_, _, _, _, rfl, ((e5.trans (Same.new np)).trans (Same.new nq)).trans (Same.new nr)⟩
      · rintro σ H5 ⟨v2, v3, v4, v5, rfl, e5⟩
        exact ⟨_, _, _, _, _, rfl, e5⟩
    · rintro σ H2 ⟨v1, v2, v3, v4, v5, rfl, e2⟩
      exact k H2
end
end Mu

namespace Mu
open PySem L2
theorem all_mk {P : Program} {w : World} {K : PySem.W.Frag} {h : Heap} {mg : Str → Option Value} {fa : Addr} (X : K.In h) (G : h.Ns mainGlobals mg) (hfa : mg "law" = some (.ref fa))
    {od0 an0 : Option Addr} {sl0 : Array (Option Value)} {oc0 kV0 dc0 pm0 cd0 ct0 : Value} {f0 : Addr}
    {od1 an1 : Option Addr} {sl1 : Array (Option Value)} {oc1 kV1 dc1 pm1 cd1 ct1 : Value} {f1 : Addr}
    {od2 an2 : Option Addr} {sl2 : Array (Option Value)} {oc2 kV2 dc2 pm2 cd2 ct2 : Value} {f2 : Addr}
    {od3 an3 : Option Addr} {sl3 : Array (Option Value)} {oc3 kV3 dc3 pm3 cd3 ct3 : Value} {f3 : Addr}
    {od4 an4 : Option Addr} {sl4 : Array (Option Value)} {oc4 kV4 dc4 pm4 cd4 ct4 : Value} {f4 : Addr}
    {od5 an5 : Option Addr} {sl5 : Array (Option Value)} {oc5 kV5 dc5 pm5 cd5 ct5 : Value} {f5 : Addr}
    {od6 an6 : Option Addr} {sl6 : Array (Option Value)} {oc6 kV6 dc6 pm6 cd6 ct6 : Value} {f6 : Addr}
    {t_MIRROR : Tok}
    (a0 : PySem.W.nsIn K mainGlobals "goes_to" = some (some (.ref f0)))
    (l0 : K.lookup f0 = some ⟨oc0, od0, .func (PySem.W.fnOf "goes_to" "goes_to" (defArgs s_goes_to) (defBody s_goes_to) (defScope s_goes_to) .none kV0 dc0 pm0 an0 cd0 ct0), sl0⟩)
    (c0 : PySem.W.codeIn K cd0 "goes_to" = true)
    (k0 : PySem.W.keepIn K (.ref f0) = true)
    (a1 : PySem.W.nsIn K mainGlobals "after" = some (some (.ref f1)))
    (l1 : K.lookup f1 = some ⟨oc1, od1, .func (PySem.W.fnOf "after" "after" (defArgs s_after) (defBody s_after) (defScope s_after) .none kV1 dc1 pm1 an1 cd1 ct1), sl1⟩)
    (c1 : PySem.W.codeIn K cd1 "after" = true)
    (k1 : PySem.W.keepIn K (.ref f1) = true)
    (a2 : PySem.W.nsIn K mainGlobals "back_of" = some (some (.ref f2)))
    (l2 : K.lookup f2 = some ⟨oc2, od2, .func (PySem.W.fnOf "back_of" "back_of" (defArgs s_back_of) (defBody s_back_of) (defScope s_back_of) .none kV2 dc2 pm2 an2 cd2 ct2), sl2⟩)
    (c2 : PySem.W.codeIn K cd2 "back_of" = true)
    (k2 : PySem.W.keepIn K (.ref f2) = true)
    (a3 : PySem.W.nsIn K mainGlobals "_law_cell" = some (some (.ref f3)))
    (l3 : K.lookup f3 = some ⟨oc3, od3, .func (PySem.W.fnOf "_law_cell" "_law_cell" (defArgs s_law_cell) (defBody s_law_cell) (defScope s_law_cell) .none kV3 dc3 pm3 an3 cd3 ct3), sl3⟩)
    (c3 : PySem.W.codeIn K cd3 "_law_cell" = true)
    (k3 : PySem.W.keepIn K (.ref f3) = true)
    (a4 : PySem.W.nsIn K mainGlobals "_law_whole" = some (some (.ref f4)))
    (l4 : K.lookup f4 = some ⟨oc4, od4, .func (PySem.W.fnOf "_law_whole" "_law_whole" (defArgs s_law_whole) (defBody s_law_whole) (defScope s_law_whole) .none kV4 dc4 pm4 an4 cd4 ct4), sl4⟩)
    (c4 : PySem.W.codeIn K cd4 "_law_whole" = true)
    (k4 : PySem.W.keepIn K (.ref f4) = true)
    (a5 : PySem.W.nsIn K mainGlobals "_law_like" = some (some (.ref f5)))
    (l5 : K.lookup f5 = some ⟨oc5, od5, .func (PySem.W.fnOf "_law_like" "_law_like" (defArgs s_law_like) (defBody s_law_like) (defScope s_law_like) .none kV5 dc5 pm5 an5 cd5 ct5), sl5⟩)
    (c5 : PySem.W.codeIn K cd5 "_law_like" = true)
    (k5 : PySem.W.keepIn K (.ref f5) = true)
    (a6 : PySem.W.nsIn K mainGlobals "law" = some (some (.ref f6)))
    (l6 : K.lookup f6 = some ⟨oc6, od6, .func (PySem.W.fnOf "law" "law" (defArgs s_law) (defBody s_law) (defScope s_law) .none kV6 dc6 pm6 an6 cd6 ct6), sl6⟩)
    (c6 : PySem.W.codeIn K cd6 "law" = true)
    (k6 : PySem.W.keepIn K (.ref f6) = true)
    (v_MIRROR : PySem.W.nsIn K mainGlobals "MIRROR" = some (some (.int 4 t_MIRROR)))
    (z_bool : PySem.W.nsIn K mainGlobals "bool" = some none)
    (z_int : PySem.W.nsIn K mainGlobals "int" = some none)
    (z_isinstance : PySem.W.nsIn K mainGlobals "isinstance" = some none)
    (z_len : PySem.W.nsIn K mainGlobals "len" = some none)
    (z_list : PySem.W.nsIn K mainGlobals "list" = some none)
    (z_range : PySem.W.nsIn K mainGlobals "range" = some none)
    (z_str : PySem.W.nsIn K mainGlobals "str" = some none)
    (z_tuple : PySem.W.nsIn K mainGlobals "tuple" = some none)
    (z_zip : PySem.W.nsIn K mainGlobals "zip" = some none) :
    ∃ fd : FuncData, (∀ (s : Shared) (v : Value), BindsTo s fd ⟨[v], []⟩ [("_law_script", v)]) ∧ ∀ base : Heap, K.In base → base.Ns mainGlobals mg → FnOk P w K mg base CX0 8 fa fd ["_law_script"] (sp_law K) := by
  have e := hfa.symm.trans (PySem.W.mg_of X G a6)
  cases e
  have T : Txt K mg ⟨f0, PySem.W.fnOf "goes_to" "goes_to" (defArgs s_goes_to) (defBody s_goes_to) (defScope s_goes_to) .none kV0 dc0 pm0 an0 cd0 ct0, f1, PySem.W.fnOf "after" "after" (defArgs s_after) (defBody s_after) (defScope s_after) .none kV1 dc1 pm1 an1 cd1 ct1, f2, PySem.W.fnOf "back_of" "back_of" (defArgs s_back_of) (defBody s_back_of) (defScope s_back_of) .none kV2 dc2 pm2 an2 cd2 ct2, f3, PySem.W.fnOf "_law_cell" "_law_cell" (defArgs s_law_cell) (defBody s_law_cell) (defScope s_law_cell) .none kV3 dc3 pm3 an3 cd3 ct3, f4, PySem.W.fnOf "_law_whole" "_law_whole" (defArgs s_law_whole) (defBody s_law_whole) (defScope s_law_whole) .none kV4 dc4 pm4 an4 cd4 ct4, f5, PySem.W.fnOf "_law_like" "_law_like" (defArgs s_law_like) (defBody s_law_like) (defScope s_law_like) .none kV5 dc5 pm5 an5 cd5 ct5, fa, PySem.W.fnOf "law" "law" (defArgs s_law) (defBody s_law) (defScope s_law) .none kV6 dc6 pm6 an6 cd6 ct6⟩ :=
    { F_goes_to := fun_mk (st := s_goes_to) l0 c0 k0,
      bi_goes_to := (fun_mk (st := s_goes_to) l0 c0 k0).binds (ps := ["turning", "size", "x", "y"]) fun _ _ _ _ _ _ us hl => match us, hl with | [_, _, _, _], _ => rfl,
      g_goes_to := PySem.W.mg_of X G a0,
      kp_goes_to := k0,
      F_after := fun_mk (st := s_after) l1 c1 k1,
      bi_after := (fun_mk (st := s_after) l1 c1 k1).binds (ps := ["one", "other"]) fun _ _ _ _ _ _ us hl => match us, hl with | [_, _], _ => rfl,
      g_after := PySem.W.mg_of X G a1,
      kp_after := k1,
      F_back_of := fun_mk (st := s_back_of) l2 c2 k2,
      bi_back_of := (fun_mk (st := s_back_of) l2 c2 k2).binds (ps := ["turning"]) fun _ _ _ _ _ _ us hl => match us, hl with | [_], _ => rfl,
      g_back_of := PySem.W.mg_of X G a2,
      kp_back_of := k2,
      F_law_cell := fun_mk (st := s_law_cell) l3 c3 k3,
      bi_law_cell := (fun_mk (st := s_law_cell) l3 c3 k3).binds (ps := ["_law_script", "_law_k"]) fun _ _ _ _ _ _ us hl => match us, hl with | [_, _], _ => rfl,
      g_law_cell := PySem.W.mg_of X G a3,
      kp_law_cell := k3,
      F_law_whole := fun_mk (st := s_law_whole) l4 c4 k4,
      bi_law_whole := (fun_mk (st := s_law_whole) l4 c4 k4).binds (ps := ["_law_found"]) fun _ _ _ _ _ _ us hl => match us, hl with | [_], _ => rfl,
      g_law_whole := PySem.W.mg_of X G a4,
      kp_law_whole := k4,
      F_law_like := fun_mk (st := s_law_like) l5 c5 k5,
      bi_law_like := (fun_mk (st := s_law_like) l5 c5 k5).binds (ps := ["_law_found", "_law_due"]) fun _ _ _ _ _ _ us hl => match us, hl with | [_, _], _ => rfl,
      g_law_like := PySem.W.mg_of X G a5,
      kp_law_like := k5,
      F_law := fun_mk (st := s_law) l6 c6 k6,
      bi_law := (fun_mk (st := s_law) l6 c6 k6).binds (ps := ["_law_script"]) fun _ _ _ _ _ _ us hl => match us, hl with | [_], _ => rfl,
      g_law := PySem.W.mg_of X G a6,
      kp_law := k6,
      c_MIRROR := ⟨_, PySem.W.mg_of X G v_MIRROR⟩,
      nb_bool := PySem.W.mg_none_of X G z_bool,
      nb_int := PySem.W.mg_none_of X G z_int,
      nb_isinstance := PySem.W.mg_none_of X G z_isinstance,
      nb_len := PySem.W.mg_none_of X G z_len,
      nb_list := PySem.W.mg_none_of X G z_list,
      nb_range := PySem.W.mg_none_of X G z_range,
      nb_str := PySem.W.mg_none_of X G z_str,
      nb_tuple := PySem.W.mg_none_of X G z_tuple,
      nb_zip := PySem.W.mg_none_of X G z_zip }
  exact ⟨PySem.W.fnOf "law" "law" (defArgs s_law) (defBody s_law) (defScope s_law) .none kV6 dc6 pm6 an6 cd6 ct6, fun s v => .of_eq rfl, fun base _ _ => ok_law T⟩
theorem walk {l : PySem.W.OpenLaw} {q : Program} {loose : List Str} {XP : (Str → Option Value) → Heap → Prop} {YP : World → Heap → Prop} {d : DefRec} {K : Params → PySem.W.Frag} (hn : l.most = some 63) (hdf : d.params.defaults = [])
    (hY : ∀ (w : World) (h : Heap), YP w h → (K w.params).In h)
    (F : ∀ (w : World) (mg : Str → Option Value) (fa : Addr) (h : Heap), (K w.params).In h → h.Ns mainGlobals mg → mg d.name = some (.ref fa) →
      ∃ fd : FuncData, (∀ (s : Shared) (u : Value), BindsTo s fd ⟨[u], []⟩ [("_law_script", u)]) ∧ ∀ base : Heap, (K w.params).In base → base.Ns mainGlobals mg → FnOk l.prog w (K w.params) mg base CX0 8 fa fd ["_law_script"] (sp_law (K w.params))) :
    PySem.W.WalkO q loose XP YP l.row.toRowW d [] (fun f vs => PySem.call f vs) :=
  L2.walk_of (n := 63) (k := 8) (x := "_law_script") (CX := fun _ => CX0) (sp := fun w => sp_law (K w.params)) hn (by decide) hdf ⟨rfl, by decide, by decide⟩ hY F (fun _ _ a ns hl _ hS => ⟨a, ns, rfl, hS, hl, fun _ => rfl⟩) fun _ _ _ _ _ z => z
end Mu
open PySem PySem.W PyProof.Rows
set_option maxRecDepth 100000 in
set_option maxHeartbeats 0 in
theorem PySem.Challenge.cw_murrine_k02_turnings_make_a_group_holds : PySem.Challenge.rw_murrine_k02_turnings_make_a_group.Holds := by
  w_on; o_law; k_head; (case hw => w_witness2)
  k_fill
  refine Mu.walk (l := PySem.Challenge.rw_murrine_k02_turnings_make_a_group) rfl rfl (fun w h Y => PySem.W.kIn_of Y) ?F
  case F =>
    intro w mg fa h KX G hmg
    refine' Mu.all_mk KX G hmg ?a0 ?l0 ?c0 ?k0 ?a1 ?l1 ?c1 ?k1 ?a2 ?l2 ?c2 ?k2 ?a3 ?l3 ?c3 ?k3 ?a4 ?l4 ?c4 ?k4 ?a5 ?l5 ?c5 ?k5 ?a6 ?l6 ?c6 ?k6 ?v_MIRROR ?z_bool ?z_int ?z_isinstance ?z_len ?z_list ?z_range ?z_str ?z_tuple ?z_zip
    (case a0 => k_is)
    (case l0 => k_is)
    (case c0 => k_is)
    (case k0 => k_is)
    (case a1 => k_is)
    (case l1 => k_is)
    (case c1 => k_is)
    (case k1 => k_is)
    (case a2 => k_is)
    (case l2 => k_is)
    (case c2 => k_is)
    (case k2 => k_is)
    (case a3 => k_is)
    (case l3 => k_is)
    (case c3 => k_is)
    (case k3 => k_is)
    (case a4 => k_is)
    (case l4 => k_is)
    (case c4 => k_is)
    (case k4 => k_is)
    (case a5 => k_is)
    (case l5 => k_is)
    (case c5 => k_is)
    (case k5 => k_is)
    (case a6 => k_is)
    (case l6 => k_is)
    (case c6 => k_is)
    (case k6 => k_is)
    (case v_MIRROR => k_is)
    (case z_bool => k_is)
    (case z_int => k_is)
    (case z_isinstance => k_is)
    (case z_len => k_is)
    (case z_list => k_is)
    (case z_range => k_is)
    (case z_str => k_is)
    (case z_tuple => k_is)
    (case z_zip => k_is)
#print axioms PySem.Challenge.cw_murrine_k02_turnings_make_a_group_holds